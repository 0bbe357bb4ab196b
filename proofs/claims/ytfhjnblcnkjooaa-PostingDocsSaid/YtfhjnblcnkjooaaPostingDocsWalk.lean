/- PostingDocs, walked: true for every input. -/
import Derived.Test.YtfhjnblcnkjooaaOk05
import Derived.Test.YtfhjnblcnkjooaaSame04
import Derived.Deep.RegionHeld3
set_option linter.unusedVariables false
namespace Go.Proofs.Ytfhjnblcnkjooaa
open Go Go.RowKit

theorem may_mem : ∀ {l : List Po} {x : Int}, mayB' x l = true → ∀ q ∈ l, x < q.1 ∧ q.1 ≤ docOf x l
  | [], _, _, q, hq => by cases hq
  | p :: r, x, h, q, hq => by
    obtain ⟨h1, _, _, h4⟩ := mayB'_cons.1 h
    have hge := docOf_ge r p.1 h4
    rcases List.mem_cons.1 hq with rfl | hq
    · exact ⟨h1, hge⟩
    · have := may_mem h4 q hq
      exact ⟨by omega, this.2⟩
theorem lastP_ahead {l : List Po} {k : Nat} (hk : k ≤ blocksP l.length) : lastP l ((k : Int) - 1) = docOf (-1) (l.take (8 * k)) := by
  cases k with
  | zero => rfl
  | succ j =>
    rw [show ((j + 1 : Nat) : Int) - 1 = (j : Int) by omega]
    exact lastP_end (by omega)
/-- Each posting of a block lies behind the block ahead, and not behind its own block's end. -/
theorem block_doc {l : List Po} {k i : Nat} (hm : mayB' (-1) l = true) (hk : k < blocksP l.length) (hi : i < (blockP l (k : Int)).length) :
    lastP l ((k : Int) - 1) < ((blockP l (k : Int)).getD i (0, [])).1 ∧ ((blockP l (k : Int)).getD i (0, [])).1 ≤ lastP l (k : Int) := by
  have h1 := hm
  rw [← List.take_append_drop (8 * (k + 1)) l, mayB'_append, Bool.and_eq_true, blocks_all, mayB'_append, Bool.and_eq_true] at h1
  have h2 := may_mem h1.1.2 ((blockP l (k : Int)).getD i (0, [])) (by rw [List.getD_eq_getElem?_getD, List.getElem?_eq_getElem hi]; simp)
  rw [lastP_ahead (by omega), lastP_end hk, blocks_all, docOf_append]
  exact h2
def docsP (l : List Po) : List Int := l.map (·.1)
theorem docsP_snoc {l : List Po} {i : Nat} (hi : i < l.length) : docsP (l.take (i + 1)) = docsP (l.take i) ++ [(l.getD i (0, [])).1] := by
  unfold docsP
  rw [List.take_succ_eq_append_getElem hi, List.map_append, List.getD_eq_getElem?_getD, List.getElem?_eq_getElem hi]
  rfl
theorem docsP_length (l : List Po) : (docsP l).length = l.length := List.length_map _
theorem docsP_append (a b : List Po) : docsP (a ++ b) = docsP a ++ docsP b := List.map_append

def DcRel (g : List Po) (w : World) (r docs k : Value) (wr : World) : Prop :=
  r = .bool false ∧ ∃ j : Nat, j ≤ blocksP g.length ∧ k = .int .i64 (j : Int) ∧ wr.ownsRow w.heap.size 3 1 docs (g.take (8 * j)).length (ints (docsP (g.take (8 * j)))) ∧ Below w.heap.size w wr
def DiRel (ahead blk : List Po) (w : World) (b8 : Nat) (v8 : Value) (cs8 : List Value) (r docs i : Value) (wr : World) : Prop :=
  r = .bool false ∧ ∃ j : Nat, j ≤ blk.length ∧ i = .int .i64 (j : Int) ∧ wr.ownsRow w.heap.size 3 1 docs (ahead.length + j) (ints (docsP ahead ++ docsP (blk.take j))) ∧ wr.ownsRow b8 43 2 v8 blk.length cs8 ∧ Below w.heap.size w wr
def DwRel (g : List Po) (w : World) (want i : Value) (wr : World) : Prop :=
  ∃ j : Nat, j ≤ g.length ∧ i = .int .i64 (j : Int) ∧ wr.ownsRow w.heap.size 3 1 want j (ints (docsP (g.take j))) ∧ Below w.heap.size w wr

set_option maxHeartbeats 8000000 in
set_option maxRecDepth 100000 in
theorem walk_PostingDocs (a0 : Option Addr) (len0 cap0 : Nat) (z0 : List Po) (w : World) (w0 : InPosts w a0 len0 cap0 z0) :
    Calls Try.prog 6 #[.slice a0 len0 cap0] w fun e w' => e = .returned (.bool true) ∧ Below w.heap.size w w' := by
  obtain ⟨i0, hi0, hz0, hz1, hz2⟩ := info_parts info_int
  have HW0 := Lib.hid w0
  clear w0
  go_enter Try.func6, Try.ntmps6
  go_wp2_with (go_at_call 12; refine (ref05_Good a0 len0 cap0 z0 40 _ HW0.out (by omega)).mono ?_)
  rintro e w5 ⟨v5, rfl, hown5, hb5⟩
  obtain ⟨A5, c5, rfl, hc5, hx5, hp5⟩ := hown5.room
  obtain ⟨hg1, hg2, hg3, hg4⟩ := good40 z0 40 (by omega)
  obtain ⟨g, hg⟩ : ∃ g, g = goodP (-1) (z0.take 40) := ⟨_, rfl⟩
  rw [← hg] at hc5 hp5 hg1 hg2 hg3 hg4
  rw [← hg]
  obtain ⟨n5, hn5⟩ : ∃ n5, n5 = g.length := ⟨_, rfl⟩
  rw [← hn5] at hc5 hg1
  rw [← hn5]
  have HN5 := Lib.hid hn5
  have HG2 := Lib.hid hg2
  have HG3 := Lib.hid hg3
  have HP5 := Lib.hid hp5
  have HB5 := Lib.hid hb5
  clear hown5 hg hn5 hg2 hg3 hg4 hp5 hb5
  go_wp2_with (go_at_call 10; refine (posting_Make A5 n5 c5 g w5 HN5.out.symm hc5 hx5 (by omega) HP5.out (fun q hq => by have := (HG3.out q hq).1; omega) HG2.out).mono ?_)
  rintro e w6 ⟨B, rfl, hL, hb6⟩
  have hbyl : (bytesP (-1) g).length ≤ 1000000 := by
    have h1 := bytesP_length g (-1) (by omega) HG2.out (fun p hp => by have := (HG3.out p hp).1; omega)
    have h2 := totalP_le (n := 5) fun p hp => (HG3.out p hp).1
    have := HN5.out
    omega
  obtain ⟨BN, hBN⟩ : ∃ BN, BN = blocksP g.length := ⟨_, rfl⟩
  have hbl := fun w' (h : LAt w' w5.heap.size B (bytesP (-1) g) g) => list_Blocks _ B _ g w' h
  have hbk := fun w' (k : Int) (hk : -1 ≤ k) (h : LAt w' w5.heap.size B (bytesP (-1) g) g) => list_Block _ B g w' h HG2.out hbyl (by have := HN5.out; omega) k hk
  have hla := fun w' (k : Int) (hk : -1 ≤ k) (h : LAt w' w5.heap.size B (bytesP (-1) g) g) => list_Last _ B _ g w' h (by have := HN5.out; omega) k hk
  rw [← hBN] at hbl
  have hBN6 : BN ≤ 6 := by rw [hBN, ← HN5.out]; unfold blocksP; omega
  have HBL := Lib.hid hbl
  have HBK := Lib.hid hbk
  have HLA := Lib.hid hla
  have HST : Hid (∀ w', Below w6.heap.size w6 w' → LAt w' w5.heap.size B (bytesP (-1) g) g) := Lib.hid fun w' hb => hL.below hb
  have HB6 := Lib.hid (HB5.out.trans (hb6.mono HB5.out.size))
  have HP6 := Lib.hid (HP5.out.later hb6)
  have HBN := Lib.hid hBN
  clear hL hb6 hbl hbk hla hBN HG3 hbyl
  go_wp2
  go_loopw [2, 6, 7] (fun r docs k wr => DcRel g w6 r docs k wr) (fun _ _ k _ => BN - (intOf k).toNat)
  case atStart => exact ⟨rfl, 0, Nat.zero_le _, rfl, World.ownsRow_nil _ _ _ _, Below.refl _ _⟩
  case round =>
    obtain ⟨rfl, j, hj, rfl, hown, hbw⟩ := hrel
    rw [← HBN.out] at hj
    have hsz := hbw.size
    have HLW := Lib.hid (HST.out _ hbw)
    have HBW := Lib.hid hbw
    have HOWN := Lib.hid hown
    clear hown
    by_cases hlt : j < BN
    · have hjb : (j : Int) < (BN : Int) := by omega
      have hdoc := fun i hi => block_doc (l := g) (k := j) (i := i) HG2.out (by rw [← HBN.out]; exact hlt) hi
      have hcat := blocks_all g j
      have hb8 : (blockP g (j : Int)).length ≤ 8 := by rw [blockP_length]; omega
      have ha40 : (g.take (8 * j)).length ≤ 40 := by rw [List.length_take, ← HN5.out]; omega
      have hlk := fun w' => HLA.out w' (j : Int) (by omega)
      have hlk1 := fun w' => HLA.out w' ((j : Int) - 1) (by omega)
      obtain ⟨xk, hxk⟩ : ∃ xk, xk = lastP g (j : Int) := ⟨_, rfl⟩
      obtain ⟨xp, hxp⟩ : ∃ xp, xp = lastP g ((j : Int) - 1) := ⟨_, rfl⟩
      obtain ⟨blk, hblk⟩ : ∃ blk, blk = blockP g (j : Int) := ⟨_, rfl⟩
      obtain ⟨ahead, hah⟩ : ∃ ahead, ahead = g.take (8 * j) := ⟨_, rfl⟩
      rw [← hah, ← hblk] at hcat
      rw [← hxk, ← hxp, ← hblk] at hdoc
      rw [← hxk] at hlk
      rw [← hxp] at hlk1
      rw [← hblk] at hb8
      rw [← hah] at ha40 HOWN
      obtain ⟨m, hm⟩ : ∃ m, m = blk.length := ⟨_, rfl⟩
      have HBLK := Lib.hid hblk
      have HM := Lib.hid hm
      have HCAT := Lib.hid hcat
      have HDOC := Lib.hid hdoc
      have HLK := Lib.hid hlk
      have HLK1 := Lib.hid hlk1
      rw [← hm] at hb8
      clear hxk hxp hblk hah hm hcat hdoc hlk hlk1 hbw
      go_wp2_with (first
        | (go_at_call 18; (with_reducible refine (HBL.out _ HLW.out).mono ?_); rintro e w7 ⟨rfl, rfl⟩)
        | (go_at_call 19; (with_reducible refine (HBK.out _ (j : Int) (by omega) HLW.out).mono ?_)))
      rintro e w8 ⟨v8, rfl, hnew, hb8'⟩
      rw [← HBLK.out] at hnew
      obtain ⟨cs8, ho8, hp8⟩ := hnew
      obtain ⟨A8, c8, rfl, hc8, _⟩ := owned_row ho8
      rw [← HM.out] at ho8 hc8
      rw [← HM.out]
      have hc8x : c8 ≤ maxLen := by
        rcases ho8.2 with ⟨h4, _⟩ | ⟨_, cap, _, h4, _, _, _, h5, _⟩
        · injection h4 with _ _ h4; omega
        · injection h4 with _ _ h4; rw [h4]; exact h5
      have HPC := Lib.hid (hp8.imp (R' := fun _ _ => True) fun _ _ _ => trivial)
      have HO8 := Lib.hid ho8
      have HB8 := Lib.hid (HBW.out.trans (hb8'.mono hsz))
      have HOW8 := Lib.hid (owned_below HOWN.out hb8')
      obtain ⟨bs8, hbs8⟩ : ∃ bs8, bs8 = wr.heap.size := ⟨_, rfl⟩
      rw [← hbs8] at HO8
      clear ho8 hp8 hb8' HLW HOWN hbs8
      go_wp2
      go_loopw [2, 6, 9] (fun r docs i wr2 => DiRel ahead blk w6 bs8 (.slice A8 m c8) cs8 r docs i wr2) (fun _ _ i _ => m - (intOf i).toNat)
      case atStart => exact ⟨rfl, 0, Nat.zero_le _, rfl, by simpa [docsP] using HOW8.out, by rw [← HM.out]; exact HO8.out, HB8.out⟩
      case round =>
        obtain ⟨rfl, i, hi, rfl, hown, ho8, hbw2⟩ := hrel
        rw [← HM.out] at hi ho8
        have hs2 := hbw2.size
        have HLW2 := Lib.hid (HST.out _ hbw2)
        by_cases hli : i < m
        · obtain ⟨p0, _⟩ := HPC.out.at_ (k := i) (by rw [← HM.out]; exact hli)
          obtain ⟨b1, o1, e1, hb1, hcc⟩ := (owned_row_of ho8).at_ (by rw [HPC.out.len, ← HM.out]; omega)
          subst e1
          have hcy := hcc _ _ p0
          obtain ⟨d1, d2⟩ := HDOC.out i (by rw [← HM.out]; exact hli)
          have hsn := docsP_snoc (l := blk) (i := i) (by rw [← HM.out]; exact hli)
          obtain ⟨y, hy⟩ : ∃ y, y = (blk.getD i (0, [])).1 := ⟨_, rfl⟩
          rw [← hy] at hcy d1 d2 hsn
          have hwj : IntKind.i64.wrap ((j : Int) - 1) = (j : Int) - 1 := IntWalk.i64_in _ (by omega)
          have hdk : decide (xk < y) = false := decide_eq_false (by omega)
          have hdp : decide (y ≤ xp) = false := decide_eq_false (by omega)
          have HSN := Lib.hid hsn
          have HC : Hid (∀ w', Below wr.heap.size wr w' → w'.cell? ⟨b1, o1 + i * 2, none⟩ = some (.int .i64 y)) := Lib.hid fun w' hb => (hb.cell (p := ⟨b1, o1 + i * 2, none⟩) hb1).trans hcy
          have HL1 : Hid (∀ w', Below wr.heap.size wr w' → Calls Try.prog 20 #[.pointer (some ⟨B, 0, none⟩), .int .i64 (j : Int)] w' fun e w2 => e = .returned (.int .i64 xk) ∧ w' = w2) := Lib.hid fun w' hb => HLK.out w' (HST.out _ (hbw2.trans (hb.mono hs2)))
          have HL2 : Hid (∀ w', Below wr.heap.size wr w' → Calls Try.prog 20 #[.pointer (some ⟨B, 0, none⟩), .int .i64 ((j : Int) - 1)] w' fun e w2 => e = .returned (.int .i64 xp) ∧ w' = w2) := Lib.hid fun w' hb => HLK1.out w' (HST.out _ (hbw2.trans (hb.mono hs2)))
          have HOWN := Lib.hid hown
          have HO82 := Lib.hid ho8
          have HBW2 := Lib.hid hbw2
          clear hown ho8 hbw2 p0 hcc d1 d2 hsn hy
          go_upto_region 13 with fail
          go_cut [60] from 40 to 61 (fun t wx => t = .bool false ∧ wx = wr.drew)
          case first =>
            go_region_held3 (fun w' => w'.cell? ⟨b1, o1 + i * 2, none⟩ = some (.int .i64 y) ∧ w' = wr.drew)
              (first | exact ⟨HC.out _ (Below.refl _ _).drew, rfl⟩)
              (first
                | (go_simp; go_at_call 20; (with_reducible refine (HL1.out _ (Below.refl _ _).drew).mono ?_); rintro e w' ⟨rfl, rfl⟩)
                | (go_simp; go_at_call 20; (with_reducible refine (HL2.out _ (Below.refl _ _).drew).mono ?_); rintro e w' ⟨rfl, rfl⟩))
            all_goals
              go_wp2_with fail
              go_meet
              exact ⟨rfl, rfl⟩
          case rest =>
            obtain ⟨rfl, rfl⟩ := hcut
            have hcy2 := HC.out _ (Below.refl _ wr).drew
            clear hcy
            go_wp2_with (at_builtin; refine wpList_append_own _ rfl (.tmp 61) (.tmp 67) 39 rfl w6.heap.size 3 i0 _ 1 8 Try.underlying39 hi0 hz0 hz1 hz2 rfl (by omega) _ (ahead.length + i) (ints (docsP ahead ++ docsP (blk.take i))) rfl ((show wr.drew.ownsRow w6.heap.size 3 1 _ _ _ from HOWN.out).alloc _) ⟨wr.heap.size, 0, none⟩ 1 1 [.int .i64 y] rfl rfl (news_at wr.drew [.int .i64 y] 3) (by intro u hu; simp at hu; subst hu; rfl) (by unfold maxLen; omega) (by omega) (by simp [World.drew]; omega) ?_)
            intro v9 w9 hown9 hg9 _
            have hal := ((Below.refl wr.heap.size wr).drew.alloc (Nat.le_refl _) (.cells #[.int .i64 y] 3))
            have hb9 : Below w6.heap.size wr w9 := (hal.mono hs2).grown hg9 (by have := hal.size; omega) fun k hk => (HOWN.out.lt k hk).1
            have ho9 : w9.ownsRow bs8 43 2 (.slice (some ⟨b1, o1, none⟩) m c8) m cs8 := by
              have h1 := owned_below HO82.out hal
              exact owned_keep h1 fun q hq => hg9.block q (h1.lt q hq).2 fun e => owned_apart2 (owned_below HOWN.out hal) h1 (by decide) hq e.symm
            have hfin : DiRel ahead blk w6 bs8 (.slice (some ⟨b1, o1, none⟩) m c8) cs8 (.bool false) v9 (.int .i64 ((i : Int) + 1)) w9 :=
              ⟨rfl, i + 1, by rw [← HM.out]; omega, by simp, by
                rw [HSN.out, ← List.append_assoc]
                simpa [ints, Nat.add_assoc] using hown9, by rw [← HM.out]; exact ho9, HBW2.out.trans hb9⟩
            have HF := Lib.hid hfin
            clear hfin hb9 hg9 hown9 ho9 hal
            go_wp2
            go_roundw
            case rel => exact HF.out
            case measure => simp [intOf]; omega
        · obtain rfl : i = m := by omega
          have hfin : DcRel g w6 (.bool false) u6 (.int .i64 ((j : Int) + 1)) wr := by
            refine ⟨rfl, j + 1, by rw [← HBN.out]; omega, by simp, ?_, hbw2⟩
            rw [HCAT.out, docsP_append, List.length_append, ← HM.out]
            rw [List.take_of_length_le (by rw [← HM.out]; exact Nat.le_refl _)] at hown
            exact hown
          have HF := Lib.hid hfin
          clear hfin hown ho8 hbw2
          go_wp2
          go_roundw
          case rel => exact HF.out
          case measure => simp [intOf]; omega
    · obtain rfl : j = BN := by omega
      have hown2 := HOWN.out
      rw [HBN.out, take_blocks, ← HN5.out] at hown2
      obtain ⟨Ad, cd, rfl, _, hrd⟩ := owned_row hown2
      have HRD := Lib.hid hrd
      have HPW := Lib.hid (HP6.out.later hbw)
      obtain ⟨w3, hw3⟩ : ∃ w3, w3 = wr := ⟨_, rfl⟩
      have HB3 := Lib.hid (HB6.out.trans (hbw.mono HB6.out.size))
      clear hown2 hrd hbw HOWN HLW
      go_wp2_with (go_at_call 18; (with_reducible refine (HBL.out _ (HST.out _ HBW.out)).mono ?_); rintro e w7 ⟨rfl, rfl⟩)
      go_loopw [10, 11] (fun want i wx => DwRel g w3 want i wx) (fun _ i _ => n5 - (intOf i).toNat)
      case atStart => exact ⟨0, Nat.zero_le _, rfl, World.ownsRow_nil _ _ _ _, by rw [hw3]; exact Below.refl _ _⟩
      case round =>
        obtain ⟨i, hi, rfl, hown, hbw⟩ := hrel
        rw [← HN5.out] at hi
        rw [hw3] at hown hbw
        have hs3 := hbw.size
        by_cases hli : i < n5
        · obtain ⟨b1, o1, e1, hb1, hcy, _⟩ := HPW.out.at_ (k := i) (by rw [← HN5.out]; exact hli)
          subst e1
          have hcy2 := (hbw.cell (p := ⟨b1, o1 + i * 2, none⟩) hb1).trans hcy
          have hsn := docsP_snoc (l := g) (i := i) (by rw [← HN5.out]; exact hli)
          obtain ⟨y, hy⟩ : ∃ y, y = (g.getD i (0, [])).1 := ⟨_, rfl⟩
          rw [← hy] at hcy2 hsn
          have HSN := Lib.hid hsn
          have HOWN := Lib.hid hown
          have HBWX := Lib.hid hbw
          clear hown hbw hcy hsn hy
          go_wp2_with (at_builtin; refine wpList_append_own _ rfl (.tmp 75) (.tmp 81) 39 rfl _ 3 i0 _ 1 8 Try.underlying39 hi0 hz0 hz1 hz2 rfl (by omega) _ i (ints (docsP (g.take i))) rfl (HOWN.out.alloc _) ⟨_, 0, none⟩ 1 1 [.int .i64 y] rfl rfl (news_at _ [.int .i64 y] 3) (by intro u hu; simp at hu; subst hu; rfl) (by unfold maxLen; omega) (by omega) (by simp; omega) ?_)
          intro v9 w9 hown9 hg9 _
          have hb9 := ((Below.refl _ _).alloc hs3 (.cells #[.int .i64 y] 3)).grown hg9 (by simp; omega) fun k hk => (HOWN.out.lt k hk).1
          have hfin : DwRel g w3 v9 (.int .i64 ((i : Int) + 1)) w9 := by
            rw [hw3]
            refine ⟨i + 1, by rw [← HN5.out]; omega, by simp, ?_, HBWX.out.trans hb9⟩
            rw [HSN.out]
            simpa [ints] using hown9
          have HF := Lib.hid hfin
          clear hfin hb9 hg9 hown9
          go_wp2
          go_roundw
          case rel => exact HF.out
          case measure => simp [intOf]; omega
        · obtain rfl : i = n5 := by omega
          rw [List.take_of_length_le (by rw [← HN5.out]; exact Nat.le_refl _)] at hown
          obtain ⟨Aw, cw, rfl, _, hrw⟩ := owned_row hown
          have hsm := ref_Same_at Ad Aw i i cd cw (docsP g) _ (by rw [docsP_length, ← HN5.out]) (by rw [docsP_length, ← HN5.out]) ((HRD.out.below hbw).more hs3) hrw (by omega)
          have HSM := Lib.hid hsm
          have HB4 := Lib.hid (HB3.out.trans (hbw.mono HB3.out.size))
          clear hown hrw hsm hbw
          go_wp2_with (go_at_call 21; refine HSM.out.mono ?_)
          rintro e w10 ⟨rfl, hb10⟩
          have HB10 := Lib.hid (HB4.out.trans (hb10.mono HB4.out.size))
          clear hb10
          go_wp2_with (go_at_call 14; refine (law05_lives posting_ok _).mono ?_; rintro e w11 ⟨rfl, hb11⟩)
          go_wp2
          go_ret
          exact ⟨rfl, HB10.out.trans (hb11.mono HB10.out.size)⟩
end Go.Proofs.Ytfhjnblcnkjooaa
