/- What package posting's May and put answer: whether postings may be, and the bytes of those that may, behind a document. -/
import Derived.Test.YtfhjnblcnkjooaaCalls05
import Derived.Test.YtfhjnblcnkjooaaBytes05
import Derived.Test.YtfhjnblcnkjooaaPutR04
set_option linter.unusedVariables false
namespace Go.Proofs.Ytfhjnblcnkjooaa
open Go Go.RowKit

def MayRelD (l : List Po) (w : World) (r last i : Value) (wr : World) : Prop := r = .bool false ∧ ∃ (k : Nat) (x : Int), k ≤ l.length ∧ i = .int .i64 (k : Int) ∧ last = .int .i64 x ∧ mayB' x (l.drop k) = mayB' (-1) l ∧ Below w.heap.size w wr

set_option maxHeartbeats 2000000 in
set_option maxRecDepth 100000 in
theorem posting_May (A : Option Addr) (n d : Nat) (l : List Po) (w : World) (hn : l.length = n) (hnx : n ≤ 1073741824) (hpo : Posts w w.heap.size A l) (hpl : ∀ p ∈ l, p.2.length ≤ 1073741824) :
    Calls Try.prog 11 #[.slice A n d] w fun e w' => e = .returned (.bool (mayB' (-1) l)) ∧ Below w.heap.size w w' := by
  subst hn
  obtain ⟨ans, hans⟩ : ∃ ans, ans = mayB' (-1) l := ⟨_, rfl⟩
  rw [← hans]
  have HANS := Lib.hid hans
  have HPO := Lib.hid hpo
  have HPL := Lib.hid hpl
  clear hans hpo hpl
  go_enter Try.func11, Try.ntmps11
  go_wp2
  go_loopw [2, 3, 8] (fun r last i wr => MayRelD l w r last i wr) (fun _ _ i _ => l.length - (intOf i).toNat)
  case atStart => exact ⟨rfl, 0, -1, by omega, rfl, rfl, rfl, Below.refl _ _⟩
  case round =>
    obtain ⟨rfl, k, x, hk, rfl, rfl, hris, hbw⟩ := hrel
    have hsz := hbw.size
    by_cases hlt : k < l.length
    · obtain ⟨b1, o1, e1, hb1, hc1, A2, c2, hc2, hlc, hcx, hr2⟩ := (HPO.out.below hbw).at_ hlt
      subst e1
      have hlp := HPL.out (l.getD k (0, [])) (by rw [List.getD_eq_getElem?_getD, List.getElem?_eq_getElem hlt]; simp)
      rw [drop_po hlt] at hris
      obtain ⟨q, hq⟩ : ∃ q, q = l.getD k (0, []) := ⟨_, rfl⟩
      rw [← hq] at hc1 hc2 hlc hr2 hris hlp
      obtain ⟨y, ps⟩ := q
      simp only at hc1 hc2 hlc hr2 hlp
      obtain ⟨P, hP⟩ : ∃ P, P = ps.length := ⟨_, rfl⟩
      rw [← hP] at hc2 hlp
      have hmp := fun w1 (h : Row w1 w1.heap.size A2 (ints ps)) => may_places A2 P c2 ps w1 h hP.symm (by omega)
      have hr3 : Row (wr.alloc (.cells #[.int .i64 y, .slice A2 P c2] 43)) (wr.alloc (.cells #[.int .i64 y, .slice A2 P c2] 43)).heap.size A2 (ints ps) :=
        (hr2.below ((Below.refl _ wr).alloc hsz _)).more (by simp; omega)
      have hmp2 := hmp _ hr3
      rw [mayB'] at hris
      simp only at hris
      have HBW := Lib.hid (hbw.trans (((Below.refl _ wr).alloc (Nat.le_refl _) (.cells #[.int .i64 y, .slice A2 P c2] 43)).mono hsz))
      clear hmp hr3 hr2 hP hq hbw
      by_cases hxy : y ≤ x
      · rw [decide_eq_false (p := x < y) (by omega), Bool.false_and, Bool.false_and, Bool.false_and, ← HANS.out] at hris
        subst hris
        have hd : decide (y ≤ x) = true := decide_eq_true hxy
        clear hmp2
        go_wp2
        go_ret
        exact ⟨rfl, HBW.out⟩
      · have hd : decide (y ≤ x) = false := decide_eq_false hxy
        by_cases hyb : 2147483648 ≤ y
        · rw [decide_eq_false (p := y < 2147483648) (by omega), Bool.and_false, Bool.false_and, Bool.false_and, ← HANS.out] at hris
          subst hris
          have hd2 : decide (2147483648 ≤ y) = true := decide_eq_true hyb
          clear hmp2
          go_wp2
          go_ret
          exact ⟨rfl, HBW.out⟩
        · have hd2 : decide (2147483648 ≤ y) = false := decide_eq_false hyb
          rw [decide_eq_true (p := x < y) (by omega), decide_eq_true (p := y < 2147483648) (by omega), Bool.true_and, Bool.true_and] at hris
          have HMP := Lib.hid hmp2
          have HR := Lib.hid hris
          clear hmp2 hris
          rcases hpb : placesB ps with _ | _
          · rw [hpb] at HMP HR
            go_wp2_with (go_at_call 28; refine HMP.out.mono ?_; rintro e w' ⟨rfl, rfl⟩)
            go_ret
            exact ⟨ret_bool (by rw [HANS.out, ← HR.out, Bool.false_and]), HBW.out⟩
          · rw [hpb] at HMP HR
            go_wp2_with (go_at_call 28; refine HMP.out.mono ?_; rintro e w' ⟨rfl, rfl⟩)
            go_roundw
            case rel => exact ⟨rfl, k + 1, y, by omega, by go_num, rfl, by rw [← HR.out, Bool.true_and], HBW.out⟩
            case measure => simp [intOf]; omega
    · have hx2 : mayB' x (l.drop k) = true := by rw [List.drop_eq_nil_of_le (by omega)]; rfl
      rw [hx2, ← HANS.out] at hris
      subst hris
      clear hx2
      go_wp2
      go_ret
      exact ⟨rfl, hbw⟩

def PutRelD (all : List UInt8) (l : List Po) (w : World) (last v i : Value) (wr : World) : Prop :=
  ∃ (cur : List UInt8) (k : Nat) (x : Int), k ≤ l.length ∧ i = .int .i64 (k : Int) ∧ last = .int .i64 x ∧ -1 ≤ x ∧ mayB' x (l.drop k) = true ∧ cur.length ≤ all.length ∧ cur ++ bytesP x (l.drop k) = all ∧ Own w.heap.size wr v cur ∧ Below w.heap.size w wr

set_option maxHeartbeats 2000000 in
set_option maxRecDepth 100000 in
theorem posting_put (A : Option Addr) (n d : Nat) (l : List Po) (x0 : Int) (w : World) (hn : l.length = n) (hn60 : n ≤ 100) (hpo : Posts w w.heap.size A l) (hx0 : -1 ≤ x0) (hmay : mayB' x0 l = true) (hpl : ∀ p ∈ l, p.2.length ≤ 20) (hal0 : (bytesP x0 l).length ≤ 1000000) :
    Calls Try.prog 25 #[.slice A n d, .int .i64 x0] w (GaveOwn w.heap.size (bytesP x0 l) w) := by
  obtain ⟨i0, hi0, hz0, hz1, hz2⟩ := info_parts info_byte
  subst hn
  obtain ⟨all, hall⟩ : ∃ all, all = bytesP x0 l := ⟨_, rfl⟩
  rw [← hall] at hal0
  rw [← hall]
  have HALL := Lib.hid hall
  have HPO := Lib.hid hpo
  have HMAY := Lib.hid hmay
  have HPL := Lib.hid hpl
  clear hall hpo hmay hpl
  go_enter Try.func25, Try.ntmps25
  go_wp2
  go_loopw [1, 5, 12] (fun last v i wr => PutRelD all l w last v i wr) (fun _ _ i _ => l.length - (intOf i).toNat)
  case atStart => exact ⟨[], 0, x0, by omega, rfl, rfl, hx0, HMAY.out, by simp, HALL.out.symm, World.ownsRow_nil _ _ _ _, Below.refl _ _⟩
  case round =>
    obtain ⟨cur, k, x, hk, rfl, rfl, hx1, hris, hcl, hcat, hown, hbw⟩ := hrel
    have hsz := hbw.size
    by_cases hlt : k < l.length
    · obtain ⟨b1, o1, e1, hb1, hc1, A2, c2, hc2, hlc, hcx, hr2⟩ := (HPO.out.below hbw).at_ hlt
      subst e1
      have hlp := HPL.out (l.getD k (0, [])) (by rw [List.getD_eq_getElem?_getD, List.getElem?_eq_getElem hlt]; simp)
      rw [drop_po hlt] at hris hcat
      obtain ⟨q, hq⟩ : ∃ q, q = l.getD k (0, []) := ⟨_, rfl⟩
      rw [← hq] at hc1 hc2 hlc hr2 hris hcat hlp
      obtain ⟨y, ps⟩ := q
      simp only at hc1 hc2 hlc hr2 hlp
      obtain ⟨hxy, hyb, hps, hris⟩ := mayB'_cons.1 hris
      simp only at hxy hyb hps hris
      simp only [bytesP] at hcat
      obtain ⟨g, hg⟩ : ∃ g : Nat, y - (x + 1) = (g : Int) := ⟨(y - (x + 1)).toNat, by omega⟩
      rw [hg, Int.toNat_natCast, ← List.append_assoc, ← List.append_assoc] at hcat
      have hcl2 : ((cur ++ putB g) ++ putR ps).length ≤ all.length := by rw [← hcat, List.length_append (bs := bytesP y _)]; omega
      have hpb := places_bd hps
      have hg0 : g < 9223372036854775808 := by omega
      have hpu : ∀ w', Calls Try.prog 46 #[.slice none 0 0, .int .i64 (y - (x + 1))] w' (GaveOwn w'.heap.size (putB g) w') := fun w' => by
        have := vint_Put none 0 0 [] g w' rfl (Nat.le_refl _) Row.nil hg0 (by simp)
        rw [List.nil_append] at this
        rwa [hg]
      obtain ⟨P, hP⟩ : ∃ P, P = ps.length := ⟨_, rfl⟩
      have hal := (Below.refl wr.heap.size wr).alloc (Nat.le_refl _) (.cells #[.int .i64 y, .slice A2 P c2] 43)
      have hpr := vint_PutRising_ok none 0 0 [] A2 P c2 ps (wr.alloc (.cells #[.int .i64 y, .slice A2 P c2] 43)) rfl (Nat.le_refl _) Row.nil (by omega) hP.symm (by omega) ((hr2.below (hal.mono hsz)).more (by simp; omega)) (fun x hx => by have := hpb x hx; omega) (placesB_iff.1 hps).1
      rw [List.nil_append] at hpr
      rw [← hP] at hc2 hlc
      have hpl9 := putR_length hps (by omega)
      obtain ⟨Q, hQ⟩ : ∃ Q, Q = (putR ps).length := ⟨_, rfl⟩
      rw [← hP, ← hQ] at hpl9
      have hP20 : P ≤ 20 := by omega
      have h9g := putB_nine hg0
      obtain ⟨G, hG⟩ : ∃ G, G = (putB g).length := ⟨_, rfl⟩
      rw [← hG] at h9g
      have HQ := Lib.hid hQ
      have HGL := Lib.hid hG
      have HPU := Lib.hid hpu
      have HPR := Lib.hid hpr
      have HAL := Lib.hid hal
      have HBW := Lib.hid hbw
      have HCAT := Lib.hid hcat
      have HRIS := Lib.hid hris
      have HCL := Lib.hid hcl2
      have HOW := Lib.hid (hown.below hal)
      have HCV : Hid (∀ k, u5.ownBlock = some k → k < wr.heap.size) := Lib.hid fun k hk => (hown.lt k hk).2
      clear hq hg hpu hP hal hpr hQ hG hcat hris hcl2 hown hpb hps hr2 hlp hbw
      go_wp2_with (go_at_call 45; refine HPR.out.mono ?_)
      rintro e w4 ⟨v4, rfl, hown4, hb4⟩
      obtain ⟨A4, c4, rfl, _, hr4⟩ := hown4.row
      have hnb : wr.heap.size < (wr.alloc (.cells #[.int .i64 y, .slice A2 P c2] 43)).heap.size := by simp
      have hpb4 : w4.heap[wr.heap.size]? = some (.cells #[.int .i64 y, .slice A2 P c2] 43 (0, 0)) := (hb4.block wr.heap.size hnb).trans (heap_alloc_new wr _)
      have hdc := (cells_two hpb4).1
      have HO4 := Lib.hid hown4
      have hB4 := HBW.out.trans ((HAL.out.mono hsz).trans (hb4.mono (by simp; omega)))
      have hs4 := hB4.size
      have HR4 := Lib.hid hr4
      have HB4 := Lib.hid hB4
      have hw4 : wr.heap.size + 1 ≤ w4.heap.size := by have := hb4.size; simpa using this
      have HOW4 := Lib.hid (HOW.out.below hb4)
      rw [← HQ.out]
      clear hown4 hb4 hr4 hB4 HOW HPR
      go_wp2_with (go_at_call 46; refine (HPU.out _).mono ?_)
      rintro e w5 ⟨v5, rfl, hown5, hb5⟩
      obtain ⟨A5, c5, rfl, _, hr5⟩ := hown5.row
      have hpb5 : w5.heap[wr.heap.size]? = some (.cells #[.int .i64 y, .slice A2 P c2] 43 (0, 0)) := (hb5.block wr.heap.size (by omega)).trans hpb4
      have HOW5 := Lib.hid (HOW4.out.below hb5)
      have HR5 := Lib.hid hr5
      have HO5 := Lib.hid (HO4.out.below hb5)
      have hB5 := HB4.out.trans (hb5.mono hs4)
      have hs5 := hB5.size
      have HB5 := Lib.hid hB5
      have hw5 : w4.heap.size ≤ w5.heap.size := hb5.size
      rw [← HGL.out]
      have hcurl : cur.length + G + Q ≤ all.length := by have := HCL.out; rw [List.length_append, List.length_append, ← HGL.out, ← HQ.out] at this; omega
      clear hown5 hb5 hr5 hB5 hdc hpb4 HOW4 HO4 HR4 HPU HB4
      go_wp2_with (at_builtin; refine wpList_append_row _ rfl (.tmp 22) (.tmp 28) 32 rfl w.heap.size 5 i0 _ 1 1 Try.underlying32 hi0 hz0 hz1 hz2 rfl (by omega) _ cur.length (Lib.byteCells cur) rfl HOW5.out _ A5 G c5 (Lib.byteCells (putB g)) rfl (by rw [Lib.byteCells_length, HGL.out]; omega) HR5.out (byteCells_oneCell _) (by unfold maxLen; omega) (by omega) hs5 ?_)
      intro v6 w6 hown6 hg6
      have hb6 : Below w.heap.size w5 w6 := (Below.refl _ w5).grown hg6 hs5 fun k hk => (HOW5.out.lt k hk).1
      have hpb6 : w6.heap[wr.heap.size]? = some (.cells #[.int .i64 y, .slice A2 P c2] 43 (0, 0)) := (hg6.block wr.heap.size (by omega) (fun e => owned_apart HOW5.out hpb5 (by decide) e.symm)).trans hpb5
      have hs6 : w.heap.size ≤ w6.heap.size := by have := hb6.size; omega
      have hw6 : w5.heap.size ≤ w6.heap.size := hb6.size
      have ho6 : Own (wr.alloc (.cells #[.int .i64 y, .slice A2 P c2] 43)).heap.size w6 (.slice A4 (putR ps).length c4) (putR ps) :=
        owned_keep HO5.out fun g hg => hg6.block g (HO5.out.lt g hg).2 fun e => by
          have h1 := HCV.out g e.symm
          have h2 := (HO5.out.lt g hg).1
          omega
      have hr6 := owned_row_of ho6
      have HR6 := Lib.hid hr6
      have HO6 := Lib.hid (own_more HGL.out.symm hown6)
      obtain ⟨cur2, hc2⟩ : ∃ cur2, cur2 = cur ++ putB g := ⟨_, rfl⟩
      have hl2 : cur2.length + Q ≤ 1000000 := by rw [hc2, List.length_append, ← HGL.out]; omega
      rw [← hc2] at HO6
      have HC2 := Lib.hid hc2
      have HB6 := Lib.hid (HB5.out.trans hb6)
      clear hown6 hg6 hb6 ho6 hr6 hc2 HB5 HOW5 HO5 HR5 HCV hpb5
      go_wp2_with (at_builtin; refine wpList_append_row _ rfl (.tmp 30) (.tmp 31) 32 rfl w.heap.size 5 i0 _ 1 1 Try.underlying32 hi0 hz0 hz1 hz2 rfl (by omega) _ cur2.length (Lib.byteCells cur2) rfl HO6.out _ A4 Q c4 (Lib.byteCells (putR ps)) rfl (by rw [Lib.byteCells_length, HQ.out]; omega) HR6.out (byteCells_oneCell _) (by unfold maxLen; omega) (by omega) hs6 ?_)
      intro v7 w7 hown7 hg7
      have hb7 : Below w.heap.size w6 w7 := (Below.refl _ w6).grown hg7 hs6 fun k hk => (HO6.out.lt k hk).1
      have hpb7 : w7.heap[wr.heap.size]? = some (.cells #[.int .i64 y, .slice A2 P c2] 43 (0, 0)) := (hg7.block wr.heap.size (by omega) (fun e => owned_apart HO6.out hpb6 (by decide) e.symm)).trans hpb6
      have hd7 := (cells_two hpb7).1
      have hfin : PutRelD all l w (.int .i64 y) v7 (.int .i64 ((k : Int) + 1)) w7 := by
        refine ⟨cur2 ++ putR ps, k + 1, y, by omega, by simp, rfl, by omega, HRIS.out, by rw [HC2.out]; exact HCL.out, by rw [HC2.out]; exact HCAT.out, own_more HQ.out.symm hown7, HB6.out.trans hb7⟩
      have HF := Lib.hid hfin
      clear hfin hown7 hg7 hb7 hpb6 hpb7
      go_wp2
      go_roundw
      case rel => exact HF.out
      case measure => simp [intOf]; omega
    · rw [List.drop_eq_nil_of_le (by omega)] at hcat
      simp only [bytesP, List.append_nil] at hcat
      subst hcat
      go_wp2
      go_ret
      exact ⟨_, rfl, hown, hbw⟩
end Go.Proofs.Ytfhjnblcnkjooaa
