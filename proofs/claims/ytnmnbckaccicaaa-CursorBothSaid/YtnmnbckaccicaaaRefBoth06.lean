/- What the document's own Both answers: the documents that stand in both. -/
import Derived.Test.YtnmnbckaccicaaaPlain06
import Derived.Test.YtnmnbckaccicaaaP05
import Derived.Test.YtnmnbckaccicaaaP04
import Derived.BigQuiet
import Derived.Deep.QuietTactic
set_option linter.unusedVariables false
namespace Go.Proofs.Ytnmnbckaccicaaa
open Go Go.RowKit

/-- What a call gives that makes a list of numbers. -/
def GaveNew' (l : List Int) (w : World) (e : Ending) (w' : World) : Prop := ∃ v, e = .returned v ∧ w'.ownsRow w.heap.size 3 1 v l.length (ints l) ∧ Below w.heap.size w w'
/-- One of the left list against the first k of the right one. -/
def oneP (x : Int) (b : List Po) : List Int := (b.filter fun q => x == q.1).map fun _ => x
theorem oneP_snoc {x : Int} {b : List Po} {k : Nat} (hk : k < b.length) : oneP x (b.take (k + 1)) = oneP x (b.take k) ++ (if x = (b.getD k (0, [])).1 then [x] else []) := by
  unfold oneP
  rw [List.take_succ_eq_append_getElem hk, List.filter_append, List.map_append]
  congr 1
  rw [List.getD_eq_getElem?_getD, List.getElem?_eq_getElem hk]
  simp only [Option.getD_some]
  by_cases h : x = b[k].1
  · rw [if_pos h, List.filter_cons_of_pos (by simp [h])]
    rfl
  · rw [if_neg h, List.filter_cons_of_neg (by simp [h])]
    rfl
theorem bothP_snoc {a b : List Po} {k : Nat} (hk : k < a.length) : bothP (a.take (k + 1)) b = bothP (a.take k) b ++ oneP (a.getD k (0, [])).1 b := by
  unfold bothP oneP
  rw [List.take_succ_eq_append_getElem hk, List.flatMap_append, List.getD_eq_getElem?_getD, List.getElem?_eq_getElem hk]
  simp
theorem oneP_le (x : Int) (b : List Po) : (oneP x b).length ≤ b.length := by
  unfold oneP
  rw [List.length_map]
  exact List.length_filter_le _ _
theorem bothP_le (a b : List Po) : (bothP a b).length ≤ a.length * b.length := by
  induction a with
  | nil => simp [bothP]
  | cons p r ih =>
    have h1 := oneP_le p.1 b
    unfold oneP at h1
    rw [bothP_cons, List.length_append, List.length_cons, Nat.add_mul, Nat.one_mul]
    omega
def BoRel (a b : List Po) (w : World) (out i : Value) (wr : World) : Prop :=
  ∃ k : Nat, k ≤ a.length ∧ i = .int .i64 (k : Int) ∧ wr.ownsRow w.heap.size 3 1 out (bothP (a.take k) b).length (ints (bothP (a.take k) b)) ∧ Below w.heap.size w wr
def BiRel (pre : List Int) (x : Int) (b : List Po) (w : World) (out i : Value) (wr : World) : Prop :=
  ∃ k : Nat, k ≤ b.length ∧ i = .int .i64 (k : Int) ∧ wr.ownsRow w.heap.size 3 1 out (pre ++ oneP x (b.take k)).length (ints (pre ++ oneP x (b.take k))) ∧ Below w.heap.size w wr

set_option maxHeartbeats 4000000 in
set_option maxRecDepth 100000 in
theorem ref06_Both (A : Option Addr) (n c : Nat) (B : Option Addr) (m d : Nat) (a b : List Po) (w : World) (hn : a.length = n) (hm : b.length = m) (hn60 : n ≤ 60) (hm60 : m ≤ 60) (hpa : Posts w w.heap.size A a) (hpb : Posts w w.heap.size B b) :
    Calls Try.prog 22 #[.slice A n c, .slice B m d] w (GaveNew' (bothP a b) w) := by
  obtain ⟨i0, hi0, hz0, hz1, hz2⟩ := info_parts info_int
  have HPA := Lib.hid hpa
  have HPB := Lib.hid hpb
  have HN := Lib.hid hn
  have HM := Lib.hid hm
  clear hpa hpb hn hm
  go_enter Try.func22, Try.ntmps22
  go_wp2
  go_loopw [5, 6] (fun out i wr => BoRel a b w out i wr) (fun _ i _ => n - (intOf i).toNat)
  case atStart => exact ⟨0, Nat.zero_le _, rfl, World.ownsRow_nil _ _ _ _, Below.refl _ _⟩
  case round =>
    obtain ⟨k, hk, rfl, hown, hbw⟩ := hrel
    rw [HN.out] at hk
    have hsz := hbw.size
    by_cases hlt : k < n
    · obtain ⟨b1, o1, e1, hb1, hc1, _⟩ := HPA.out.at_ (k := k) (by rw [HN.out]; exact hlt)
      subst e1
      have hsn := bothP_snoc (b := b) (by rw [HN.out]; exact hlt : k < a.length)
      have hle := bothP_le (a.take k) b
      have hle2 : (a.take k).length * b.length ≤ 60 * 60 := Nat.mul_le_mul (by rw [List.length_take]; omega) (by rw [HM.out]; exact hm60)
      obtain ⟨x, hx⟩ : ∃ x, x = (a.getD k (0, [])).1 := ⟨_, rfl⟩
      rw [← hx] at hc1 hsn
      obtain ⟨pre, hpre⟩ : ∃ pre, pre = bothP (a.take k) b := ⟨_, rfl⟩
      rw [← hpre] at hown hsn hle
      have hpl : pre.length ≤ 3600 := by omega
      have HSN := Lib.hid hsn
      have HC1 : Hid (∀ w', Below w.heap.size w w' → w'.cell? ⟨b1, o1 + k * 2, none⟩ = some (.int .i64 x)) := Lib.hid fun w' h => (h.cell (p := ⟨b1, o1 + k * 2, none⟩) hb1).trans hc1
      have HOWN := Lib.hid hown
      have HBW := Lib.hid hbw
      clear hown hbw hsn hle hle2 hpre hc1 hx
      go_wp2
      go_loopw [5, 7] (fun out i wr => BiRel pre x b w out i wr) (fun _ i _ => m - (intOf i).toNat)
      case atStart => exact ⟨0, Nat.zero_le _, rfl, by simpa [oneP] using HOWN.out, HBW.out⟩
      case round =>
        obtain ⟨i, hi, rfl, hown, hbw⟩ := hrel
        rw [HM.out] at hi
        have hs2 := hbw.size
        by_cases hli : i < m
        · obtain ⟨b2, o2, e2, hb2, hc2, _⟩ := HPB.out.at_ (k := i) (by rw [HM.out]; exact hli)
          subst e2
          have hsn := oneP_snoc (x := x) (b := b) (k := i) (by rw [HM.out]; exact hli)
          have hle := oneP_le x (b.take i)
          have hle2 : (b.take i).length ≤ 60 := by rw [List.length_take]; omega
          obtain ⟨y, hy⟩ : ∃ y, y = (b.getD i (0, [])).1 := ⟨_, rfl⟩
          rw [← hy] at hc2 hsn
          obtain ⟨cur, hcur⟩ : ∃ cur, cur = pre ++ oneP x (b.take i) := ⟨_, rfl⟩
          have hcl : cur.length ≤ 3660 := by rw [hcur, List.length_append]; omega
          have hnx : pre ++ oneP x (b.take (i + 1)) = cur ++ (if x = y then [x] else []) := by rw [hsn, hcur, List.append_assoc]
          rw [← hcur] at hown
          have hcx := HC1.out _ hbw
          have hcy := (hbw.cell (p := ⟨b2, o2 + i * 2, none⟩) hb2).trans hc2
          have HNX := Lib.hid hnx
          have HOW := Lib.hid hown
          have HB := Lib.hid hbw
          clear hown hbw hsn hle hle2 hcur hc2 hy hnx
          by_cases hxy : x = y
          · have hd : (x == y) = true := by rw [beq_iff_eq]; exact hxy
            subst hxy
            rw [if_pos rfl] at HNX
            go_wp2
            go_quiet (fail)
            obtain ⟨wq, hwq⟩ : ∃ wq, wq = World.drewN wr nq := ⟨_, rfl⟩
            have hbq : Below wr.heap.size wr wq := by rw [hwq]; exact quiet_below _
            rw [← hwq]
            have HBQ := Lib.hid hbq
            clear hwq
            have hcx2 := (hbq.cell (p := ⟨b1, o1 + k * 2, none⟩) (World.block_lt_of_cell? wr _ hcx)).trans hcx
            have HOWQ := Lib.hid (owned_below HOW.out hbq)
            have hsq := hbq.size
            clear hbq hcx hcy
            go_wp2_with (at_builtin; refine wpList_append_own _ rfl (.tmp 31) (.tmp 37) 23 rfl w.heap.size 3 i0 _ 1 8 Try.underlying23 hi0 hz0 hz1 hz2 rfl (by omega) _ cur.length (ints cur) rfl (HOWQ.out.alloc _) ⟨wq.heap.size, 0, none⟩ 1 1 [.int .i64 x] rfl rfl (news_at wq [.int .i64 x] 3) (by intro u hu; simp at hu; subst hu; rfl) (by unfold maxLen; omega) (by omega) (by simp; omega) ?_)
            intro v9 w9 hown9 hg9 _
            have hb9 : Below w.heap.size wq w9 := ((Below.refl _ _).alloc (by omega) (.cells #[.int .i64 x] 3)).grown hg9 (by simp; omega) fun k hk => (HOWQ.out.lt k hk).1
            have hfin : BiRel pre x b w v9 (.int .i64 ((i : Int) + 1)) w9 := by
              refine ⟨i + 1, by rw [HM.out]; omega, by simp, ?_, HB.out.trans ((HBQ.out.mono hs2).trans hb9)⟩
              rw [HNX.out]
              simpa [ints] using hown9
            have HF := Lib.hid hfin
            clear hfin hb9 hg9 hown9
            go_wp2
            go_roundw
            case rel => exact HF.out
            case measure => simp [intOf]; omega
          · have hd : (x == y) = false := by rw [beq_eq_false_iff_ne]; exact hxy
            rw [if_neg hxy, List.append_nil] at HNX
            go_wp2
            go_quiet (fail)
            obtain ⟨wq, hwq⟩ : ∃ wq, wq = World.drewN wr nq := ⟨_, rfl⟩
            have hbq : Below wr.heap.size wr wq := by rw [hwq]; exact quiet_below _
            rw [← hwq]
            have HBQ := Lib.hid hbq
            clear hwq
            have hfin : BiRel pre x b w u5 (.int .i64 ((i : Int) + 1)) wq := by
              refine ⟨i + 1, by rw [HM.out]; omega, by simp, ?_, HB.out.trans (HBQ.out.mono hs2)⟩
              rw [HNX.out]
              exact owned_below HOW.out hbq
            have HF := Lib.hid hfin
            clear hfin hbq
            go_wp2
            go_roundw
            case rel => exact HF.out
            case measure => simp [intOf]; omega
        · obtain rfl : i = m := by omega
          have hfin : BoRel a b w u5 (.int .i64 ((k : Int) + 1)) wr := by
            rw [List.take_of_length_le (by rw [HM.out]; exact Nat.le_refl _), ← HSN.out] at hown
            exact ⟨k + 1, by rw [HN.out]; omega, by simp, hown, hbw⟩
          have HF := Lib.hid hfin
          clear hfin hown hbw
          go_wp2
          go_roundw
          case rel => exact HF.out
          case measure => simp [intOf]; omega
    · obtain rfl : k = n := by omega
      rw [List.take_of_length_le (by rw [HN.out]; exact Nat.le_refl _)] at hown
      have HF := Lib.hid hown
      have HB := Lib.hid hbw
      clear hown hbw
      go_wp2
      go_ret
      exact ⟨_, rfl, HF.out, HB.out⟩
end Go.Proofs.Ytnmnbckaccicaaa
