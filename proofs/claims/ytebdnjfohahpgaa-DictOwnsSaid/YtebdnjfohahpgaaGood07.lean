/- The names that the document's Good makes of any texts: the first so many, the first 8 bytes of each, in order. -/
import Derived.Test.YtebdnjfohahpgaaPut07
import Derived.Test.YtebdnjfohahpgaaFew07
namespace Go.Proofs.Ytebdnjfohahpgaa
open Go Go.RowKit
set_option linter.unusedVariables false

def GoodRel (l : List Nm) (n : Nat) (w : World) (vo i : Value) (wr : World) : Prop :=
  ∃ k : Nat, k ≤ l.length ∧ k ≤ n ∧ i = .int .i64 (k : Int) ∧ OwnNm w.heap.size wr vo (goodN l k) ∧ Below w.heap.size w wr

set_option maxHeartbeats 2000000 in
set_option maxRecDepth 100000 in
theorem ref_Good07 (A : Option Addr) (m d n : Nat) (l : List Nm) (w : World) (hr : Row w w.heap.size A (strs l)) (hm : l.length = m) (hx : ∀ x ∈ l, x.length ≤ maxLen) (hml : m ≤ maxLen) (hn : n ≤ 1000) :
    Calls Try.prog 12 #[.slice A m d, .int .i64 n] w (GaveNm (goodN l n) w) := by
  subst hm
  have HR := Lib.hid hr
  have HX := Lib.hid hx
  unfold maxLen at hml
  clear hr hx
  go_enter Try.func12, Try.ntmps12
  go_wp2
  go_loopw [5, 6] (fun vo i wr => GoodRel l n w vo i wr) (fun _ i _ => n - (intOf i).toNat)
  case atStart => exact ⟨0, by omega, by omega, rfl, OwnNm.nil, Below.refl _ _⟩
  case round =>
    obtain ⟨k, hk, hkn, rfl, hown, hbw⟩ := hrel
    have hsz := hbw.size
    by_cases hlt : k < l.length ∧ k < n
    · obtain ⟨hkl, hkn2⟩ := hlt
      have d1 : decide ((k : Int) < (n : Int)) = true := decide_eq_true (by omega)
      have d1' : decide (k < n) = true := decide_eq_true hkn2
      obtain ⟨b1, o1, e1, hb1, hc1⟩ := row_nm (HR.out.below hbw) hkl
      subst e1
      have hsn := goodN_succ hkl
      have hgl := (good_goodN l k).2
      have hx8 := HX.out _ (List.getElem_mem hkl)
      obtain ⟨x, hx⟩ : ∃ x, x = l[k] := ⟨_, rfl⟩
      rw [← hx] at hc1 hsn hx8
      obtain ⟨t, ht⟩ : ∃ t : ByteArray, t = ⟨x.toArray⟩ := ⟨_, rfl⟩
      rw [← ht] at hc1
      have hts : t.size = x.length := by rw [ht]; exact size_nm x
      obtain ⟨y, hy, hy2⟩ : ∃ y : ByteArray, y = ⟨(x.take 8).toArray⟩ ∧ y.data.toList = x.take 8 := ⟨_, rfl, rfl⟩
      obtain ⟨mm, hmm⟩ : ∃ mm : Nat, mm = min t.size 8 := ⟨_, rfl⟩
      have hmn : ∀ (w : World) (ts : Array TypeId) (ty : TypeId), (Builtin.min_ ts ty #[.int .i64 t.size, .int .i64 8]).run Try.prog w = .ok (.int .i64 (mm : Int)) w := fun w ts ty => by rw [run_min_int2, hmm]; congr 2; split <;> omega
      have hex : t.extract 0 mm = y := by rw [ht, hy]; exact ext_eight x mm (by rw [hmm, hts])
      have hm1 : mm ≤ t.size := by omega
      unfold maxLen at hx8
      have hm2 : t.size ≤ 9223372036854775807 := by omega
      have c1 := ref_Put07 w.heap.size u5 (goodN l k) y wr.drew (hown.below (Below.refl _ _).drew) hsz (by omega)
      rw [hy2, ← hsn] at c1
      have C1 := Lib.hid c1
      have HSS : Hid (∀ w', Below w.heap.size wr w' → w'.cell? ⟨b1, o1 + k, none⟩ = some (.string t)) := Lib.hid fun w' h => (h.cell (p := ⟨b1, o1 + k, none⟩) hb1).trans hc1
      clear hown hsn hx ht hts hy hmm c1 hy2 hgl
      go_wp2
      go_region_held3 (fun w' => w'.cell? ⟨b1, o1 + k, none⟩ = some (.string t))
        (first | exact HSS.out _ (Below.refl _ _).drew | exact HSS.out _ HB5.out)
        (first
          | (go_at_call 30; refine (C1.out).mono ?_; rintro e w5 ⟨v5, rfl, ho5, hb5⟩
             have HO5 := Lib.hid ho5
             have HB5 : Hid (Below w.heap.size wr w5) := Lib.hid ((Below.refl _ _).drew.trans (hb5.mono hsz))
             clear ho5 hb5))
      have hfin : GoodRel l n w v5 (.int .i64 ((k : Int) + 1)) w5 := ⟨k + 1, by omega, by omega, by simp, HO5.out, hbw.trans HB5.out⟩
      have HF := Lib.hid hfin
      clear hfin
      go_wp2
      go_roundw
      case rel => exact HF.out
      case measure => simp [intOf]; omega
    · have hfin : OwnNm w.heap.size wr u5 (goodN l n) := by
        have e : goodN l k = goodN l n := by
          by_cases h : k = n
          · rw [h]
          · exact goodN_all (by omega) (by omega)
        rw [← e]
        exact hown
      have HFIN : Hid (GaveNm (goodN l n) w (.returned u5) wr) := Lib.hid ⟨_, rfl, hfin, hbw⟩
      have hsp : (k < l.length ∧ ¬ k < n) ∨ ¬ k < l.length := by omega
      clear hfin hown hbw hlt hk
      rcases hsp with ⟨h1, h2⟩ | h1
      · have d1 : decide ((k : Int) < (n : Int)) = false := decide_eq_false (by omega)
        have d1' : decide (k < n) = false := decide_eq_false h2
        go_wp2
        go_ret
        exact HFIN.out
      · go_wp2
        go_ret
        exact HFIN.out
end Go.Proofs.Ytebdnjfohahpgaa
