/- What the document's own FoldText answers: the bytes of the signs, each folded; nothing that was there turns. For every text of at most 2^28 bytes. -/
import Derived.Test.YtagcaebmboikbaaRefText
import Derived.Test.YtagcaebmboikbaaRefSigns
namespace Go.Proofs.Ytagcaebmboikbaa
open Go Go.RowKit
set_option linter.unusedVariables false

/-- A list whose first k signs are folded. -/
def halfFolded (l : List Int) (k : Nat) : List Int := (l.take k).map fold ++ l.drop k
theorem halfFolded_length (l : List Int) (k : Nat) : (halfFolded l k).length = l.length := by
  simp [halfFolded]; omega
theorem halfFolded_zero (l : List Int) : halfFolded l 0 = l := by simp [halfFolded]
theorem halfFolded_all (l : List Int) : halfFolded l l.length = l.map fold := by simp [halfFolded]
theorem halfFolded_at {l : List Int} {k : Nat} (hk : k < l.length) : (halfFolded l k)[k]? = some l[k] := by
  unfold halfFolded
  rw [List.getElem?_append_right (by simp; omega)]
  have : k - (List.map fold (List.take k l)).length = 0 := by simp; omega
  rw [this, List.getElem?_drop]
  simp [hk]
theorem halfFolded_set {l : List Int} {k : Nat} (hk : k < l.length) : (ints (halfFolded l k)).set k (.int .i64 (fold l[k])) = ints (halfFolded l (k + 1)) := by
  unfold halfFolded ints
  rw [← List.map_set]
  congr 1
  have hlen : (List.map fold (List.take k l)).length = k := by simp; omega
  rw [List.set_append_right _ _ (by omega), hlen, Nat.sub_self, List.take_succ_eq_append_getElem hk, List.map_append, List.append_assoc]
  congr 1
  rw [List.drop_eq_getElem_cons hk, List.set_cons_zero]
  simp

def RefFoldRel (w : World) (l : List Int) (g cap : Nat) (i : Value) (wr : World) : Prop :=
  ∃ k : Nat, k ≤ l.length ∧ i = .int .i64 k ∧ wr.ownsRow w.heap.size 3 1 (.slice (some ⟨g, 0, none⟩) l.length cap) l.length (ints (halfFolded l k)) ∧ Below w.heap.size w wr

set_option maxHeartbeats 1000000 in
set_option maxRecDepth 100000 in
theorem ref_FoldText (s : ByteArray) (w : World) (hs : s.size ≤ 1073741824) :
    Calls Try.prog 24 #[.string s] w (GaveText (foldText s.data.toList) w) := by
  have hsl := signs_length s.data.toList
  rw [size_list] at hsl
  go_enter Try.func24, Try.ntmps24
  go_wp2_with (go_at_call 28; refine (ref_Signs s _ hs).mono ?_)
  rintro e w1 ⟨v, rfl, hown, hb1⟩
  have hft : foldText s.data.toList = text ((signs s.data.toList).map fold) := rfl
  obtain ⟨l, hl⟩ : ∃ l, l = signs s.data.toList := ⟨_, rfl⟩
  rw [← hl] at hown hsl hft
  have HFT := Lib.hid hft
  clear hl hft
  by_cases h0 : 0 < l.length
  · obtain ⟨g, cap, rfl, hg0, hglt⟩ := hown.form h0
    go_wp2
    go_loopw [4] (fun i wr => RefFoldRel w l g cap i wr) (fun i _ => l.length - (intOf i).toNat)
    case atStart => exact ⟨0, Nat.zero_le _, rfl, by rw [halfFolded_zero]; exact hown, hb1⟩
    case round =>
      obtain ⟨k, hk, rfl, hownr, hbw⟩ := hrel
      by_cases hlt : k < l.length
      · have hat := halfFolded_at hlt
        have hset := halfFolded_set hlt
        obtain ⟨x, hx⟩ : ∃ x, x = l[k] := ⟨_, rfl⟩
        rw [← hx] at hat hset
        clear hx
        have hc1 : wr.cell? ⟨g, k, none⟩ = some (.int .i64 x) := by
          rw [hownr.cellAt k (by omega), ints, List.getElem?_map, hat]
          rfl
        have hfz : wr.frozen? ⟨g, k, none⟩ = false := hownr.frozenAt k
        obtain ⟨hown2, hgr⟩ := hownr.stored k (.int .i64 (fold x))
        rw [hset] at hown2
        have HO := Lib.hid hown2
        have HG := Lib.hid hgr
        have hHB : Below w.heap.size w (wr.setCell ⟨g, k, none⟩ (.int .i64 (fold x))) := hbw.setCell (by simpa using hg0) _
        clear hat hset hown2 hgr hownr
        go_wp2_with (go_at_call 30; refine (ref_Fold _ _).mono ?_)
        rintro e w' ⟨rfl, rfl⟩
        go_wp2
        go_roundw
        case rel => exact ⟨k + 1, by omega, by go_num, HO.out, hHB⟩
        case measure => simp [intOf]; omega
      · have hkl : k = l.length := by omega
        subst hkl
        rw [halfFolded_all] at hownr
        obtain ⟨A2, c2, he, _, hrow⟩ := owned_row hownr
        have hA2 : A2 = some ⟨g, 0, none⟩ := by injection he with h1 h2 h3; exact h1.symm
        rw [hA2] at hrow
        clear he hA2 hownr
        go_wp2_with (go_at_call 31; refine (ref_Text_at _ _ _ (l.map fold) _ (by simp) hrow (by omega)).mono ?_)
        rintro e w2 ⟨rfl, hb2⟩
        go_wp2
        go_ret
        rw [HFT.out]
        exact ⟨rfl, hbw.trans (hb2.mono hbw.size)⟩
  · have hnil : l = [] := List.eq_nil_of_length_eq_zero (by omega)
    subst hnil
    obtain ⟨A2, c2, rfl, _, hrow⟩ := owned_row hown
    go_wp2
    refine wp_loop_rounds 1 ?_
    rw [rounds_succ]
    go_wp2_with (go_at_call 31; refine (ref_Text_at _ _ _ [] _ rfl .nil (by omega)).mono ?_)
    rintro e w2 ⟨rfl, hb2⟩
    go_wp2
    go_ret
    rw [HFT.out]
    exact ⟨rfl, hb1.trans (hb2.mono hb1.size)⟩
end Go.Proofs.Ytagcaebmboikbaa
