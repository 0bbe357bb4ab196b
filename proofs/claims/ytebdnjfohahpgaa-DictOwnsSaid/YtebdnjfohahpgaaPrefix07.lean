/- Which names of a dictionary begin so: what Prefix answers. -/
import Derived.Test.YtebdnjfohahpgaaFind07
import Derived.Test.YtebdnjfohahpgaaSearch06
set_option linter.unusedVariables false
namespace Go.Proofs.Ytebdnjfohahpgaa
open Go Go.RowKit

/-- What Prefix's closure keeps: names and things from a place on, and the beginning, each in a variable. -/
structure BeginAt (b8 b3 : Nat) (A : Option Addr) (m c : Nat) (l : List Nm) (vs : List Int) (s : ByteArray) (W : World) : Prop where
  len : l.length = m
  vlen : vs.length = l.length
  row : Row W W.heap.size A (entC l vs)
  var : W.heap[b8]? = some (.cells #[.slice A m c] 55 (0, 0))
  text : W.heap[b3]? = some (.cells #[.string s] 9 (0, 0))
theorem BeginAt.below {b8 b3 : Nat} {A : Option Addr} {m c : Nat} {l : List Nm} {vs : List Int} {s : ByteArray} {W W' : World} (h : BeginAt b8 b3 A m c l vs s W) (hb : Below W.heap.size W W') : BeginAt b8 b3 A m c l vs s W' :=
  ⟨h.len, h.vlen, (h.row.below hb).more hb.size, (hb.block _ (lt_of_block h.var)).trans h.var, (hb.block _ (lt_of_block h.text)).trans h.text⟩

set_option maxHeartbeats 2000000 in
set_option maxRecDepth 100000 in
theorem dict_begin (b8 b3 : Nat) (A : Option Addr) (m c : Nat) (l : List Nm) (vs : List Int) (s : ByteArray) (W : World) (h : BeginAt b8 b3 A m c l vs s W) (k : Nat) (hk : k < m) (hl : m ≤ 1073741824) :
    Calls Try.prog 35 #[.int .i64 (k : Int), .pointer (some ⟨b8, 0, none⟩), .pointer (some ⟨b3, 0, none⟩)] W fun e w' => e = .returned (.bool (!(beginsN (l.getD k []) s.data.toList))) ∧ ∃ q, w' = W.drewN q := by
  have hkl : k < l.length := by rw [h.len]; exact hk
  obtain ⟨b, off, rfl, hb, hc⟩ := h.row.at_ (by rw [entC_length h.vlen]; omega)
  obtain ⟨g1, _⟩ := entC_at h.vlen hkl
  have h5 := hc _ _ g1
  have hv := cell_of_one h.var
  have ht := cell_of_one h.text
  rw [List.getD_eq_getElem?_getD, List.getElem?_eq_getElem hkl, Option.getD_some]
  obtain ⟨x, hx, hx2⟩ := as_text l[k]
  rw [← hx] at h5
  have hcm := fun w => has_prefix x s w
  rw [hx2] at hcm
  obtain ⟨z, hz⟩ : ∃ z, z = beginsN l[k] s.data.toList := ⟨_, rfl⟩
  rw [← hz] at hcm ⊢
  have CM : Hid (∀ n, Calls Try.prog 36 #[.string x, .string s] (W.drewN n) fun e w' => e = .returned (.bool z) ∧ w' = W.drewN n) := Lib.hid fun n => hcm _
  have k2 : (0 : Int) ≤ (k : Int) := by omega
  have k3 : (k : Int) < (m : Int) := by omega
  clear hx hx2 hz h hcm g1 hc hkl
  go_enter Try.func35, Try.ntmps35
  go_wp2
  go_quiet ((go_at_call 36; exact Calls.quiet_of_same (CM.out _)))
  go_wp2
  go_ret
  exact ⟨rfl, _, rfl⟩

theorem search_begin (b8 b3 : Nat) (A : Option Addr) (m c : Nat) (l : List Nm) (vs : List Int) (s : ByteArray) (w : World) (h : BeginAt b8 b3 A m c l vs s w) (hl : m ≤ 1073741824) (hr : Rise l) (hge : ∀ x ∈ l, ¬ x < s.data.toList) :
    Calls Try.prog 34 #[.int .i64 (m : Int), .func (.func 35) #[] #[.pointer (some ⟨b8, 0, none⟩), .pointer (some ⟨b3, 0, none⟩)]] w fun e w' => e = .returned (.int .i64 (runN l s.data.toList : Int)) ∧ Below w.heap.size w w' := by
  have hm := h.len
  have hle := runN_le l s.data.toList
  have hall : ∀ i j, i ≤ j → j < l.length → beginsN (l.getD i []) s.data.toList = false → beginsN (l.getD j []) s.data.toList = false := by
    intro i j hij hj hb
    have hi : i < l.length := by omega
    rw [List.getD_eq_getElem?_getD, List.getElem?_eq_getElem hi, Option.getD_some] at hb
    rw [List.getD_eq_getElem?_getD, List.getElem?_eq_getElem hj, Option.getD_some]
    have hp : placeN l s.data.toList = 0 := place_of (Nat.zero_le _) (fun j _ hj => by omega) (fun h0 => hge _ (List.getElem_mem h0))
    exact begins_behind hr hj hij (by omega) hb
  have hcount : (List.range m).countP (fun i => !!(beginsN (l.getD i []) s.data.toList)) = runN l s.data.toList := by
    refine countP_run (by omega) (fun i hi => ?_) (fun i hi hin => ?_)
    · have hil : i < l.length := by omega
      rw [List.getD_eq_getElem?_getD, List.getElem?_eq_getElem hil, Option.getD_some, runN_in hil hi]
      rfl
    · have hrl : runN l s.data.toList < l.length := by omega
      have hs := runN_stop hrl
      rw [hall (runN l s.data.toList) i hi (by omega) (by rw [List.getD_eq_getElem?_getD, List.getElem?_eq_getElem hrl, Option.getD_some]; exact hs)]
      rfl
  have hS := sort_Search 35 #[.pointer (some ⟨b8, 0, none⟩), .pointer (some ⟨b3, 0, none⟩)] m (fun i => !(beginsN (l.getD i []) s.data.toList)) w
    (enters_of Try.func35 (by kernel_rfl) rfl) (by omega)
    (fun W i hi hb => dict_begin b8 b3 A m c l vs s W (h.below hb) i hi hl)
    (fun a b hab hb ha => by
      simp only [Bool.not_eq_true'] at ha ⊢
      exact hall a b hab (by omega) ha)
  rw [hcount] at hS
  exact hS

theorem place_drop {l : List Nm} (hr : Rise l) (s : Nm) : ∀ x ∈ l.drop (placeN l s), ¬ x < s := by
  intro x hx
  obtain ⟨i, hi, rfl⟩ := List.getElem_of_mem hx
  rw [List.getElem_drop]
  rw [List.length_drop] at hi
  by_cases h0 : i = 0
  · subst h0
    simpa using placeN_stop (l := l) (s := s) (by omega)
  · have h1 := placeN_stop (l := l) (s := s) (by omega)
    have h2 := rise_at hr (i := placeN l s) (j := placeN l s + i) (by omega) (by omega)
    exact fun h => h1 (nm_trans h2 h)

set_option maxHeartbeats 2000000 in
set_option maxRecDepth 100000 in
theorem dict_Prefix (base B : Nat) (l : List Nm) (vs : List Int) (s : ByteArray) (w : World) (h : DictAt w base B l vs) (hr : Rise l) (hl : l.length ≤ 1048576) :
    Calls Try.prog 22 #[.pointer (some ⟨B, 0, none⟩), .string s] w fun e w' => e = .returned (.tuple #[.int .i64 (placeN l s.data.toList), .int .i64 (endN l s.data.toList)]) ∧ Below w.heap.size w w' := by
  have hvl := h.2.1
  obtain ⟨w1, hw1⟩ : ∃ w1, w1 = w.alloc (.cells #[.string s] 9) := ⟨_, rfl⟩
  have hb1 : Below w.heap.size w w1 := by rw [hw1]; exact (Below.refl _ _).alloc (Nat.le_refl _) _
  have ht1 : w1.heap[w.heap.size]? = some (.cells #[.string s] 9 (0, 0)) := by rw [hw1]; exact heap_alloc_new w _
  have hd1 := h.below hb1
  have C1 := Lib.hid (dict_Place base B l vs s w1 hd1 hr (by omega))
  have hpl := placeN_le l s.data.toList
  have hel := endN_le l s.data.toList
  obtain ⟨z, hz⟩ : ∃ z, z = isN l s.data.toList := ⟨_, rfl⟩
  rw [← hz] at C1
  have hge := place_drop hr s.data.toList
  have hend : endN l s.data.toList = placeN l s.data.toList + runN (l.drop (placeN l s.data.toList)) s.data.toList := rfl
  obtain ⟨p, hp⟩ : ∃ p, p = placeN l s.data.toList := ⟨_, rfl⟩
  rw [← hp] at C1 hpl hge hend ⊢
  have hr2 : Rise (l.drop p) := hr.sublist (List.drop_sublist p l)
  obtain ⟨n, hn⟩ : ∃ n, n = l.length := ⟨_, rfl⟩
  have CS : Hid (∀ b8 A c w, BeginAt b8 w1.heap.size.pred A (n - p) c (l.drop p) (vs.drop p) s w → True) := Lib.hid fun _ _ _ _ _ => trivial
  have CB : Hid (∀ b8 b3 A c w, BeginAt b8 b3 A (n - p) c (l.drop p) (vs.drop p) s w → Calls Try.prog 34 #[.int .i64 ((n - p : Nat) : Int), .func (.func 35) #[] #[.pointer (some ⟨b8, 0, none⟩), .pointer (some ⟨b3, 0, none⟩)]] w fun e w' => e = .returned (.int .i64 (runN (l.drop p) s.data.toList : Int)) ∧ Below w.heap.size w w') :=
    Lib.hid fun b8 b3 A c w hh => search_begin b8 b3 A (n - p) c (l.drop p) (vs.drop p) s w hh (by omega) hr2 hge
  obtain ⟨r, hr3⟩ : ∃ r, r = runN (l.drop p) s.data.toList := ⟨_, rfl⟩
  rw [← hr3] at CB hend
  rw [hend]
  rw [hend] at hel
  rw [← hn] at hpl hel hl
  have HD := Lib.hid hd1
  have HT := Lib.hid ht1
  have HB1 := Lib.hid hb1
  have HW1 := Lib.hid hw1
  have HN := Lib.hid hn
  have HV := Lib.hid hvl
  have e1 : ((p + r : Nat) : Int) = (p : Int) + (r : Int) := by omega
  rw [e1]
  clear h hd1 ht1 hb1 hw1 hn hvl hr hr2 hge hend hz hp hr3 e1 CS
  go_enter Try.func22, Try.ntmps22
  go_wp2_with (go_at_call 19; rw [← HW1.out]; refine (C1.out).mono ?_)
  rintro e w2 ⟨rfl, hb2⟩
  obtain ⟨A, c, hc, hnc, hcm, hrow, hA⟩ := (HD.out.below hb2).read
  rw [← HN.out] at hc hnc
  have HB2 := Lib.hid (HB1.out.trans (hb2.mono HB1.out.size))
  have HT2 := Lib.hid ((hb2.block _ (lt_of_block HT.out)).trans HT.out)
  have HROW := Lib.hid hrow
  have HX : Hid (∀ A' c', Row w2 w2.heap.size A' (entC (l.drop p) (vs.drop p)) → BeginAt w2.heap.size w.heap.size A' (n - p) c' (l.drop p) (vs.drop p) s (w2.alloc (.cells #[.slice A' (n - p) c'] 55))) := Lib.hid fun A' c' hrw => by
    have hba : Below w2.heap.size w2 (w2.alloc (.cells #[.slice A' (n - p) c'] 55)) := (Below.refl _ _).alloc (Nat.le_refl _) _
    refine ⟨by rw [List.length_drop, HN.out], by rw [List.length_drop, List.length_drop, HV.out], (hrw.below hba).more hba.size, heap_alloc_new w2 _, ?_⟩
    exact (hba.block _ (lt_of_block HT2.out)).trans HT2.out
  unfold maxLen at hcm
  have k1 : (0 : Int) ≤ (p : Int) := by omega
  have k2 : (p : Int) ≤ (n : Int) := by omega
  have k3 : (n : Int) ≤ (c : Int) := by omega
  have k4 : (n : Int) ≤ 1048576 := by omega
  have k5 : (r : Int) ≤ 1048576 := by omega
  have k6 : (0 : Int) ≤ (r : Int) := by omega
  have k7 : (p : Int) ≤ 1048576 := by omega
  clear hrow hb2
  rcases hA with ⟨rfl, hl0, rfl⟩ | ⟨g, rfl⟩
  · have hn0 : n = 0 := by rw [HN.out, hl0]; rfl
    have hp0 : p = 0 := by omega
    have hr0 : r = 0 := by omega
    have hrow0 : Row w2 w2.heap.size none (entC (l.drop p) (vs.drop p)) := .inl (by rw [hl0]; simp [entC_nil])
    have HX0 := Lib.hid (HX.out none 0 hrow0)
    subst hn0 hp0 hr0
    have C0 : Hid (Calls Try.prog 34 #[.int .i64 0, .func (.func 35) #[] #[.pointer (some ⟨w2.heap.size, 0, none⟩), .pointer (some ⟨w.heap.size, 0, none⟩)]] (w2.alloc (.cells #[.slice none 0 0] 55)) fun e w' => e = .returned (.int .i64 ((0 : Nat) : Int)) ∧ Below (w2.alloc (.cells #[.slice none 0 0] 55)).heap.size (w2.alloc (.cells #[.slice none 0 0] 55)) w') := Lib.hid (by have c0 := CB.out w2.heap.size w.heap.size none 0 _ HX0.out; rw [Nat.sub_self] at c0; exact c0)
    clear hrow0 hl0 hpl hel
    go_wp2_with (go_at_call 34; refine (C0.out).mono ?_; rintro e w5 ⟨rfl, hb5⟩)
    go_ret2
    exact ⟨rfl, HB2.out.trans ((((Below.refl w2.heap.size w2).alloc (Nat.le_refl _) _).trans (hb5.mono (by simp))).mono HB2.out.size)⟩
  · by_cases hcp : c = p
    · have hnp : n = p := by omega
      have hrow0 : Row w2 w2.heap.size (some ⟨g, 0, none⟩) (entC (l.drop p) (vs.drop p)) := .inl (by rw [List.drop_of_length_le (by rw [← HN.out]; omega)]; simp [entC_nil])
      have HX0 := Lib.hid (HX.out (some ⟨g, 0, none⟩) 0 hrow0)
      subst hnp
      have hcp' := hcp
      subst hcp'
      have C0 : Hid (Calls Try.prog 34 #[.int .i64 0, .func (.func 35) #[] #[.pointer (some ⟨w2.heap.size, 0, none⟩), .pointer (some ⟨w.heap.size, 0, none⟩)]] (w2.alloc (.cells #[.slice (some ⟨g, 0, none⟩) 0 0] 55)) fun e w' => e = .returned (.int .i64 (r : Int)) ∧ Below (w2.alloc (.cells #[.slice (some ⟨g, 0, none⟩) 0 0] 55)).heap.size (w2.alloc (.cells #[.slice (some ⟨g, 0, none⟩) 0 0] 55)) w') := Lib.hid (by have c0 := CB.out w2.heap.size w.heap.size (some ⟨g, 0, none⟩) 0 _ HX0.out; rw [Nat.sub_self] at c0; exact c0)
      clear hrow0 hpl hel
      go_wp2_with (go_at_call 34; refine (C0.out).mono ?_; rintro e w5 ⟨rfl, hb5⟩)
      go_ret2
      exact ⟨rfl, HB2.out.trans ((((Below.refl w2.heap.size w2).alloc (Nat.le_refl _) _).trans (hb5.mono (by simp))).mono HB2.out.size)⟩
    · have hpc : p < c := by omega
      have hrow0 : Row w2 w2.heap.size (some ⟨g, p * 2, none⟩) (entC (l.drop p) (vs.drop p)) := by
        rw [← entC_drop p HV.out]
        rcases HROW.out with h0 | ⟨b', o', e, hb, hcl⟩
        · exact .inl (by rw [h0]; simp)
        · injection e with e
          injection e with e1 e2
          subst e1 e2
          refine .inr ⟨g, p * 2, rfl, hb, fun j u hu => ?_⟩
          have := hcl (p * 2 + j) u (by rw [← hu]; simp)
          rwa [Nat.zero_add] at this
      have HX0 := Lib.hid (HX.out (some ⟨g, p * 2, none⟩) (c - p) hrow0)
      clear hrow0 hpl hcp
      go_wp2_with (go_at_call 34; refine (CB.out w2.heap.size w.heap.size (some ⟨g, p * 2, none⟩) (c - p) _ HX0.out).mono ?_; rintro e w5 ⟨rfl, hb5⟩)
      go_ret2
      exact ⟨rfl, HB2.out.trans ((((Below.refl w2.heap.size w2).alloc (Nat.le_refl _) _).trans (hb5.mono (by simp))).mono HB2.out.size)⟩
end Go.Proofs.Ytebdnjfohahpgaa
