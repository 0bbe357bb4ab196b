/- Where a name stands, and which begin so: what the document's Place, begins and Prefix answer. -/
import Derived.Test.YtebdnjfohahpgaaRise07
namespace Go.Proofs.Ytebdnjfohahpgaa
open Go Go.RowKit
set_option linter.unusedVariables false

def PlaceRel (l : List Nm) (s : Nm) (w : World) (a b i : Value) (wr : World) : Prop := a = .int .i64 0 ∧ b = .bool false ∧ ∃ k : Nat, k ≤ l.length ∧ i = .int .i64 (k : Int) ∧ Below w.heap.size w wr ∧ ∀ j (hj : j < l.length), j < k → l[j] < s

set_option maxHeartbeats 1000000 in
set_option maxRecDepth 100000 in
theorem ref_Place07 (A : Option Addr) (m c : Nat) (l : List Nm) (s : ByteArray) (w : World) (hr : Row w w.heap.size A (strs l)) (hm : l.length = m) (hl : m ≤ 1073741824) :
    Calls Try.prog 20 #[.slice A m c, .string s] w fun e w' => e = .returned (.tuple #[.int .i64 (placeN l s.data.toList), .bool (isN l s.data.toList)]) ∧ Below w.heap.size w w' := by
  have HR := Lib.hid hr
  clear hr
  subst hm
  obtain ⟨p, hp⟩ : ∃ p, p = placeN l s.data.toList := ⟨_, rfl⟩
  obtain ⟨z, hz⟩ : ∃ z, z = isN l s.data.toList := ⟨_, rfl⟩
  rw [← hp, ← hz]
  have HP := Lib.hid hp
  have HZ := Lib.hid hz
  clear hp hz
  go_enter Try.func20, Try.ntmps20
  go_wp2
  go_loopw [4, 5, 6] (fun a b i wr => PlaceRel l s.data.toList w a b i wr) (fun _ _ i _ => l.length - (intOf i).toNat)
  case atStart => exact ⟨rfl, rfl, 0, by omega, rfl, Below.refl _ _, fun j _ hj => by omega⟩
  case round =>
    obtain ⟨rfl, rfl, k, hk, rfl, hbw, hall⟩ := hrel
    by_cases hlt : k < l.length
    · obtain ⟨b1, o1, e1, _, hc1⟩ := row_nm (HR.out.below hbw) hlt
      subst e1
      obtain ⟨x, hx, hx2⟩ := as_text l[k]
      rw [← hx] at hc1
      by_cases hxs : l[k] < s.data.toList
      · have t1 := less_true (s := x) (t := s) (by rw [hx2]; exact hxs)
        have HN : Hid (∀ j (hj : j < l.length), j < k + 1 → l[j] < s.data.toList) := Lib.hid fun j hj hjk => by
          by_cases e : j = k
          · subst e; exact hxs
          · exact hall j hj (by omega)
        clear hx hx2 hall hxs
        go_wp2
        go_roundw
        case rel => exact ⟨rfl, rfl, k + 1, by omega, by go_num, hbw, HN.out⟩
        case measure => simp [intOf]; omega
      · have t1 := less_false (s := x) (t := s) (by rw [hx2]; exact hxs)
        have hpk : p = k := by rw [HP.out]; exact place_of hk hall (fun _ => hxs)
        have hzk : z = (l[k] == s.data.toList) := by
          have e := place_of hk hall (fun _ => hxs)
          rw [HZ.out, isN_at (by omega)]
          simp only [e]
        subst hpk
        by_cases hxe : l[p] = s.data.toList
        · have t2 := same_true (s := x) (t := s) (by rw [hx2]; exact hxe)
          have hz1 : z = true := by rw [hzk, hxe]; exact beq_self_eq_true _
          subst hz1
          clear hx hx2 hall hxs hzk hxe
          go_wp2
          go_quiet (fail)
          go_wp2
          go_ret2
          exact ⟨rfl, hbw.trans ⟨rfl, rfl, rfl, Nat.le_refl _, fun _ _ => rfl⟩⟩
        · have t2 := same_false (s := x) (t := s) (by rw [hx2]; exact hxe)
          have hz1 : z = false := by rw [hzk]; simpa using hxe
          subst hz1
          clear hx hx2 hall hxs hzk hxe
          go_wp2
          go_quiet (fail)
          go_wp2
          go_ret2
          exact ⟨rfl, hbw.trans ⟨rfl, rfl, rfl, Nat.le_refl _, fun _ _ => rfl⟩⟩
    · have hkl : k = l.length := by omega
      have e := place_of (s := s.data.toList) hk hall (fun h => absurd h hlt)
      have hpk : p = l.length := by rw [HP.out, e, hkl]
      have hz1 : z = false := by rw [HZ.out]; exact isN_end (by rw [e, hkl])
      subst hpk hz1
      clear hall e hkl
      go_wp2
      go_ret2
      exact ⟨rfl, hbw⟩

theorem begins_ext {s t : ByteArray} (h : t.size ≤ s.size) : (s.extract 0 t.size).data.toList = s.data.toList.take t.data.toList.length := by
  have e : (s.extract 0 t.size).data = s.data.extract 0 t.size := ByteArray.data_extract
  have e2 : t.data.toList.length = t.size := Array.length_toList
  rw [e, e2, Array.toList_extract, List.extract_eq_take_drop, List.drop_zero, Nat.sub_zero]
set_option maxHeartbeats 1000000 in
theorem ref_begins07 (s t : ByteArray) (w : World) (hs : s.size ≤ maxLen) (ht : t.size ≤ maxLen) :
    Calls Try.prog 37 #[.string s, .string t] w fun e w' => e = .returned (.bool (beginsN s.data.toList t.data.toList)) ∧ w = w' := by
  unfold maxLen at hs ht
  have hsl : s.data.toList.length = s.size := Array.length_toList
  have htl : t.data.toList.length = t.size := Array.length_toList
  by_cases hlt : s.size < t.size
  · have hb : beginsN s.data.toList t.data.toList = false := by
      rw [← Bool.not_eq_true, beginsN_take]; omega
    rw [hb]
    have d1 : decide (t.size ≤ s.size) = false := decide_eq_false (by omega)
    have d2 : decide ((t.size : Int) ≤ (s.size : Int)) = false := decide_eq_false (by omega)
    clear hb hsl htl
    go_enter Try.func37, Try.ntmps37
    go_wp2
    go_ret
    exact ⟨rfl, rfl⟩
  · have hle : t.size ≤ s.size := by omega
    have d1 : decide (t.size ≤ s.size) = true := decide_eq_true (by omega)
    have d2 : decide ((t.size : Int) ≤ (s.size : Int)) = true := decide_eq_true (by omega)
    by_cases he : s.data.toList.take t.data.toList.length = t.data.toList
    · have hb : beginsN s.data.toList t.data.toList = true := beginsN_take.2 ⟨by omega, he⟩
      have t1 := same_true (s := s.extract 0 t.size) (t := t) (by rw [begins_ext hle]; exact he)
      rw [hb]
      clear hb he hsl htl
      go_enter Try.func37, Try.ntmps37
      go_wp2
      go_ret
      exact ⟨rfl, rfl⟩
    · have hb : beginsN s.data.toList t.data.toList = false := by
        rw [← Bool.not_eq_true, beginsN_take]
        exact fun h => he h.2
      have t1 := same_false (s := s.extract 0 t.size) (t := t) (by rw [begins_ext hle]; exact he)
      rw [hb]
      clear hb he hsl htl
      go_enter Try.func37, Try.ntmps37
      go_wp2
      go_ret
      exact ⟨rfl, rfl⟩

def PrefRel (l : List Nm) (s : Nm) (p : Nat) (w : World) (a b to : Value) (wr : World) : Prop := a = .int .i64 0 ∧ b = .int .i64 0 ∧ ∃ k : Nat, p + k ≤ l.length ∧ to = .int .i64 ((p + k : Nat) : Int) ∧ Below w.heap.size w wr ∧ ∀ j (hj : j < l.length), p ≤ j → j < p + k → beginsN l[j] s = true

theorem end_of {l : List Nm} {s : Nm} {k : Nat} (hk : placeN l s + k ≤ l.length) (h1 : ∀ j (hj : j < l.length), placeN l s ≤ j → j < placeN l s + k → beginsN l[j] s = true) (h2 : ∀ h : placeN l s + k < l.length, beginsN l[placeN l s + k] s = false) : endN l s = placeN l s + k := by
  unfold endN
  rw [runN_of (k := k) (by rw [List.length_drop]; omega) (fun j hj hjk => ?_) (fun h => ?_)]
  · rw [List.getElem_drop]; rw [List.length_drop] at hj; exact h1 _ (by omega) (by omega) (by omega)
  · rw [List.getElem_drop]; exact h2 (by rw [List.length_drop] at h; omega)

set_option maxHeartbeats 1000000 in
set_option maxRecDepth 100000 in
theorem ref_Prefix07 (A : Option Addr) (m c : Nat) (l : List Nm) (s : ByteArray) (w : World) (hr : Row w w.heap.size A (strs l)) (hm : l.length = m) (hl : m ≤ 1073741824) (hs : s.size ≤ maxLen) (h8 : ∀ x ∈ l, x.length ≤ 1073741824) :
    Calls Try.prog 23 #[.slice A m c, .string s] w fun e w' => e = .returned (.tuple #[.int .i64 (placeN l s.data.toList), .int .i64 (endN l s.data.toList)]) ∧ Below w.heap.size w w' := by
  have HR := Lib.hid hr
  have H8 := Lib.hid h8
  have C1 := Lib.hid (ref_Place07 A m c l s w hr hm hl)
  clear hr h8
  subst hm
  have hple := placeN_le l s.data.toList
  obtain ⟨p, hp⟩ : ∃ p, p = placeN l s.data.toList := ⟨_, rfl⟩
  obtain ⟨q, hq⟩ : ∃ q, q = endN l s.data.toList := ⟨_, rfl⟩
  rw [← hp] at C1 hple
  rw [← hp, ← hq]
  have HE : Hid (∀ k, p + k ≤ l.length → (∀ j (hj : j < l.length), p ≤ j → j < p + k → beginsN l[j] s.data.toList = true) → (∀ h : p + k < l.length, beginsN l[p + k] s.data.toList = false) → q = p + k) := Lib.hid fun k hk h1 h2 => by
    subst hp
    rw [hq]
    exact end_of hk h1 h2
  obtain ⟨z, hz⟩ : ∃ z, z = isN l s.data.toList := ⟨_, rfl⟩
  rw [← hz] at C1
  clear hz hp hq
  go_enter Try.func23, Try.ntmps23
  go_wp2_with (go_at_call 20; refine (C1.out).mono ?_)
  rintro e w1 ⟨rfl, hb1⟩
  have HB1 := Lib.hid hb1
  clear hb1
  go_wp2
  go_loopw [4, 5, 8, 9] (fun a b to is wr => PrefRel l s.data.toList p w1 a b to wr) (fun _ _ to _ _ => l.length - (intOf to).toNat)
  case atStart => exact ⟨rfl, rfl, 0, by omega, by simp, Below.refl _ _, fun j _ _ hj => by omega⟩
  case round =>
    obtain ⟨rfl, rfl, k, hk, rfl, hbw, hall⟩ := hrel
    obtain ⟨i, hi⟩ : ∃ i, i = p + k := ⟨_, rfl⟩
    rw [← hi] at hk hall
    rw [← hi]
    have HI := Lib.hid hi
    clear hi
    by_cases hlt : i < l.length
    · obtain ⟨b1, o1, e1, _, hc1⟩ := row_nm ((HR.out.below HB1.out).below (hbw.mono HB1.out.size)) hlt
      subst e1
      have hx8 := H8.out _ (List.getElem_mem hlt)
      obtain ⟨x, hx, hx2⟩ := as_text l[i]
      rw [← hx] at hc1
      have hxs : x.size ≤ maxLen := by rw [hx, size_nm]; unfold maxLen; omega
      have c2 := fun w => ref_begins07 x s w hxs hs
      rw [hx2] at c2
      cases hb : beginsN l[i] s.data.toList with
      | true =>
        rw [hb] at c2
        have C2 := Lib.hid c2
        have HN : Hid (∀ j (hj : j < l.length), p ≤ j → j < p + (k + 1) → beginsN l[j] s.data.toList = true) := Lib.hid fun j hj hpj hjk => by
          by_cases e : j = i
          · subst e; exact hb
          · exact hall j hj hpj (by have := HI.out; omega)
        clear hx hx2 hall hb c2 hxs hx8
        go_wp2_with (go_at_call 37; refine (C2.out _).mono ?_; rintro e w' ⟨rfl, rfl⟩)
        go_roundw
        case rel => exact ⟨rfl, rfl, k + 1, by have := HI.out; omega, by rw [show p + (k + 1) = i + 1 by have := HI.out; omega]; go_num, hbw, HN.out⟩
        case measure => simp [intOf]; omega
      | false =>
        rw [hb] at c2
        have C2 := Lib.hid c2
        have hqi : q = i := by
          have hik := HI.out
          subst hik
          exact HE.out k hk hall (fun _ => hb)
        subst hqi
        clear hx hx2 hall hb c2 hxs hx8
        go_wp2_with (go_at_call 37; refine (C2.out _).mono ?_; rintro e w' ⟨rfl, rfl⟩)
        go_ret2
        exact ⟨rfl, HB1.out.trans (hbw.mono HB1.out.size)⟩
    · have hqi : q = i := by
        have hik := HI.out
        subst hik
        exact HE.out k hk hall (fun h => absurd h hlt)
      subst hqi
      clear hall
      go_wp2
      go_ret2
      exact ⟨rfl, HB1.out.trans (hbw.mono HB1.out.size)⟩
end Go.Proofs.Ytebdnjfohahpgaa
