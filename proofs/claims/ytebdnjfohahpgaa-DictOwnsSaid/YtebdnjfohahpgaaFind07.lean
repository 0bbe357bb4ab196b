/- Where a name stands in a dictionary: what Place and Find answer. -/
import Derived.Test.YtebdnjfohahpgaaDict07
import Derived.Test.YtebdnjfohahpgaaPlace07
set_option linter.unusedVariables false
namespace Go.Proofs.Ytebdnjfohahpgaa
open Go Go.RowKit

/-- What Place's closure keeps: the dictionary, and the text asked for, each in a variable. -/
structure LookAt (base B b1 b2 : Nat) (l : List Nm) (vs : List Int) (s : ByteArray) (W : World) : Prop where
  dict : DictAt W base B l vs
  var : W.heap[b1]? = some (.cells #[.pointer (some ⟨B, 0, none⟩)] 25 (0, 0))
  text : W.heap[b2]? = some (.cells #[.string s] 9 (0, 0))
theorem LookAt.below {base B b1 b2 : Nat} {l : List Nm} {vs : List Int} {s : ByteArray} {W W' : World} (h : LookAt base B b1 b2 l vs s W) (hb : Below W.heap.size W W') : LookAt base B b1 b2 l vs s W' :=
  ⟨h.dict.below hb, (hb.block _ (lt_of_block h.var)).trans h.var, (hb.block _ (lt_of_block h.text)).trans h.text⟩
theorem drewN_drewN (W : World) (a b : Nat) : ∃ n, (W.drewN a).drewN b = W.drewN n := by
  refine ⟨a + b, ?_⟩
  simp [World.drewN, Nat.add_assoc]

set_option maxHeartbeats 2000000 in
set_option maxRecDepth 100000 in
theorem dict_look (base B b1 b2 k : Nat) (l : List Nm) (vs : List Int) (s : ByteArray) (W : World) (h : LookAt base B b1 b2 l vs s W) (hk : k < l.length) (hl : l.length ≤ 1073741824) :
    Calls Try.prog 32 #[.int .i64 (k : Int), .pointer (some ⟨b1, 0, none⟩), .pointer (some ⟨b2, 0, none⟩)] W fun e w' => e = .returned (.int .i64 (cmpN l[k] s.data.toList)) ∧ ∃ q, w' = W.drewN q := by
  obtain ⟨b, off, c, h1, h2, h3, h4, h5, h6⟩ := h.dict.ent hk
  have hv := cell_of_one h.var
  have ht := cell_of_one h.text
  obtain ⟨x, hx, hx2⟩ := as_text l[k]
  rw [← hx] at h5
  have hcm := fun w => cmp_compare x s w
  rw [hx2] at hcm
  obtain ⟨z, hz⟩ : ∃ z, z = cmpN l[k] s.data.toList := ⟨_, rfl⟩
  rw [← hz] at hcm ⊢
  have CM : Hid (∀ n, Calls Try.prog 33 #[.string x, .string s] (W.drewN n) fun e w' => e = .returned (.int .i64 z) ∧ w' = W.drewN n) := Lib.hid fun n => (hcm _).mono fun _ _ h => ⟨h.1, h.2.symm⟩
  obtain ⟨n, hn⟩ : ∃ n, n = l.length := ⟨_, rfl⟩
  rw [← hn] at h1 h2 hl hk
  have k2 : (0 : Int) ≤ (k : Int) := by omega
  have k3 : (k : Int) < (n : Int) := by omega
  clear hx hx2 hz hn h hcm h6
  go_enter Try.func32, Try.ntmps32
  go_wp2
  go_quiet ((go_at_call 33; exact Calls.quiet_of_same (CM.out _)))
  go_wp2
  go_ret
  exact ⟨rfl, _, rfl⟩

def SearchRel (base B b1 b2 : Nat) (l : List Nm) (vs : List Int) (s : ByteArray) (w : World) (u4 u5 u6 u7 : Value) (wr : World) : Prop :=
  u4 = .int .i64 0 ∧ u5 = .bool false ∧ ∃ a b : Nat, u6 = .int .i64 (a : Int) ∧ u7 = .int .i64 (b : Int) ∧ a ≤ b ∧ b ≤ l.length ∧ Below w.heap.size w wr ∧
    (∀ j (hj : j < l.length), j < a → l[j] < s.data.toList) ∧ ∀ j (hj : j < l.length), b ≤ j → s.data.toList < l[j]

set_option maxHeartbeats 2000000 in
set_option maxRecDepth 100000 in
theorem dict_search (base B b1 b2 : Nat) (l : List Nm) (vs : List Int) (s : ByteArray) (w : World) (h : LookAt base B b1 b2 l vs s w) (hr : Rise l) (hl : l.length ≤ 1073741824) :
    Calls Try.prog 31 #[.int .i64 (l.length : Int), .func (.func 32) #[] #[.pointer (some ⟨b1, 0, none⟩), .pointer (some ⟨b2, 0, none⟩)]] w
      fun e w' => e = .returned (.tuple #[.int .i64 (placeN l s.data.toList), .bool (isN l s.data.toList)]) ∧ Below w.heap.size w w' := by
  have H := Lib.hid h
  have HR := Lib.hid hr
  have HL := Lib.hid hl
  obtain ⟨n, hn⟩ : ∃ n, n = l.length := ⟨_, rfl⟩
  rw [← hn] at hl ⊢
  have HN := Lib.hid hn
  obtain ⟨p, hp⟩ : ∃ p, p = placeN l s.data.toList := ⟨_, rfl⟩
  obtain ⟨z, hz⟩ : ∃ z, z = isN l s.data.toList := ⟨_, rfl⟩
  rw [← hp, ← hz]
  have HP := Lib.hid hp
  have HZ := Lib.hid hz
  clear h hr hn hp hz
  go_enter Try.func31, Try.ntmps31
  go_wp2
  go_loopw [4, 5, 6, 7] (SearchRel base B b1 b2 l vs s w) (fun _ _ a b _ => (intOf b - intOf a).toNat)
  case atStart => exact ⟨rfl, rfl, 0, n, rfl, rfl, by omega, by have := HN.out; omega, Below.refl _ _, fun j _ hj => by omega, fun j hj hnj => by have := HN.out; omega⟩
  case round =>
    obtain ⟨rfl, rfl, a, b, rfl, rfl, hab, hbn, hbw, hlo, hhi⟩ := hrel
    rw [← HN.out] at hbn
    by_cases hlt : a < b
    · obtain ⟨m, hm⟩ : ∃ m : Nat, m = a + (b - a) / 2 := ⟨_, rfl⟩
      have hmI : (a : Int) + ((b : Int) - (a : Int)) / 2 = (m : Int) := by omega
      have hma : a ≤ m := by omega
      have hmb : m < b := by omega
      have hmn : m < l.length := by rw [← HN.out]; omega
      have C1 := Lib.hid (dict_look base B b1 b2 m l vs s wr (H.out.below hbw) hmn HL.out)
      have d1 : decide ((a : Int) < (b : Int)) = true := decide_eq_true (by omega)
      have d1' : decide (a < b) = true := decide_eq_true hlt
      have i1 : (0 : Int) ≤ (b : Int) - (a : Int) := by omega
      have i2 : (b : Int) - (a : Int) ≤ 1073741824 := by omega
      have i3 : (0 : Int) ≤ (m : Int) := by omega
      have i4 : (m : Int) ≤ 1073741824 := by omega
      have i5 : (a : Int) ≤ 1073741824 := by omega
      have HLO := Lib.hid hlo
      have HHI := Lib.hid hhi
      clear hm hlo hhi
      rcases nm_tri l[m] s.data.toList with hlt' | heq | hgt
      · have hc : cmpN l[m] s.data.toList = -1 := by simp [cmpN, hlt']
        rw [hc] at C1
        have HLO2 : Hid (∀ j (hj : j < l.length), j < m + 1 → l[j] < s.data.toList) := Lib.hid fun j hj hjm => by
          by_cases e : j = m
          · subst e; exact hlt'
          · exact nm_trans (rise_at HR.out hmn (by omega)) hlt'
        clear hc hlt'
        go_wp2_with (go_at_call 32; refine (C1.out).mono ?_; rintro e w' ⟨rfl, q, rfl⟩)
        go_roundw
        case rel => exact ⟨rfl, rfl, m + 1, b, by go_num, rfl, by omega, by rw [← HN.out]; omega, hbw.trans ⟨rfl, rfl, rfl, Nat.le_refl _, fun _ _ => rfl⟩, HLO2.out, HHI.out⟩
        case measure => simp [intOf]; omega
      · have hc : cmpN l[m] s.data.toList = 0 := by
          unfold cmpN
          rw [if_neg (by rw [heq]; exact nm_irrefl _), if_pos heq]
        rw [hc] at C1
        have hf := found_of hmn (fun j hj hjm => by have := rise_at HR.out hmn hjm; rwa [heq] at this) heq
        have hpm : p = m := by rw [HP.out]; exact hf.1
        have hzt : z = true := by rw [HZ.out]; exact hf.2
        subst hpm hzt
        clear hc heq hf
        go_wp2_with (go_at_call 32; refine (C1.out).mono ?_; rintro e w' ⟨rfl, q, rfl⟩)
        go_ret2
        exact ⟨rfl, hbw.trans ⟨rfl, rfl, rfl, Nat.le_refl _, fun _ _ => rfl⟩⟩
      · have hc : cmpN l[m] s.data.toList = 1 := by
          unfold cmpN
          rw [if_neg (nm_asym hgt), if_neg (nm_ne hgt).symm]
        rw [hc] at C1
        have HHI2 : Hid (∀ j (hj : j < l.length), m ≤ j → s.data.toList < l[j]) := Lib.hid fun j hj hjm => by
          by_cases e : m = j
          · subst e; exact hgt
          · exact nm_trans hgt (rise_at HR.out hj (by omega))
        clear hc hgt
        go_wp2_with (go_at_call 32; refine (C1.out).mono ?_; rintro e w' ⟨rfl, q, rfl⟩)
        go_roundw
        case rel => exact ⟨rfl, rfl, a, m, rfl, rfl, by omega, by rw [← HN.out]; omega, hbw.trans ⟨rfl, rfl, rfl, Nat.le_refl _, fun _ _ => rfl⟩, HLO.out, HHI2.out⟩
        case measure => simp [intOf]; omega
    · have hab2 : a = b := by omega
      subst hab2
      have hmi := missed_of (s := s.data.toList) (by rw [← HN.out]; omega) hlo (fun h => hhi a h (Nat.le_refl _))
      have hpm : p = a := by rw [HP.out]; exact hmi.1
      have hzt : z = false := by rw [HZ.out]; exact hmi.2
      subst hpm hzt
      clear hlo hhi hmi hlt
      go_wp2
      go_ret2
      exact ⟨rfl, hbw⟩

set_option maxHeartbeats 1000000 in
set_option maxRecDepth 100000 in
theorem dict_Place (base B : Nat) (l : List Nm) (vs : List Int) (s : ByteArray) (w : World) (h : DictAt w base B l vs) (hr : Rise l) (hl : l.length ≤ 1073741824) :
    Calls Try.prog 19 #[.pointer (some ⟨B, 0, none⟩), .string s] w fun e w' => e = .returned (.tuple #[.int .i64 (placeN l s.data.toList), .bool (isN l s.data.toList)]) ∧ Below w.heap.size w w' := by
  obtain ⟨w2, hw2⟩ : ∃ w2, w2 = (w.alloc (.cells #[.pointer (some ⟨B, 0, none⟩)] 25)).alloc (.cells #[.string s] 9) := ⟨_, rfl⟩
  have hb2 : Below w.heap.size w w2 := by rw [hw2]; exact ((Below.refl _ _).alloc (Nat.le_refl _) _).alloc (by simp) _
  have hlk : LookAt base B w.heap.size (w.heap.size + 1) l vs s w2 := by
    refine ⟨h.below hb2, ?_, ?_⟩
    · rw [hw2, Below.heap_alloc _ _ _ (by simp)]; exact heap_alloc_new w _
    · rw [hw2]; have := heap_alloc_new (w.alloc (.cells #[.pointer (some ⟨B, 0, none⟩)] 25)) (.cells #[.string s] 9); simpa using this
  have C1 := Lib.hid (dict_Len base B l vs w2 hlk.dict)
  have C2 := Lib.hid (dict_search base B _ _ l vs s w2 hlk hr hl)
  have HB := Lib.hid hb2
  have cv := cell_of_one hlk.var
  obtain ⟨n, hn⟩ : ∃ n, n = l.length := ⟨_, rfl⟩
  rw [← hn] at C1 C2
  obtain ⟨p, hp⟩ : ∃ p, p = placeN l s.data.toList := ⟨_, rfl⟩
  obtain ⟨z, hz⟩ : ∃ z, z = isN l s.data.toList := ⟨_, rfl⟩
  rw [← hp, ← hz] at C2
  rw [← hp, ← hz]
  have HW2 := Lib.hid hw2
  clear hp hz hn h hr hl hb2 hlk hw2
  go_enter Try.func19, Try.ntmps19
  go_wp2_with (first
    | (go_at_call 15; rw [← HW2.out]; refine (C1.out).mono ?_; rintro e w' ⟨rfl, rfl⟩)
    | (go_at_call 31; refine (C2.out).mono ?_; rintro e w' ⟨rfl, hb⟩))
  go_ret2
  exact ⟨rfl, HB.out.trans (hb.mono HB.out.size)⟩

set_option maxHeartbeats 1000000 in
set_option maxRecDepth 100000 in
theorem dict_Find (base B : Nat) (l : List Nm) (vs : List Int) (s : ByteArray) (w : World) (h : DictAt w base B l vs) (hr : Rise l) (hl : l.length ≤ 1073741824) :
    Calls Try.prog 21 #[.pointer (some ⟨B, 0, none⟩), .string s] w
      fun e w' => e = .returned (.tuple #[.int .i64 (if isN l s.data.toList = true then vs.getD (placeN l s.data.toList) 0 else 0), .bool (isN l s.data.toList)]) ∧ Below w.heap.size w w' := by
  have c1 := dict_Place base B l vs s w h hr hl
  have hfd := isN_found (l := l) (s := s.data.toList)
  obtain ⟨p, hp⟩ : ∃ p, p = placeN l s.data.toList := ⟨_, rfl⟩
  obtain ⟨z, hz⟩ : ∃ z, z = isN l s.data.toList := ⟨_, rfl⟩
  rw [← hp, ← hz] at c1 ⊢
  rw [← hz] at hfd
  cases z with
  | true =>
    have hpl : p < l.length := by rw [hp]; exact (hfd rfl).1
    have H := Lib.hid h
    have C1 := Lib.hid c1
    have HPL := Lib.hid hpl
    rw [if_pos rfl]
    obtain ⟨y, hy⟩ : ∃ y, y = vs.getD p 0 := ⟨_, rfl⟩
    rw [← hy]
    have HY := Lib.hid hy
    obtain ⟨n, hn⟩ : ∃ n, n = l.length := ⟨_, rfl⟩
    have HN := Lib.hid hn
    rw [← hn] at hl hpl
    have k2 : (0 : Int) ≤ (p : Int) := by omega
    have k3 : (p : Int) < (n : Int) := by omega
    clear h c1 hfd hp hz hn hy
    go_enter Try.func21, Try.ntmps21
    go_wp2_with (go_at_call 19; refine (C1.out).mono ?_)
    rintro e w1 ⟨rfl, hb⟩
    obtain ⟨b, off, c, h1, h2, h3, h4, h5, h6⟩ := (H.out.below hb).ent HPL.out
    rw [← HN.out] at h1 h2
    rw [← HY.out] at h6
    have HB := Lib.hid hb
    clear h5 hb
    go_wp2
    go_ret2
    exact ⟨rfl, HB.out⟩
  | false =>
    have C1 := Lib.hid c1
    rw [if_neg (by decide)]
    clear h c1 hfd hp hz
    go_enter Try.func21, Try.ntmps21
    go_wp2_with (go_at_call 19; refine (C1.out).mono ?_; rintro e w1 ⟨rfl, hb⟩)
    go_ret2
    exact ⟨rfl, hb⟩
end Go.Proofs.Ytebdnjfohahpgaa
