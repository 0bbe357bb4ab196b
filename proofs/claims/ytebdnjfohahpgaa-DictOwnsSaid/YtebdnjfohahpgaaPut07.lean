/- What the document's Put answers: the names with one more, where it belongs, if it is not there. -/
import Derived.Test.YtebdnjfohahpgaaPlace07
import Derived.Deep.RegionHeld3
import Derived.Deep.AppendLies
namespace Go.Proofs.Ytebdnjfohahpgaa
open Go Go.RowKit
set_option linter.unusedVariables false

def PutGot07 (base : Nat) (l : List Nm) (w : World) (e : Ending) (w' : World) : Prop := ∃ v, e = .returned v ∧ OwnNm base w' v l ∧ Below w.heap.size w w'
theorem strs_append (a b : List Nm) : strs (a ++ b) = strs a ++ strs b := by simp [strs]
theorem Row.dropped {w : World} {B b off : Nat} {l : List Nm} (h : Row w B (some ⟨b, off, none⟩) (strs l)) (k : Nat) : Row w B (some ⟨b, off + k, none⟩) (strs (l.drop k)) := by
  rcases h with h | ⟨b', o', e, hb, hc⟩
  · refine .inl ?_
    have : l = [] := by simpa [strs] using h
    simp [this, strs]
  · injection e with e
    injection e with e1 e2
    subst e1 e2
    refine .inr ⟨b, off + k, rfl, hb, fun j u hu => ?_⟩
    have := hc (k + j) u (by rw [← hu]; simp [strs])
    rwa [← Nat.add_assoc] at this
theorem strs_one (base : Nat) (s : ByteArray) : ∀ u ∈ [Value.string s], u.oneCell' = true := by intro u hu; simp at hu; subst hu; rfl
theorem strs_oneCell (l : List Nm) : ∀ u ∈ strs l, u.oneCell' = true := by
  intro u hu
  obtain ⟨x, _, rfl⟩ := List.mem_map.1 hu
  rfl

/-- append of texts that lie in some row onto a list of texts of the call's own. -/
theorem wpList_append_nm {ops : Array Oper} {rest : List Oper} {o : Oper} {a : Act} {Q : Exit → Act → World → Prop} (w : World) (hgd : o.guard = none) (s x : Operand)
    (ho : o.op = .call { callee := .builtin .append, args := #[s, x], argTypes := #[22, 22] })
    (base : Nat) (v : Value) (l : List Nm) (hs : a.eval s = v) (hown : OwnNm base w v l) (A : Option Addr) (m c : Nat) (news : List Nm) (hx : a.eval x = .slice A m c) (hl : news.length = m) (hr : Row w w.heap.size A (strs news))
    (hlen : l.length + m ≤ 1073741824) (hbase : base ≤ w.heap.size)
    (h : ∀ v' w', OwnNm base w' v' (l ++ news) → Below base w w' → wpList Try.prog ops Q rest (a.put o.dst v') w') : wpList Try.prog ops Q (o :: rest) a w := by
  obtain ⟨i0, hi0, hz0, hz1, hz2⟩ := info_parts info_string
  refine wpList_append_row w hgd s x 22 ho base 9 i0 _ 1 16 Try.underlying22 hi0 hz0 hz1 hz2 rfl (by decide) v l.length (strs l) hs hown w.heap.size A m c (strs news) hx (by rw [strs_length]; omega) hr (strs_oneCell _) (by unfold maxLen; omega) (by omega) hbase fun v' w' h1 h2 => h v' w' ?_ ?_
  · unfold OwnNm
    rw [List.length_append, hl, strs_append]
    exact h1
  · exact (Below.refl base w).grown h2 hbase fun k hk => (hown.lt k hk).1
/-- A text that was just laid in a block of its own. -/
theorem row_new (w : World) (x : Nm) : Row (w.alloc (.cells #[.string ⟨x.toArray⟩] 9)) (w.alloc (.cells #[.string ⟨x.toArray⟩] 9)).heap.size (some ⟨w.heap.size, 0, none⟩) (strs [x]) := by
  refine .inr ⟨w.heap.size, 0, rfl, by simp, fun j u hu => ?_⟩
  have := news_at w (strs [x]) 9 j u hu
  rw [Addr.add_lit] at this
  exact this

theorem Row.later {w w' : World} {A : Option Addr} {xs : List Value} (h : Row w w.heap.size A xs) (hb : Below w.heap.size w w') : Row w' w'.heap.size A xs := (h.below hb).more hb.size

set_option maxHeartbeats 2000000 in
set_option maxRecDepth 100000 in
theorem ref_Put07 (base : Nat) (v : Value) (l : List Nm) (s : ByteArray) (w : World) (ho : OwnNm base w v l) (hb : base ≤ w.heap.size) (hl : l.length ≤ 1048576) :
    Calls Try.prog 30 #[v, .string s] w (PutGot07 base (putN l s.data.toList) w) := by
  obtain ⟨A, c, rfl, hnc, hrow⟩ := ho.row
  have HO := Lib.hid ho
  have HR := Lib.hid hrow
  obtain ⟨n, hn⟩ : ∃ n, n = l.length := ⟨_, rfl⟩
  have c1 := ref_Place07 A l.length c l s w hrow rfl (by omega)
  have hple := placeN_le l s.data.toList
  have hpn := putN_not (l := l) (s := s.data.toList)
  have hpi := putN_is (l := l) (s := s.data.toList)
  obtain ⟨p, hp⟩ : ∃ p, p = placeN l s.data.toList := ⟨_, rfl⟩
  obtain ⟨z, hz⟩ : ∃ z, z = isN l s.data.toList := ⟨_, rfl⟩
  rw [← hp, ← hz, ← hn] at c1
  rw [← hp, ← hz] at hpn
  rw [← hp] at hple
  rw [← hz] at hpi
  rw [← hn] at hnc
  rw [← hn]
  have hlc : c ≤ maxLen := by
    rcases ho.2 with ⟨h0, _⟩ | ⟨g, cap, cur, hv, _, _, _, h5, _⟩
    · injection h0 with _ _ h0; omega
    · injection hv with _ _ hv; omega
  unfold maxLen at hlc
  cases z with
  | true =>
    rw [hpi rfl]
    have C1 := Lib.hid c1
    have HN := Lib.hid hn
    clear hpn hpi hp hz c1 hn hrow ho
    go_enter Try.func30, Try.ntmps30
    go_wp2_with (go_at_call 20; refine (C1.out).mono ?_; rintro e w1 ⟨rfl, hb1⟩)
    go_ret
    refine ⟨_, rfl, ?_, hb1⟩
    rw [HN.out]
    exact HO.out.below hb1
  | false =>
    obtain ⟨x, hx⟩ : ∃ x : Nm, x = s.data.toList := ⟨_, rfl⟩
    have hs : s = ⟨x.toArray⟩ := by rw [hx]
    rw [← hx] at hpn
    rw [← hx]
    have e1 := hpn rfl
    have HE := Lib.hid e1
    have hpl : p ≤ n := by omega
    have HNL := Lib.hid hn
    have C1 := Lib.hid c1
    clear hpn hpi hp hz c1 hn hrow e1 ho hple
    have hE := HNL.out
    have HTL : Hid ((l.take p).length = p) := Lib.hid (by rw [List.length_take]; omega)
    have HDL : Hid ((l.drop p).length = n - p) := Lib.hid (by rw [List.length_drop]; omega)
    have HLE2 : Hid (([] ++ l.take p).length + 1 ≤ 1073741824) := Lib.hid (by simp; omega)
    have HLE3 : Hid (([] ++ l.take p ++ [x]).length + (n - p) ≤ 1073741824) := Lib.hid (by simp; omega)
    have hn2 : n ≤ 1048576 := by omega
    subst hs
    clear hE hx hl
    rcases HO.out.2 with ⟨h0, _⟩ | ⟨g, cap, cur, hv, _⟩
    · injection h0 with hA h0 hc
      subst hA hc
      have hn0 : n = 0 := by omega
      have hp0 : p = 0 := by omega
      subst hn0 hp0
      go_enter Try.func30, Try.ntmps30
      go_wp2_with (first
        | (go_at_call 20; refine (C1.out).mono ?_; rintro e w1 ⟨rfl, hb1⟩; have HB1 := Lib.hid hb1; clear hb1)
        | (at_builtin; refine wpList_append_nm _ rfl (.tmp 16) (.tmp 19) rfl w.heap.size _ [] rfl OwnNm.nil none 0 0 (l.take 0) rfl HTL.out ((show Row w w.heap.size none (strs (l.take 0)) from .inl (by simp [strs])).later HB1.out) (by simp <;> omega) HB1.out.size ?_
           intro v1 w2 ho2 hb2
           have HO2 := Lib.hid ho2
           have HB2 := Lib.hid (HB1.out.trans hb2)
           clear ho2 hb2)
        | (at_builtin; refine wpList_append_nm _ rfl (.tmp 21) (.tmp 23) rfl w.heap.size _ ([] ++ l.take 0) rfl (HO2.out.below ((Below.refl _ _).alloc (Nat.le_refl _) _)) _ 1 1 [x] rfl rfl (row_new _ x) HLE2.out (by have := HB2.out.size; simp; omega) ?_
           intro v2 w3 ho3 hb3
           have HO3 := Lib.hid ho3
           have HB3 := Lib.hid (HB2.out.trans (((Below.refl _ _).alloc (Nat.le_refl _) _).mono HB2.out.size |>.trans hb3))
           clear ho3 hb3)
        | (at_builtin; refine wpList_append_nm _ rfl (.tmp 25) (.tmp 28) rfl w.heap.size _ ([] ++ l.take 0 ++ [x]) rfl HO3.out none 0 0 (l.drop 0) rfl (by have := HDL.out; omega) ((show Row w w.heap.size none (strs (l.drop 0)) from .inl (by rw [List.eq_nil_of_length_eq_zero HNL.out.symm]; rfl)).later HB3.out) (by have := HLE3.out; omega) HB3.out.size ?_
           intro v3 w4 ho4 hb4
           have HO4 := Lib.hid ho4
           have HB4 := Lib.hid (HB3.out.trans hb4)
           clear ho4 hb4))
      go_ret
      refine ⟨_, rfl, ?_, HB4.out⟩
      rw [HE.out]
      exact (by simpa using HO4.out : OwnNm w.heap.size w4 v3 _).low hb
    · injection hv with hA h0 hc
      subst hA
      clear h0 hc
      have HRT : Hid (Row w w.heap.size (some ⟨g, 0, none⟩) (strs (l.take p))) := Lib.hid (by have := HR.out.cut p; rwa [show (strs l).take p = strs (l.take p) by simp [strs, List.map_take]] at this)
      by_cases hcp : c = p
      · have HRD : Hid (Row w w.heap.size (some ⟨g, 0, none⟩) (strs (l.drop p))) := Lib.hid (.inl (by rw [List.drop_of_length_le (by have := HNL.out; omega)]; rfl))
        have hcp' := hcp.symm
        clear hcp
        subst hcp'
        go_enter Try.func30, Try.ntmps30
        go_wp2_with (first
          | (go_at_call 20; refine (C1.out).mono ?_; rintro e w1 ⟨rfl, hb1⟩; have HB1 := Lib.hid hb1; clear hb1)
          | (at_builtin; refine wpList_append_nm _ rfl (.tmp 16) (.tmp 19) rfl w.heap.size _ [] rfl OwnNm.nil (some ⟨g, 0, none⟩) p _ (l.take p) rfl HTL.out ((HRT.out).later HB1.out) (by simp <;> omega) HB1.out.size ?_
             intro v1 w2 ho2 hb2
             have HO2 := Lib.hid ho2
             have HB2 := Lib.hid (HB1.out.trans hb2)
             clear ho2 hb2)
          | (at_builtin; refine wpList_append_nm _ rfl (.tmp 21) (.tmp 23) rfl w.heap.size _ ([] ++ l.take p) rfl (HO2.out.below ((Below.refl _ _).alloc (Nat.le_refl _) _)) _ 1 1 [x] rfl rfl (row_new _ x) HLE2.out (by have := HB2.out.size; simp; omega) ?_
             intro v2 w3 ho3 hb3
             have HO3 := Lib.hid ho3
             have HB3 := Lib.hid (HB2.out.trans (((Below.refl _ _).alloc (Nat.le_refl _) _).mono HB2.out.size |>.trans hb3))
             clear ho3 hb3)
          | (at_builtin; refine wpList_append_nm _ rfl (.tmp 25) (.tmp 28) rfl w.heap.size _ ([] ++ l.take p ++ [x]) rfl HO3.out _ _ _ (l.drop p) rfl (by have := HDL.out; omega) ((HRD.out).later HB3.out) (by have := HLE3.out; omega) HB3.out.size ?_
             intro v3 w4 ho4 hb4
             have HO4 := Lib.hid ho4
             have HB4 := Lib.hid (HB3.out.trans hb4)
             clear ho4 hb4))
        go_ret
        refine ⟨_, rfl, ?_, HB4.out⟩
        rw [HE.out]
        exact (by simpa using HO4.out : OwnNm w.heap.size w4 v3 _).low hb
      · have HRD : Hid (Row w w.heap.size (some ⟨g, p, none⟩) (strs (l.drop p))) := Lib.hid (by have := HR.out.dropped p; rwa [Nat.zero_add] at this)
        have hcp1 : p < c := by omega
        go_enter Try.func30, Try.ntmps30
        go_wp2_with (first
          | (go_at_call 20; refine (C1.out).mono ?_; rintro e w1 ⟨rfl, hb1⟩; have HB1 := Lib.hid hb1; clear hb1)
          | (at_builtin; refine wpList_append_nm _ rfl (.tmp 16) (.tmp 19) rfl w.heap.size _ [] rfl OwnNm.nil (some ⟨g, 0, none⟩) p _ (l.take p) rfl HTL.out ((HRT.out).later HB1.out) (by simp <;> omega) HB1.out.size ?_
             intro v1 w2 ho2 hb2
             have HO2 := Lib.hid ho2
             have HB2 := Lib.hid (HB1.out.trans hb2)
             clear ho2 hb2)
          | (at_builtin; refine wpList_append_nm _ rfl (.tmp 21) (.tmp 23) rfl w.heap.size _ ([] ++ l.take p) rfl (HO2.out.below ((Below.refl _ _).alloc (Nat.le_refl _) _)) _ 1 1 [x] rfl rfl (row_new _ x) HLE2.out (by have := HB2.out.size; simp; omega) ?_
             intro v2 w3 ho3 hb3
             have HO3 := Lib.hid ho3
             have HB3 := Lib.hid (HB2.out.trans (((Below.refl _ _).alloc (Nat.le_refl _) _).mono HB2.out.size |>.trans hb3))
             clear ho3 hb3)
          | (at_builtin; refine wpList_append_nm _ rfl (.tmp 25) (.tmp 28) rfl w.heap.size _ ([] ++ l.take p ++ [x]) rfl HO3.out _ _ _ (l.drop p) rfl (by have := HDL.out; omega) ((HRD.out).later HB3.out) (by have := HLE3.out; omega) HB3.out.size ?_
             intro v3 w4 ho4 hb4
             have HO4 := Lib.hid ho4
             have HB4 := Lib.hid (HB3.out.trans hb4)
             clear ho4 hb4))
        go_ret
        refine ⟨_, rfl, ?_, HB4.out⟩
        rw [HE.out]
        exact (by simpa using HO4.out : OwnNm w.heap.size w4 v3 _).low hb
end Go.Proofs.Ytebdnjfohahpgaa
