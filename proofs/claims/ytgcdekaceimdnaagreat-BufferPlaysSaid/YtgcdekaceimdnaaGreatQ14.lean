/- Texts laid together: GoodR08, PlaceR07, Put07, Keys09. -/
import Derived.Test.YtgcdekaceimdnaaGreatQ06
import Derived.Test.YtgcdekaceimdnaaGreatQ13
import Derived.Shelf.SlSorted.Search
import Derived.Test.YtgcdekaceimdnaaGreatQ05
import Derived.BigCall
import Derived.BigQuiet
import Derived.Deep.QuietTactic
import Derived.Deep.RegionHeld3
import Derived.Deep.AppendLies
import Derived.Test.YtgcdekaceimdnaaGreatNest09
import Derived.Test.YtgcdekaceimdnaaGreatQ04

/- What the document's own answers are of a small document that may be. -/
set_option linter.unusedVariables false
namespace Go.Proofs.YtgcdekaceimdnaaGreat
open Go Go.RowKit

section
variable {id : Int} {A : Option Addr} {n c : Nat} {l : List Fd} {w : World}
theorem good_words (hg : GoodF l) (hl : l.length = n) (hr : FRow w w.heap.size A l) (s : ByteArray) : Calls Tryz.prog 58 #[docV id A n c, .string s] w (GaveStrs (wordsD l s.data.toList) w) :=
  ref08_Words id A n c l s w hl hr (by have := hg.len; omega) (fun f hf => by have := hg.texts f hf; omega)
theorem good_terms (hg : GoodF l) (hl : l.length = n) (hr : FRow w w.heap.size A l) : Calls Tryz.prog 50 #[docV id A n c] w (GaveTms (termsD l) w) :=
  ref08_Terms id A n c l w hl hr (by have := hg.len; omega) (fun f hf => by have := hg.names f hf; have := hg.texts f hf; omega) (fun s => by have := hg.wordsS s; omega)
theorem good_rplaces (hg : GoodF l) (hl : l.length = n) (hr : FRow w w.heap.size A l) (f x : ByteArray) : Calls Tryz.prog 54 #[docV id A n c, .agg #[.string f, .string x]] w (GaveInts (placesD l (f.data.toList, x.data.toList)) w) :=
  ref08_Places id A n c l f x w hl hr (by have := hg.len; omega) (fun f hf => by have := hg.texts f hf; omega) (fun s => by have := hg.wordsS s; omega)
theorem good_rweight (hg : GoodF l) (hl : l.length = n) (hr : FRow w w.heap.size A l) : Calls Tryz.prog 41 #[docV id A n c] w fun e w' => e = .returned (.int .i64 (weightD l : Int)) ∧ Below w.heap.size w w' :=
  ref08_Weight id A n c l w hl hr (by have := hg.len; omega) (fun f hf => by have := hg.texts f hf; omega) (fun s => by have := hg.wordsS s; omega)
end
end Go.Proofs.YtgcdekaceimdnaaGreat

/- What the document's Place answers. -/
namespace Go.Proofs.YtgcdekaceimdnaaGreat
open Go Go.RowKit
set_option linter.unusedVariables false

def PlaceRel (l : List Nm) (s : Nm) (w : World) (a b i : Value) (wr : World) : Prop := a = .int .i64 0 ∧ b = .bool false ∧ ∃ k : Nat, k ≤ l.length ∧ i = .int .i64 (k : Int) ∧ Below w.heap.size w wr ∧ ∀ j (hj : j < l.length), j < k → l[j] < s

set_option maxHeartbeats 1000000 in
set_option maxRecDepth 100000 in
theorem ref_Place07 (A : Option Addr) (m c : Nat) (l : List Nm) (s : ByteArray) (w : World) (hr : Row w w.heap.size A (strs l)) (hm : l.length = m) (hl : m ≤ 1073741824) :
    Calls Tryz.prog 72 #[.slice A m c, .string s] w fun e w' => e = .returned (.tuple #[.int .i64 (placeN l s.data.toList), .bool (isN l s.data.toList)]) ∧ Below w.heap.size w w' := by
  have HR := Lib.hid hr
  clear hr
  subst hm
  obtain ⟨p, hp⟩ : ∃ p, p = placeN l s.data.toList := ⟨_, rfl⟩
  obtain ⟨z, hz⟩ : ∃ z, z = isN l s.data.toList := ⟨_, rfl⟩
  rw [← hp, ← hz]
  have HP := Lib.hid hp
  have HZ := Lib.hid hz
  clear hp hz
  go_enter Tryz.func72, Tryz.ntmps72
  go_wp2
  go_loopw [4, 5, 6] (fun a b i wr => PlaceRel l s.data.toList w a b i wr) (fun _ _ i _ => l.length - (intOf i).toNat)
  case atStart => exact ⟨rfl, rfl, 0, by omega, rfl, Below.refl _ _, fun j _ hj => by omega⟩
  case round =>
    obtain ⟨rfl, rfl, k, hk, rfl, hbw, hall⟩ := hrel
    by_cases hlt : k < l.length
    · obtain ⟨b1, o1, e1, _, hc1⟩ := row_nm (HR.out.below hbw) hlt
      subst e1
      obtain ⟨x, hx, hx2⟩ := as_text l[k]
      rw [← hx] at hc1
      by_cases hxs : l[k] < s.data.toList
      · have t1 := less_true (s := x) (t := s) (by rw [hx2]; exact hxs)
        have HN : Hid (∀ j (hj : j < l.length), j < k + 1 → l[j] < s.data.toList) := Lib.hid fun j hj hjk => by
          by_cases e : j = k
          · subst e; exact hxs
          · exact hall j hj (by omega)
        clear hx hx2 hall hxs
        go_wp2
        go_roundw
        case rel => exact ⟨rfl, rfl, k + 1, by omega, by go_num, hbw, HN.out⟩
        case measure => simp [intOf]; omega
      · have t1 := less_false (s := x) (t := s) (by rw [hx2]; exact hxs)
        have hpk : p = k := by rw [HP.out]; exact place_of hk hall (fun _ => hxs)
        have hzk : z = (l[k] == s.data.toList) := by
          have e := place_of hk hall (fun _ => hxs)
          rw [HZ.out, isN_at (by omega)]
          simp only [e]
        subst hpk
        by_cases hxe : l[p] = s.data.toList
        · have t2 := same_true (s := x) (t := s) (by rw [hx2]; exact hxe)
          have hz1 : z = true := by rw [hzk, hxe]; exact beq_self_eq_true _
          subst hz1
          clear hx hx2 hall hxs hzk hxe
          go_wp2
          go_quiet (fail)
          go_wp2
          go_ret2
          exact ⟨rfl, hbw.trans ⟨rfl, rfl, rfl, Nat.le_refl _, fun _ _ => rfl⟩⟩
        · have t2 := same_false (s := x) (t := s) (by rw [hx2]; exact hxe)
          have hz1 : z = false := by rw [hzk]; simpa using hxe
          subst hz1
          clear hx hx2 hall hxs hzk hxe
          go_wp2
          go_quiet (fail)
          go_wp2
          go_ret2
          exact ⟨rfl, hbw.trans ⟨rfl, rfl, rfl, Nat.le_refl _, fun _ _ => rfl⟩⟩
    · have hkl : k = l.length := by omega
      have e := place_of (s := s.data.toList) hk hall (fun h => absurd h hlt)
      have hpk : p = l.length := by rw [HP.out, e, hkl]
      have hz1 : z = false := by rw [HZ.out]; exact isN_end (by rw [e, hkl])
      subst hpk hz1
      clear hall e hkl
      go_wp2
      go_ret2
      exact ⟨rfl, hbw⟩
end Go.Proofs.YtgcdekaceimdnaaGreat

/- What the document's Put answers: the names with one more, where it belongs, if it is not there. -/
namespace Go.Proofs.YtgcdekaceimdnaaGreat
open Go Go.RowKit
set_option linter.unusedVariables false

def PutGot07 (base : Nat) (l : List Nm) (w : World) (e : Ending) (w' : World) : Prop := ∃ v, e = .returned v ∧ OwnNm base w' v l ∧ Below w.heap.size w w'
theorem strs_one (base : Nat) (s : ByteArray) : ∀ u ∈ [Value.string s], u.oneCell' = true := by intro u hu; simp at hu; subst hu; rfl
/-- append of texts that lie in some row onto a list of texts of the call's own. -/
theorem wpList_append_nm {ops : Array Oper} {rest : List Oper} {o : Oper} {a : Act} {Q : Exit → Act → World → Prop} (w : World) (hgd : o.guard = none) (s x : Operand)
    (ho : o.op = .call { callee := .builtin .append, args := #[s, x], argTypes := #[47, 47] })
    (base : Nat) (v : Value) (l : List Nm) (hs : a.eval s = v) (hown : OwnNm base w v l) (A : Option Addr) (m c : Nat) (news : List Nm) (hx : a.eval x = .slice A m c) (hl : news.length = m) (hr : Row w w.heap.size A (strs news))
    (hlen : l.length + m ≤ 1073741824) (hbase : base ≤ w.heap.size)
    (h : ∀ v' w', OwnNm base w' v' (l ++ news) → Below base w w' → wpList Tryz.prog ops Q rest (a.put o.dst v') w') : wpList Tryz.prog ops Q (o :: rest) a w := by
  obtain ⟨i0, hi0, hz0, hz1, hz2⟩ := info_parts info_string
  refine wpList_append_row w hgd s x 47 ho base 9 i0 _ 1 16 Tryz.underlying47 hi0 hz0 hz1 hz2 rfl (by decide) v l.length (strs l) hs hown w.heap.size A m c (strs news) hx (by rw [strs_length]; omega) hr (strs_oneCell _) (by unfold maxLen; omega) (by omega) hbase fun v' w' h1 h2 => h v' w' ?_ ?_
  · unfold OwnNm
    rw [List.length_append, hl, strs_append]
    exact h1
  · exact (Below.refl base w).grown h2 hbase fun k hk => (hown.lt k hk).1
/-- A text that was just laid in a block of its own. -/
theorem row_new (w : World) (x : Nm) : Row (w.alloc (.cells #[.string ⟨x.toArray⟩] 9)) (w.alloc (.cells #[.string ⟨x.toArray⟩] 9)).heap.size (some ⟨w.heap.size, 0, none⟩) (strs [x]) := by
  refine .inr ⟨w.heap.size, 0, rfl, by simp, fun j u hu => ?_⟩
  have := news_at w (strs [x]) 9 j u hu
  rw [Addr.add_lit] at this
  exact this

set_option maxHeartbeats 2000000 in
set_option maxRecDepth 100000 in
theorem ref_Put07 (base : Nat) (v : Value) (l : List Nm) (s : ByteArray) (w : World) (ho : OwnNm base w v l) (hb : base ≤ w.heap.size) (hl : l.length ≤ 1048576) :
    Calls Tryz.prog 51 #[v, .string s] w (PutGot07 base (putN l s.data.toList) w) := by
  obtain ⟨A, c, rfl, hnc, hrow⟩ := ho.row
  have HO := Lib.hid ho
  have HR := Lib.hid hrow
  obtain ⟨n, hn⟩ : ∃ n, n = l.length := ⟨_, rfl⟩
  have c1 := ref_Place07 A l.length c l s w hrow rfl (by omega)
  have hple := placeN_le l s.data.toList
  have hpn := putN_not (l := l) (s := s.data.toList)
  have hpi := putN_is (l := l) (s := s.data.toList)
  obtain ⟨p, hp⟩ : ∃ p, p = placeN l s.data.toList := ⟨_, rfl⟩
  obtain ⟨z, hz⟩ : ∃ z, z = isN l s.data.toList := ⟨_, rfl⟩
  rw [← hp, ← hz, ← hn] at c1
  rw [← hp, ← hz] at hpn
  rw [← hp] at hple
  rw [← hz] at hpi
  rw [← hn] at hnc
  rw [← hn]
  have hlc : c ≤ maxLen := by
    rcases ho.2 with ⟨h0, _⟩ | ⟨g, cap, cur, hv, _, _, _, h5, _⟩
    · injection h0 with _ _ h0; omega
    · injection hv with _ _ hv; omega
  unfold maxLen at hlc
  cases z with
  | true =>
    rw [hpi rfl]
    have C1 := Lib.hid c1
    have HN := Lib.hid hn
    clear hpn hpi hp hz c1 hn hrow ho
    go_enter Tryz.func51, Tryz.ntmps51
    go_wp2_with (go_at_call 72; refine (C1.out).mono ?_; rintro e w1 ⟨rfl, hb1⟩)
    go_ret
    refine ⟨_, rfl, ?_, hb1⟩
    rw [HN.out]
    exact HO.out.below hb1
  | false =>
    obtain ⟨x, hx⟩ : ∃ x : Nm, x = s.data.toList := ⟨_, rfl⟩
    have hs : s = ⟨x.toArray⟩ := by rw [hx]
    rw [← hx] at hpn
    rw [← hx]
    have e1 := hpn rfl
    have HE := Lib.hid e1
    have hpl : p ≤ n := by omega
    have HNL := Lib.hid hn
    have C1 := Lib.hid c1
    clear hpn hpi hp hz c1 hn hrow e1 ho hple
    have hE := HNL.out
    have HTL : Hid ((l.take p).length = p) := Lib.hid (by rw [List.length_take]; omega)
    have HDL : Hid ((l.drop p).length = n - p) := Lib.hid (by rw [List.length_drop]; omega)
    have HLE2 : Hid (([] ++ l.take p).length + 1 ≤ 1073741824) := Lib.hid (by simp; omega)
    have HLE3 : Hid (([] ++ l.take p ++ [x]).length + (n - p) ≤ 1073741824) := Lib.hid (by simp; omega)
    have hn2 : n ≤ 1048576 := by omega
    subst hs
    clear hE hx hl
    rcases HO.out.2 with ⟨h0, _⟩ | ⟨g, cap, cur, hv, _⟩
    · injection h0 with hA h0 hc
      subst hA hc
      have hn0 : n = 0 := by omega
      have hp0 : p = 0 := by omega
      subst hn0 hp0
      go_enter Tryz.func51, Tryz.ntmps51
      go_wp2_with (first
        | (go_at_call 72; refine (C1.out).mono ?_; rintro e w1 ⟨rfl, hb1⟩; have HB1 := Lib.hid hb1; clear hb1)
        | (at_builtin; refine wpList_append_nm _ rfl (.tmp 16) (.tmp 19) rfl w.heap.size _ [] rfl OwnNm.nil none 0 0 (l.take 0) rfl HTL.out ((show Row w w.heap.size none (strs (l.take 0)) from .inl (by simp [strs])).later HB1.out) (by simp <;> omega) HB1.out.size ?_
           intro v1 w2 ho2 hb2
           have HO2 := Lib.hid ho2
           have HB2 := Lib.hid (HB1.out.trans hb2)
           clear ho2 hb2)
        | (at_builtin; refine wpList_append_nm _ rfl (.tmp 21) (.tmp 23) rfl w.heap.size _ ([] ++ l.take 0) rfl (HO2.out.below ((Below.refl _ _).alloc (Nat.le_refl _) _)) _ 1 1 [x] rfl rfl (row_new _ x) HLE2.out (by have := HB2.out.size; simp; omega) ?_
           intro v2 w3 ho3 hb3
           have HO3 := Lib.hid ho3
           have HB3 := Lib.hid (HB2.out.trans (((Below.refl _ _).alloc (Nat.le_refl _) _).mono HB2.out.size |>.trans hb3))
           clear ho3 hb3)
        | (at_builtin; refine wpList_append_nm _ rfl (.tmp 25) (.tmp 28) rfl w.heap.size _ ([] ++ l.take 0 ++ [x]) rfl HO3.out none 0 0 (l.drop 0) rfl (by have := HDL.out; omega) ((show Row w w.heap.size none (strs (l.drop 0)) from .inl (by rw [List.eq_nil_of_length_eq_zero HNL.out.symm]; rfl)).later HB3.out) (by have := HLE3.out; omega) HB3.out.size ?_
           intro v3 w4 ho4 hb4
           have HO4 := Lib.hid ho4
           have HB4 := Lib.hid (HB3.out.trans hb4)
           clear ho4 hb4))
      go_ret
      refine ⟨_, rfl, ?_, HB4.out⟩
      rw [HE.out]
      exact (by simpa using HO4.out : OwnNm w.heap.size w4 v3 _).low hb
    · injection hv with hA h0 hc
      subst hA
      clear h0 hc
      have HRT : Hid (Row w w.heap.size (some ⟨g, 0, none⟩) (strs (l.take p))) := Lib.hid (by have := HR.out.cut p; rwa [show (strs l).take p = strs (l.take p) by simp [strs, List.map_take]] at this)
      by_cases hcp : c = p
      · have HRD : Hid (Row w w.heap.size (some ⟨g, 0, none⟩) (strs (l.drop p))) := Lib.hid (.inl (by rw [List.drop_of_length_le (by have := HNL.out; omega)]; rfl))
        have hcp' := hcp.symm
        clear hcp
        subst hcp'
        go_enter Tryz.func51, Tryz.ntmps51
        go_wp2_with (first
          | (go_at_call 72; refine (C1.out).mono ?_; rintro e w1 ⟨rfl, hb1⟩; have HB1 := Lib.hid hb1; clear hb1)
          | (at_builtin; refine wpList_append_nm _ rfl (.tmp 16) (.tmp 19) rfl w.heap.size _ [] rfl OwnNm.nil (some ⟨g, 0, none⟩) p _ (l.take p) rfl HTL.out ((HRT.out).later HB1.out) (by simp <;> omega) HB1.out.size ?_
             intro v1 w2 ho2 hb2
             have HO2 := Lib.hid ho2
             have HB2 := Lib.hid (HB1.out.trans hb2)
             clear ho2 hb2)
          | (at_builtin; refine wpList_append_nm _ rfl (.tmp 21) (.tmp 23) rfl w.heap.size _ ([] ++ l.take p) rfl (HO2.out.below ((Below.refl _ _).alloc (Nat.le_refl _) _)) _ 1 1 [x] rfl rfl (row_new _ x) HLE2.out (by have := HB2.out.size; simp; omega) ?_
             intro v2 w3 ho3 hb3
             have HO3 := Lib.hid ho3
             have HB3 := Lib.hid (HB2.out.trans (((Below.refl _ _).alloc (Nat.le_refl _) _).mono HB2.out.size |>.trans hb3))
             clear ho3 hb3)
          | (at_builtin; refine wpList_append_nm _ rfl (.tmp 25) (.tmp 28) rfl w.heap.size _ ([] ++ l.take p ++ [x]) rfl HO3.out _ _ _ (l.drop p) rfl (by have := HDL.out; omega) ((HRD.out).later HB3.out) (by have := HLE3.out; omega) HB3.out.size ?_
             intro v3 w4 ho4 hb4
             have HO4 := Lib.hid ho4
             have HB4 := Lib.hid (HB3.out.trans hb4)
             clear ho4 hb4))
        go_ret
        refine ⟨_, rfl, ?_, HB4.out⟩
        rw [HE.out]
        exact (by simpa using HO4.out : OwnNm w.heap.size w4 v3 _).low hb
      · have HRD : Hid (Row w w.heap.size (some ⟨g, p, none⟩) (strs (l.drop p))) := Lib.hid (by have := HR.out.dropped p; rwa [Nat.zero_add] at this)
        have hcp1 : p < c := by omega
        go_enter Tryz.func51, Tryz.ntmps51
        go_wp2_with (first
          | (go_at_call 72; refine (C1.out).mono ?_; rintro e w1 ⟨rfl, hb1⟩; have HB1 := Lib.hid hb1; clear hb1)
          | (at_builtin; refine wpList_append_nm _ rfl (.tmp 16) (.tmp 19) rfl w.heap.size _ [] rfl OwnNm.nil (some ⟨g, 0, none⟩) p _ (l.take p) rfl HTL.out ((HRT.out).later HB1.out) (by simp <;> omega) HB1.out.size ?_
             intro v1 w2 ho2 hb2
             have HO2 := Lib.hid ho2
             have HB2 := Lib.hid (HB1.out.trans hb2)
             clear ho2 hb2)
          | (at_builtin; refine wpList_append_nm _ rfl (.tmp 21) (.tmp 23) rfl w.heap.size _ ([] ++ l.take p) rfl (HO2.out.below ((Below.refl _ _).alloc (Nat.le_refl _) _)) _ 1 1 [x] rfl rfl (row_new _ x) HLE2.out (by have := HB2.out.size; simp; omega) ?_
             intro v2 w3 ho3 hb3
             have HO3 := Lib.hid ho3
             have HB3 := Lib.hid (HB2.out.trans (((Below.refl _ _).alloc (Nat.le_refl _) _).mono HB2.out.size |>.trans hb3))
             clear ho3 hb3)
          | (at_builtin; refine wpList_append_nm _ rfl (.tmp 25) (.tmp 28) rfl w.heap.size _ ([] ++ l.take p ++ [x]) rfl HO3.out _ _ _ (l.drop p) rfl (by have := HDL.out; omega) ((HRD.out).later HB3.out) (by have := HLE3.out; omega) HB3.out.size ?_
             intro v3 w4 ho4 hb4
             have HO4 := Lib.hid ho4
             have HB4 := Lib.hid (HB3.out.trans hb4)
             clear ho4 hb4))
        go_ret
        refine ⟨_, rfl, ?_, HB4.out⟩
        rw [HE.out]
        exact (by simpa using HO4.out : OwnNm w.heap.size w4 v3 _).low hb
end Go.Proofs.YtgcdekaceimdnaaGreat

/- What the document's Keys of entries answers. -/
namespace Go.Proofs.YtgcdekaceimdnaaGreat
open Go Go.RowKit
set_option linter.unusedVariables false

theorem terms_len9 {d : List Fd} (h : GoodF d) : (termsD d).length ≤ 4000 := by
  have h1 := termsUp_length (l := d) (M := 500) h.wordsS d.length (Nat.le_refl _)
  rw [termsUp_all] at h1
  exact Nat.le_trans h1 (Nat.le_trans (Nat.mul_le_mul_right _ h.len) (by omega))
theorem term_fits9 {d : List Fd} (h : GoodF d) {t : Tm} (ht : t ∈ termsD d) : t.1.length ≤ 12 ∧ t.2.length ≤ 4096 := by
  obtain ⟨f, hf, h1, h2⟩ := (tellD_mem t d).1 ((termsD_mem h.apart t).1 ht)
  have := h.names f hf
  have := h.texts f hf
  have := words_size h2
  rw [h1]
  omega
def KeysRel09 (l : List En) (w : World) (o i : Value) (wr : World) : Prop := ∃ (k : Nat) (vo : Value), vo = o ∧ k ≤ l.length ∧ i = .int .i64 (k : Int) ∧ OwnNm w.heap.size wr vo (keysE (l.take k)) ∧ Below w.heap.size w wr
def KeysRel9 (a : List Nm) (ts : List Tm) (b : Nat) (w2 : World) (o i : Value) (wi : World) : Prop := ∃ (j : Nat) (vo : Value), vo = o ∧ j ≤ ts.length ∧ i = .int .i64 (j : Int) ∧ OwnNm b wi vo (keysIn a (ts.take j)) ∧ Below w2.heap.size w2 wi
set_option maxHeartbeats 2000000 in
set_option maxRecDepth 100000 in
theorem ref09_Keys (A : Option Addr) (n c : Nat) (l : List En) (w : World) (hl : l.length = n) (hr : Nest enS w w.heap.size A l) (hg : GoodE l) (hn : n ≤ 100) :
    Calls Tryz.prog 32 #[.slice A n c] w (GaveNm (keysE l) w) := by
  have HR := Lib.hid hr
  have HG := Lib.hid hg
  have HL := Lib.hid hl
  clear hr hg hl
  go_enter Tryz.func32, Tryz.ntmps32
  go_wp2
  go_loopw [3, 4, 5, 6] (fun o i t j wr => KeysRel09 l w o i wr) (fun _ i _ _ _ => n - (intOf i).toNat)
  case atStart => exact ⟨0, _, rfl, Nat.zero_le _, rfl, OwnNm.nil, Below.refl _ _⟩
  case round =>
    obtain ⟨k, vo, rfl, hk, rfl, hown, hbw⟩ := hrel
    by_cases hlt : k < n
    · have hkl : k < l.length := by rw [HL.out]; exact hlt
      have hnr := Nest.later HR.out hbw
      obtain ⟨b, off, A', c', e1, _, g1, g2, _, _, _, hfr⟩ := enS_at hnr hkl
      subst e1
      have hkt := keysE_take hkl
      have hgk := HG.out _ (List.getElem_mem hkl)
      have HC := Lib.hid (good_terms (id := l[k].1) (c := c') hgk rfl hfr)
      have hbnd : (keysE (l.take k)).length ≤ 400000 := by
        have h1 := keysE_length (l := l.take k) (a := []) (M := 4000) fun q hq => terms_len9 (HG.out q (List.mem_of_mem_take hq))
        rw [List.length_take] at h1
        have h2 : min k l.length * 4000 ≤ 100 * 4000 := Nat.mul_le_mul_right _ (by omega)
        have h3 : (keysE (l.take k)).length ≤ min k l.length * 4000 + ([] : List Nm).length := h1
        simp only [List.length_nil] at h3
        omega
      obtain ⟨m, hm⟩ : ∃ m, m = l[k].2.1.length := ⟨_, rfl⟩
      obtain ⟨q, hq⟩ : ∃ q, q = l[k].1 := ⟨_, rfl⟩
      have hfits : ∀ t ∈ termsD l[k].2.1, t.1.length ≤ 12 ∧ t.2.length ≤ 4096 := fun t ht => term_fits9 hgk ht
      have htl := terms_len9 hgk
      obtain ⟨ts, hts⟩ : ∃ ts, ts = termsD l[k].2.1 := ⟨_, rfl⟩
      obtain ⟨a, ha⟩ : ∃ a, a = keysE (l.take k) := ⟨_, rfl⟩
      rw [← hm, ← hq, ← hts] at HC
      rw [← hm] at g2
      rw [← hq] at g1
      rw [← ha] at hown hbnd
      rw [← ha, ← hts] at hkt
      rw [← hts] at hfits htl
      have HFT := Lib.hid hfits
      have HKT := Lib.hid hkt
      have HOW := Lib.hid hown
      have i0 : (0 : Int) ≤ k := by omega
      have i1 : (k : Int) < n := by omega
      clear hnr hfr hm hts ha hq hkt hfits hown hgk
      go_wp2_with (go_at_call 50; (with_reducible refine HC.out.mono ?_); rintro e w2 ⟨v2, rfl, ho2, hb2⟩)
      obtain ⟨A2, c2, rfl, _, hr2⟩ := ho2.row
      obtain ⟨N, hN⟩ : ∃ N, N = ts.length := ⟨_, rfl⟩
      rw [← hN] at htl ⊢
      have HN := Lib.hid hN
      have HR2 := Lib.hid hr2
      have HB2 := Lib.hid (hbw.trans (hb2.mono hbw.size))
      have HOW2 := Lib.hid (HOW.out.below hb2)
      clear ho2 hr2 hb2 hN
      go_wp2
      go_loopw [3, 6] (fun o i wi => KeysRel9 a ts w.heap.size w2 o i wi) (fun _ i _ => N - (intOf i).toNat)
      case atStart => exact ⟨0, _, rfl, Nat.zero_le _, rfl, HOW2.out, Below.refl _ _⟩
      case round =>
        obtain ⟨j, vi, rfl, hj, rfl, howi, hbi⟩ := hrel
        by_cases hjt : j < N
        · have hjl : j < ts.length := by rw [← HN.out]; exact hjt
          obtain ⟨b4, o4, e4, _, hx4, hy4⟩ := (FRow.later HR2.out hbi).at_ hjl
          subst e4
          obtain ⟨x, hx, hx2⟩ := as_text ts[j].1
          obtain ⟨y, hy, hy2⟩ := as_text ts[j].2
          rw [← hx] at hx4
          rw [← hy] at hy4
          have hf := HFT.out _ (List.getElem_mem hjl)
          have hkj := keysIn_take (a := a) hjl
          have hlen := keysIn_length a (ts.take j)
          rw [List.length_take] at hlen
          have CK := Lib.hid (fun w' => ref_Key x y w' (by rw [hx, size_nm]; omega) (by rw [hy, size_nm]; omega))
          have hkey : (keyB x y).data.toList = keyT ts[j] := by rw [keyB_list, hx2, hy2]; rfl
          obtain ⟨z, hz⟩ : ∃ z, z = keyB x y := ⟨_, rfl⟩
          rw [← hz] at CK hkey
          have hsi := Nat.le_trans HB2.out.size hbi.size
          have HOI := Lib.hid howi
          have HKJ := Lib.hid hkj
          have HKY := Lib.hid hkey
          have j0 : (0 : Int) ≤ j := by omega
          have j1 : (j : Int) < N := by omega
          clear hx hx2 hy hy2 hf hkj hkey hz howi
          go_wp2_with (first
            | (go_at_call 52; (with_reducible refine (CK.out _).mono ?_); rintro e w3 ⟨rfl, hb3⟩
               have HB3 := Lib.hid hb3
               have HO3 := Lib.hid (HOI.out.below hb3)
               clear hb3)
            | (go_at_call 51; (with_reducible refine (ref_Put07 w.heap.size vi (keysIn a (ts.take j)) z w3 HO3.out (Nat.le_trans hsi HB3.out.size) (by omega)).mono ?_); rintro e w4 ⟨v4, rfl, ho4, hb4⟩
               rw [HKY.out, ← HKJ.out] at ho4
               have HB4 := Lib.hid (hbi.trans ((HB3.out.trans (hb4.mono HB3.out.size)).mono hbi.size))
               have HO4 := Lib.hid ho4
               clear ho4 hb4))
          exact ⟨⟨j + 1, _, rfl, hjl, by go_num, HO4.out, HB4.out⟩, by simp [intOf]; omega⟩
        · have hjt2 : j = ts.length := by have := HN.out; omega
          subst hjt2
          rw [List.take_length, ← HKT.out] at howi
          have HOI := Lib.hid howi
          have HBI := Lib.hid (HB2.out.trans (hbi.mono HB2.out.size))
          clear howi
          go_wp2
          exact ⟨⟨k + 1, _, rfl, hkl, by go_num, HOI.out, HBI.out⟩, by simp [intOf]; omega⟩
    · have hkn : k = l.length := by have := HL.out; omega
      subst hkn
      rw [List.take_length] at hown
      go_wp2
      go_ret
      exact ⟨_, rfl, hown, hbw⟩
end Go.Proofs.YtgcdekaceimdnaaGreat
