/- Texts laid together: SameAny02, Phrase08, Goods08, Arg08. -/
import Derived.Test.YthpecegifilgoaaQ07
import Derived.Test.YthpecegifilgoaaQ16
import Derived.Test.YthpecegifilgoaaQ15
import Derived.Test.YthpecegifilgoaaGood08
import Derived.Test.YthpecegifilgoaaTerms08
import Derived.Deep.SlicePairs
import Derived.ProofKit
import Derived.OpenShut

/- What the document's Same answers of any two lists of texts. -/
namespace Go.Proofs.Ythpecegifilgoaa
open Go Go.RowKit
set_option linter.unusedVariables false

theorem ne_at {xs ys : List Nm} {k : Nat} (hx : k < xs.length) (hy : k < ys.length) (h : xs[k] ≠ ys[k]) : decide (xs = ys) = false := decide_eq_false fun e => h (by subst e; rfl)
theorem eq_all {xs ys : List Nm} (hl : xs.length = ys.length) (h : ∀ j (hj : j < xs.length), xs[j] = ys[j]'(by omega)) : decide (xs = ys) = true := decide_eq_true (List.ext_getElem hl fun j h1 _ => h j h1)
def SameRel (xs ys : List Nm) (w : World) (r i : Value) (wr : World) : Prop := r = .bool false ∧ ∃ k : Nat, k ≤ xs.length ∧ i = .int .i64 (k : Int) ∧ Below w.heap.size w wr ∧ ∀ j (hj : j < xs.length) (hj' : j < ys.length), j < k → xs[j] = ys[j]

set_option maxHeartbeats 1000000 in
set_option maxRecDepth 100000 in
theorem ref02_Same_any (A C : Option Addr) (n m c d : Nat) (xs ys : List Nm) (w : World) (hn : xs.length = n) (hm : ys.length = m) (hx : Row w w.heap.size A (strs xs)) (hy : Row w w.heap.size C (strs ys)) (hxl : n ≤ 1073741824) (hyl : m ≤ 1073741824) :
    Calls Try.prog 45 #[.slice A n c, .slice C m d] w fun e w' => e = .returned (.bool (decide (xs = ys))) ∧ Below w.heap.size w w' := by
  subst hn hm
  have HX := Lib.hid hx
  have HY := Lib.hid hy
  obtain ⟨z, hz⟩ : ∃ z, z = decide (xs = ys) := ⟨_, rfl⟩
  rw [← hz]
  have HZ := Lib.hid hz
  clear hx hy hz
  by_cases hlen : xs.length = ys.length
  · go_enter Try.func45, Try.ntmps45
    go_wp2
    go_loopw [4, 5] (fun r i wr => SameRel xs ys w r i wr) (fun _ i _ => xs.length - (intOf i).toNat)
    case atStart => exact ⟨rfl, 0, Nat.zero_le _, rfl, Below.refl _ _, fun j _ _ hj => by omega⟩
    case round =>
      obtain ⟨rfl, k, hk, rfl, hbw, hall⟩ := hrel
      by_cases hlt : k < xs.length
      · have hlt2 : k < ys.length := by omega
        obtain ⟨b1, o1, e1, _, hc1⟩ := row_nm (HX.out.below hbw) hlt
        obtain ⟨b2, o2, e2, _, hc2⟩ := row_nm (HY.out.below hbw) hlt2
        subst e1 e2
        obtain ⟨x, hx, hx2⟩ := as_text xs[k]
        obtain ⟨y, hy, hy2⟩ := as_text ys[k]
        rw [← hx] at hc1
        rw [← hy] at hc2
        have hi0 : (0 : Int) ≤ k := by omega
        have hi1 : (k : Int) < xs.length := by omega
        have hi2 : (k : Int) < ys.length := by omega
        by_cases he : xs[k] = ys[k]
        · have t1 := same_true (s := x) (t := y) (by rw [hx2, hy2]; exact he)
          have HN : Hid (∀ j (hj : j < xs.length) (hj' : j < ys.length), j < k + 1 → xs[j] = ys[j]) := Lib.hid fun j hj hj' hjk => by
            by_cases e : j = k
            · subst e; exact he
            · exact hall j hj hj' (by omega)
          clear hall he hx hx2 hy hy2
          go_wp2
          go_quiet (fail)
          go_wp2
          go_roundw
          case rel => exact ⟨rfl, k + 1, by omega, by go_num, hbw.trans ⟨rfl, rfl, rfl, Nat.le_refl _, fun _ _ => rfl⟩, HN.out⟩
          case measure => simp [intOf]; omega
        · have t1 := same_false (s := x) (t := y) (by rw [hx2, hy2]; exact he)
          have hzf : z = false := by rw [HZ.out]; exact ne_at hlt hlt2 he
          subst hzf
          clear hall he hx hx2 hy hy2
          go_wp2
          go_quiet (fail)
          go_wp2
          go_ret
          exact ⟨rfl, hbw.trans ⟨rfl, rfl, rfl, Nat.le_refl _, fun _ _ => rfl⟩⟩
      · have hzt : z = true := by rw [HZ.out]; exact eq_all hlen fun j hj => hall j hj (by omega) (by omega)
        subst hzt
        clear hall
        go_wp2
        go_ret
        exact ⟨rfl, hbw⟩
  · have hzf : z = false := by rw [HZ.out]; exact decide_eq_false fun e => hlen (by rw [e])
    subst hzf
    go_enter Try.func45, Try.ntmps45
    go_wp2
    go_ret
    exact ⟨rfl, Below.refl _ _⟩
end Go.Proofs.Ythpecegifilgoaa

/- What the document's Phrase answers. -/
namespace Go.Proofs.Ythpecegifilgoaa
open Go Go.RowKit
set_option linter.unusedVariables false

def PhraseRel (lw ws : List Nm) (N : Nat) (w2 : World) (a i : Value) (wr : World) : Prop :=
  ∃ k p : Nat, k ≤ lw.length ∧ p ≤ k ∧ a = .int .i64 (p : Int) ∧ i = .int .i64 (k : Int) ∧ Below w2.heap.size w2 wr ∧ p + phraseW ws (lw.drop k) = N

set_option maxHeartbeats 2000000 in
set_option maxRecDepth 100000 in
theorem ref08_Phrase (id : Int) (A C : Option Addr) (n c m d : Nat) (l : List Fd) (s : ByteArray) (ws : List Nm) (w : World) (hl : l.length = n) (hr : FRow w w.heap.size A l) (hn : n ≤ 1073741824) (ht : ∀ f ∈ l, f.2.length ≤ 268435456) (hw : ∀ s, (wordsD l s).length ≤ 1073741824)
    (hm : ws.length = m) (hws : Row w w.heap.size C (strs ws)) (hmd : m ≤ d) (hml : m ≤ 1073741824) :
    Calls Try.prog 29 #[docV id A n c, .string s, .slice C m d] w fun e w' => e = .returned (.int .i64 (phraseD l s.data.toList ws : Int)) ∧ Below w.heap.size w w' := by
  have c1 := fun w' (h : Below w.heap.size w w') => ref08_Words id A n c l s w' hl (hr.later h) hn ht
  obtain ⟨lw, hlw⟩ : ∃ lw, lw = wordsD l s.data.toList := ⟨_, rfl⟩
  have hwl := hw s.data.toList
  rw [← hlw] at c1 hwl
  obtain ⟨N, hN⟩ : ∃ N, N = phraseD l s.data.toList ws := ⟨_, rfl⟩
  rw [← hN]
  have HN : Hid (0 + phraseW ws (lw.drop 0) = N) := Lib.hid (by rw [hN, hlw, Nat.zero_add]; rfl)
  have C1 := Lib.hid c1
  have HWS := Lib.hid hws
  clear c1 hlw hN hw ht hr hl hws
  go_enter Try.func29, Try.ntmps29
  go_wp2_with (go_at_call 30; refine (C1.out _ (boxD_below w id A n c)).mono ?_)
  rintro e w2 ⟨v, rfl, hown, hb2⟩
  obtain ⟨A2, c2, rfl, hlc, hrow⟩ := owned_row hown
  have HB2 : Hid (Below w.heap.size w w2) := Lib.hid ((boxD_below w id A n c).trans (hb2.mono (boxD_below w id A n c).size))
  have HR := Lib.hid hrow
  obtain ⟨L, hL⟩ : ∃ L, L = lw.length := ⟨_, rfl⟩
  rw [← hL] at hlc hwl
  rw [← hL]
  have HL := Lib.hid hL
  have HM := Lib.hid hm
  clear hb2 hown hrow hL hm
  go_wp2
  go_loopw [8, 9, 10] (fun a i x wr => PhraseRel lw ws N w2 a i wr) (fun _ i _ _ => L - (intOf i).toNat)
  case atStart => exact ⟨0, 0, by omega, by omega, rfl, rfl, Below.refl _ _, HN.out⟩
  case round =>
    obtain ⟨k, p, hk, hp, rfl, rfl, hbw, hgo⟩ := hrel
    rw [← HL.out] at hk
    by_cases h0 : 0 < m ∧ k + m ≤ L
    · obtain ⟨h0, hkm⟩ := h0
      have hkl : k < lw.length := by rw [← HL.out]; omega
      rw [phraseW_at hkl] at hgo
      have j0 : (0 : Int) ≤ k := by omega
      have j1 : (k : Int) ≤ k + m := by omega
      have j2 : ((k : Int) + m) ≤ c2 := by omega
      have j3 : k < c2 := by omega
      have j4 : (k : Int) + m ≤ L := by omega
      have j5 : (0 : Int) < m := by omega
      obtain ⟨b1, o1, e1, hb1, _⟩ := row_nm (HR.out.below hbw) hkl
      subst e1
      have HRD : Hid (∀ wi, Below w2.heap.size w2 wi → Row wi wi.heap.size (some ⟨b1, o1 + k, none⟩) (strs ((lw.drop k).take m))) := Lib.hid fun wi h => by
        have := ((HR.out.later h).dropped k).cut m
        rwa [show (strs (lw.drop k)).take m = strs ((lw.drop k).take m) by simp [strs, List.map_take]] at this
      have HDL : Hid (((lw.drop k).take m).length = m) := Lib.hid (by rw [List.length_take, List.length_drop, ← HL.out]; omega)
      have HS : Hid (∀ wi e, Below w2.heap.size w2 wi → Calls Try.prog 45 #[.slice (some ⟨b1, o1 + k, none⟩) m e, .slice C m d] wi fun e w' => e = .returned (.bool (decide ((lw.drop k).take m = ws))) ∧ Below wi.heap.size wi w') := Lib.hid fun wi e h =>
        ref02_Same_any _ _ _ _ _ _ _ _ _ HDL.out HM.out (HRD.out wi h) (HWS.out.later (HB2.out.trans (h.mono HB2.out.size))) (by omega) (by omega)
      obtain ⟨z, hz⟩ : ∃ z, z = decide ((lw.drop k).take m = ws) := ⟨_, rfl⟩
      rw [← hz] at HS
      have HG : Hid ((p + (if z = true then 1 else 0)) + phraseW ws (lw.drop (k + 1)) = N) := Lib.hid (by
        rw [← hgo, hz, HM.out]
        have hne : ws ≠ [] := by intro e; have := HM.out; rw [e] at this; simp at this; omega
        by_cases he : (lw.drop k).take m = ws
        · rw [if_pos (decide_eq_true he), if_pos ⟨hne, he⟩]; omega
        · rw [if_neg (by simpa using he), if_neg (fun h => he h.2)]; omega)
      clear hgo hz
      go_wp2_with (go_at_call 45; refine (HS.out _ _ hbw).mono ?_; rintro e w3 ⟨rfl, hb3⟩)
      · rename_i hz
        have hg := HG.out
        rw [if_pos hz] at hg
        exact ⟨⟨k + 1, p + 1, by rw [← HL.out]; omega, by omega, by go_num, by go_num, hbw.trans (hb3.mono hbw.size), hg⟩, by simp [intOf]; omega⟩
      · rename_i hz
        have hg := HG.out
        rw [if_neg (by simp [hz])] at hg
        exact ⟨⟨k + 1, p, by rw [← HL.out]; omega, by omega, rfl, by go_num, hbw.trans (hb3.mono hbw.size), hg⟩, by simp [intOf]; omega⟩
    · have hz : phraseW ws (lw.drop k) = 0 := by
        by_cases hm0 : m = 0
        · have : ws = [] := List.eq_nil_of_length_eq_zero (by rw [HM.out, hm0])
          rw [this]
          exact phraseW_nil _
        · exact phraseW_short (by rw [List.length_drop, ← HL.out, HM.out]; omega)
      rw [hz, Nat.add_zero] at hgo
      subst hgo
      have h1 : (L : Int) < (k : Int) + m ∨ (k : Int) + m ≤ L ∧ (m : Int) ≤ 0 := by omega
      clear h0 hz
      rcases h1 with h1 | ⟨h1, h2⟩
      all_goals
        go_wp2
        go_ret
        exact ⟨rfl, HB2.out.trans (hbw.mono HB2.out.size)⟩
end Go.Proofs.Ythpecegifilgoaa

/- What the calls answer of a document that may be, made of any: one word for all that is known of it. -/
set_option linter.unusedVariables false
namespace Go.Proofs.Ythpecegifilgoaa
open Go Go.RowKit

/-- A small document that may be. -/
structure GoodF (l : List Fd) : Prop where
  len : l.length ≤ 8
  names : ∀ f ∈ l, f.1.length ≤ 12
  texts : ∀ f ∈ l, f.2.length ≤ 1024
  apart : ApartF l
  zero : NoZero l
  wordsF : ∀ f ∈ l, (words f.2).length ≤ 500
  wordsS : ∀ s, (wordsD l s).length ≤ 500
  weight : weightD l ≤ 500
theorem le_sum : ∀ {l : List Nat} {a : Nat}, a ∈ l → a ≤ l.sum
  | x :: l, a, h => by
    rw [List.sum_cons]
    rcases List.mem_cons.1 h with rfl | h
    · omega
    · have := le_sum h; omega
theorem wordsD_le {l : List Fd} (ha : ApartF l) (s : Nm) : (wordsD l s).length ≤ weightD l := by
  by_cases h : ∃ f ∈ l, f.1 = s
  · obtain ⟨f, hf, rfl⟩ := h
    unfold weightD
    exact le_sum (List.mem_map.2 ⟨f, hf, rfl⟩)
  · rw [wordsD_other fun f hf e => h ⟨f, hf, e⟩]
    exact Nat.zero_le _
theorem goodF_of {l : List Fd} (hm : mayD l = 0) (ht : ∀ f ∈ l, f.2.length ≤ 1024) : GoodF l := by
  obtain ⟨g1, g2, g3, g4, g5⟩ := mayD_of hm
  refine ⟨g1, fun f hf => ?_, ht, g3, g4, fun f hf => ?_, fun s => Nat.le_trans (wordsD_le g3 s) g5, g5⟩
  · have := g2 f hf
    rw [nameB, Bool.and_eq_true, Bool.and_eq_true, decide_eq_true_iff, decide_eq_true_iff] at this
    exact this.2.2
  · rw [← wordsD_of g3 hf]
    exact Nat.le_trans (wordsD_le g3 _) g5
theorem goodD_good (l : List Fd) : GoodF (goodD l) := goodF_of (goodD_may l) fun f hf => Nat.le_trans (goodUp_text l _ f hf) (by omega)

section
variable {id : Int} {A : Option Addr} {n c : Nat} {l : List Fd} {w : World}
theorem good_inv (hg : GoodF l) (hl : l.length = n) (hr : FRow w w.heap.size A l) : Calls Try.prog 21 #[docV id A n c] w (GotInv (termsD l) ((termsD l).map (placesD l)) w) :=
  doc_Invert id A n c l w hl hr (by have := hg.len; omega) (fun f hf => by have := hg.names f hf; have := hg.texts f hf; omega) (fun f hf => by have := hg.wordsF f hf; omega) hg.apart hg.zero
theorem good_weight (hg : GoodF l) (hl : l.length = n) (hr : FRow w w.heap.size A l) : Calls Try.prog 20 #[docV id A n c] w fun e w' => e = .returned (.int .i64 (weightD l : Int)) ∧ Below w.heap.size w w' := by
  rw [← tellD_weight hg.apart]
  exact doc_Weight id A n c l w hl hr (by have := hg.len; omega) (fun f hf => by have := hg.texts f hf; omega) (fun f hf => by have := hg.wordsF f hf; omega)
theorem good_count (hg : GoodF l) (hl : l.length = n) (hr : FRow w w.heap.size A l) (f x : ByteArray) : Calls Try.prog 26 #[docV id A n c, .agg #[.string f, .string x]] w fun e w' => e = .returned (.int .i64 ((placesD l (f.data.toList, x.data.toList)).length : Int)) ∧ Below w.heap.size w w' := by
  rw [← placesS_D hg.apart]
  exact doc_Count id A n c l f x w hl hr (by have := hg.len; omega) (fun f hf => by have := hg.texts f hf; omega) (fun f hf => by have := hg.wordsF f hf; omega)
theorem good_has (hg : GoodF l) (hl : l.length = n) (hr : FRow w w.heap.size A l) (f x : ByteArray) : Calls Try.prog 27 #[docV id A n c, .agg #[.string f, .string x]] w fun e w' => e = .returned (.bool (decide (0 < (placesD l (f.data.toList, x.data.toList)).length))) ∧ Below w.heap.size w w' := by
  rw [← placesS_D hg.apart]
  exact doc_Has id A n c l f x w hl hr (by have := hg.len; omega) (fun f hf => by have := hg.texts f hf; omega) (fun f hf => by have := hg.wordsF f hf; omega)
theorem good_phrase (hg : GoodF l) (hl : l.length = n) (hr : FRow w w.heap.size A l) (f : ByteArray) {A2 : Option Addr} {n2 c2 : Nat} {ws : List Nm} (hl2 : ws.length = n2) (hr2 : Row w w.heap.size A2 (strs ws)) (hn2 : n2 ≤ 1048576) (hc2 : n2 ≤ c2) :
    Calls Try.prog 28 #[docV id A n c, .string f, .slice A2 n2 c2] w fun e w' => e = .returned (.int .i64 (phraseD l f.data.toList ws : Int)) ∧ Below w.heap.size w w' := by
  rw [← phraseG_D hg.apart]
  exact doc_Phrase id A n c l f A2 n2 c2 ws w hl hr (by have := hg.len; omega) (fun f hf => by have := hg.texts f hf; omega) (fun f hf => by have := hg.wordsF f hf; omega) hl2 hr2 hn2 hc2 (fun t => places_rise hg.apart t) (fun t a h => places_bd hg.apart (M := 1048576) (fun s => by have := hg.wordsS s; omega) t a h)
theorem good_words (hg : GoodF l) (hl : l.length = n) (hr : FRow w w.heap.size A l) (s : ByteArray) : Calls Try.prog 30 #[docV id A n c, .string s] w (GaveStrs (wordsD l s.data.toList) w) :=
  ref08_Words id A n c l s w hl hr (by have := hg.len; omega) (fun f hf => by have := hg.texts f hf; omega)
theorem good_terms (hg : GoodF l) (hl : l.length = n) (hr : FRow w w.heap.size A l) : Calls Try.prog 22 #[docV id A n c] w (GaveTms (termsD l) w) :=
  ref08_Terms id A n c l w hl hr (by have := hg.len; omega) (fun f hf => by have := hg.names f hf; have := hg.texts f hf; omega) (fun s => by have := hg.wordsS s; omega)
theorem good_places (hg : GoodF l) (hl : l.length = n) (hr : FRow w w.heap.size A l) (f x : ByteArray) : Calls Try.prog 24 #[docV id A n c, .agg #[.string f, .string x]] w (GaveInts (placesD l (f.data.toList, x.data.toList)) w) :=
  ref08_Places id A n c l f x w hl hr (by have := hg.len; omega) (fun f hf => by have := hg.texts f hf; omega) (fun s => by have := hg.wordsS s; omega)
theorem good_rweight (hg : GoodF l) (hl : l.length = n) (hr : FRow w w.heap.size A l) : Calls Try.prog 25 #[docV id A n c] w fun e w' => e = .returned (.int .i64 (weightD l : Int)) ∧ Below w.heap.size w w' :=
  ref08_Weight id A n c l w hl hr (by have := hg.len; omega) (fun f hf => by have := hg.texts f hf; omega) (fun s => by have := hg.wordsS s; omega)
theorem good_rphrase (hg : GoodF l) (hl : l.length = n) (hr : FRow w w.heap.size A l) (f : ByteArray) {A2 : Option Addr} {n2 c2 : Nat} {ws : List Nm} (hl2 : ws.length = n2) (hr2 : Row w w.heap.size A2 (strs ws)) (hn2 : n2 ≤ 1048576) (hc2 : n2 ≤ c2) :
    Calls Try.prog 29 #[docV id A n c, .string f, .slice A2 n2 c2] w fun e w' => e = .returned (.int .i64 (phraseD l f.data.toList ws : Int)) ∧ Below w.heap.size w w' :=
  ref08_Phrase id A A2 n c n2 c2 l f ws w hl hr (by have := hg.len; omega) (fun f hf => by have := hg.texts f hf; omega) (fun s => by have := hg.wordsS s; omega) hl2 hr2 hc2 (by omega)
end
/-- A document in a block of its own, its fields below. -/
structure DocIn (w : World) (B : Nat) (id : Int) (A : Option Addr) (n c : Nat) (l : List Fd) : Prop where
  blk : w.heap[B]? = some (.cells #[.int .i64 id, .slice A n c] 24 (0, 0))
  len : l.length = n
  row : FRow w w.heap.size A l
theorem DocIn.later {w w' : World} {B : Nat} {id : Int} {A : Option Addr} {n c : Nat} {l : List Fd} (h : DocIn w B id A n c l) (hb : Below w.heap.size w w') : DocIn w' B id A n c l := ⟨(hb.block B (Array.getElem?_eq_some_iff.1 h.blk).1).trans h.blk, h.len, h.row.later hb⟩
theorem DocIn.cells {w : World} {B : Nat} {id : Int} {A : Option Addr} {n c : Nat} {l : List Fd} (h : DocIn w B id A n c l) : w.cell? ⟨B, 0, none⟩ = some (.int .i64 id) ∧ w.cell? ⟨B, 1, none⟩ = some (.slice A n c) := ⟨by simp [World.cell?, h.blk], by simp [World.cell?, h.blk]⟩
theorem DocIn.made {w : World} {id : Int} {A : Option Addr} {n c : Nat} {l : List Fd} (hl : l.length = n) (hr : FRow w w.heap.size A l) : DocIn (w.alloc (.cells #[.int .i64 id, .slice A n c] 24)) w.heap.size id A n c l := ⟨heap_alloc_new _ _, hl, hr.later ((Below.refl _ _).alloc (Nat.le_refl _) _)⟩
end Go.Proofs.Ythpecegifilgoaa

/- A list of fields that came in, read as data: what a walk is told of it. -/
namespace Go.Proofs.Ythpecegifilgoaa
open Go Go.RowKit Go.ChangeShapes Go.WideShapes Go.ChangeAt
set_option linter.unusedVariables false

/-- What a walk is told of a list of fields that came in. -/
def InFlds (w : World) (a : Option Addr) (len cap : Nat) (l : List Fd) : Prop :=
  len ≤ cap ∧ cap ≤ maxLen ∧ l.length = len ∧ FRow w w.heap.size a l ∧ ∀ f ∈ l, f.1.length ≤ maxLen ∧ f.2.length ≤ maxLen
theorem field_cells : Try.prog.cellsOf 31 = 2 := by kernel_rfl
theorem str_cells : Try.prog.cellsOf 9 = 1 := by kernel_rfl
theorem flds_range {f : Nat → Fd} {V0 V1 : Nat → Value} {w : World} {b off n : Nat} (h : ∀ i, i < n → V0 i = .string ⟨(f i).1.toArray⟩ ∧ V1 i = .string ⟨(f i).2.toArray⟩)
    (hc : ∀ i, i < n → w.cell? ⟨b, off + i * 2, none⟩ = some (V0 i) ∧ w.cell? ⟨b, off + (i * 2 + 1), none⟩ = some (V1 i)) :
    ∀ k, k ≤ n → ∀ j u, (flds ((List.range k).map f))[j]? = some u → w.cell? ⟨b, off + j, none⟩ = some u
  | 0, _, j, u, hu => by simp [flds] at hu
  | k + 1, hk, j, u, hu => by
    rw [List.range_succ, List.map_append, flds_append] at hu
    have hl : (flds ((List.range k).map f)).length = k * 2 := by rw [flds_length, List.length_map, List.length_range]
    by_cases hj : j < k * 2
    · rw [List.getElem?_append_left (by rw [hl]; exact hj)] at hu
      exact flds_range h hc k (by omega) j u hu
    · rw [List.getElem?_append_right (by rw [hl]; omega), hl] at hu
      obtain ⟨h0, h1⟩ := h k (by omega)
      obtain ⟨c0, c1⟩ := hc k (by omega)
      rcases hq : j - k * 2 with _ | _ | q
      · rw [hq] at hu
        simp [flds] at hu
        rw [show j = k * 2 by omega, c0, h0, hu]
      · rw [hq] at hu
        simp [flds] at hu
        rw [show j = k * 2 + 1 by omega, c1, h1, hu]
      · rw [hq] at hu
        simp [flds] at hu

theorem in_flds {H : Type} {enc : TypeId × Value → H} {W : World} {fuel : Nat} {a : Option Addr} {len cap : Nat} {x : DataW H × List MemPlace}
    (h : DataW.trod enc Try.prog W 0 (fun _ => true) true fuel 22 [Value.slice a len cap] = some x) : ∃ l, InFlds W a len cap l := by
  rcases Deep.open_slice_pairs Try.underlying22 Try.underlying31 field_cells rfl rfl str_cells str_cells h with ⟨hcs, _⟩ | ⟨ad, l, c, m, n, V0, V1, D0, D1, P0, P1, hcs, _, hl, hm, hmm, _, hx⟩
  · simp at hcs
    obtain ⟨rfl, rfl, rfl⟩ := hcs
    exact ⟨[], Nat.le_refl _, Nat.zero_le _, rfl, FRow.nil, fun p hp => by cases hp⟩
  · simp at hcs
    obtain ⟨rfl, rfl, rfl⟩ := hcs
    simp only [if_true] at hmm
    subst hmm
    have each : ∀ i, i < m → ∃ q : Fd, (V0 i = .string ⟨q.1.toArray⟩ ∧ V1 i = .string ⟨q.2.toArray⟩) ∧ q.1.length ≤ maxLen ∧ q.2.length ≤ maxLen := fun i hi => by
      obtain ⟨_, _, g0, g1⟩ := hx i hi
      obtain ⟨s0, e0, _, k0⟩ := DataW.trod_string Try.underlying9 g0
      obtain ⟨s1, e1, _, k1⟩ := DataW.trod_string Try.underlying9 g1
      simp only [List.cons.injEq, and_true] at e0 e1
      refine ⟨(s0.data.toList, s1.data.toList), ⟨e0, e1⟩, ?_, ?_⟩
      · show s0.data.toList.length ≤ maxLen
        rw [Array.length_toList]
        exact k0
      · show s1.data.toList.length ≤ maxLen
        rw [Array.length_toList]
        exact k1
    obtain ⟨f, hf⟩ := Deep.choose_lt each
    by_cases h0 : m = 0
    · have hl0 : len = 0 := by omega
      subst hl0
      exact ⟨[], hl, hm, rfl, FRow.nil, fun p hp => by cases hp⟩
    · obtain ⟨c00, _, _, _⟩ := hx 0 (by omega)
      obtain ⟨b, off, spot⟩ := ad
      have hs : spot = none := by simpa [Addr.add] using World.cell?_spot c00
      subst hs
      have hblt : b < W.heap.size := by simpa [Addr.add_lit] using World.block_lt_of_cell? W _ c00
      refine ⟨(List.range len).map f, hl, hm, by simp, .inr ⟨b, off, rfl, hblt, flds_range (n := m) (fun i hi => (hf i hi).1) (fun i hi => ?_) len hl⟩, fun p hp => ?_⟩
      · obtain ⟨g0, g1, _, _⟩ := hx i hi
        rw [Addr.add_lit] at g0 g1
        exact ⟨g0, g1⟩
      · obtain ⟨i, hi, rfl⟩ := List.mem_map.1 hp
        have hil := List.mem_range.1 hi
        exact (hf i (by omega)).2
/-- .. whatever the value is. -/
theorem in_flds_any {H : Type} {enc : TypeId × Value → H} {W : World} {fuel : Nat} {v : Value} {x : DataW H × List MemPlace}
    (h : DataW.trod enc Try.prog W 0 (fun _ => true) true fuel 22 [v] = some x) : ∃ a len cap l, v = .slice a len cap ∧ InFlds W a len cap l := by
  have hv : ∃ a len cap, v = .slice a len cap := by
    rcases Deep.open_slice_pairs Try.underlying22 Try.underlying31 field_cells rfl rfl str_cells str_cells h with ⟨hcs, _⟩ | ⟨ad, l, c, m, n, V0, V1, D0, D1, P0, P1, hcs, _⟩
    · simp only [List.cons.injEq, and_true] at hcs
      exact ⟨_, _, _, hcs⟩
    · simp only [List.cons.injEq, and_true] at hcs
      exact ⟨_, _, _, hcs⟩
  obtain ⟨a, len, cap, rfl⟩ := hv
  obtain ⟨l, hl⟩ := in_flds h
  exact ⟨a, len, cap, l, rfl, hl⟩
theorem doc_cells : Try.prog.cellsOf 24 = 2 := by kernel_rfl
end Go.Proofs.Ythpecegifilgoaa
