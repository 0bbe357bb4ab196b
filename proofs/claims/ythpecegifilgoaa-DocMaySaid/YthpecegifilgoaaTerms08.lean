/- What the document's Terms answers: a document's terms, rising. -/
import Derived.Test.YthpecegifilgoaaPutTerm08
import Derived.Test.YthpecegifilgoaaQ16
namespace Go.Proofs.Ythpecegifilgoaa
open Go Go.RowKit
set_option linter.unusedVariables false

def putAll (a : List Tm) (s : Nm) (ws : List Nm) : List Tm := ws.foldl (fun b x => putT b (s, x)) a
def termsUp (l : List Fd) (k : Nat) : List Tm := (l.take k).foldl (fun a f => putAll a f.1 (wordsD l f.1)) []
theorem termsUp_succ {l : List Fd} {k : Nat} (hk : k < l.length) : termsUp l (k + 1) = putAll (termsUp l k) l[k].1 (wordsD l l[k].1) := by
  unfold termsUp
  rw [List.take_succ_eq_append_getElem hk, List.foldl_append]
  rfl
theorem termsUp_all (l : List Fd) : termsUp l l.length = termsD l := by rw [termsUp, List.take_length]; rfl
theorem putAll_succ {a : List Tm} {s : Nm} {ws : List Nm} {m : Nat} (hm : m < ws.length) : putAll a s (ws.take (m + 1)) = putT (putAll a s (ws.take m)) (s, ws[m]) := by
  unfold putAll
  rw [List.take_succ_eq_append_getElem hm, List.foldl_append]
  rfl
theorem putT_length (l : List Tm) (t : Tm) : (putT l t).length ≤ l.length + 1 := by
  have := backT_le l t l.length
  unfold putT
  split
  · omega
  · simp only [List.length_append, List.length_take, List.length_cons, List.length_drop]
    omega
theorem putAll_length (s : Nm) : ∀ (ws : List Nm) (a : List Tm), (putAll a s ws).length ≤ a.length + ws.length
  | [], a => Nat.le_refl _
  | x :: ws, a => by
    have h1 := putT_length a (s, x)
    have h2 := putAll_length s ws (putT a (s, x))
    simp only [List.length_cons]
    show (putAll (putT a (s, x)) s ws).length ≤ _
    omega
theorem termsUp_length {l : List Fd} {M : Nat} (hw : ∀ s, (wordsD l s).length ≤ M) : ∀ k, k ≤ l.length → (termsUp l k).length ≤ k * M
  | 0, _ => by simp [termsUp]
  | k + 1, hk => by
    have h1 := termsUp_length hw k (by omega)
    have h2 := putAll_length (l[k]'(by omega)).1 (wordsD l (l[k]'(by omega)).1) (termsUp l k)
    have h3 := hw (l[k]'(by omega)).1
    rw [termsUp_succ (by omega), Nat.succ_mul]
    omega
theorem Fits.put {l : List Tm} {t : Tm} (h : Fits l) (h1 : t.1.length ≤ 536870912) (h2 : t.2.length ≤ 536870912) : Fits (putT l t) := fun s hs => by
  rcases mem_putT.1 hs with hs | rfl
  · exact h s hs
  · exact ⟨h1, h2⟩
theorem Fits.all {s : Nm} (h1 : s.length ≤ 536870912) : ∀ {ws : List Nm} {a : List Tm}, Fits a → (∀ x ∈ ws, x.length ≤ 536870912) → Fits (putAll a s ws)
  | [], a, h, _ => h
  | x :: ws, a, h, h2 => Fits.all h1 (ws := ws) (h.put h1 (h2 x (List.mem_cons_self ..))) fun y hy => h2 y (List.mem_cons_of_mem _ hy)
theorem wordsD_short {l : List Fd} (ht : ∀ f ∈ l, f.2.length ≤ 134217728) (s : Nm) : ∀ x ∈ wordsD l s, x.length ≤ 536870912 := by
  induction l with
  | nil => intro x hx; cases hx
  | cons f fs ih =>
    intro x hx
    rw [wordsD] at hx
    split at hx
    · have := words_size hx
      have := ht f (List.mem_cons_self ..)
      omega
    · exact ih (fun g hg => ht g (List.mem_cons_of_mem _ hg)) x hx
theorem termsUp_fits {l : List Fd} (ht : ∀ f ∈ l, f.1.length ≤ 536870912 ∧ f.2.length ≤ 134217728) : ∀ k, k ≤ l.length → Fits (termsUp l k)
  | 0, _ => fun t h => by simp [termsUp] at h
  | k + 1, hk => by
    rw [termsUp_succ (by omega)]
    exact (termsUp_fits ht k (by omega)).all (ht _ (List.getElem_mem _)).1 (wordsD_short (fun f hf => (ht f hf).2) _)

def TermsRel (l : List Fd) (w1 : World) (o i : Value) (wr : World) : Prop := ∃ k : Nat, k ≤ l.length ∧ i = .int .i64 (k : Int) ∧ OwnTm w1.heap.size wr o (termsUp l k) ∧ Below w1.heap.size w1 wr
def PutAllRel (a : List Tm) (s : Nm) (ws : List Nm) (base : Nat) (w2 : World) (o i : Value) (wr : World) : Prop := ∃ (m : Nat) (vo : Value), vo = o ∧ m ≤ ws.length ∧ i = .int .i64 (m : Int) ∧ OwnTm base wr o (putAll a s (ws.take m)) ∧ Below w2.heap.size w2 wr
def GaveTms (l : List Tm) (w : World) (e : Ending) (w' : World) : Prop := ∃ v, e = .returned v ∧ OwnTm w.heap.size w' v l ∧ Below w.heap.size w w'

set_option maxHeartbeats 4000000 in
set_option maxRecDepth 100000 in
theorem ref08_Terms (id : Int) (A : Option Addr) (n c : Nat) (l : List Fd) (w : World) (hl : l.length = n) (hr : FRow w w.heap.size A l) (hn : n ≤ 100) (ht : ∀ f ∈ l, f.1.length ≤ 536870912 ∧ f.2.length ≤ 134217728) (hw : ∀ s, (wordsD l s).length ≤ 1000) :
    Calls Try.prog 22 #[docV id A n c] w (GaveTms (termsD l) w) := by
  have HC : Hid (∀ w' (x : ByteArray), Below w.heap.size w w' → Calls Try.prog 30 #[docV id A n c, .string x] w' (GaveStrs (wordsD l x.data.toList) w')) := Lib.hid fun w' x h => ref08_Words id A n c l x w' hl (hr.later h) (by omega) (fun f hf => by have := (ht f hf).2; omega)
  subst hl
  have HR := Lib.hid hr
  have HW := Lib.hid hw
  have HT := Lib.hid ht
  clear hr ht hw
  obtain ⟨N, hN⟩ : ∃ N, N = termsD l := ⟨_, rfl⟩
  rw [← hN]
  have HN := Lib.hid hN
  clear hN
  go_enter Try.func22, Try.ntmps22
  go_wp2
  obtain ⟨w1, hw1⟩ : ∃ w1, w1 = boxD w id A l.length c := ⟨_, rfl⟩
  have hb1 : ∀ wr, Below w1.heap.size w1 wr → Below w.heap.size w wr ∧ wr.cell? ⟨w.heap.size, 0, none⟩ = some (.int .i64 id) ∧ wr.cell? ⟨w.heap.size, 1, none⟩ = some (.slice A l.length c) := fun wr h => by
    subst hw1
    exact ⟨boxD_out h, boxD_cells h⟩
  have HB1 := Lib.hid hb1
  clear hb1
  rw [show w.alloc _ = w1 from hw1.symm]
  clear hw1
  go_loopw [3, 4, 5, 6] (fun o i x y wr => TermsRel l w1 o i wr) (fun _ i _ _ _ => l.length - (intOf i).toNat)
  case atStart => exact ⟨0, by omega, rfl, OwnTm.nil, Below.refl _ _⟩
  case round =>
    obtain ⟨k, hk, rfl, hown, hbw⟩ := hrel
    obtain ⟨hb0, hc0, hc1⟩ := HB1.out _ hbw
    by_cases hlt : k < l.length
    · obtain ⟨b1, o1, e1, hb1, hf1, _⟩ := (HR.out.below hb0).at_ hlt
      subst e1
      obtain ⟨x, hx, hx2⟩ := as_text l[k].1
      rw [← hx] at hf1
      have C1 := Lib.hid fun w' h => HC.out w' x h
      have i0 : (0 : Int) ≤ k := by omega
      have i1 : (k : Int) < l.length := by omega
      have HSS : Hid (∀ w', Below w1.heap.size wr w' → w'.cell? ⟨w.heap.size, 0, none⟩ = some (.int .i64 id) ∧ w'.cell? ⟨w.heap.size, 1, none⟩ = some (.slice (some ⟨b1, o1, none⟩) l.length c) ∧ w'.cell? ⟨b1, o1 + k * 2, none⟩ = some (.string x)) := Lib.hid fun w' h => by
        have h2 := HB1.out _ (hbw.trans h)
        refine ⟨h2.2.1, h2.2.2, ?_⟩
        have h3 := (h.mono (by have := (HB1.out _ (Below.refl _ _)).1.size; omega : w.heap.size ≤ w1.heap.size)).cell (p := ⟨b1, o1 + k * 2, none⟩) hb1
        exact h3.trans hf1
      have hsx : x.size ≤ 536870912 := by rw [hx, size_nm]; exact (HT.out _ (List.getElem_mem hlt)).1
      have hsu := termsUp_succ hlt
      have hfit := termsUp_fits HT.out k (by omega)
      have hlen := termsUp_length HW.out k (by omega)
      have hwl := HW.out l[k].1
      have hwf := wordsD_short (fun f hf => (HT.out f hf).2) l[k].1
      rw [← hx2] at hsu hwl hwf
      obtain ⟨ws, hws⟩ : ∃ ws, ws = wordsD l x.data.toList := ⟨_, rfl⟩
      obtain ⟨a, ha⟩ : ∃ a, a = termsUp l k := ⟨_, rfl⟩
      rw [← hws] at C1 hsu hwl hwf
      rw [← ha] at hsu hfit hlen hown
      have hlen2 : a.length ≤ 100000 := Nat.le_trans hlen (Nat.le_trans (Nat.mul_le_mul_right _ (by omega : k ≤ 100)) (by omega))
      have HSU := Lib.hid hsu
      have HFIT := Lib.hid hfit
      have HWF := Lib.hid hwf
      have HB0 := Lib.hid hb0
      have HOWN := Lib.hid hown
      have HBW := Lib.hid hbw
      have hsz := hbw.size
      clear hx hx2 hws ha hsu hfit hlen hwf hb0 hown hbw
      go_wp2
      go_region_held3 (fun w' => w'.cell? ⟨w.heap.size, 0, none⟩ = some (.int .i64 id) ∧ w'.cell? ⟨w.heap.size, 1, none⟩ = some (.slice (some ⟨b1, o1, none⟩) l.length c) ∧ w'.cell? ⟨b1, o1 + k * 2, none⟩ = some (.string x))
        (first | exact HSS.out _ (Below.refl _ _).drew | exact HSS.out _ HB4.out)
        (first
          | (go_at_call 30; (with_reducible refine (C1.out _ (HB0.out.trans ((Below.refl _ wr).drew.mono (HB0.out.size)))).mono ?_); rintro e w4 ⟨v4, rfl, ho4, hb4⟩
             obtain ⟨A4, c4, rfl, hlc4, hrow4⟩ := owned_row ho4
             have HR4 := Lib.hid hrow4
             have HB5 : Hid (Below wr.heap.size wr w4) := Lib.hid ((Below.refl _ wr).drew.trans hb4)
             have HB4 : Hid (Below w1.heap.size wr w4) := Lib.hid (((Below.refl _ wr).drew.trans hb4).mono hsz)
             clear ho4 hb4 hrow4))
      all_goals
        go_wp2
        go_loopw [3, 6] (fun o i wr => PutAllRel a x.data.toList ws w1.heap.size w4 o i wr) (fun _ i _ => ws.length - (intOf i).toNat)
        case atStart => exact ⟨0, _, rfl, by omega, rfl, HOWN.out.below HB5.out, Below.refl _ _⟩
        case round =>
          obtain ⟨m, vo, rfl, hm, rfl, hown2, hbi⟩ := hrel
          by_cases hmt : m < ws.length
          · obtain ⟨b2, o2, e2, hb2, hg1⟩ := row_nm (HR4.out.below hbi) hmt
            subst e2
            have hfy := HWF.out _ (List.getElem_mem hmt)
            have hsu2 := putAll_succ (a := a) (s := x.data.toList) hmt
            obtain ⟨y, hy, hy2⟩ := as_text ws[m]
            rw [← hy] at hg1
            rw [← hy2] at hsu2
            have hsy : y.size ≤ 536870912 := by rw [hy, size_nm]; exact hfy
            have hfit2 : Fits (putAll a x.data.toList (ws.take m)) := HFIT.out.all (by rw [show x.data.toList.length = x.size from Array.length_toList]; exact hsx) fun z hz => HWF.out z (List.mem_of_mem_take hz)
            have hlen3 : (putAll a x.data.toList (ws.take m)).length ≤ 1048576 := by
              have := putAll_length x.data.toList (ws.take m) a
              rw [List.length_take] at this
              omega
            obtain ⟨a', ha'⟩ : ∃ a', a' = putAll a x.data.toList (ws.take m) := ⟨_, rfl⟩
            rw [← ha'] at hsu2 hfit2 hlen3 hown2
            have PT : Hid (∀ w', Below wr.heap.size wr w' → Calls Try.prog 43 #[vo, .agg #[.string x, .string y]] w' (PutGotT w1.heap.size (putT a' (x.data.toList, y.data.toList)) w')) := Lib.hid fun w' h =>
              ref08_PutTerm _ _ _ _ _ _ (hown2.below h) (by have := h.size; have := hbi.size; have := HB4.out.size; omega) hlen3 hfit2 hsx hsy
            have j0 : (0 : Int) ≤ m := by omega
            have j1 : (m : Int) < ws.length := by omega
            have hs4 := hbi.size
            have HS9 : Hid (∀ w', Below wr.heap.size wr w' → w'.cell? ⟨w.heap.size, 0, none⟩ = some (.int .i64 id) ∧ w'.cell? ⟨w.heap.size, 1, none⟩ = some (.slice (some ⟨b1, o1, none⟩) l.length c) ∧ w'.cell? ⟨b1, o1 + k * 2, none⟩ = some (.string x) ∧ w'.cell? ⟨b2, o2 + m, none⟩ = some (.string y)) := Lib.hid fun w' h => by
              have h2 := HSS.out w' (HB4.out.trans ((hbi.trans (h.mono hs4)).mono (by have := HB4.out.size; omega)))
              exact ⟨h2.1, h2.2.1, h2.2.2, (h.cell (p := ⟨b2, o2 + m, none⟩) (by show b2 < wr.heap.size; omega)).trans hg1⟩
            obtain ⟨q0, q1, q2, q3⟩ := HS9.out _ (Below.refl _ _)
            have HSU2 := Lib.hid hsu2
            have HBI := Lib.hid hbi
            clear hy hy2 ha' hsu2 hfit2 hlen3 hown2 hfy hsy hbi hc0 hc1 hf1
            go_wp2
            go_region_held3 (fun w' => w'.cell? ⟨w.heap.size, 0, none⟩ = some (.int .i64 id) ∧ w'.cell? ⟨w.heap.size, 1, none⟩ = some (.slice (some ⟨b1, o1, none⟩) l.length c) ∧ w'.cell? ⟨b1, o1 + k * 2, none⟩ = some (.string x) ∧ w'.cell? ⟨b2, o2 + m, none⟩ = some (.string y))
              (first | exact HS9.out _ (Below.refl _ _).drew | exact HS9.out _ HB6.out)
              (first
                | (go_at_call 43; (with_reducible refine (PT.out _ (Below.refl _ wr).drew).mono ?_); rintro e w6 ⟨v6, rfl, ho6, hb6⟩
                   have HO6 := Lib.hid ho6
                   have HB6 : Hid (Below wr.heap.size wr w6) := Lib.hid ((Below.refl _ wr).drew.trans hb6)
                   clear ho6 hb6))
            all_goals
              go_wp2
              exact ⟨⟨m + 1, _, rfl, by omega, by go_num, by rw [HSU2.out]; exact HO6.out, HBI.out.trans (HB6.out.mono hs4)⟩, by simp [intOf]; omega⟩
          · have hmk : m = ws.length := by omega
            subst hmk
            rw [List.take_length, ← HSU.out] at hown2
            go_wp2
            exact ⟨⟨k + 1, by omega, by go_num, hown2, HBW.out.trans (HB4.out.trans (hbi.mono (by have := HB4.out.size; omega)))⟩, by simp [intOf]; omega⟩
    · have hkl : k = l.length := by omega
      subst hkl
      rw [termsUp_all, ← HN.out] at hown
      have HB0 := Lib.hid hb0
      have HS1 := Lib.hid (HB1.out _ (Below.refl _ _)).1.size
      clear hb0
      go_wp2
      go_ret
      exact ⟨_, rfl, hown.low HS1.out, HB0.out⟩
end Go.Proofs.Ythpecegifilgoaa
