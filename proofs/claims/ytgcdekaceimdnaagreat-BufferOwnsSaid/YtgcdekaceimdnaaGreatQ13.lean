/- Texts laid together: BoxT08, Places08, Weight08, Terms08, Turn09, LayF08, CloneD08, CloneB09, NameD08, Tokens. -/
import Derived.Test.YtgcdekaceimdnaaGreatQ09
import Derived.Test.YtgcdekaceimdnaaGreatQ12
import Derived.Deep.AppendLies
import Derived.Deep.RegionHeld3
import Derived.Test.YtgcdekaceimdnaaGreatPutTerm08
import Derived.Test.YtgcdekaceimdnaaGreatQ08
import Derived.Shelf.SlicesE.Clone
import Derived.Shelf.SlicesQ.IndexFunc
import Derived.Test.YtgcdekaceimdnaaGreatProg
import Derived.Test.YtgcdekaceimdnaaGreatQ06
import Derived.Test.YtgcdekaceimdnaaGreatGood08
import Derived.Test.YtgcdekaceimdnaaGreatQ07
import Derived.Test.YtgcdekaceimdnaaGreatAddE09

/- A document and a term in blocks of their own. -/
namespace Go.Proofs.YtgcdekaceimdnaaGreat
open Go Go.RowKit
set_option linter.unusedVariables false

/-- A document in a block of its own, a term in the next one. -/
def boxDT (w : World) (id : Int) (A : Option Addr) (n c : Nat) (f x : ByteArray) : World := (boxD w id A n c).alloc (.cells #[.string f, .string x] 92)
theorem boxDT_size (w : World) (id : Int) (A : Option Addr) (n c : Nat) (f x : ByteArray) : (boxDT w id A n c f x).heap.size = w.heap.size + 2 := by simp [boxDT, boxD]
theorem boxDT_of {w wr : World} {id : Int} {A : Option Addr} {n c : Nat} {f x : ByteArray} (h : Below (boxDT w id A n c f x).heap.size (boxDT w id A n c f x) wr) :
    Below w.heap.size w wr ∧ wr.cell? ⟨w.heap.size, 0, none⟩ = some (.int .i64 id) ∧ wr.cell? ⟨w.heap.size, 1, none⟩ = some (.slice A n c) ∧ wr.cell? ⟨w.heap.size + 1, 0, none⟩ = some (.string f) ∧ wr.cell? ⟨w.heap.size + 1, 1, none⟩ = some (.string x) := by
  have hs := boxDT_size w id A n c f x
  have h0 : Below (boxD w id A n c).heap.size (boxD w id A n c) (boxDT w id A n c f x) := (Below.refl _ _).alloc (Nat.le_refl _) _
  have h1 : Below (boxD w id A n c).heap.size (boxD w id A n c) wr := h0.trans (h.mono (by rw [hs, boxD_size]; omega))
  have hb : wr.heap[w.heap.size + 1]? = some (.cells #[.string f, .string x] 92 (0, 0)) := (h.block (w.heap.size + 1) (by omega)).trans (by have := heap_alloc_new (boxD w id A n c) (.cells #[.string f, .string x] 92); rwa [boxD_size] at this)
  obtain ⟨c0, c1⟩ := boxD_cells h1
  exact ⟨boxD_out h1, c0, c1, by simp [World.cell?, hb], by simp [World.cell?, hb]⟩

theorem boxDT_below (w : World) (id : Int) (A : Option Addr) (n c : Nat) (f x : ByteArray) : Below w.heap.size w (boxDT w id A n c f x) := (boxD_below w id A n c).alloc (by simp [boxD]) _
end Go.Proofs.YtgcdekaceimdnaaGreat

/- What the document's Places answers: where a term stands. -/
namespace Go.Proofs.YtgcdekaceimdnaaGreat
open Go Go.RowKit
set_option linter.unusedVariables false

def PlacesRel (l : List Nm) (x : Nm) (all : List Int) (w1 : World) (o i : Value) (wr : World) : Prop :=
  ∃ (k : Nat) (out : List Int) (vo : Value), vo = o ∧ k ≤ l.length ∧ i = .int .i64 (k : Int) ∧ out.length ≤ k ∧ wr.ownsRow w1.heap.size 3 1 o out.length (ints out) ∧ Below w1.heap.size w1 wr ∧ out ++ placesW k (l.drop k) x = all

set_option maxHeartbeats 2000000 in
set_option maxRecDepth 100000 in
theorem ref08_Places (id : Int) (A : Option Addr) (n c : Nat) (l : List Fd) (f x : ByteArray) (w : World) (hl : l.length = n) (hr : FRow w w.heap.size A l) (hn : n ≤ 1073741824) (ht : ∀ f ∈ l, f.2.length ≤ 268435456) (hw : ∀ s, (wordsD l s).length ≤ 1073741824) :
    Calls Tryz.prog 54 #[docV id A n c, .agg #[.string f, .string x]] w (GaveInts (placesD l (f.data.toList, x.data.toList)) w) := by
  obtain ⟨i0, hi0, hz0, hz1, hz2⟩ := info_parts info_int
  have c1 := fun w' (h : Below w.heap.size w w') => ref08_Words id A n c l f w' hl (hr.later h) hn ht
  obtain ⟨ws, hws⟩ : ∃ ws, ws = wordsD l f.data.toList := ⟨_, rfl⟩
  have hwl := hw f.data.toList
  rw [← hws] at c1 hwl
  obtain ⟨all, hall⟩ : ∃ all, all = placesD l (f.data.toList, x.data.toList) := ⟨_, rfl⟩
  rw [← hall]
  have HALL : Hid ([] ++ placesW 0 (ws.drop 0) x.data.toList = all) := Lib.hid (by rw [hall, hws]; rfl)
  have C1 := Lib.hid c1
  clear c1 hws hall hw ht hr hl
  go_enter Tryz.func54, Tryz.ntmps54
  go_wp2_with (go_at_call 58; refine (C1.out _ (boxDT_below w id A n c f x)).mono ?_)
  rintro e w2 ⟨v, rfl, hown, hb2⟩
  obtain ⟨A2, c2, rfl, _, hrow⟩ := owned_row hown
  have HB2 : Hid (∀ wr, Below w2.heap.size w2 wr → Below w.heap.size w wr ∧ wr.cell? ⟨w.heap.size + 1, 1, none⟩ = some (.string x)) := Lib.hid fun wr h => by
    have := boxDT_of (hb2.trans (h.mono hb2.size))
    exact ⟨this.1, this.2.2.2.2⟩
  have HR := Lib.hid hrow
  clear hb2 hown hrow
  go_wp2
  go_loopw [5, 7] (fun o i wr => PlacesRel ws x.data.toList all w2 o i wr) (fun _ i _ => ws.length - (intOf i).toNat)
  case atStart => exact ⟨0, [], _, rfl, by omega, rfl, by simp, World.ownsRow_nil _ _ _ _, Below.refl _ _, HALL.out⟩
  case round =>
    obtain ⟨k, out, vo, rfl, hk, rfl, hok, hout, hbw, hgo⟩ := hrel
    obtain ⟨hb0, hcx⟩ := HB2.out _ hbw
    by_cases hlt : k < ws.length
    · obtain ⟨b1, o1, e1, _, hc1⟩ := row_nm (HR.out.below hbw) hlt
      subst e1
      rw [placesW_at hlt] at hgo
      obtain ⟨y, hy, hy2⟩ := as_text ws[k]
      rw [← hy] at hc1
      have j0 : (0 : Int) ≤ k := by omega
      have j1 : (k : Int) < ws.length := by omega
      by_cases he : ws[k] = x.data.toList
      · have t1 := same_true (s := y) (t := x) (by rw [hy2]; exact he)
        rw [if_pos he] at hgo
        have HGO : Hid ((out ++ [(k : Int)]) ++ placesW (k + 1) (ws.drop (k + 1)) x.data.toList = all) := Lib.hid (by rw [← hgo]; simp)
        clear he hy hy2 hgo hb0
        go_wp2
        go_quiet (fail)
        go_wp2_with (at_builtin; refine wpList_append_own _ rfl (.tmp 25) (.tmp 27) 52 rfl w2.heap.size 3 i0 _ 1 8 Tryz.underlying52 hi0 hz0 hz1 hz2 rfl (by omega) _ out.length (ints out) rfl ((owned_below hout (drewN_below _ _)).alloc _) ⟨_, 0, none⟩ 1 1 [.int .i64 k] rfl rfl (news_at _ [.int .i64 k] 3) (by intro u hu; simp at hu; subst hu; rfl) (by unfold maxLen; omega) (by omega) (by have := hbw.size; simp; omega) ?_)
        intro v' w5 hown5 hgrow5 _
        have hbw5 := ((hbw.trans ((drewN_below wr nq).mono hbw.size)).alloc (by have := hbw.size; simp; omega) _).grown hgrow5 (by have := hbw.size; simp; omega) (fun j hj => (hout.lt j hj).1)
        clear hgrow5
        go_wp2
        go_roundw
        case rel => exact ⟨k + 1, out ++ [(k : Int)], _, rfl, by omega, by go_num, by simp; omega, by simpa [ints] using hown5, hbw5, HGO.out⟩
        case measure => simp [intOf]; omega
      · have t1 := same_false (s := y) (t := x) (by rw [hy2]; exact he)
        rw [if_neg he] at hgo
        have HGO := Lib.hid hgo
        clear he hy hy2 hgo hb0
        go_wp2
        go_quiet (fail)
        go_wp2
        go_roundw
        case rel => exact ⟨k + 1, out, _, rfl, by omega, by go_num, by omega, owned_below hout (drewN_below _ _), hbw.trans ⟨rfl, rfl, rfl, Nat.le_refl _, fun _ _ => rfl⟩, HGO.out⟩
        case measure => simp [intOf]; omega
    · have hkl : k = ws.length := by omega
      subst hkl
      rw [List.drop_length] at hgo
      have hal : out = all := by rw [← hgo]; simp [placesW]
      subst hal
      have HB0 := Lib.hid hb0
      clear hgo hb0
      go_wp2
      go_ret
      exact ⟨_, rfl, owned_low hout (by have := (HB2.out _ (Below.refl _ _)).1.size; omega), HB0.out⟩
end Go.Proofs.YtgcdekaceimdnaaGreat

/- What the document's Weight answers. -/
namespace Go.Proofs.YtgcdekaceimdnaaGreat
open Go Go.RowKit
set_option linter.unusedVariables false

def weightUp (l : List Fd) (k : Nat) : Nat := ((l.take k).map fun f => (wordsD l f.1).length).sum
theorem weightUp_succ {l : List Fd} {k : Nat} (hk : k < l.length) : weightUp l (k + 1) = weightUp l k + (wordsD l l[k].1).length := by
  unfold weightUp
  rw [List.take_succ_eq_append_getElem hk, List.map_append, List.sum_append]
  simp
theorem weightUp_all (l : List Fd) : weightUp l l.length = weightD l := by rw [weightUp, List.take_length]; rfl
theorem weightUp_le {l : List Fd} {m : Nat} (hw : ∀ s, (wordsD l s).length ≤ m) : ∀ k, k ≤ l.length → weightUp l k ≤ k * m
  | 0, _ => by simp [weightUp]
  | k + 1, hk => by
    have h1 := weightUp_le hw k (by omega)
    have h2 := hw (l[k]'(by omega)).1
    rw [weightUp_succ (by omega), Nat.succ_mul]
    omega

def WeightRel (l : List Fd) (w1 : World) (a i : Value) (wr : World) : Prop := ∃ k : Nat, k ≤ l.length ∧ a = .int .i64 (weightUp l k : Int) ∧ i = .int .i64 (k : Int) ∧ Below w1.heap.size w1 wr

set_option maxHeartbeats 2000000 in
set_option maxRecDepth 100000 in
theorem ref08_Weight (id : Int) (A : Option Addr) (n c : Nat) (l : List Fd) (w : World) (hl : l.length = n) (hr : FRow w w.heap.size A l) (hn : n ≤ 100) (ht : ∀ f ∈ l, f.2.length ≤ 268435456) (hw : ∀ s, (wordsD l s).length ≤ 1048576) :
    Calls Tryz.prog 41 #[docV id A n c] w fun e w' => e = .returned (.int .i64 (weightD l : Int)) ∧ Below w.heap.size w w' := by
  have HC : Hid (∀ w' (x : ByteArray), Below w.heap.size w w' → Calls Tryz.prog 58 #[docV id A n c, .string x] w' (GaveStrs (wordsD l x.data.toList) w')) := Lib.hid fun w' x h => ref08_Words id A n c l x w' hl (hr.later h) (by omega) ht
  subst hl
  have HR := Lib.hid hr
  have HW := Lib.hid hw
  clear hr ht hw
  obtain ⟨N, hN⟩ : ∃ N, N = weightD l := ⟨_, rfl⟩
  rw [← hN]
  have HN := Lib.hid hN
  clear hN
  go_enter Tryz.func41, Tryz.ntmps41
  go_wp2
  obtain ⟨w1, hw1⟩ : ∃ w1, w1 = boxD w id A l.length c := ⟨_, rfl⟩
  have hb1 : ∀ wr, Below w1.heap.size w1 wr → Below w.heap.size w wr ∧ wr.cell? ⟨w.heap.size, 0, none⟩ = some (.int .i64 id) ∧ wr.cell? ⟨w.heap.size, 1, none⟩ = some (.slice A l.length c) := fun wr h => by
    subst hw1
    exact ⟨boxD_out h, boxD_cells h⟩
  have HB1 := Lib.hid hb1
  clear hb1
  rw [show w.alloc _ = w1 from hw1.symm]
  clear hw1
  go_loopw [3, 4] (fun a i wr => WeightRel l w1 a i wr) (fun _ i _ => l.length - (intOf i).toNat)
  case atStart => exact ⟨0, by omega, rfl, rfl, Below.refl _ _⟩
  case round =>
    obtain ⟨k, hk, rfl, rfl, hbw⟩ := hrel
    obtain ⟨hb0, hc0, hc1⟩ := HB1.out _ hbw
    by_cases hlt : k < l.length
    · obtain ⟨b1, o1, e1, hb1, hf1, _⟩ := (HR.out.below hb0).at_ hlt
      subst e1
      have hsu := weightUp_succ hlt
      have hle := weightUp_le HW.out k (by omega)
      have hwk := HW.out l[k].1
      obtain ⟨x, hx, hx2⟩ := as_text l[k].1
      rw [← hx] at hf1
      rw [← hx2] at hsu hwk
      have C1 := Lib.hid fun w' h => HC.out w' x h
      obtain ⟨M, hM⟩ : ∃ M, M = weightUp l k := ⟨_, rfl⟩
      obtain ⟨ws, hws⟩ : ∃ ws, ws = wordsD l x.data.toList := ⟨_, rfl⟩
      rw [← hM, ← hws] at hsu
      rw [← hM] at hle
      rw [← hM]
      rw [← hws] at C1 hwk
      have hmb : M ≤ 104857600 := Nat.le_trans hle (Nat.le_trans (Nat.mul_le_mul_right _ (by omega : k ≤ 100)) (by omega))
      have i0 : (0 : Int) ≤ k := by omega
      have i1 : (k : Int) < l.length := by omega
      have HSU := Lib.hid hsu
      have HSS : Hid (∀ w', Below w1.heap.size wr w' → w'.cell? ⟨w.heap.size, 0, none⟩ = some (.int .i64 id) ∧ w'.cell? ⟨w.heap.size, 1, none⟩ = some (.slice (some ⟨b1, o1, none⟩) l.length c) ∧ w'.cell? ⟨b1, o1 + k * 2, none⟩ = some (.string x)) := Lib.hid fun w' h => by
        have h2 := HB1.out _ (hbw.trans h)
        refine ⟨h2.2.1, h2.2.2, ?_⟩
        have h3 := (h.mono (by have := (HB1.out _ (Below.refl _ _)).1.size; omega : w.heap.size ≤ w1.heap.size)).cell (p := ⟨b1, o1 + k * 2, none⟩) hb1
        exact h3.trans hf1
      have HB0 := Lib.hid hb0
      have hsz := hbw.size
      clear hx hx2 hM hws hsu hle hb0
      go_wp2
      go_region_held3 (fun w' => w'.cell? ⟨w.heap.size, 0, none⟩ = some (.int .i64 id) ∧ w'.cell? ⟨w.heap.size, 1, none⟩ = some (.slice (some ⟨b1, o1, none⟩) l.length c) ∧ w'.cell? ⟨b1, o1 + k * 2, none⟩ = some (.string x))
        (first | exact HSS.out _ (Below.refl _ _).drew | exact HSS.out _ HB4.out)
        (first
          | (go_at_call 58; (with_reducible refine (C1.out _ (HB0.out.trans ((Below.refl _ wr).drew.mono (HB0.out.size)))).mono ?_); rintro e w4 ⟨v4, rfl, ho4, hb4⟩
             obtain ⟨A4, c4, rfl, _, _⟩ := owned_row ho4
             have HB4 : Hid (Below w1.heap.size wr w4) := Lib.hid (((Below.refl _ wr).drew.trans hb4).mono hsz)
             clear ho4 hb4))
      all_goals
        go_wp2
        refine ⟨⟨k + 1, by omega, ?_, by go_num, hbw.trans HB4.out⟩, by simp [intOf]; omega⟩
        rw [HSU.out, IntWalk.i64_in _ (by omega)]
        push_cast
        rfl
    · have hkl : k = l.length := by omega
      subst hkl
      rw [weightUp_all, ← HN.out]
      have HB0 := Lib.hid hb0
      clear hb0
      go_wp2
      go_ret
      exact ⟨rfl, HB0.out⟩
end Go.Proofs.YtgcdekaceimdnaaGreat

/- What the document's Terms answers: a document's terms, rising. -/
namespace Go.Proofs.YtgcdekaceimdnaaGreat
open Go Go.RowKit
set_option linter.unusedVariables false

def putAll (a : List Tm) (s : Nm) (ws : List Nm) : List Tm := ws.foldl (fun b x => putT b (s, x)) a
def termsUp (l : List Fd) (k : Nat) : List Tm := (l.take k).foldl (fun a f => putAll a f.1 (wordsD l f.1)) []
theorem termsUp_succ {l : List Fd} {k : Nat} (hk : k < l.length) : termsUp l (k + 1) = putAll (termsUp l k) l[k].1 (wordsD l l[k].1) := by
  unfold termsUp
  rw [List.take_succ_eq_append_getElem hk, List.foldl_append]
  rfl
theorem termsUp_all (l : List Fd) : termsUp l l.length = termsD l := by rw [termsUp, List.take_length]; rfl
theorem putAll_succ {a : List Tm} {s : Nm} {ws : List Nm} {m : Nat} (hm : m < ws.length) : putAll a s (ws.take (m + 1)) = putT (putAll a s (ws.take m)) (s, ws[m]) := by
  unfold putAll
  rw [List.take_succ_eq_append_getElem hm, List.foldl_append]
  rfl
theorem putT_length (l : List Tm) (t : Tm) : (putT l t).length ≤ l.length + 1 := by
  have := backT_le l t l.length
  unfold putT
  split
  · omega
  · simp only [List.length_append, List.length_take, List.length_cons, List.length_drop]
    omega
theorem putAll_length (s : Nm) : ∀ (ws : List Nm) (a : List Tm), (putAll a s ws).length ≤ a.length + ws.length
  | [], a => Nat.le_refl _
  | x :: ws, a => by
    have h1 := putT_length a (s, x)
    have h2 := putAll_length s ws (putT a (s, x))
    simp only [List.length_cons]
    show (putAll (putT a (s, x)) s ws).length ≤ _
    omega
theorem termsUp_length {l : List Fd} {M : Nat} (hw : ∀ s, (wordsD l s).length ≤ M) : ∀ k, k ≤ l.length → (termsUp l k).length ≤ k * M
  | 0, _ => by simp [termsUp]
  | k + 1, hk => by
    have h1 := termsUp_length hw k (by omega)
    have h2 := putAll_length (l[k]'(by omega)).1 (wordsD l (l[k]'(by omega)).1) (termsUp l k)
    have h3 := hw (l[k]'(by omega)).1
    rw [termsUp_succ (by omega), Nat.succ_mul]
    omega
theorem FitsT.put {l : List Tm} {t : Tm} (h : FitsT l) (h1 : t.1.length ≤ 536870912) (h2 : t.2.length ≤ 536870912) : FitsT (putT l t) := fun s hs => by
  rcases mem_putT.1 hs with hs | rfl
  · exact h s hs
  · exact ⟨h1, h2⟩
theorem FitsT.all {s : Nm} (h1 : s.length ≤ 536870912) : ∀ {ws : List Nm} {a : List Tm}, FitsT a → (∀ x ∈ ws, x.length ≤ 536870912) → FitsT (putAll a s ws)
  | [], a, h, _ => h
  | x :: ws, a, h, h2 => FitsT.all h1 (ws := ws) (h.put h1 (h2 x (List.mem_cons_self ..))) fun y hy => h2 y (List.mem_cons_of_mem _ hy)
theorem wordsD_short {l : List Fd} (ht : ∀ f ∈ l, f.2.length ≤ 134217728) (s : Nm) : ∀ x ∈ wordsD l s, x.length ≤ 536870912 := by
  induction l with
  | nil => intro x hx; cases hx
  | cons f fs ih =>
    intro x hx
    rw [wordsD] at hx
    split at hx
    · have := words_size hx
      have := ht f (List.mem_cons_self ..)
      omega
    · exact ih (fun g hg => ht g (List.mem_cons_of_mem _ hg)) x hx
theorem termsUp_fits {l : List Fd} (ht : ∀ f ∈ l, f.1.length ≤ 536870912 ∧ f.2.length ≤ 134217728) : ∀ k, k ≤ l.length → FitsT (termsUp l k)
  | 0, _ => fun t h => by simp [termsUp] at h
  | k + 1, hk => by
    rw [termsUp_succ (by omega)]
    exact (termsUp_fits ht k (by omega)).all (ht _ (List.getElem_mem _)).1 (wordsD_short (fun f hf => (ht f hf).2) _)

def TermsRel (l : List Fd) (w1 : World) (o i : Value) (wr : World) : Prop := ∃ k : Nat, k ≤ l.length ∧ i = .int .i64 (k : Int) ∧ OwnTm w1.heap.size wr o (termsUp l k) ∧ Below w1.heap.size w1 wr
def PutAllRel (a : List Tm) (s : Nm) (ws : List Nm) (base : Nat) (w2 : World) (o i : Value) (wr : World) : Prop := ∃ (m : Nat) (vo : Value), vo = o ∧ m ≤ ws.length ∧ i = .int .i64 (m : Int) ∧ OwnTm base wr o (putAll a s (ws.take m)) ∧ Below w2.heap.size w2 wr
def GaveTms (l : List Tm) (w : World) (e : Ending) (w' : World) : Prop := ∃ v, e = .returned v ∧ OwnTm w.heap.size w' v l ∧ Below w.heap.size w w'

set_option maxHeartbeats 4000000 in
set_option maxRecDepth 100000 in
theorem ref08_Terms (id : Int) (A : Option Addr) (n c : Nat) (l : List Fd) (w : World) (hl : l.length = n) (hr : FRow w w.heap.size A l) (hn : n ≤ 100) (ht : ∀ f ∈ l, f.1.length ≤ 536870912 ∧ f.2.length ≤ 134217728) (hw : ∀ s, (wordsD l s).length ≤ 1000) :
    Calls Tryz.prog 50 #[docV id A n c] w (GaveTms (termsD l) w) := by
  have HC : Hid (∀ w' (x : ByteArray), Below w.heap.size w w' → Calls Tryz.prog 58 #[docV id A n c, .string x] w' (GaveStrs (wordsD l x.data.toList) w')) := Lib.hid fun w' x h => ref08_Words id A n c l x w' hl (hr.later h) (by omega) (fun f hf => by have := (ht f hf).2; omega)
  subst hl
  have HR := Lib.hid hr
  have HW := Lib.hid hw
  have HT := Lib.hid ht
  clear hr ht hw
  obtain ⟨N, hN⟩ : ∃ N, N = termsD l := ⟨_, rfl⟩
  rw [← hN]
  have HN := Lib.hid hN
  clear hN
  go_enter Tryz.func50, Tryz.ntmps50
  go_wp2
  obtain ⟨w1, hw1⟩ : ∃ w1, w1 = boxD w id A l.length c := ⟨_, rfl⟩
  have hb1 : ∀ wr, Below w1.heap.size w1 wr → Below w.heap.size w wr ∧ wr.cell? ⟨w.heap.size, 0, none⟩ = some (.int .i64 id) ∧ wr.cell? ⟨w.heap.size, 1, none⟩ = some (.slice A l.length c) := fun wr h => by
    subst hw1
    exact ⟨boxD_out h, boxD_cells h⟩
  have HB1 := Lib.hid hb1
  clear hb1
  rw [show w.alloc _ = w1 from hw1.symm]
  clear hw1
  go_loopw [3, 4, 5, 6] (fun o i x y wr => TermsRel l w1 o i wr) (fun _ i _ _ _ => l.length - (intOf i).toNat)
  case atStart => exact ⟨0, by omega, rfl, OwnTm.nil, Below.refl _ _⟩
  case round =>
    obtain ⟨k, hk, rfl, hown, hbw⟩ := hrel
    obtain ⟨hb0, hc0, hc1⟩ := HB1.out _ hbw
    by_cases hlt : k < l.length
    · obtain ⟨b1, o1, e1, hb1, hf1, _⟩ := (HR.out.below hb0).at_ hlt
      subst e1
      obtain ⟨x, hx, hx2⟩ := as_text l[k].1
      rw [← hx] at hf1
      have C1 := Lib.hid fun w' h => HC.out w' x h
      have i0 : (0 : Int) ≤ k := by omega
      have i1 : (k : Int) < l.length := by omega
      have HSS : Hid (∀ w', Below w1.heap.size wr w' → w'.cell? ⟨w.heap.size, 0, none⟩ = some (.int .i64 id) ∧ w'.cell? ⟨w.heap.size, 1, none⟩ = some (.slice (some ⟨b1, o1, none⟩) l.length c) ∧ w'.cell? ⟨b1, o1 + k * 2, none⟩ = some (.string x)) := Lib.hid fun w' h => by
        have h2 := HB1.out _ (hbw.trans h)
        refine ⟨h2.2.1, h2.2.2, ?_⟩
        have h3 := (h.mono (by have := (HB1.out _ (Below.refl _ _)).1.size; omega : w.heap.size ≤ w1.heap.size)).cell (p := ⟨b1, o1 + k * 2, none⟩) hb1
        exact h3.trans hf1
      have hsx : x.size ≤ 536870912 := by rw [hx, size_nm]; exact (HT.out _ (List.getElem_mem hlt)).1
      have hsu := termsUp_succ hlt
      have hfit := termsUp_fits HT.out k (by omega)
      have hlen := termsUp_length HW.out k (by omega)
      have hwl := HW.out l[k].1
      have hwf := wordsD_short (fun f hf => (HT.out f hf).2) l[k].1
      rw [← hx2] at hsu hwl hwf
      obtain ⟨ws, hws⟩ : ∃ ws, ws = wordsD l x.data.toList := ⟨_, rfl⟩
      obtain ⟨a, ha⟩ : ∃ a, a = termsUp l k := ⟨_, rfl⟩
      rw [← hws] at C1 hsu hwl hwf
      rw [← ha] at hsu hfit hlen hown
      have hlen2 : a.length ≤ 100000 := Nat.le_trans hlen (Nat.le_trans (Nat.mul_le_mul_right _ (by omega : k ≤ 100)) (by omega))
      have HSU := Lib.hid hsu
      have HFIT := Lib.hid hfit
      have HWF := Lib.hid hwf
      have HB0 := Lib.hid hb0
      have HOWN := Lib.hid hown
      have HBW := Lib.hid hbw
      have hsz := hbw.size
      clear hx hx2 hws ha hsu hfit hlen hwf hb0 hown hbw
      go_wp2
      go_region_held3 (fun w' => w'.cell? ⟨w.heap.size, 0, none⟩ = some (.int .i64 id) ∧ w'.cell? ⟨w.heap.size, 1, none⟩ = some (.slice (some ⟨b1, o1, none⟩) l.length c) ∧ w'.cell? ⟨b1, o1 + k * 2, none⟩ = some (.string x))
        (first | exact HSS.out _ (Below.refl _ _).drew | exact HSS.out _ HB4.out)
        (first
          | (go_at_call 58; (with_reducible refine (C1.out _ (HB0.out.trans ((Below.refl _ wr).drew.mono (HB0.out.size)))).mono ?_); rintro e w4 ⟨v4, rfl, ho4, hb4⟩
             obtain ⟨A4, c4, rfl, hlc4, hrow4⟩ := owned_row ho4
             have HR4 := Lib.hid hrow4
             have HB5 : Hid (Below wr.heap.size wr w4) := Lib.hid ((Below.refl _ wr).drew.trans hb4)
             have HB4 : Hid (Below w1.heap.size wr w4) := Lib.hid (((Below.refl _ wr).drew.trans hb4).mono hsz)
             clear ho4 hb4 hrow4))
      all_goals
        go_wp2
        go_loopw [3, 6] (fun o i wr => PutAllRel a x.data.toList ws w1.heap.size w4 o i wr) (fun _ i _ => ws.length - (intOf i).toNat)
        case atStart => exact ⟨0, _, rfl, by omega, rfl, HOWN.out.below HB5.out, Below.refl _ _⟩
        case round =>
          obtain ⟨m, vo, rfl, hm, rfl, hown2, hbi⟩ := hrel
          by_cases hmt : m < ws.length
          · obtain ⟨b2, o2, e2, hb2, hg1⟩ := row_nm (HR4.out.below hbi) hmt
            subst e2
            have hfy := HWF.out _ (List.getElem_mem hmt)
            have hsu2 := putAll_succ (a := a) (s := x.data.toList) hmt
            obtain ⟨y, hy, hy2⟩ := as_text ws[m]
            rw [← hy] at hg1
            rw [← hy2] at hsu2
            have hsy : y.size ≤ 536870912 := by rw [hy, size_nm]; exact hfy
            have hfit2 : FitsT (putAll a x.data.toList (ws.take m)) := HFIT.out.all (by rw [show x.data.toList.length = x.size from Array.length_toList]; exact hsx) fun z hz => HWF.out z (List.mem_of_mem_take hz)
            have hlen3 : (putAll a x.data.toList (ws.take m)).length ≤ 1048576 := by
              have := putAll_length x.data.toList (ws.take m) a
              rw [List.length_take] at this
              omega
            obtain ⟨a', ha'⟩ : ∃ a', a' = putAll a x.data.toList (ws.take m) := ⟨_, rfl⟩
            rw [← ha'] at hsu2 hfit2 hlen3 hown2
            have PT : Hid (∀ w', Below wr.heap.size wr w' → Calls Tryz.prog 71 #[vo, .agg #[.string x, .string y]] w' (PutGotT w1.heap.size (putT a' (x.data.toList, y.data.toList)) w')) := Lib.hid fun w' h =>
              ref08_PutTerm _ _ _ _ _ _ (hown2.below h) (by have := h.size; have := hbi.size; have := HB4.out.size; omega) hlen3 hfit2 hsx hsy
            have j0 : (0 : Int) ≤ m := by omega
            have j1 : (m : Int) < ws.length := by omega
            have hs4 := hbi.size
            have HS9 : Hid (∀ w', Below wr.heap.size wr w' → w'.cell? ⟨w.heap.size, 0, none⟩ = some (.int .i64 id) ∧ w'.cell? ⟨w.heap.size, 1, none⟩ = some (.slice (some ⟨b1, o1, none⟩) l.length c) ∧ w'.cell? ⟨b1, o1 + k * 2, none⟩ = some (.string x) ∧ w'.cell? ⟨b2, o2 + m, none⟩ = some (.string y)) := Lib.hid fun w' h => by
              have h2 := HSS.out w' (HB4.out.trans ((hbi.trans (h.mono hs4)).mono (by have := HB4.out.size; omega)))
              exact ⟨h2.1, h2.2.1, h2.2.2, (h.cell (p := ⟨b2, o2 + m, none⟩) (by show b2 < wr.heap.size; omega)).trans hg1⟩
            obtain ⟨q0, q1, q2, q3⟩ := HS9.out _ (Below.refl _ _)
            have HSU2 := Lib.hid hsu2
            have HBI := Lib.hid hbi
            clear hy hy2 ha' hsu2 hfit2 hlen3 hown2 hfy hsy hbi hc0 hc1 hf1
            go_wp2
            go_region_held3 (fun w' => w'.cell? ⟨w.heap.size, 0, none⟩ = some (.int .i64 id) ∧ w'.cell? ⟨w.heap.size, 1, none⟩ = some (.slice (some ⟨b1, o1, none⟩) l.length c) ∧ w'.cell? ⟨b1, o1 + k * 2, none⟩ = some (.string x) ∧ w'.cell? ⟨b2, o2 + m, none⟩ = some (.string y))
              (first | exact HS9.out _ (Below.refl _ _).drew | exact HS9.out _ HB6.out)
              (first
                | (go_at_call 71; (with_reducible refine (PT.out _ (Below.refl _ wr).drew).mono ?_); rintro e w6 ⟨v6, rfl, ho6, hb6⟩
                   have HO6 := Lib.hid ho6
                   have HB6 : Hid (Below wr.heap.size wr w6) := Lib.hid ((Below.refl _ wr).drew.trans hb6)
                   clear ho6 hb6))
            all_goals
              go_wp2
              exact ⟨⟨m + 1, _, rfl, by omega, by go_num, by rw [HSU2.out]; exact HO6.out, HBI.out.trans (HB6.out.mono hs4)⟩, by simp [intOf]; omega⟩
          · have hmk : m = ws.length := by omega
            subst hmk
            rw [List.take_length, ← HSU.out] at hown2
            go_wp2
            exact ⟨⟨k + 1, by omega, by go_num, hown2, HBW.out.trans (HB4.out.trans (hbi.mono (by have := HB4.out.size; omega)))⟩, by simp [intOf]; omega⟩
    · have hkl : k = l.length := by omega
      subst hkl
      rw [termsUp_all, ← HN.out] at hown
      have HB0 := Lib.hid hb0
      have HS1 := Lib.hid (HB1.out _ (Below.refl _ _)).1.size
      clear hb0
      go_wp2
      go_ret
      exact ⟨_, rfl, hown.low HS1.out, HB0.out⟩
end Go.Proofs.YtgcdekaceimdnaaGreat

/- What a buffer's turn does: the terms of a document are put behind what there is, each at its key. -/
namespace Go.Proofs.YtgcdekaceimdnaaGreat
open Go Go.RowKit
set_option linter.unusedVariables false

theorem kV_of {z : ByteArray} {t : Nm} (h : z.data.toList = t) : kV t = .string z := by
  subst h
  unfold kV
  simp
/-- What is got: the map with the document's terms behind what there was. -/
def GotTurn (S : Nat → Prop) (M c i : Nat) (d : List Fd) (g : List GP) (w : World) (e : Ending) (w' : World) : Prop :=
  e = .returned (.tuple #[]) ∧ PmAt (fun k => S k ∨ Since w.heap.size w' k) w' M c (turnP i d g (termsD d)) ∧ OnlyIn (MapB S w M) w w'
def TurnRel (S : Nat → Prop) (M c i : Nat) (d : List Fd) (g : List GP) (ts : List Tm) (V1 V2 : Value) (w : World) (x : Value) (wr : World) : Prop :=
  ∃ j : Nat, j ≤ ts.length ∧ x = .int .i64 (j : Int) ∧ TurnAt S M c i d g ts V1 V2 w j wr

set_option maxHeartbeats 4000000 in
set_option maxRecDepth 100000 in
theorem buf_turn (S : Nat → Prop) (B M c : Nat) (g : List GP) (v0 x2 x3 : Value) (id : Int) (A : Option Addr) (n cp : Nat) (d : List Fd) (i : Nat) (w : World)
    (hB : w.heap[B]? = some (.cells #[v0, .map (some M), x2, x3] 63 (0, 0))) (hm : PmAt S w M c g) (hg : GoodF d) (hl : d.length = n) (hr : FRow w w.heap.size A d) (hi : i ≤ 1000) (hbd : ∀ key, (getP g key).length ≤ 8000000) :
    Calls Tryz.prog 29 #[.pointer (some ⟨B, 0, none⟩), docV id A n cp, .int .i64 (i : Int)] w (GotTurn S M c i d g w) := by
  obtain ⟨t0, hi0, hz0, hz1, hz2⟩ := info_parts info_posting
  have hM := hm.lt
  have hlB := lt_of_block hB
  have hBM : B ≠ M := fun e => by
    obtain ⟨es, ec, hes⟩ := hm.map
    rw [← e, hB] at hes
    cases hes
  have HBK : Hid (∀ w', OnlyIn (MapB S w M) w w' → w'.heap[B]? = some (.cells #[v0, .map (some M), x2, x3] 63 (0, 0))) := Lib.hid fun w' h => (h.block B hlB fun e => by
    rcases e with e | ⟨_, cs, fr, hh, _⟩
    · exact hBM e
    · rw [hB] at hh
      injection hh with hh
      injection hh with _ h2 _
      exact absurd h2 (by decide)).trans hB
  have hb1 := boxD_below w id A n cp
  have HINV := Lib.hid (good_inv9 (id := id) (c := cp) hg hl (hr.later hb1))
  have htl : (termsD d).length ≤ 4000 := by
    have h1 := termsUp_length (l := d) (M := 500) hg.wordsS d.length (Nat.le_refl _)
    rw [termsUp_all] at h1
    exact Nat.le_trans h1 (Nat.le_trans (Nat.mul_le_mul_right _ hg.len) (by omega))
  have hfit : ∀ t ∈ termsD d, t.1.length ≤ 12 ∧ t.2.length ≤ 4096 := fun t ht => by
    obtain ⟨f, hf, h1, h2⟩ := (tellD_mem t d).1 ((termsD_mem hg.apart t).1 ht)
    have := hg.names f hf
    have := hg.texts f hf
    have := words_size h2
    rw [h1]
    omega
  have hpl : ∀ t, (placesD d t).length ≤ 500 := fun t => Nat.le_trans (placesW_length _ _ _) (hg.wordsS _)
  obtain ⟨ts, hts⟩ : ∃ ts, ts = termsD d := ⟨_, rfl⟩
  have hnb : ∀ j key, (getP (turnP i d g (ts.take j)) key).length ≤ 8004000 := fun j key => by
    rw [getP_turn, List.length_append]
    have h1 := hbd key
    have h2 : (postIn i d (ts.take j) key).length ≤ (ts.take j).length := by
      unfold postIn
      rw [List.length_map]
      exact List.length_filter_le _ _
    have h3 : ts.length ≤ 4000 := by rw [hts]; exact htl
    rw [List.length_take] at h2
    omega
  have HG : Hid (∀ e w', GotTurn S M c i d g w e w' ↔ (e = .returned (.tuple #[]) ∧ PmAt (fun k => S k ∨ Since w.heap.size w' k) w' M c (turnP i d g ts) ∧ OnlyIn (MapB S w M) w w')) := Lib.hid fun e w' => by rw [hts]; rfl
  rw [← hts] at HINV htl hfit
  have HFIT := Lib.hid hfit
  have HPL := Lib.hid hpl
  have HNB := Lib.hid hnb
  have HMP := Lib.hid hm
  have HB1 := Lib.hid hb1
  clear hm hg hr hbd hfit hpl hnb hts hBM hB hb1
  go_enter Tryz.func29, Tryz.ntmps29
  obtain ⟨w1, hw1⟩ : ∃ w1, w1 = boxD w id A n cp := ⟨_, rfl⟩
  rw [← hw1] at HINV HB1
  go_wp2_with (first
    | (go_at_call 45; rw [show w.alloc _ = w1 from hw1.symm]; (with_reducible refine HINV.out.mono ?_); rintro e w2 ⟨V1, V2, rfl, ho1, ho2, hb2⟩
       obtain ⟨A1, c1, rfl, hc1, hu1⟩ := ho1.row
       obtain ⟨A2, c2, rfl, hc2, hu2⟩ := ho2.rows
       clear hu1 hu2
       rw [List.length_map] at hc2 ⊢
       obtain ⟨N, hN⟩ : ∃ N, N = ts.length := ⟨_, rfl⟩
       have hstart : TurnAt S M c i d g ts (.slice A1 ts.length c1) (.slice A2 ts.length c2) w 0 w2 := by
         have hbw := HB1.out.trans (hb2.mono HB1.out.size)
         have hs1 := HB1.out.size
         rw [List.length_map] at ho2
         exact ⟨(HMP.out.keep fun k _ hk => hbw.block k hk).imp fun k hk => .inl hk, OnlyIn.of_below hbw, ho1.low hs1, ho2.low hs1 hs1⟩
       have HST := Lib.hid hstart
       have HHN := Lib.hid hN
       rw [← hN] at HST htl hc1 hc2 ⊢
       have HHW := Lib.hid hw1
       clear ho1 ho2 hb2 hstart hN hw1))
  go_loopw [18] (fun x wr => TurnRel S M c i d g ts (.slice A1 N c1) (.slice A2 N c2) w x wr) (fun x _ => N - (intOf x).toNat)
  case atStart => exact ⟨0, Nat.zero_le _, rfl, HST.out⟩
  case round =>
    obtain ⟨j, hj, rfl, hat⟩ := hrel
    by_cases hlt : j < N
    · have hjl : j < ts.length := by rw [← HHN.out]; exact hlt
      obtain ⟨A3, c3, e3, hu3, hr3⟩ := OwnTm.row hat.terms
      clear hu3
      rw [HHN.out] at hat
      have hA3 : A3 = A1 := by injection e3 with e _ _; exact e.symm
      clear e3
      subst hA3
      obtain ⟨b1, o1, rfl, hb1, hx4, hy4⟩ := hr3.at_ hjl
      obtain ⟨x, hx, hx2⟩ := as_text ts[j].1
      obtain ⟨y, hy, hy2⟩ := as_text ts[j].2
      rw [← hx] at hx4
      rw [← hy] at hy4
      have hf := HFIT.out _ (List.getElem_mem hjl)
      have CK := Lib.hid (fun w' => word_Key_at x y w' (by rw [hx, size_nm]; omega) (by rw [hy, size_nm]; omega))
      have hkey : (keyB x y).data.toList = keyT ts[j] := by rw [keyB_list, hx2, hy2]; rfl
      obtain ⟨z, hz⟩ : ∃ z, z = keyB x y := ⟨_, rfl⟩
      rw [← hz] at CK hkey
      have hkv := kV_of hkey
      have j0 : (0 : Int) ≤ j := by omega
      have j1 : (j : Int) < N := by omega
      have HAT := Lib.hid hat
      have HKV := Lib.hid hkv
      clear hat hr3 hx hx2 hy hy2 hf hkey hz hkv
      go_upto_region 6 with (first
        | (go_at_call 46; (with_reducible refine (CK.out _).mono ?_); rintro e w3 ⟨rfl, hg3⟩
           have HB3 := Lib.hid hg3.below
           clear hg3))
      have hb3 : Below wr.heap.size wr w3 := ((Below.refl _ wr).alloc (Nat.le_refl _) _).trans (HB3.out.mono (by simp))
      have hat3 := HAT.out.below hb3
      have hBK := HBK.out w3 hat3.only
      obtain ⟨bq, oq, A', c', ⟨c9, e9⟩, ⟨csq, frq, hhq⟩, hcq, hpc, hpx, hrow⟩ := hat3.places hjl
      have hA2 : A2 = some ⟨bq, oq, none⟩ := by injection e9
      clear e9
      subst hA2
      obtain ⟨v, nn, cs, m, hmk, hv, hnn, hown, hput⟩ := hat3.put hjl hM
      have hput2 := hput A' c' hrow hpc hpx
      have hnb := HNB.out j (keyT ts[j])
      rw [← hnn] at hnb
      have hp5 := HPL.out ts[j]
      obtain ⟨pl, hpl⟩ : ∃ pl, pl = placesD d ts[j] := ⟨_, rfl⟩
      rw [← hpl] at hput2 hp5 hcq hpc
      have hlook : ∀ w', MapK w' M c m → (Instr.lookup 61 (.map (some M)) (.string z) false).run Tryz.prog w' = .ok v w' := fun w' h => by
        rw [← HKV.out, hv]
        exact run_lookup_ks h _
      have hl0 := hlook w3.drew hmk
      have hl1 : ∀ o, _ := fun o => hlook (w3.drew.alloc o) ((((Below.refl _ w3).drew.alloc (Nat.le_refl _) o).block M (Array.getElem?_eq_some_iff.1 hmk).1).trans hmk)
      have hl2 : ∀ o, _ := fun o => hlook ((w3.alloc o).drew) ((((Below.refl _ w3).alloc (Nat.le_refl _) o).block M (Array.getElem?_eq_some_iff.1 hmk).1).trans hmk)
      have HS : Hid (∀ w', Below w3.heap.size w3 w' → w'.cell? ⟨B, 1, none⟩ = some (.map (some M)) ∧ w'.cell? ⟨bq, oq + j, none⟩ = some (.slice A' pl.length c')) := Lib.hid fun w' h =>
        ⟨(four_cells ((h.block _ (lt_of_block hBK)).trans hBK)).2.1, (h.cell (p := ⟨bq, _, none⟩) (lt_of_block hhq)).trans hcq⟩
      have HAPP : Hid (∀ (gg cap : Nat) (w5 : World), w5.ownsRow 0 54 2 (.slice (some ⟨gg, 0, none⟩) (nn + 1) cap) (nn + 1) (cs ++ [.int .i64 i, .slice A' pl.length c']) →
          (w3.drew.alloc (.cells #[.int .i64 i, .slice A' pl.length c'] 54)).grownBy w5 v.ownBlock → (v.ownBlock = some gg ∨ gg = w3.heap.size + 1) → gg < w5.heap.size →
          ∃ w6, (Instr.mapUpdate 61 (.map (some M)) (.string z) (.slice (some ⟨gg, 0, none⟩) (nn + 1) cap)).run Tryz.prog w5 = .ok () w6 ∧
            (w5.cell? ⟨B, 1, none⟩ = some (.map (some M)) ∧ w5.cell? ⟨bq, oq + j, none⟩ = some (.slice A' pl.length c')) ∧
            (w6.cell? ⟨B, 1, none⟩ = some (.map (some M)) ∧ w6.cell? ⟨bq, oq + j, none⟩ = some (.slice A' pl.length c')) ∧ TurnAt S M c i d g ts (.slice (some ⟨b1, o1, none⟩) N c1) (.slice (some ⟨bq, oq, none⟩) N c2) w (j + 1) w6) := Lib.hid fun gg cap w5 h1 h2 h3 h4 => by
        obtain ⟨hM5, hk5, hnM, hfin⟩ := hput2 gg cap w5 h1 h2 h3 h4
        obtain ⟨w6, hrun, hM6, hg6⟩ := run_update_ks hM5 (keyT ts[j]) (.slice (some ⟨gg, 0, none⟩) (nn + 1) cap)
        rw [HKV.out] at hrun
        have hkB := (hk5 B (lt_of_block hBK) (owned_apart hown hBK (by decide))).trans hBK
        have hkq := hk5 bq (lt_of_block hhq) (owned_apart hown hhq (by decide))
        have hM' : ∀ {k : Nat} {cs : Array Value} {t : TypeId} {fr : Nat × Nat}, w5.heap[k]? = some (.cells cs t fr) → w6.heap[k]? = w5.heap[k]? := fun {k cs t fr} h => hg6.block k (Array.getElem?_eq_some_iff.1 h).1 fun e => by
          cases e
          unfold MapK at hM5
          rw [hM5] at h
          cases h
        have hq5 : w5.cell? ⟨bq, oq + j, none⟩ = some (.slice A' pl.length c') := (World.cell?_of_block (a := ⟨bq, _, none⟩) hkq).trans hcq
        exact ⟨w6, hrun, ⟨(four_cells hkB).2.1, hq5⟩, ⟨(four_cells ((hM' hkB).trans hkB)).2.1, (World.cell?_of_block (a := ⟨bq, _, none⟩) (hM' (hkq.trans hhq))).trans hq5⟩, by rw [HHN.out]; exact hfin w6 hM6 hg6⟩
      have HOW := Lib.hid hown
      clear hb3 hat3 hBK hhq hcq hrow hmk hv hnn hown hput hput2 hpl hlook hpx hx4 hy4
      go_region_held3 (fun w' => w'.cell? ⟨B, 1, none⟩ = some (.map (some M)) ∧ w'.cell? ⟨bq, oq + j, none⟩ = some (.slice A' pl.length c'))
        (first | exact HS.out _ (Below.refl _ _).drew | exact HS.out _ ((Below.refl _ _).drew.alloc (Nat.le_refl _) _) | exact HS5.out | exact HS6.out)
        (first
          | (refine step_append_lies _ (by rfl) _ _ _ (by rfl) 0 54 t0 _ 2 32 Tryz.underlying49 hi0 hz0 hz1 hz2 rfl (by omega) v nn cs (by rfl) ((owned_below HOW.out ((Below.refl _ w3).drew)).alloc _)
              ⟨w3.heap.size, 0, none⟩ 1 1 [.int .i64 i, .slice A' pl.length c'] (by rfl) (by rfl) (World.news_of_block (cs := #[.int .i64 i, .slice A' pl.length c']) (t := 54) (fr := (0, 0)) (heap_alloc_new w3.drew _)) (by intro u hu; simp at hu; rcases hu with hu | hu <;> (subst hu; rfl))
              (by omega) (by unfold maxLen; omega) (by omega) (by simp) (w3.heap.size + 1) (by simp) ?_
             intro gg cap w5 hown5 hg5 hat5 hlt5
             obtain ⟨w6, hrun6, hs5, hs6, hfin⟩ := HAPP.out gg cap w5 hown5 hg5 hat5 hlt5
             have HS5 := Lib.hid hs5
             have HS6 := Lib.hid hs6
             have HFIN := Lib.hid hfin
             clear hs5 hs6 hfin hown5 hg5 hat5))
      all_goals
        go_wp2
        exact ⟨⟨j + 1, hjl, by go_num, HFIN.out⟩, by simp [intOf]; omega⟩
    · have hjt : j = ts.length := by have := HHN.out; omega
      subst hjt
      have h1 := hat.map
      have h2 := hat.only
      rw [List.take_length] at h1
      clear hat
      go_wp2
      go_end0
      exact (HG.out _ _).2 ⟨rfl, h1, h2⟩
end Go.Proofs.YtgcdekaceimdnaaGreat

/- The library's own contracts (slices.Clone, ContainsFunc of fields) at this translation's numbers. -/
set_option linter.unusedVariables false
namespace Go.Proofs.YtgcdekaceimdnaaGreat
open Go.Shelf Go.RowKit
def layCloneFd_ren : Go.Shelf.Ren := ⟨fun | 41 => 69 | n => n, fun | 4 => 4 | 22 => 28 | 23 => 59 | n => n, fun | n => n⟩
theorem layCloneFd : SlLaysE0.n41 Tryz.prog layCloneFd_ren := {
  mixed := by kernel_rfl
  f41 := ⟨Tryz.f69.name, by kernel_rfl, Tryz.func69.trans (congrArg some (by kernel_rfl))⟩
  t4 := Tryz.underlying4
  a4 := Tryz.isAgg4
  z4 := Tryz.sizeOf4
  v4 := Tryz.zeroValue4
  t22 := Tryz.underlying28
  a22 := Tryz.isAgg28
  z22 := Tryz.sizeOf28
  v22 := Tryz.zeroValue28 }
def layHasFd_ren : Go.Shelf.Ren := ⟨fun | 6 => 80 | 8 => 61 | n => n, fun | 0 => 0 | 3 => 3 | 4 => 4 | 22 => 28 | 23 => 59 | 25 => 106 | n => n, fun | n => n⟩
theorem layHasFd : SlLaysH0.n8 Tryz.prog layHasFd_ren := {
  mixed := by kernel_rfl
  f6 := ⟨Tryz.f80.name, by kernel_rfl, Tryz.func80.trans (congrArg some (by kernel_rfl))⟩
  f8 := ⟨Tryz.f61.name, by kernel_rfl, Tryz.func61.trans (congrArg some (by kernel_rfl))⟩
  t0 := Tryz.underlying0
  a0 := Tryz.isAgg0
  z0 := Tryz.sizeOf0
  v0 := Tryz.zeroValue0
  t3 := Tryz.underlying3
  a3 := Tryz.isAgg3
  z3 := Tryz.sizeOf3
  v3 := Tryz.zeroValue3
  t4 := Tryz.underlying4
  a4 := Tryz.isAgg4
  z4 := Tryz.sizeOf4
  v4 := Tryz.zeroValue4
  t22 := Tryz.underlying28
  a22 := Tryz.isAgg28
  z22 := Tryz.sizeOf28
  v22 := Tryz.zeroValue28
  t25 := Tryz.underlying106
  a25 := Tryz.isAgg106
  z25 := Tryz.sizeOf106
  v25 := Tryz.zeroValue106 }
end Go.Proofs.YtgcdekaceimdnaaGreat

/- What package doc's Clone answers: the same document, its fields in memory of its own. -/
namespace Go.Proofs.YtgcdekaceimdnaaGreat
open Go Go.RowKit
set_option linter.unusedVariables false

theorem clone_fd (A : Option Addr) (n c : Nat) (l : List Fd) (w : World) (hl : l.length = n) (hr : FRow w w.heap.size A l) (hA : A = none ∨ ∃ b o, A = some ⟨b, o, none⟩) (hn : n ≤ 1048576) :
    Calls Tryz.prog 69 #[.slice A n c] w fun e w' => ∃ v, e = .returned v ∧ OwnFd w.heap.size w' v l ∧ Below w.heap.size w w' := by
  obtain ⟨i0, hi0, hz0, hz1, hz2⟩ := info_parts info_field
  rcases hA with rfl | ⟨b, o, rfl⟩
  · have hl0 : l = [] := by
      cases l with
      | nil => rfl
      | cons f l => obtain ⟨_, _, e, _⟩ := hr.at_ (k := 0) (by simp); cases e
    subst hl0
    refine (AnyE.slices_Clone_nil layCloneFd n c w).mono ?_
    rintro e w' ⟨rfl, rfl⟩
    exact ⟨_, rfl, OwnFd.nil, Below.refl _ _⟩
  · have hc : ∀ j u, (flds l)[j]? = some u → w.cell? ⟨b, o + j, none⟩ = some u := fun j u hu => by
      rcases hr with h | ⟨b', o', e, _, hc⟩
      · rw [h] at hu; simp at hu
      · cases e
        exact hc j u hu
    refine (AnyE.slices_Clone layCloneFd i0 _ 2 32 hi0 hz0 hz1 hz2 rfl (by decide) Tryz.sizeOf59 b o n c (flds l) w (by rw [flds_length, hl]) (by unfold maxLen; omega) (by omega) hc (flds_oneCell l)).mono ?_
    rintro e w' ⟨v, rfl, hown, _, hb⟩
    refine ⟨v, rfl, ?_, hb⟩
    unfold OwnFd
    rw [hl]
    exact hown

set_option maxHeartbeats 2000000 in
set_option maxRecDepth 100000 in
theorem doc_Clone (id : Int) (A : Option Addr) (n c : Nat) (l : List Fd) (w : World) (hl : l.length = n) (hr : FRow w w.heap.size A l) (hA : A = none ∨ ∃ b o, A = some ⟨b, o, none⟩) (hn : n ≤ 1048576) :
    Calls Tryz.prog 47 #[docV id A n c] w fun e w' => ∃ v, e = .returned (.agg #[.int .i64 id, v]) ∧ OwnFd w.heap.size w' v l ∧ Below w.heap.size w w' := by
  obtain ⟨w1, hw1⟩ : ∃ w1, w1 = (w.alloc (.cells #[.int .i64 id, .slice A n c] 30)).alloc (.cells #[.int .i64 0, .slice none 0 0] 30) := ⟨_, rfl⟩
  have hb1 : Below w.heap.size w w1 := by rw [hw1]; exact ((Below.refl _ w).alloc (Nat.le_refl _) _).alloc (by simp) _
  have hs1 : w1.heap.size = w.heap.size + 2 := by rw [hw1]; simp
  have hk0 : w1.heap[w.heap.size]? = some (.cells #[.int .i64 id, .slice A n c] 30 (0, 0)) := by
    rw [hw1, Below.heap_alloc _ _ _ (by simp)]
    exact heap_alloc_new w _
  have hk1 : w1.heap[w.heap.size + 1]? = some (.cells #[.int .i64 0, .slice none 0 0] 30 (0, 0)) := by
    rw [hw1]
    simpa using heap_alloc_new (w.alloc (.cells #[.int .i64 id, .slice A n c] 30)) (.cells #[.int .i64 0, .slice none 0 0] 30)
  have HS : Hid (∀ w', Below w1.heap.size w1 w' → w'.cell? ⟨w.heap.size, 0, none⟩ = some (.int .i64 id) ∧ w'.cell? ⟨w.heap.size, 1, none⟩ = some (.slice A n c)) := Lib.hid fun w' h => by
    have := (h.block w.heap.size (by omega)).trans hk0
    exact ⟨(two_cells this).1, (two_cells this).2.1⟩
  have HK1 : Hid (∀ w', Below w1.heap.size w1 w' → w'.heap[w.heap.size + 1]? = some (.cells #[.int .i64 0, .slice none 0 0] 30 (0, 0))) := Lib.hid fun w' h => (h.block _ (by omega)).trans hk1
  have HC : Hid (∀ w', Below w1.heap.size w1 w' → Calls Tryz.prog 69 #[.slice A n c] w' fun e w'' => ∃ v, e = .returned v ∧ OwnFd w'.heap.size w'' v l ∧ Below w'.heap.size w' w'') := Lib.hid fun w' h => clone_fd A n c l w' hl (hr.later (hb1.trans (h.mono hb1.size))) hA hn
  have HW1 := Lib.hid hw1
  have HB1 := Lib.hid hb1
  have HS1 := Lib.hid hs1
  clear hw1 hb1 hs1 hk0 hk1 hr hA hl
  go_enter Tryz.func47, Tryz.ntmps47
  go_wp2
  rw [show (w.alloc _).alloc _ = w1 from HW1.out.symm]
  go_region_held3 (fun w' => w'.cell? ⟨w.heap.size, 0, none⟩ = some (.int .i64 id) ∧ w'.cell? ⟨w.heap.size, 1, none⟩ = some (.slice A n c))
    (first | exact HS.out _ (Below.refl _ _).drew | exact HS.out _ HB4.out | exact HSE.out)
    (first
      | (go_at_call 69; (with_reducible refine (HC.out _ (Below.refl _ w1).drew).mono ?_); rintro e w4 ⟨v, rfl, ho4, hb4⟩
         obtain ⟨A4, c4, rfl, _, _⟩ := ho4.row
         have HB4 : Hid (Below w1.heap.size w1 w4) := Lib.hid ((Below.refl _ w1).drew.trans hb4)
         have HO4 : Hid (OwnFd w1.heap.size w4 (.slice A4 l.length c4) l) := Lib.hid ho4
         have hz := two_cells (HK1.out _ HB4.out)
         have r0 := hz.1
         have r1 := hz.2.1
         have r2 := hz.2.2.1
         have r3 := hz.2.2.2
         have HSE : Hid (((w4.setCell ⟨w.heap.size + 1, 0, none⟩ (.int .i64 id)).setCell ⟨w.heap.size + 1, 1, none⟩ (.slice A4 l.length c4)).cell? ⟨w.heap.size, 0, none⟩ = some (.int .i64 id) ∧ ((w4.setCell ⟨w.heap.size + 1, 0, none⟩ (.int .i64 id)).setCell ⟨w.heap.size + 1, 1, none⟩ (.slice A4 l.length c4)).cell? ⟨w.heap.size, 1, none⟩ = some (.slice A n c)) := Lib.hid (by
           have hq := HS.out _ HB4.out
           have hne : ∀ (u : World) (k : Nat) (v : Value) (o : Nat), (u.setCell ⟨w.heap.size + 1, k, none⟩ v).cell? ⟨w.heap.size, o, none⟩ = u.cell? ⟨w.heap.size, o, none⟩ := fun u k v o => by
             simp only [World.cell?]
             rw [set_ne (by omega)]
           rw [hne, hne, hne, hne]
           exact hq)
         clear ho4 hb4 hz))
  all_goals
    go_wp2
    obtain ⟨we, hwe⟩ : ∃ we, we = (w4.setCell ⟨w.heap.size + 1, 0, none⟩ (.int .i64 id)).setCell ⟨w.heap.size + 1, 1, none⟩ (.slice A4 l.length c4) := ⟨_, rfl⟩
    have h3 : we.heap[w.heap.size + 1]? = some (.cells #[.int .i64 id, .slice A4 l.length c4] 30 (0, 0)) := by rw [hwe, set_at (set_at (HK1.out _ HB4.out))]; rfl
    have hbe : Below w.heap.size w we := by rw [hwe]; exact ((HB1.out.trans (HB4.out.mono HB1.out.size)).setCell (by simp) _).setCell (by simp) _
    have hs1 := HS1.out
    have hoe : OwnFd w.heap.size we (.slice A4 l.length c4) l := by
      rw [hwe]
      exact (show OwnFd w1.heap.size _ _ _ from ownsRow_setCell_below (ownsRow_setCell_below HO4.out (a := ⟨w.heap.size + 1, 0, none⟩) (by simp; omega) _) (a := ⟨w.heap.size + 1, 1, none⟩) (by simp; omega) _).low (by omega)
    rw [← hwe]
    obtain ⟨d0, d1, _, _⟩ := two_cells h3
    exact bodyPost_ret (v := .agg #[.int .i64 id, .slice A4 l.length c4]) (by simp [results, Tryz.results47, go_sem, d0, d1]) rfl ⟨_, rfl, hoe, hbe⟩
end Go.Proofs.YtgcdekaceimdnaaGreat

/- What a buffer's clone answers: the same entry, its fields in memory of its own. -/
namespace Go.Proofs.YtgcdekaceimdnaaGreat
open Go Go.RowKit
set_option linter.unusedVariables false

theorem three_more {w : World} {b : Nat} {x y z : Value} {t : TypeId} (h : w.heap[b]? = some (.cells #[x, y, z] t (0, 0))) : w.frozen? ⟨b, 0, none⟩ = false ∧ w.frozen? ⟨b, 1, none⟩ = false ∧ w.frozen? ⟨b, 2, none⟩ = false := by
  simp [World.frozen?, h]
/-- An entry in memory of the call's own. -/
def GotEn (id : Int) (l : List Fd) (seq : Int) (w : World) (e : Ending) (w' : World) : Prop :=
  ∃ A c, e = .returned (.agg #[.int .i64 id, .slice A l.length c, .int .i64 seq]) ∧ (l.length ≤ c ∧ c ≤ maxLen) ∧ OwnFd w.heap.size w' (.slice A l.length c) l ∧ Below w.heap.size w w'
set_option maxHeartbeats 2000000 in
set_option maxRecDepth 100000 in
theorem buf_clone (id : Int) (A : Option Addr) (n c : Nat) (l : List Fd) (seq : Int) (w : World) (hl : l.length = n) (hr : FRow w w.heap.size A l) (hA : A = none ∨ ∃ b o, A = some ⟨b, o, none⟩) (hn : n ≤ 1048576) :
    Calls Tryz.prog 30 #[.agg #[.int .i64 id, .slice A n c, .int .i64 seq]] w (GotEn id l seq w) := by
  obtain ⟨w1, hw1⟩ : ∃ w1, w1 = (w.alloc (.cells #[.int .i64 id, .slice A n c, .int .i64 seq] 37)).alloc (.cells #[.int .i64 0, .slice none 0 0, .int .i64 0] 37) := ⟨_, rfl⟩
  have hb1 : Below w.heap.size w w1 := by rw [hw1]; exact ((Below.refl _ w).alloc (Nat.le_refl _) _).alloc (by simp) _
  have hs1 : w1.heap.size = w.heap.size + 2 := by rw [hw1]; simp
  have hk0 : w1.heap[w.heap.size]? = some (.cells #[.int .i64 id, .slice A n c, .int .i64 seq] 37 (0, 0)) := by
    rw [hw1, Below.heap_alloc _ _ _ (by simp)]
    exact heap_alloc_new w _
  have hk1 : w1.heap[w.heap.size + 1]? = some (.cells #[.int .i64 0, .slice none 0 0, .int .i64 0] 37 (0, 0)) := by
    rw [hw1]
    simpa using heap_alloc_new (w.alloc (.cells #[.int .i64 id, .slice A n c, .int .i64 seq] 37)) (.cells #[.int .i64 0, .slice none 0 0, .int .i64 0] 37)
  have HS : Hid (∀ w', Below w1.heap.size w1 w' → w'.cell? ⟨w.heap.size, 0, none⟩ = some (.int .i64 id) ∧ w'.cell? ⟨w.heap.size, 1, none⟩ = some (.slice A n c) ∧ w'.cell? ⟨w.heap.size, 2, none⟩ = some (.int .i64 seq)) := Lib.hid fun w' h => three_cells ((h.block w.heap.size (by omega)).trans hk0)
  have HK1 : Hid (∀ w', Below w1.heap.size w1 w' → w'.heap[w.heap.size + 1]? = some (.cells #[.int .i64 0, .slice none 0 0, .int .i64 0] 37 (0, 0))) := Lib.hid fun w' h => (h.block _ (by omega)).trans hk1
  have HC : Hid (∀ w', Below w1.heap.size w1 w' → Calls Tryz.prog 47 #[docV id A n c] w' fun e w'' => ∃ v, e = .returned (.agg #[.int .i64 id, v]) ∧ OwnFd w'.heap.size w'' v l ∧ Below w'.heap.size w' w'') := Lib.hid fun w' h => doc_Clone id A n c l w' hl (hr.later (hb1.trans (h.mono hb1.size))) hA hn
  have HW1 := Lib.hid hw1
  have HB1 := Lib.hid hb1
  have HS1 := Lib.hid hs1
  clear hw1 hb1 hs1 hk0 hk1 hr hA hl
  go_enter Tryz.func30, Tryz.ntmps30
  go_wp2
  rw [show (w.alloc _).alloc _ = w1 from HW1.out.symm]
  go_region_held3 (fun w' => w'.cell? ⟨w.heap.size, 0, none⟩ = some (.int .i64 id) ∧ w'.cell? ⟨w.heap.size, 1, none⟩ = some (.slice A n c) ∧ w'.cell? ⟨w.heap.size, 2, none⟩ = some (.int .i64 seq))
    (first | exact HS.out _ (Below.refl _ _).drew | exact HS.out _ HB4.out | exact HSE.out)
    (first
      | (go_at_call 47; (with_reducible refine (HC.out _ (Below.refl _ w1).drew).mono ?_); rintro e w4 ⟨v, rfl, ho4, hb4⟩
         obtain ⟨A4, c4, rfl, hc4, _⟩ := owned_roomed ho4
         have HB4 : Hid (Below w1.heap.size w1 w4) := Lib.hid ((Below.refl _ w1).drew.trans hb4)
         have HO4 : Hid (OwnFd w1.heap.size w4 (.slice A4 l.length c4) l) := Lib.hid ho4
         have hz := three_cells (HK1.out _ HB4.out)
         have hf := three_more (HK1.out _ HB4.out)
         have r0 := hz.1
         have r1 := hz.2.1
         have r2 := hz.2.2
         have r3 := hf.1
         have r4 := hf.2.1
         have r5 := hf.2.2
         have HSE : Hid ((((w4.setCell ⟨w.heap.size + 1, 0, none⟩ (.int .i64 id)).setCell ⟨w.heap.size + 1, 1, none⟩ (.slice A4 l.length c4)).setCell ⟨w.heap.size + 1, 2, none⟩ (.int .i64 seq)).cell? ⟨w.heap.size, 0, none⟩ = some (.int .i64 id) ∧ (((w4.setCell ⟨w.heap.size + 1, 0, none⟩ (.int .i64 id)).setCell ⟨w.heap.size + 1, 1, none⟩ (.slice A4 l.length c4)).setCell ⟨w.heap.size + 1, 2, none⟩ (.int .i64 seq)).cell? ⟨w.heap.size, 1, none⟩ = some (.slice A n c) ∧
             (((w4.setCell ⟨w.heap.size + 1, 0, none⟩ (.int .i64 id)).setCell ⟨w.heap.size + 1, 1, none⟩ (.slice A4 l.length c4)).setCell ⟨w.heap.size + 1, 2, none⟩ (.int .i64 seq)).cell? ⟨w.heap.size, 2, none⟩ = some (.int .i64 seq)) := Lib.hid (by
           have hq := HS.out _ HB4.out
           have hne : ∀ (u : World) (k : Nat) (v : Value) (o : Nat), (u.setCell ⟨w.heap.size + 1, k, none⟩ v).cell? ⟨w.heap.size, o, none⟩ = u.cell? ⟨w.heap.size, o, none⟩ := fun u k v o => by
             simp only [World.cell?]
             rw [set_ne (by omega)]
           simp only [hne]
           exact hq)
         clear ho4 hb4 hz hf))
  all_goals
    go_wp2
    obtain ⟨we, hwe⟩ : ∃ we, we = ((w4.setCell ⟨w.heap.size + 1, 0, none⟩ (.int .i64 id)).setCell ⟨w.heap.size + 1, 1, none⟩ (.slice A4 l.length c4)).setCell ⟨w.heap.size + 1, 2, none⟩ (.int .i64 seq) := ⟨_, rfl⟩
    have h3 : we.heap[w.heap.size + 1]? = some (.cells #[.int .i64 id, .slice A4 l.length c4, .int .i64 seq] 37 (0, 0)) := by rw [hwe, set_at (set_at (set_at (HK1.out _ HB4.out)))]; rfl
    have hbe : Below w.heap.size w we := by rw [hwe]; exact (((HB1.out.trans (HB4.out.mono HB1.out.size)).setCell (by simp) _).setCell (by simp) _).setCell (by simp) _
    have hs1 := HS1.out
    have hoe : OwnFd w.heap.size we (.slice A4 l.length c4) l := by
      rw [hwe]
      exact (show OwnFd w1.heap.size _ _ _ from ownsRow_setCell_below (ownsRow_setCell_below (ownsRow_setCell_below HO4.out (a := ⟨w.heap.size + 1, 0, none⟩) (by simp; omega) _) (a := ⟨w.heap.size + 1, 1, none⟩) (by simp; omega) _) (a := ⟨w.heap.size + 1, 2, none⟩) (by simp; omega) _).low (by omega)
    rw [← hwe]
    obtain ⟨d0, d1, d2⟩ := three_cells h3
    exact bodyPost_ret (v := .agg #[.int .i64 id, .slice A4 l.length c4, .int .i64 seq]) (by simp [results, Tryz.results30, go_sem, d0, d1, d2]) rfl ⟨_, _, rfl, hc4, hoe, hbe⟩
end Go.Proofs.YtgcdekaceimdnaaGreat

/- What package doc's Name answers. -/
namespace Go.Proofs.YtgcdekaceimdnaaGreat
open Go Go.RowKit
set_option linter.unusedVariables false

set_option maxHeartbeats 1000000 in
set_option maxRecDepth 100000 in
theorem doc_Name (s : ByteArray) (w : World) (hs : s.size ≤ 9223372036854775807) :
    Calls Tryz.prog 60 #[.string s] w fun e w' => e = .returned (.bool (nameB s.data.toList)) ∧ Below w.heap.size w w' := by
  have hsz : s.data.toList.length = s.size := Array.length_toList
  by_cases h0 : s.size = 0
  · have he : s = ByteArray.empty := by
      have : s.data.toList = [] := List.eq_nil_of_length_eq_zero (by omega)
      cases s with | mk d => cases d with | mk l => simp at this; subst this; rfl
    have hm : nameB s.data.toList = false := by rw [he]; rfl
    rw [hm]
    subst he
    clear hm hsz h0
    go_enter Tryz.func60, Tryz.ntmps60
    go_wp2
    go_ret
    exact ⟨rfl, Below.refl _ _⟩
  · have hne : s.data.toList ≠ [] := fun h => h0 (by rw [← hsz, h]; rfl)
    have hs0 : (s.toList == []) = false := by
      rw [Lib.toList_data]
      simpa using hne
    obtain ⟨z, hz⟩ : ∃ z, z = nameB s.data.toList := ⟨_, rfl⟩
    rw [← hz]
    have HZ := Lib.hid hz
    clear hz hne
    by_cases h12 : 12 < s.size
    · have hzf : z = false := by
        rw [HZ.out, nameB, hsz]
        have d : decide (s.size ≤ 12) = false := decide_eq_false (by omega)
        rw [d]
        simp
      subst hzf
      clear hsz h0
      go_enter Tryz.func60, Tryz.ntmps60
      go_wp2
      go_ret
      exact ⟨rfl, Below.refl _ _⟩
    · have hs12 : s.size ≤ 12 := by omega
      have h1 : 1 ≤ s.size := by omega
      have HSZ := Lib.hid hsz
      clear hsz h0 h12
      go_enter Tryz.func60, Tryz.ntmps60
      go_wp2
      go_loopw [2, 13] (fun r i wr => r = .bool false ∧ NameRel s.data.toList w i wr) (fun _ i _ => s.size - (intOf i).toNat)
      case atStart => exact ⟨rfl, 0, by omega, rfl, Below.refl _ _, fun j _ hj => by omega⟩
      case round =>
        obtain ⟨rfl, k, hk, rfl, hbw, hall⟩ := hrel
        rw [HSZ.out] at hk
        by_cases hlt : k < s.size
        · have hkl : k < s.data.toList.length := by rw [HSZ.out]; exact hlt
          have i0 : (0 : Int) ≤ k := by omega
          have i1 : (k : Int) < s.size := by omega
          have hb : s[k] = s.data.toList[k] := rfl
          cases hsm : smallB s.data.toList[k] with
          | true =>
            have h2 := hsm
            rw [smallB, ← hb, Bool.and_eq_true, decide_eq_true_iff, decide_eq_true_iff] at h2
            have j1 : (97 : Int) ≤ s[k].toNat := by omega
            have j2 : (s[k].toNat : Int) ≤ 122 := by omega
            have HN : Hid (∀ j (hj : j < s.data.toList.length), j < k + 1 → smallB s.data.toList[j] = true) := Lib.hid fun j hj hjk => by
              by_cases e : j = k
              · subst e; exact hsm
              · exact hall j hj (by omega)
            clear hall hsm h2 hb
            go_wp2
            go_roundw
            case rel => exact ⟨rfl, k + 1, by have := HSZ.out; omega, by go_num, hbw, HN.out⟩
            case measure => simp [intOf]; omega
          | false =>
            have h2 := hsm
            rw [smallB, ← hb, Bool.and_eq_false_iff, decide_eq_false_iff_not, decide_eq_false_iff_not] at h2
            have hbad : z = false := by rw [HZ.out]; exact nameB_bad hkl hsm
            subst hbad
            have j1 : (s[k].toNat : Int) < 97 ∨ (97 : Int) ≤ s[k].toNat ∧ (122 : Int) < s[k].toNat := by omega
            clear hall hsm h2 hb
            rcases j1 with j1 | ⟨j1, j2⟩
            all_goals
              go_wp2
              go_ret
              exact ⟨rfl, hbw⟩
        · have e := nameB_good (s := s.data.toList) (fun j hj => hall j hj (by rw [HSZ.out] at hj; omega))
          have d1 : (decide (1 ≤ s.size) && decide (s.size ≤ 12)) = true := by simp [h1, hs12]
          rw [HSZ.out, ← HZ.out, d1] at e
          subst e
          clear hall d1
          go_wp2
          go_ret
          exact ⟨rfl, hbw⟩
end Go.Proofs.YtgcdekaceimdnaaGreat

/- What package word's Tokens answers: each word with its place, or the first error; in new memory; nothing that was there turns. -/
namespace Go.Proofs.YtgcdekaceimdnaaGreat
open Go Go.RowKit
set_option linter.unusedVariables false

set_option maxHeartbeats 2000000 in
set_option maxRecDepth 100000 in
theorem word_Tokens (s : ByteArray) (w : World) (hs : s.size ≤ 268435456) :
    Calls Tryz.prog 63 #[.string s] w (GaveToks (words s.data.toList) w) := by
  obtain ⟨i0, hi0, hz0, hz1, hz2⟩ := info_parts info_token
  have hwl := words_length s.data.toList
  have hsz : s.data.toList.length = s.size := Array.length_toList
  rw [hsz] at hwl
  go_enter Tryz.func63, Tryz.ntmps63
  go_wp2_with (go_at_call 70; refine (word_Words s _ (by omega)).mono ?_)
  rintro e w1 ⟨v, rfl, hown, hb⟩
  obtain ⟨A, c, rfl, _, hrow⟩ := owned_row hown
  obtain ⟨ws, hl⟩ : ∃ ws, ws = words s.data.toList := ⟨_, rfl⟩
  rw [← hl] at hrow hwl
  rw [← hl]
  have FIN : Hid (∀ e w', GaveToks ws w e w' → GaveToks (words s.data.toList) w e w') := by rw [← hl]; exact fun _ _ h => h
  have HB := Lib.hid hb
  have HR := Lib.hid hrow
  clear hl hb hown hrow
  go_wp2
  go_loopw [2, 3, 4, 10] (fun a b o i wr => ToksRel ws w1 a b o i wr) (fun _ _ _ i _ => ws.length - (intOf i).toNat)
  case atStart => exact ⟨0, _, rfl, rfl, rfl, Nat.zero_le _, by omega, rfl, World.ownsRow_nil _ _ _ _, Below.refl _ _, rfl⟩
  case round =>
    obtain ⟨k, vo, rfl, rfl, rfl, hk, hk5, rfl, hown, hbw, her⟩ := hrel
    by_cases hlt : k < ws.length
    · obtain ⟨b1, o1, e1, _, hc1⟩ := row_str (HR.out.below hbw) hlt
      subst e1
      have hat := errFrom_at hlt
      have htk := tokCells_take hlt
      obtain ⟨tx, htx⟩ : ∃ tx : ByteArray, tx = ⟨ws[k].toArray⟩ := ⟨_, rfl⟩
      have htl : ws[k].length = tx.size := by rw [htx]; simp [ByteArray.size]
      rw [← htx] at hc1 htk
      rw [htl, her] at hat
      clear htx htl her
      have HTK := Lib.hid htk
      clear htk
      have hszj := hbw.size
      by_cases h30 : 30 < tx.size
      · rw [if_pos h30] at hat
        have HAT := Lib.hid hat
        clear hat
        go_wp2
        go_ret2
        exact FIN.out _ _ ⟨_, by rw [HAT.out]; rfl, fun h => by rw [HAT.out] at h; omega, fun _ => rfl, HB.out.trans (hbw.mono HB.out.size)⟩
      · rw [if_neg h30] at hat
        by_cases h500 : k = 500
        · rw [if_pos (by omega)] at hat
          have HAT := Lib.hid hat
          subst h500
          clear hat
          go_wp2
          go_ret2
          exact FIN.out _ _ ⟨_, by rw [HAT.out]; rfl, fun h => by rw [HAT.out] at h; omega, fun _ => rfl, HB.out.trans (hbw.mono HB.out.size)⟩
        · rw [if_neg (by omega)] at hat
          have HAT := Lib.hid hat
          clear hat
          have h5 : (k : Int) < 500 := by omega
          go_wp2_with (at_builtin; refine wpList_append_own _ rfl (.tmp 20) (.tmp 24) 82 rfl w1.heap.size 104 i0 _ 2 24 Tryz.underlying82 hi0 hz0 hz1 hz2 rfl (by omega) _ k (tokCells 0 (ws.take k)) rfl (hown.alloc _) ⟨wr.heap.size, 0, none⟩ 1 1 [.string tx, .int .i64 k] rfl rfl (news_at wr [.string tx, .int .i64 k] 104) (by intro u hu; simp at hu; rcases hu with hu | hu <;> (subst hu; rfl)) (by unfold maxLen; omega) (by omega) (by simp; omega) ?_)
          intro v' w5 hown5 hgrow5 _
          have hbw5 := (hbw.alloc (by omega) _).grown hgrow5 (by simp; omega) (fun j hj => (hown.lt j hj).1)
          rw [← HTK.out] at hown5
          clear hgrow5
          go_wp2
          go_roundw
          case rel => exact ⟨k + 1, _, rfl, rfl, rfl, by omega, by omega, by go_num, hown5, hbw5, HAT.out.symm⟩
          case measure => simp [intOf]; omega
    · have hkl : k = ws.length := by omega
      have her0 : errFrom 0 ws = 0 := by rw [← her, List.drop_of_length_le (by omega)]; rfl
      rw [hkl, List.take_length] at hown
      have HE := Lib.hid her0
      clear her her0 hkl
      go_wp2
      go_ret2
      exact FIN.out _ _ ⟨_, by rw [HE.out]; rfl, fun _ => owned_low hown HB.out.size, fun h => absurd HE.out h, HB.out.trans (hbw.mono HB.out.size)⟩
end Go.Proofs.YtgcdekaceimdnaaGreat
