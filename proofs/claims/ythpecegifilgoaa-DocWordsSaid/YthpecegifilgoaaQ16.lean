/- Texts laid together: Words08, Places08, Weight08. -/
import Derived.Test.YthpecegifilgoaaQ07
import Derived.Test.YthpecegifilgoaaRefWords
import Derived.BigCall
import Derived.BigQuiet
import Derived.Deep.QuietTactic
import Derived.Test.YthpecegifilgoaaQ15
import Derived.Deep.AppendLies
import Derived.Deep.RegionHeld3

/- What the document's Words answers: the words of the field of a name. -/
namespace Go.Proofs.Ythpecegifilgoaa
open Go Go.RowKit
set_option linter.unusedVariables false

def WordsRel8 (l : List Fd) (s : Nm) (w1 : World) (a i : Value) (wr : World) : Prop :=
  a = .slice none 0 0 ∧ ∃ k : Nat, k ≤ l.length ∧ i = .int .i64 (k : Int) ∧ Below w1.heap.size w1 wr ∧ ∀ j (hj : j < l.length), j < k → l[j].1 ≠ s

set_option maxHeartbeats 1000000 in
set_option maxRecDepth 100000 in
theorem ref08_Words (id : Int) (A : Option Addr) (n c : Nat) (l : List Fd) (s : ByteArray) (w : World) (hl : l.length = n) (hr : FRow w w.heap.size A l) (hn : n ≤ 1073741824) (ht : ∀ f ∈ l, f.2.length ≤ 268435456) :
    Calls Try.prog 30 #[docV id A n c, .string s] w (GaveStrs (wordsD l s.data.toList) w) := by
  subst hl
  have HR := Lib.hid hr
  have HT := Lib.hid ht
  obtain ⟨ws, hws⟩ : ∃ ws, ws = wordsD l s.data.toList := ⟨_, rfl⟩
  rw [← hws]
  have HW := Lib.hid hws
  clear hws hr ht
  go_enter Try.func30, Try.ntmps30
  go_wp2
  obtain ⟨w1, hw1⟩ : ∃ w1, w1 = boxD w id A l.length c := ⟨_, rfl⟩
  have hb1 : ∀ wr, Below w1.heap.size w1 wr → Below w.heap.size w wr ∧ wr.cell? ⟨w.heap.size, 0, none⟩ = some (.int .i64 id) ∧ wr.cell? ⟨w.heap.size, 1, none⟩ = some (.slice A l.length c) := fun wr h => by
    subst hw1
    exact ⟨boxD_out h, boxD_cells h⟩
  have HB1 := Lib.hid hb1
  clear hb1
  rw [show w.alloc _ = w1 from hw1.symm]
  clear hw1
  go_loopw [4, 5] (fun a i wr => WordsRel8 l s.data.toList w1 a i wr) (fun _ i _ => l.length - (intOf i).toNat)
  case atStart => exact ⟨rfl, 0, by omega, rfl, Below.refl _ _, fun j _ hj => by omega⟩
  case round =>
    obtain ⟨rfl, k, hk, rfl, hbw, hall⟩ := hrel
    obtain ⟨hb0, hc0, hc1⟩ := HB1.out _ hbw
    by_cases hlt : k < l.length
    · obtain ⟨b1, o1, e1, _, hf1, hf2⟩ := (HR.out.below hb0).at_ hlt
      subst e1
      have ht8 := HT.out _ (List.getElem_mem hlt)
      obtain ⟨x, hx, hx2⟩ := as_text l[k].1
      obtain ⟨y, hy, hy2⟩ := as_text l[k].2
      rw [← hx] at hf1
      rw [← hy] at hf2
      have i0 : (0 : Int) ≤ k := by omega
      have i1 : (k : Int) < l.length := by omega
      by_cases he : l[k].1 = s.data.toList
      · have t1 := same_true (s := x) (t := s) (by rw [hx2]; exact he)
        have hys : y.size ≤ 268435456 := by rw [hy, size_nm]; omega
        have C1 := Lib.hid fun w => ref_Words y w hys
        have hww : words y.data.toList = ws := by rw [hy2, HW.out]; exact (wordsD_at hlt hall he).symm
        rw [hww] at C1
        have HB0 := Lib.hid hb0
        clear hall he hx hx2 hy hy2 hww ht8 hb0
        go_wp2_with (go_at_call 46; refine (C1.out _).mono ?_)
        rintro e w2 ⟨v, rfl, hown, hb2⟩
        have HO := Lib.hid hown
        have HB2 := Lib.hid hb2
        clear hown hb2
        go_wp2
        go_ret
        exact ⟨_, rfl, owned_low HO.out HB0.out.size, HB0.out.trans (HB2.out.mono HB0.out.size)⟩
      · have t1 := same_false (s := x) (t := s) (by rw [hx2]; exact he)
        have HN : Hid (∀ j (hj : j < l.length), j < k + 1 → l[j].1 ≠ s.data.toList) := Lib.hid fun j hj hjk => by
          by_cases e : j = k
          · subst e; exact he
          · exact hall j hj (by omega)
        clear hall he hx hx2 hy hy2 ht8 hb0
        go_wp2
        go_roundw
        case rel => exact ⟨rfl, k + 1, by omega, by go_num, hbw, HN.out⟩
        case measure => simp [intOf]; omega
    · have hn0 : ws = [] := by rw [HW.out]; exact wordsD_none fun j hj => hall j hj (by omega)
      subst hn0
      have HB0 := Lib.hid hb0
      clear hall hb0
      go_wp2
      go_ret
      exact ⟨_, rfl, World.ownsRow_nil _ _ _ _, HB0.out⟩
end Go.Proofs.Ythpecegifilgoaa

/- What the document's Places answers: where a term stands. -/
namespace Go.Proofs.Ythpecegifilgoaa
open Go Go.RowKit
set_option linter.unusedVariables false

def PlacesRel (l : List Nm) (x : Nm) (all : List Int) (w1 : World) (o i : Value) (wr : World) : Prop :=
  ∃ (k : Nat) (out : List Int) (vo : Value), vo = o ∧ k ≤ l.length ∧ i = .int .i64 (k : Int) ∧ out.length ≤ k ∧ wr.ownsRow w1.heap.size 3 1 o out.length (ints out) ∧ Below w1.heap.size w1 wr ∧ out ++ placesW k (l.drop k) x = all

set_option maxHeartbeats 2000000 in
set_option maxRecDepth 100000 in
theorem ref08_Places (id : Int) (A : Option Addr) (n c : Nat) (l : List Fd) (f x : ByteArray) (w : World) (hl : l.length = n) (hr : FRow w w.heap.size A l) (hn : n ≤ 1073741824) (ht : ∀ f ∈ l, f.2.length ≤ 268435456) (hw : ∀ s, (wordsD l s).length ≤ 1073741824) :
    Calls Try.prog 24 #[docV id A n c, .agg #[.string f, .string x]] w (GaveInts (placesD l (f.data.toList, x.data.toList)) w) := by
  obtain ⟨i0, hi0, hz0, hz1, hz2⟩ := info_parts info_int
  have c1 := fun w' (h : Below w.heap.size w w') => ref08_Words id A n c l f w' hl (hr.later h) hn ht
  obtain ⟨ws, hws⟩ : ∃ ws, ws = wordsD l f.data.toList := ⟨_, rfl⟩
  have hwl := hw f.data.toList
  rw [← hws] at c1 hwl
  obtain ⟨all, hall⟩ : ∃ all, all = placesD l (f.data.toList, x.data.toList) := ⟨_, rfl⟩
  rw [← hall]
  have HALL : Hid ([] ++ placesW 0 (ws.drop 0) x.data.toList = all) := Lib.hid (by rw [hall, hws]; rfl)
  have C1 := Lib.hid c1
  clear c1 hws hall hw ht hr hl
  go_enter Try.func24, Try.ntmps24
  go_wp2_with (go_at_call 30; refine (C1.out _ (boxDT_below w id A n c f x)).mono ?_)
  rintro e w2 ⟨v, rfl, hown, hb2⟩
  obtain ⟨A2, c2, rfl, _, hrow⟩ := owned_row hown
  have HB2 : Hid (∀ wr, Below w2.heap.size w2 wr → Below w.heap.size w wr ∧ wr.cell? ⟨w.heap.size + 1, 1, none⟩ = some (.string x)) := Lib.hid fun wr h => by
    have := boxDT_of (hb2.trans (h.mono hb2.size))
    exact ⟨this.1, this.2.2.2.2⟩
  have HR := Lib.hid hrow
  clear hb2 hown hrow
  go_wp2
  go_loopw [5, 7] (fun o i wr => PlacesRel ws x.data.toList all w2 o i wr) (fun _ i _ => ws.length - (intOf i).toNat)
  case atStart => exact ⟨0, [], _, rfl, by omega, rfl, by simp, World.ownsRow_nil _ _ _ _, Below.refl _ _, HALL.out⟩
  case round =>
    obtain ⟨k, out, vo, rfl, hk, rfl, hok, hout, hbw, hgo⟩ := hrel
    obtain ⟨hb0, hcx⟩ := HB2.out _ hbw
    by_cases hlt : k < ws.length
    · obtain ⟨b1, o1, e1, _, hc1⟩ := row_nm (HR.out.below hbw) hlt
      subst e1
      rw [placesW_at hlt] at hgo
      obtain ⟨y, hy, hy2⟩ := as_text ws[k]
      rw [← hy] at hc1
      have j0 : (0 : Int) ≤ k := by omega
      have j1 : (k : Int) < ws.length := by omega
      by_cases he : ws[k] = x.data.toList
      · have t1 := same_true (s := y) (t := x) (by rw [hy2]; exact he)
        rw [if_pos he] at hgo
        have HGO : Hid ((out ++ [(k : Int)]) ++ placesW (k + 1) (ws.drop (k + 1)) x.data.toList = all) := Lib.hid (by rw [← hgo]; simp)
        clear he hy hy2 hgo hb0
        go_wp2
        go_quiet (fail)
        go_wp2_with (at_builtin; refine wpList_append_own _ rfl (.tmp 25) (.tmp 27) 45 rfl w2.heap.size 3 i0 _ 1 8 Try.underlying45 hi0 hz0 hz1 hz2 rfl (by omega) _ out.length (ints out) rfl ((owned_below hout (drewN_below _ _)).alloc _) ⟨_, 0, none⟩ 1 1 [.int .i64 k] rfl rfl (news_at _ [.int .i64 k] 3) (by intro u hu; simp at hu; subst hu; rfl) (by unfold maxLen; omega) (by omega) (by have := hbw.size; simp; omega) ?_)
        intro v' w5 hown5 hgrow5 _
        have hbw5 := ((hbw.trans ((drewN_below wr nq).mono hbw.size)).alloc (by have := hbw.size; simp; omega) _).grown hgrow5 (by have := hbw.size; simp; omega) (fun j hj => (hout.lt j hj).1)
        clear hgrow5
        go_wp2
        go_roundw
        case rel => exact ⟨k + 1, out ++ [(k : Int)], _, rfl, by omega, by go_num, by simp; omega, by simpa [ints] using hown5, hbw5, HGO.out⟩
        case measure => simp [intOf]; omega
      · have t1 := same_false (s := y) (t := x) (by rw [hy2]; exact he)
        rw [if_neg he] at hgo
        have HGO := Lib.hid hgo
        clear he hy hy2 hgo hb0
        go_wp2
        go_quiet (fail)
        go_wp2
        go_roundw
        case rel => exact ⟨k + 1, out, _, rfl, by omega, by go_num, by omega, owned_below hout (drewN_below _ _), hbw.trans ⟨rfl, rfl, rfl, Nat.le_refl _, fun _ _ => rfl⟩, HGO.out⟩
        case measure => simp [intOf]; omega
    · have hkl : k = ws.length := by omega
      subst hkl
      rw [List.drop_length] at hgo
      have hal : out = all := by rw [← hgo]; simp [placesW]
      subst hal
      have HB0 := Lib.hid hb0
      clear hgo hb0
      go_wp2
      go_ret
      exact ⟨_, rfl, owned_low hout (by have := (HB2.out _ (Below.refl _ _)).1.size; omega), HB0.out⟩
end Go.Proofs.Ythpecegifilgoaa

/- What the document's Weight answers. -/
namespace Go.Proofs.Ythpecegifilgoaa
open Go Go.RowKit
set_option linter.unusedVariables false

def weightUp (l : List Fd) (k : Nat) : Nat := ((l.take k).map fun f => (wordsD l f.1).length).sum
theorem weightUp_succ {l : List Fd} {k : Nat} (hk : k < l.length) : weightUp l (k + 1) = weightUp l k + (wordsD l l[k].1).length := by
  unfold weightUp
  rw [List.take_succ_eq_append_getElem hk, List.map_append, List.sum_append]
  simp
theorem weightUp_all (l : List Fd) : weightUp l l.length = weightD l := by rw [weightUp, List.take_length]; rfl
theorem weightUp_le {l : List Fd} {m : Nat} (hw : ∀ s, (wordsD l s).length ≤ m) : ∀ k, k ≤ l.length → weightUp l k ≤ k * m
  | 0, _ => by simp [weightUp]
  | k + 1, hk => by
    have h1 := weightUp_le hw k (by omega)
    have h2 := hw (l[k]'(by omega)).1
    rw [weightUp_succ (by omega), Nat.succ_mul]
    omega

def WeightRel (l : List Fd) (w1 : World) (a i : Value) (wr : World) : Prop := ∃ k : Nat, k ≤ l.length ∧ a = .int .i64 (weightUp l k : Int) ∧ i = .int .i64 (k : Int) ∧ Below w1.heap.size w1 wr

set_option maxHeartbeats 2000000 in
set_option maxRecDepth 100000 in
theorem ref08_Weight (id : Int) (A : Option Addr) (n c : Nat) (l : List Fd) (w : World) (hl : l.length = n) (hr : FRow w w.heap.size A l) (hn : n ≤ 100) (ht : ∀ f ∈ l, f.2.length ≤ 268435456) (hw : ∀ s, (wordsD l s).length ≤ 1048576) :
    Calls Try.prog 25 #[docV id A n c] w fun e w' => e = .returned (.int .i64 (weightD l : Int)) ∧ Below w.heap.size w w' := by
  have HC : Hid (∀ w' (x : ByteArray), Below w.heap.size w w' → Calls Try.prog 30 #[docV id A n c, .string x] w' (GaveStrs (wordsD l x.data.toList) w')) := Lib.hid fun w' x h => ref08_Words id A n c l x w' hl (hr.later h) (by omega) ht
  subst hl
  have HR := Lib.hid hr
  have HW := Lib.hid hw
  clear hr ht hw
  obtain ⟨N, hN⟩ : ∃ N, N = weightD l := ⟨_, rfl⟩
  rw [← hN]
  have HN := Lib.hid hN
  clear hN
  go_enter Try.func25, Try.ntmps25
  go_wp2
  obtain ⟨w1, hw1⟩ : ∃ w1, w1 = boxD w id A l.length c := ⟨_, rfl⟩
  have hb1 : ∀ wr, Below w1.heap.size w1 wr → Below w.heap.size w wr ∧ wr.cell? ⟨w.heap.size, 0, none⟩ = some (.int .i64 id) ∧ wr.cell? ⟨w.heap.size, 1, none⟩ = some (.slice A l.length c) := fun wr h => by
    subst hw1
    exact ⟨boxD_out h, boxD_cells h⟩
  have HB1 := Lib.hid hb1
  clear hb1
  rw [show w.alloc _ = w1 from hw1.symm]
  clear hw1
  go_loopw [3, 4] (fun a i wr => WeightRel l w1 a i wr) (fun _ i _ => l.length - (intOf i).toNat)
  case atStart => exact ⟨0, by omega, rfl, rfl, Below.refl _ _⟩
  case round =>
    obtain ⟨k, hk, rfl, rfl, hbw⟩ := hrel
    obtain ⟨hb0, hc0, hc1⟩ := HB1.out _ hbw
    by_cases hlt : k < l.length
    · obtain ⟨b1, o1, e1, hb1, hf1, _⟩ := (HR.out.below hb0).at_ hlt
      subst e1
      have hsu := weightUp_succ hlt
      have hle := weightUp_le HW.out k (by omega)
      have hwk := HW.out l[k].1
      obtain ⟨x, hx, hx2⟩ := as_text l[k].1
      rw [← hx] at hf1
      rw [← hx2] at hsu hwk
      have C1 := Lib.hid fun w' h => HC.out w' x h
      obtain ⟨M, hM⟩ : ∃ M, M = weightUp l k := ⟨_, rfl⟩
      obtain ⟨ws, hws⟩ : ∃ ws, ws = wordsD l x.data.toList := ⟨_, rfl⟩
      rw [← hM, ← hws] at hsu
      rw [← hM] at hle
      rw [← hM]
      rw [← hws] at C1 hwk
      have hmb : M ≤ 104857600 := Nat.le_trans hle (Nat.le_trans (Nat.mul_le_mul_right _ (by omega : k ≤ 100)) (by omega))
      have i0 : (0 : Int) ≤ k := by omega
      have i1 : (k : Int) < l.length := by omega
      have HSU := Lib.hid hsu
      have HSS : Hid (∀ w', Below w1.heap.size wr w' → w'.cell? ⟨w.heap.size, 0, none⟩ = some (.int .i64 id) ∧ w'.cell? ⟨w.heap.size, 1, none⟩ = some (.slice (some ⟨b1, o1, none⟩) l.length c) ∧ w'.cell? ⟨b1, o1 + k * 2, none⟩ = some (.string x)) := Lib.hid fun w' h => by
        have h2 := HB1.out _ (hbw.trans h)
        refine ⟨h2.2.1, h2.2.2, ?_⟩
        have h3 := (h.mono (by have := (HB1.out _ (Below.refl _ _)).1.size; omega : w.heap.size ≤ w1.heap.size)).cell (p := ⟨b1, o1 + k * 2, none⟩) hb1
        exact h3.trans hf1
      have HB0 := Lib.hid hb0
      have hsz := hbw.size
      clear hx hx2 hM hws hsu hle hb0
      go_wp2
      go_region_held3 (fun w' => w'.cell? ⟨w.heap.size, 0, none⟩ = some (.int .i64 id) ∧ w'.cell? ⟨w.heap.size, 1, none⟩ = some (.slice (some ⟨b1, o1, none⟩) l.length c) ∧ w'.cell? ⟨b1, o1 + k * 2, none⟩ = some (.string x))
        (first | exact HSS.out _ (Below.refl _ _).drew | exact HSS.out _ HB4.out)
        (first
          | (go_at_call 30; (with_reducible refine (C1.out _ (HB0.out.trans ((Below.refl _ wr).drew.mono (HB0.out.size)))).mono ?_); rintro e w4 ⟨v4, rfl, ho4, hb4⟩
             obtain ⟨A4, c4, rfl, _, _⟩ := owned_row ho4
             have HB4 : Hid (Below w1.heap.size wr w4) := Lib.hid (((Below.refl _ wr).drew.trans hb4).mono hsz)
             clear ho4 hb4))
      all_goals
        go_wp2
        refine ⟨⟨k + 1, by omega, ?_, by go_num, hbw.trans HB4.out⟩, by simp [intOf]; omega⟩
        rw [HSU.out, IntWalk.i64_in _ (by omega)]
        push_cast
        rfl
    · have hkl : k = l.length := by omega
      subst hkl
      rw [weightUp_all, ← HN.out]
      have HB0 := Lib.hid hb0
      clear hb0
      go_wp2
      go_ret
      exact ⟨rfl, HB0.out⟩
end Go.Proofs.Ythpecegifilgoaa
