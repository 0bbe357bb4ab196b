/- Texts laid together: Lay08, Follow08, Places08, Count08. -/
import Derived.Shelf.SlicesE.Clone
import Derived.Shelf.SlicesQ.Equal
import Derived.Shelf.SlicesQ.IndexFunc
import Derived.Shelf.Slices.SearchI
import Derived.Test.YthpecegifilgoaaProg
import Derived.Test.YthpecegifilgoaaGr08
import Derived.Test.YthpecegifilgoaaQ10
import Derived.Shelf.Slices.Empties
import Derived.Deep.AppendLies
import Derived.Deep.RegionHeld3

/- The library's own contracts (slices.Clone, Equal, ContainsFunc of fields; BinarySearch of numbers) at this translation's numbers. -/
set_option linter.unusedVariables false
namespace Go.Proofs.Ythpecegifilgoaa
open Go.Shelf Go.RowKit
def layCloneFd_ren : Go.Shelf.Ren := ⟨fun | 41 => 31 | n => n, fun | 4 => 4 | 22 => 22 | 23 => 31 | n => n, fun | n => n⟩
theorem layCloneFd : SlLaysE0.n41 Try.prog layCloneFd_ren := {
  mixed := by kernel_rfl
  f41 := ⟨Try.f31.name, by kernel_rfl, Try.func31.trans (congrArg some (by kernel_rfl))⟩
  t4 := Try.underlying4
  a4 := Try.isAgg4
  z4 := Try.sizeOf4
  v4 := Try.zeroValue4
  t22 := Try.underlying22
  a22 := Try.isAgg22
  z22 := Try.sizeOf22
  v22 := Try.zeroValue22 }
def layEqualFd_ren : Go.Shelf.Ren := ⟨fun | 8 => 34 | n => n, fun | 0 => 0 | 3 => 3 | 4 => 4 | 22 => 22 | 24 => 31 | n => n, fun | n => n⟩
theorem layEqualFd : SlLaysQ.n8 Try.prog layEqualFd_ren := {
  mixed := by kernel_rfl
  f8 := ⟨Try.f34.name, by kernel_rfl, Try.func34.trans (congrArg some (by kernel_rfl))⟩
  t0 := Try.underlying0
  a0 := Try.isAgg0
  z0 := Try.sizeOf0
  v0 := Try.zeroValue0
  t3 := Try.underlying3
  a3 := Try.isAgg3
  z3 := Try.sizeOf3
  v3 := Try.zeroValue3
  t4 := Try.underlying4
  a4 := Try.isAgg4
  z4 := Try.sizeOf4
  v4 := Try.zeroValue4
  t22 := Try.underlying22
  a22 := Try.isAgg22
  z22 := Try.sizeOf22
  v22 := Try.zeroValue22 }
def layHasFd_ren : Go.Shelf.Ren := ⟨fun | 6 => 62 | 8 => 47 | n => n, fun | 0 => 0 | 3 => 3 | 4 => 4 | 22 => 22 | 23 => 31 | 25 => 80 | n => n, fun | n => n⟩
theorem layHasFd : SlLaysH0.n8 Try.prog layHasFd_ren := {
  mixed := by kernel_rfl
  f6 := ⟨Try.f62.name, by kernel_rfl, Try.func62.trans (congrArg some (by kernel_rfl))⟩
  f8 := ⟨Try.f47.name, by kernel_rfl, Try.func47.trans (congrArg some (by kernel_rfl))⟩
  t0 := Try.underlying0
  a0 := Try.isAgg0
  z0 := Try.sizeOf0
  v0 := Try.zeroValue0
  t3 := Try.underlying3
  a3 := Try.isAgg3
  z3 := Try.sizeOf3
  v3 := Try.zeroValue3
  t4 := Try.underlying4
  a4 := Try.isAgg4
  z4 := Try.sizeOf4
  v4 := Try.zeroValue4
  t22 := Try.underlying22
  a22 := Try.isAgg22
  z22 := Try.sizeOf22
  v22 := Try.zeroValue22
  t25 := Try.underlying80
  a25 := Try.isAgg80
  z25 := Try.sizeOf80
  v25 := Try.zeroValue80 }
def layBinInt_ren : Go.Shelf.Ren := ⟨fun | 25 => 57 | 31 => 69 | 32 => 70 | 37 => 88 | n => n, fun | 0 => 0 | 3 => 3 | 4 => 4 | 22 => 45 | 40 => 99 | n => n, fun | n => n⟩
theorem layBinInt : Lays2.n25 Try.prog layBinInt_ren := {
  mixed := by kernel_rfl
  f25 := Try.func57.trans (congrArg some (by kernel_rfl))
  f31 := Try.func69.trans (congrArg some (by kernel_rfl))
  f32 := Try.func70.trans (congrArg some (by kernel_rfl))
  f37 := Try.func88.trans (congrArg some (by kernel_rfl))
  t0 := Try.underlying0
  a0 := Try.isAgg0
  z0 := Try.sizeOf0
  v0 := Try.zeroValue0
  t3 := Try.underlying3
  a3 := Try.isAgg3
  z3 := Try.sizeOf3
  v3 := Try.zeroValue3
  t4 := Try.underlying4
  a4 := Try.isAgg4
  z4 := Try.sizeOf4
  v4 := Try.zeroValue4
  t22 := Try.underlying45
  a22 := Try.isAgg45
  z22 := Try.sizeOf45
  v22 := Try.zeroValue45
  t40 := Try.underlying99
  a40 := Try.isAgg99
  z40 := Try.sizeOf99
  v40 := Try.zeroValue99 }
end Go.Proofs.Ythpecegifilgoaa

/- What follow answers: do words stand in a field from a place on? -/
namespace Go.Proofs.Ythpecegifilgoaa
open Go Go.RowKit Go.Shelf
set_option linter.unusedVariables false

theorem bin_I (base : Nat) (v : Value) (l : List Int) (x : Int) (w : World) (ho : OwnI base w v l) (hs : l.Pairwise (· < ·)) (hl : l.length ≤ 1073741824) :
    Calls Try.prog 57 #[v, .int .i64 x] w fun e w' => (∃ i : Int, e = .returned (.tuple #[.int .i64 i, .bool (decide (x ∈ l))])) ∧ Below w.heap.size w w' := by
  have hsle : (l.take l.length).Pairwise (· ≤ ·) := by rw [List.take_length]; exact hs.imp fun h => Int.le_of_lt h
  obtain ⟨A, c, rfl, _, hrow⟩ := owned_row ho
  rcases hrow with h0 | ⟨b, off, rfl, hb, hc⟩
  · have : l = [] := by simpa [ints] using h0
    subst this
    refine (Any.slices_BinarySearch_int_empty (ρ := layBinInt_ren) layBinInt A c x w).mono ?_
    rintro e w' ⟨rfl, rfl⟩
    exact ⟨⟨0, by simp⟩, Below.refl _ _⟩
  · refine (Any.slices_BinarySearch_int (ρ := layBinInt_ren) layBinInt b off l.length c l x w (Nat.le_refl _) (by omega) (fun j hj => ?_) hsle).mono ?_
    · have := hc j (.int .i64 l[j]) (by simp [ints, hj])
      rw [this, List.getD_eq_getElem?_getD, List.getElem?_eq_getElem hj]
      rfl
    · rintro e w' ⟨rfl, q, rfl⟩
      refine ⟨⟨((l.take l.length).countP (· < x) : Nat), ?_⟩, drewN_below _ _⟩
      simp

/-- Do the words stand there, by the groups? -/
def followG (g : List Gr) (f : Nm) : List Nm → Int → Bool
  | [], _ => true
  | x :: ws, a => decide (a ∈ getG g (f, x)) && followG g f ws (a + 1)
theorem followG_at {g : List Gr} {f : Nm} {ws : List Nm} {k : Nat} (hk : k < ws.length) (a : Int) : followG g f (ws.drop k) a = (decide (a ∈ getG g (f, ws[k])) && followG g f (ws.drop (k + 1)) (a + 1)) := by
  rw [List.drop_eq_getElem_cons hk, followG]
def FollowRel (g : List Gr) (f : Nm) (ws : List Nm) (a : Int) (r : Bool) (w : World) (o i : Value) (wr : World) : Prop :=
  o = .bool false ∧ ∃ k : Nat, k ≤ ws.length ∧ i = .int .i64 (k : Int) ∧ followG g f (ws.drop k) (a + k) = r ∧ Below w.heap.size w wr

set_option maxHeartbeats 2000000 in
set_option maxRecDepth 100000 in
theorem doc_follow (base B : Nat) (g : List Gr) (f : ByteArray) (A : Option Addr) (n c : Nat) (ws : List Nm) (a : Int) (w : World) (hg : GrAt base w B g) (hl : ws.length = n) (hr : Row w w.heap.size A (strs ws)) (hn : n ≤ 1048576) (ha : 0 ≤ a) (ha2 : a ≤ 1073741824)
    (hs : ∀ t, (getG g t).Pairwise (· < ·)) (hgl : ∀ t, (getG g t).length ≤ 1073741824) :
    Calls Try.prog 44 #[.map (some B), .string f, .slice A n c, .int .i64 a] w fun e w' => e = .returned (.bool (followG g f.data.toList ws a)) ∧ Below w.heap.size w w' := by
  subst hl
  have HG := Lib.hid hg
  have HR := Lib.hid hr
  have HS := Lib.hid hs
  have HGL := Lib.hid hgl
  obtain ⟨r, hres⟩ : ∃ r, r = followG g f.data.toList ws a := ⟨_, rfl⟩
  rw [← hres]
  have HRES := Lib.hid hres
  clear hg hr hs hgl hres
  go_enter Try.func44, Try.ntmps44
  go_wp2
  go_loopw [8, 15] (fun o i wr => FollowRel g f.data.toList ws a r w o i wr) (fun _ i _ => ws.length - (intOf i).toNat)
  case atStart => exact ⟨rfl, 0, by omega, rfl, by rw [HRES.out]; simp, Below.refl _ _⟩
  case round =>
    obtain ⟨rfl, k, hk, rfl, hgo, hbw⟩ := hrel
    by_cases hlt : k < ws.length
    · obtain ⟨b2, o2, e2, hb2, hg1⟩ := row_nm (HR.out.below hbw) hlt
      subst e2
      obtain ⟨x, hx, hx2⟩ := as_text ws[k]
      rw [← hx] at hg1
      rw [followG_at hlt, ← hx2] at hgo
      have hgr := HG.out.below hbw
      obtain ⟨v, ⟨m, hm, hv⟩, hown⟩ := hgr.look (f.data.toList, x.data.toList)
      have j0 : (0 : Int) ≤ k := by omega
      have j1 : (k : Int) < ws.length := by omega
      have ho2 := bin_I base v (getG g (f.data.toList, x.data.toList)) (a + k) wr hown (HS.out _) (HGL.out _)
      have e1 : wrap64 (a + k) = a + k := by unfold wrap64; omega
      have hk1 : a + ((k + 1 : Nat) : Int) = a + k + 1 := by push_cast; omega
      rw [← hk1] at hgo
      cases hd : decide (a + k ∈ getG g (f.data.toList, x.data.toList)) <;> rw [hd] at ho2 hgo
      all_goals
        have HGO := Lib.hid hgo
        have HO2 := Lib.hid ho2
        have HBW := Lib.hid hbw
        clear hx hx2 hgo ho2 hd hbw hgr hown hk1
        go_wp2_with (first
          | (refine wpList_lookup_tm _ (by rfl) _ _ (by rfl) B m (f.data.toList, x.data.toList) (by rfl) hm (by rfl) ?_
             rw [hv])
          | (go_at_call 57; (with_reducible refine HO2.out.mono ?_); rintro e w5 ⟨⟨i5, rfl⟩, hb5⟩))
      · go_ret
        refine ⟨ret_bool ?_, HBW.out.trans (hb5.mono HBW.out.size)⟩
        rw [← HGO.out]
        rfl
      · exact ⟨⟨rfl, k + 1, by omega, by go_num, by rw [← HGO.out]; rfl, HBW.out.trans (hb5.mono HBW.out.size)⟩, by simp [intOf]; omega⟩
    · have hkl : k = ws.length := by omega
      subst hkl
      rw [List.drop_length] at hgo
      have HGO := Lib.hid hgo
      have HBW := Lib.hid hbw
      clear hgo hbw
      go_wp2
      go_ret
      exact ⟨ret_bool (by rw [← HGO.out]; rfl), HBW.out⟩
end Go.Proofs.Ythpecegifilgoaa

/- What the document's Places answers: where a term stands. -/
namespace Go.Proofs.Ythpecegifilgoaa
open Go Go.RowKit
set_option linter.unusedVariables false

/-- A document in a block of its own, a term in the next one. -/
def boxDT (w : World) (id : Int) (A : Option Addr) (n c : Nat) (f x : ByteArray) : World := (boxD w id A n c).alloc (.cells #[.string f, .string x] 43)
theorem boxDT_size (w : World) (id : Int) (A : Option Addr) (n c : Nat) (f x : ByteArray) : (boxDT w id A n c f x).heap.size = w.heap.size + 2 := by simp [boxDT, boxD]
theorem boxDT_of {w wr : World} {id : Int} {A : Option Addr} {n c : Nat} {f x : ByteArray} (h : Below (boxDT w id A n c f x).heap.size (boxDT w id A n c f x) wr) :
    Below w.heap.size w wr ∧ wr.cell? ⟨w.heap.size, 0, none⟩ = some (.int .i64 id) ∧ wr.cell? ⟨w.heap.size, 1, none⟩ = some (.slice A n c) ∧ wr.cell? ⟨w.heap.size + 1, 0, none⟩ = some (.string f) ∧ wr.cell? ⟨w.heap.size + 1, 1, none⟩ = some (.string x) := by
  have hs := boxDT_size w id A n c f x
  have h0 : Below (boxD w id A n c).heap.size (boxD w id A n c) (boxDT w id A n c f x) := (Below.refl _ _).alloc (Nat.le_refl _) _
  have h1 : Below (boxD w id A n c).heap.size (boxD w id A n c) wr := h0.trans (h.mono (by rw [hs, boxD_size]; omega))
  have hb : wr.heap[w.heap.size + 1]? = some (.cells #[.string f, .string x] 43 (0, 0)) := (h.block (w.heap.size + 1) (by omega)).trans (by have := heap_alloc_new (boxD w id A n c) (.cells #[.string f, .string x] 43); rwa [boxD_size] at this)
  obtain ⟨c0, c1⟩ := boxD_cells h1
  exact ⟨boxD_out h1, c0, c1, by simp [World.cell?, hb], by simp [World.cell?, hb]⟩

theorem boxDT_below (w : World) (id : Int) (A : Option Addr) (n c : Nat) (f x : ByteArray) : Below w.heap.size w (boxDT w id A n c f x) := (boxD_below w id A n c).alloc (by simp [boxD]) _

def PlacesRel (l : List Nm) (x : Nm) (all : List Int) (w1 : World) (o i : Value) (wr : World) : Prop :=
  ∃ (k : Nat) (out : List Int) (vo : Value), vo = o ∧ k ≤ l.length ∧ i = .int .i64 (k : Int) ∧ out.length ≤ k ∧ wr.ownsRow w1.heap.size 3 1 o out.length (ints out) ∧ Below w1.heap.size w1 wr ∧ out ++ placesW k (l.drop k) x = all

set_option maxHeartbeats 2000000 in
set_option maxRecDepth 100000 in
theorem ref08_Places (id : Int) (A : Option Addr) (n c : Nat) (l : List Fd) (f x : ByteArray) (w : World) (hl : l.length = n) (hr : FRow w w.heap.size A l) (hn : n ≤ 1073741824) (ht : ∀ f ∈ l, f.2.length ≤ 268435456) (hw : ∀ s, (wordsD l s).length ≤ 1073741824) :
    Calls Try.prog 24 #[docV id A n c, .agg #[.string f, .string x]] w (GaveInts (placesD l (f.data.toList, x.data.toList)) w) := by
  obtain ⟨i0, hi0, hz0, hz1, hz2⟩ := info_parts info_int
  have c1 := fun w' (h : Below w.heap.size w w') => ref08_Words id A n c l f w' hl (hr.later h) hn ht
  obtain ⟨ws, hws⟩ : ∃ ws, ws = wordsD l f.data.toList := ⟨_, rfl⟩
  have hwl := hw f.data.toList
  rw [← hws] at c1 hwl
  obtain ⟨all, hall⟩ : ∃ all, all = placesD l (f.data.toList, x.data.toList) := ⟨_, rfl⟩
  rw [← hall]
  have HALL : Hid ([] ++ placesW 0 (ws.drop 0) x.data.toList = all) := Lib.hid (by rw [hall, hws]; rfl)
  have C1 := Lib.hid c1
  clear c1 hws hall hw ht hr hl
  go_enter Try.func24, Try.ntmps24
  go_wp2_with (go_at_call 30; refine (C1.out _ (boxDT_below w id A n c f x)).mono ?_)
  rintro e w2 ⟨v, rfl, hown, hb2⟩
  obtain ⟨A2, c2, rfl, _, hrow⟩ := owned_row hown
  have HB2 : Hid (∀ wr, Below w2.heap.size w2 wr → Below w.heap.size w wr ∧ wr.cell? ⟨w.heap.size + 1, 1, none⟩ = some (.string x)) := Lib.hid fun wr h => by
    have := boxDT_of (hb2.trans (h.mono hb2.size))
    exact ⟨this.1, this.2.2.2.2⟩
  have HR := Lib.hid hrow
  clear hb2 hown hrow
  go_wp2
  go_loopw [5, 7] (fun o i wr => PlacesRel ws x.data.toList all w2 o i wr) (fun _ i _ => ws.length - (intOf i).toNat)
  case atStart => exact ⟨0, [], _, rfl, by omega, rfl, by simp, World.ownsRow_nil _ _ _ _, Below.refl _ _, HALL.out⟩
  case round =>
    obtain ⟨k, out, vo, rfl, hk, rfl, hok, hout, hbw, hgo⟩ := hrel
    obtain ⟨hb0, hcx⟩ := HB2.out _ hbw
    by_cases hlt : k < ws.length
    · obtain ⟨b1, o1, e1, _, hc1⟩ := row_nm (HR.out.below hbw) hlt
      subst e1
      rw [placesW_at hlt] at hgo
      obtain ⟨y, hy, hy2⟩ := as_text ws[k]
      rw [← hy] at hc1
      have j0 : (0 : Int) ≤ k := by omega
      have j1 : (k : Int) < ws.length := by omega
      by_cases he : ws[k] = x.data.toList
      · have t1 := same_true (s := y) (t := x) (by rw [hy2]; exact he)
        rw [if_pos he] at hgo
        have HGO : Hid ((out ++ [(k : Int)]) ++ placesW (k + 1) (ws.drop (k + 1)) x.data.toList = all) := Lib.hid (by rw [← hgo]; simp)
        clear he hy hy2 hgo hb0
        go_wp2
        go_quiet (fail)
        go_wp2_with (at_builtin; refine wpList_append_own _ rfl (.tmp 25) (.tmp 27) 45 rfl w2.heap.size 3 i0 _ 1 8 Try.underlying45 hi0 hz0 hz1 hz2 rfl (by omega) _ out.length (ints out) rfl ((owned_below hout (drewN_below _ _)).alloc _) ⟨_, 0, none⟩ 1 1 [.int .i64 k] rfl rfl (news_at _ [.int .i64 k] 3) (by intro u hu; simp at hu; subst hu; rfl) (by unfold maxLen; omega) (by omega) (by have := hbw.size; simp; omega) ?_)
        intro v' w5 hown5 hgrow5 _
        have hbw5 := ((hbw.trans ((drewN_below wr nq).mono hbw.size)).alloc (by have := hbw.size; simp; omega) _).grown hgrow5 (by have := hbw.size; simp; omega) (fun j hj => (hout.lt j hj).1)
        clear hgrow5
        go_wp2
        go_roundw
        case rel => exact ⟨k + 1, out ++ [(k : Int)], _, rfl, by omega, by go_num, by simp; omega, by simpa [ints] using hown5, hbw5, HGO.out⟩
        case measure => simp [intOf]; omega
      · have t1 := same_false (s := y) (t := x) (by rw [hy2]; exact he)
        rw [if_neg he] at hgo
        have HGO := Lib.hid hgo
        clear he hy hy2 hgo hb0
        go_wp2
        go_quiet (fail)
        go_wp2
        go_roundw
        case rel => exact ⟨k + 1, out, _, rfl, by omega, by go_num, by omega, owned_below hout (drewN_below _ _), hbw.trans ⟨rfl, rfl, rfl, Nat.le_refl _, fun _ _ => rfl⟩, HGO.out⟩
        case measure => simp [intOf]; omega
    · have hkl : k = ws.length := by omega
      subst hkl
      rw [List.drop_length] at hgo
      have hal : out = all := by rw [← hgo]; simp [placesW]
      subst hal
      have HB0 := Lib.hid hb0
      clear hgo hb0
      go_wp2
      go_ret
      exact ⟨_, rfl, owned_low hout (by have := (HB2.out _ (Below.refl _ _)).1.size; omega), HB0.out⟩
end Go.Proofs.Ythpecegifilgoaa

/- What Count and Has answer. -/
namespace Go.Proofs.Ythpecegifilgoaa
open Go Go.RowKit
set_option linter.unusedVariables false

set_option maxHeartbeats 2000000 in
set_option maxRecDepth 100000 in
theorem doc_Count (id : Int) (A : Option Addr) (n c : Nat) (l : List Fd) (f x : ByteArray) (w : World) (hl : l.length = n) (hr : FRow w w.heap.size A l) (hn : n ≤ 100) (ht : ∀ f ∈ l, f.2.length ≤ 268435456) (hw : ∀ f ∈ l, (words f.2).length ≤ 1048576) :
    Calls Try.prog 26 #[docV id A n c, .agg #[.string f, .string x]] w fun e w' => e = .returned (.int .i64 ((placesS (tellD l) (f.data.toList, x.data.toList)).length : Int)) ∧ Below w.heap.size w w' := by
  have hS := fun w' (h : Below w.heap.size w w') => doc_stands id A n c l w' hl (hr.later h) hn ht hw
  have HS := Lib.hid hS
  obtain ⟨w1, hw1⟩ : ∃ w1, w1 = boxDT w id A n c f x := ⟨_, rfl⟩
  have hb1 : ∀ wr, Below w1.heap.size w1 wr → Below w.heap.size w wr ∧ wr.cell? ⟨w.heap.size, 0, none⟩ = some (.int .i64 id) ∧ wr.cell? ⟨w.heap.size, 1, none⟩ = some (.slice A n c) ∧ wr.cell? ⟨w.heap.size + 1, 0, none⟩ = some (.string f) ∧ wr.cell? ⟨w.heap.size + 1, 1, none⟩ = some (.string x) := fun wr h => by
    subst hw1
    exact boxDT_of h
  have HB1 := Lib.hid hb1
  have HW1 := Lib.hid hw1
  clear hS hr ht hw hb1 hw1
  obtain ⟨N, hN⟩ : ∃ N, N = (placesS (tellD l) (f.data.toList, x.data.toList)).length := ⟨_, rfl⟩
  rw [← hN]
  have HN := Lib.hid hN
  clear hN
  go_enter Try.func26, Try.ntmps26
  go_wp2
  rw [show (w.alloc _).alloc _ = w1 from HW1.out.symm]
  go_region_held3 (fun w' => w'.cell? ⟨w.heap.size, 0, none⟩ = some (.int .i64 id) ∧ w'.cell? ⟨w.heap.size, 1, none⟩ = some (.slice A n c) ∧ w'.cell? ⟨w.heap.size + 1, 0, none⟩ = some (.string f) ∧ w'.cell? ⟨w.heap.size + 1, 1, none⟩ = some (.string x))
    (first | exact (HB1.out _ (Below.refl _ _).drew).2 | exact (HB1.out _ HB4.out).2)
    (first
      | (go_at_call 37; (with_reducible refine (HS.out _ (HB1.out _ (Below.refl _ w1).drew).1).mono ?_); rintro e w4 ⟨B, rfl, hg4, hb4⟩
         obtain ⟨v, ⟨m, hm, hv⟩, hown⟩ := hg4.look (f.data.toList, x.data.toList)
         have hrun := run_lookup_tm hm (f.data.toList, x.data.toList)
         rw [hv, getG_groups] at *
         obtain ⟨A4, c4, rfl, _, _⟩ := owned_row hown
         rw [← HN.out] at *
         have hrun2 : Sem.run Try.prog (Instr.lookup 66 (.map (some B)) (.agg #[.string f, .string x]) false) w4 = .ok (.slice A4 N c4) w4 := hrun
         have HB4 : Hid (Below w1.heap.size w1 w4) := Lib.hid ((Below.refl _ w1).drew.trans hb4)
         clear hg4 hb4 hm hv hown hrun))
  all_goals
    go_wp2
    go_ret
    exact ⟨rfl, (HB1.out _ HB4.out).1⟩
end Go.Proofs.Ythpecegifilgoaa
