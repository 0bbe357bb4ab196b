/- A set in memory: a struct of its size and its words, in a row of its own; where a word stands. -/
import Derived.Test.YtkflmhpmnceniaaDoorBit03
import Derived.Test.YtkflmhpmnceniaaDoorVars
set_option linter.unusedVariables false
namespace Go.Proofs.YtkflmhpmnceniaaDoor
open Go Go.RowKit
open Plain (Wd WS Rep posW keptW getW)

/-- The cells of words. -/
def wcells : List Wd → List Value
  | [] => []
  | p :: ws => .int .i64 p.1 :: .int .u64 p.2 :: wcells ws
theorem wcells_length : ∀ ws : List Wd, (wcells ws).length = ws.length * 2
  | [] => rfl
  | p :: ws => by simp only [wcells, List.length_cons, wcells_length ws]; omega
theorem wcells_append : ∀ a b : List Wd, wcells (a ++ b) = wcells a ++ wcells b
  | [], b => rfl
  | p :: a, b => by simp only [List.cons_append, wcells, wcells_append a b]
theorem wcells_take : ∀ (ws : List Wd) (k : Nat), wcells (ws.take k) = (wcells ws).take (k * 2)
  | [], k => by simp [wcells]
  | p :: ws, 0 => by simp [wcells]
  | p :: ws, k + 1 => by
    rw [List.take_succ_cons, wcells, wcells, wcells_take ws k, show (k + 1) * 2 = k * 2 + 1 + 1 by omega]
    rfl
theorem wcells_drop : ∀ (ws : List Wd) (k : Nat), wcells (ws.drop k) = (wcells ws).drop (k * 2)
  | [], k => by simp [wcells]
  | p :: ws, 0 => by simp [wcells]
  | p :: ws, k + 1 => by
    rw [List.drop_succ_cons, wcells, wcells_drop ws k, show (k + 1) * 2 = k * 2 + 1 + 1 by omega]
    rfl
theorem wcells_at : ∀ (ws : List Wd) (k : Nat) (p : Wd), ws[k]? = some p → (wcells ws)[k * 2]? = some (.int .i64 p.1) ∧ (wcells ws)[k * 2 + 1]? = some (.int .u64 p.2)
  | [], k, p, h => by simp at h
  | q :: ws, 0, p, h => by
    simp only [List.getElem?_cons_zero, Option.some.injEq] at h
    subst h
    exact ⟨rfl, rfl⟩
  | q :: ws, k + 1, p, h => by
    rw [List.getElem?_cons_succ] at h
    have ih := wcells_at ws k p h
    rw [wcells, show (k + 1) * 2 = k * 2 + 1 + 1 by omega]
    exact ih
theorem wcells_set : ∀ (ws : List Wd) (k : Nat) (a x y : Nat), ws[k]? = some (a, x) → wcells (ws.set k (a, y)) = (wcells ws).set (k * 2 + 1) (.int .u64 y)
  | [], k, a, x, y, h => by simp at h
  | q :: ws, 0, a, x, y, h => by
    simp only [List.getElem?_cons_zero, Option.some.injEq] at h
    subst h
    rfl
  | q :: ws, k + 1, a, x, y, h => by
    rw [List.getElem?_cons_succ] at h
    rw [List.set_cons_succ, wcells, wcells, wcells_set ws k a x y h, show (k + 1) * 2 + 1 = (k * 2 + 1) + 1 + 1 by omega]
    rfl
theorem wcells_one : ∀ (ws : List Wd), ∀ u ∈ wcells ws, u.oneCell' = true
  | [], u, h => by cases h
  | p :: ws, u, h => by
    simp only [wcells, List.mem_cons] at h
    rcases h with rfl | rfl | h
    · rfl
    · rfl
    · exact wcells_one ws u h

/-- The word at place k of a row, in memory. -/
theorem row_word {w : World} {B : Nat} {A : Option Addr} {ws : List Wd} (h : Row w B A (wcells ws)) {k : Nat} (hk : k < ws.length) :
    ∃ b off, A = some ⟨b, off, none⟩ ∧ b < B ∧ w.cell? ⟨b, off + k * 2, none⟩ = some (.int .i64 (ws[k]'hk).1) ∧ w.cell? ⟨b, off + k * 2 + 1, none⟩ = some (.int .u64 (ws[k]'hk).2) := by
  obtain ⟨b, off, rfl, hb, hc⟩ := h.at_ (by rw [wcells_length]; omega)
  have h2 := wcells_at ws k _ (List.getElem?_eq_getElem hk)
  exact ⟨b, off, rfl, hb, hc _ _ h2.1, by rw [Nat.add_assoc]; exact hc _ _ h2.2⟩

theorem info_word : (Tryd.prog.info? 59).map (fun i => (i.zero, i.size, i.bytes)) = some (some (.agg #[.int .i64 0, .int .u64 0]), 2, 16) := by kernel_rfl

/-! ## Where a word stands -/

/-- What is told of a place. -/
def Pos (ws : List Wd) (a : Nat) (w : World) (e : Ending) (w' : World) : Prop := e = .returned (.tuple #[.int .i64 (posW ws a : Nat), .bool (keptW ws a)]) ∧ Below w.heap.size w w'
def Lohi (ws : List Wd) (a lo hi : Nat) : Prop := (∀ k p, ws[k]? = some p → k < lo → p.1 < a) ∧ (∀ k p, ws[k]? = some p → hi ≤ k → a ≤ p.1)
theorem lohi_end {ws : List Wd} (hs : ws.Pairwise fun p q => p.1 < q.1) {a lo hi : Nat} (h : Lohi ws a lo hi) (hle : hi ≤ lo) (hlo : lo ≤ ws.length) : posW ws a = lo := by
  have s := Plain.posW_split ws hs a
  have hp := Plain.posW_le ws a
  rcases Nat.lt_trichotomy (posW ws a) lo with h1 | h1 | h1
  · obtain ⟨p, hp⟩ : ∃ p, ws[posW ws a]? = some p := ⟨_, List.getElem?_eq_getElem (by omega)⟩
    have h2 := h.1 _ p hp h1
    have h3 := (s _ p hp).2 h2
    omega
  · exact h1
  · obtain ⟨p, hp⟩ : ∃ p, ws[lo]? = some p := ⟨_, List.getElem?_eq_getElem (by omega)⟩
    have h2 := h.2 _ p hp hle
    have h3 := (s _ p hp).1 h1
    omega
theorem lohi_up {ws : List Wd} (hs : ws.Pairwise fun p q => p.1 < q.1) {a lo hi m : Nat} {p : Wd} (h : Lohi ws a lo hi) (hm : ws[m]? = some p) (hp : p.1 < a) : Lohi ws a (m + 1) hi := by
  refine ⟨fun k q hk hlt => ?_, h.2⟩
  have s := Plain.posW_split ws hs a
  have h1 := (s m p hm).2 hp
  exact (s k q hk).1 (by omega)
theorem lohi_down {ws : List Wd} (hs : ws.Pairwise fun p q => p.1 < q.1) {a lo hi m : Nat} {p : Wd} (h : Lohi ws a lo hi) (hm : ws[m]? = some p) (hp : ¬ p.1 < a) : Lohi ws a lo m := by
  refine ⟨h.1, fun k q hk hle => ?_⟩
  have s := Plain.posW_split ws hs a
  apply Nat.le_of_not_lt
  intro hc
  have h1 := (s k q hk).2 hc
  exact hp ((s m p hm).1 (by omega))

def SearchRel (ws : List Wd) (a : Nat) (w1 : World) (lo hi : Value) (wr : World) : Prop :=
  ∃ l h : Nat, lo = .int .i64 l ∧ hi = .int .i64 h ∧ l ≤ h ∧ h ≤ ws.length ∧ Lohi ws a l h ∧ Below w1.heap.size w1 wr

set_option maxHeartbeats 2000000 in
set_option maxRecDepth 100000 in
theorem search_words (A : Option Addr) (n c : Nat) (ws : List Wd) (a : Nat) (w : World) (hn : ws.length = n) (hrow : Row w w.heap.size A (wcells ws)) (hs : ws.Pairwise fun p q => p.1 < q.1) (hl : ws.length ≤ 1073741824) (ha : a < 4611686018427387904)
    (ha2 : ∀ p ∈ ws, p.1 < 4611686018427387904) :
    Calls Tryd.prog 49 #[.slice A n c, .int .i64 a, .func (.func 50) #[] #[]] w (Pos ws a w) := by
  subst hn
  have HR := Lib.hid hrow
  have HS := Lib.hid hs
  have HA := Lib.hid ha2
  clear hrow hs ha2
  go_enter Tryd.func49, Tryd.ntmps49
  go_wp2
  go_loopw [9, 10] (SearchRel ws a w) (fun lo hi _ => ((intOf hi) - (intOf lo)).toNat)
  case atStart => exact ⟨0, ws.length, rfl, rfl, Nat.zero_le _, Nat.le_refl _, ⟨fun k p _ h => absurd h (Nat.not_lt_zero _), fun k p hk h => by have := (List.getElem?_eq_some_iff.1 hk).1; omega⟩, Below.refl _ _⟩
  case round =>
    obtain ⟨lo, hi, rfl, rfl, hle, hhi, hinv, hbw⟩ := hrel
    have HI := Lib.hid hinv
    have HB := Lib.hid hbw
    clear hinv hbw
    by_cases hlt : lo < hi
    · obtain ⟨b1, o1, e1, hb1, hc1, hc2⟩ := row_word (HR.out.below HB.out) (k := (lo + hi) / 2) (by omega)
      subst e1
      obtain ⟨p, hp⟩ : ∃ p, p = ws[(lo + hi) / 2]'(by omega) := ⟨_, rfl⟩
      rw [← hp] at hc1 hc2
      have HP : Hid (ws[(lo + hi) / 2]? = some p) := by rw [hp]; exact List.getElem?_eq_getElem (by omega)
      clear hp
      obtain ⟨m, hm⟩ : ∃ m, m = (lo + hi) / 2 := ⟨_, rfl⟩
      rw [← hm] at hc1 hc2 HP
      have hmi : ((lo : Int) + (hi : Int)) / 2 = (m : Int) := by omega
      have hm1 : lo ≤ m := by omega
      have hm2 : m < hi := by omega
      clear hm
      have hcmp := find_1 (p.1 : Int) (p.2 : Int) (a : Int)
      by_cases hpa : p.1 < a
      · have hv : cmpI (p.1 : Int) (a : Int) = -1 := if_pos (by omega)
        rw [hv] at hcmp
        have HC := Lib.hid hcmp
        clear hv hcmp
        go_wp2_with (go_at_call 50; refine (HC.out _).mono ?_; rintro e w' ⟨rfl, hbb⟩)
        go_roundw
        case rel => exact ⟨m + 1, hi, by go_num, rfl, by omega, hhi, lohi_up HS.out HI.out HP.out hpa, HB.out.trans (hbb.mono (by have := HB.out.size; simp; omega))⟩
        case measure => simp [intOf]; omega
      · have hv : decide (cmpI (p.1 : Int) (a : Int) < 0) = false := by unfold cmpI; rw [if_neg (by omega)]; split <;> rfl
        have HC := Lib.hid hcmp
        clear hcmp
        go_wp2_with (go_at_call 50; refine (HC.out _).mono ?_; rintro e w' ⟨rfl, hbb⟩)
        go_roundw
        case rel => exact ⟨lo, m, rfl, rfl, by omega, by omega, lohi_down HS.out HI.out HP.out hpa, HB.out.trans (hbb.mono (by have := HB.out.size; simp; omega))⟩
        case measure => simp [intOf]; omega
    · obtain rfl : hi = lo := by omega
      have hpos := lohi_end HS.out HI.out (Nat.le_refl _) hhi
      by_cases hn : hi < ws.length
      · obtain ⟨b1, o1, e1, hb1, hc1, hc2⟩ := row_word (HR.out.below HB.out) (k := hi) hn
        subst e1
        obtain ⟨p, hp⟩ : ∃ p, p = ws[hi]'hn := ⟨_, rfl⟩
        rw [← hp] at hc1 hc2
        have HP : Hid (ws[hi]? = some p) := by rw [hp]; exact List.getElem?_eq_getElem hn
        clear hp
        have hkept : keptW ws a = (cmpI (p.1 : Int) (a : Int) == 0) := by
          unfold keptW
          rw [hpos, HP.out]
          show (p.1 == a) = _
          rw [Bool.eq_iff_iff]
          simp only [beq_iff_eq]
          unfold cmpI
          split
          · omega
          · split
            · omega
            · omega
        have hcmp := find_1 (p.1 : Int) (p.2 : Int) (a : Int)
        obtain ⟨q, hq⟩ : ∃ q, q = cmpI (p.1 : Int) (a : Int) := ⟨_, rfl⟩
        rw [← hq] at hcmp hkept
        have HC := Lib.hid hcmp
        have HPO := Lib.hid hpos
        have HK := Lib.hid hkept
        clear hcmp hpos hkept hq
        go_wp2_with (go_at_call 50; refine (HC.out _).mono ?_; rintro e w' ⟨rfl, hbb⟩)
        go_ret2
        exact ⟨by rw [HPO.out, HK.out]; rfl, HB.out.trans (hbb.mono (by have := HB.out.size; simp; omega))⟩
      · have hkept : keptW ws a = false := by
          unfold keptW
          rw [hpos, List.getElem?_eq_none (by omega)]
        have HPO := Lib.hid hpos
        have HK := Lib.hid hkept
        clear hpos hkept
        go_wp2
        go_ret2
        exact ⟨by rw [HPO.out, HK.out]; rfl, HB.out⟩

/-! ## A set in memory -/

/-- The struct lies at block B, its words in a row of its own, from base on. -/
def SetAt (w : World) (base B n : Nat) (ws : List Wd) : Prop :=
  base ≤ B ∧ ∃ v, w.heap[B]? = some (.cells #[.int .i64 n, v] 56 (0, 0)) ∧ w.ownsRow base 59 2 v ws.length (wcells ws)
theorem SetAt.lt {w : World} {base B n : Nat} {ws : List Wd} (h : SetAt w base B n ws) : B < w.heap.size := by
  obtain ⟨_, v, hv, _⟩ := h
  exact (Array.getElem?_eq_some_iff.1 hv).1
theorem SetAt.low {w : World} {base base' B n : Nat} {ws : List Wd} (h : SetAt w base B n ws) (hb : base' ≤ base) : SetAt w base' B n ws := by
  obtain ⟨h1, v, hv, ho⟩ := h
  exact ⟨by omega, v, hv, owned_low ho hb⟩
theorem SetAt.below {w w' : World} {base B n : Nat} {ws : List Wd} (h : SetAt w base B n ws) (hb : Below w.heap.size w w') : SetAt w' base B n ws := by
  have hl := h.lt
  obtain ⟨h1, v, hv, ho⟩ := h
  exact ⟨h1, v, (hb.block B hl).trans hv, owned_below ho hb⟩
theorem cell_two {w : World} {B : Nat} {x y : Value} {t : TypeId} (h : w.heap[B]? = some (.cells #[x, y] t (0, 0))) : w.cell? ⟨B, 0, none⟩ = some x ∧ w.cell? ⟨B, 1, none⟩ = some y ∧ w.frozen? ⟨B, 0, none⟩ = false ∧ w.frozen? ⟨B, 1, none⟩ = false := by
  simp [World.cell?, World.frozen?, h]
/-- What a reader of a set has: its size, its words' slice, and the words behind it. -/
theorem SetAt.read {w : World} {base B n : Nat} {ws : List Wd} (h : SetAt w base B n ws) :
    ∃ A c, w.cell? ⟨B, 0, none⟩ = some (.int .i64 n) ∧ w.cell? ⟨B, 1, none⟩ = some (.slice A ws.length c) ∧ ws.length ≤ c ∧ Row w w.heap.size A (wcells ws) := by
  obtain ⟨_, v, hv, ho⟩ := h
  obtain ⟨A, c, rfl, hc, hr⟩ := owned_row ho
  obtain ⟨c1, c2, _, _⟩ := cell_two hv
  exact ⟨A, c, c1, c2, hc, hr⟩

/-- The same, parted: no words, or a row at a block's head. -/
theorem SetAt.read2 {w : World} {base B n : Nat} {ws : List Wd} (h : SetAt w base B n ws) :
    w.cell? ⟨B, 0, none⟩ = some (.int .i64 n) ∧ ((ws = [] ∧ w.cell? ⟨B, 1, none⟩ = some (.slice none 0 0)) ∨
      ∃ g c, w.cell? ⟨B, 1, none⟩ = some (.slice (some ⟨g, 0, none⟩) ws.length c) ∧ ws.length ≤ c ∧ c ≤ maxLen ∧ Row w w.heap.size (some ⟨g, 0, none⟩) (wcells ws)) := by
  obtain ⟨_, v, hv, ho⟩ := h
  obtain ⟨c1, c2, _, _⟩ := cell_two hv
  have ho' := ho
  rcases ho'.2 with ⟨rfl, h0⟩ | ⟨g, c, cur, rfl, _, _, hnc, hcm, _, _⟩
  · exact ⟨c1, .inl ⟨List.eq_nil_of_length_eq_zero h0, c2⟩⟩
  · exact ⟨c1, .inr ⟨g, c, c2, hnc, hcm, owned_row_of ho⟩⟩

/-- The sizes that these contracts speak of. -/
def big : Nat := 1073741824
theorem len_big {n : Nat} {ws : List Wd} (h : WS n ws) (hn : n ≤ big) : ws.length ≤ 16777217 ∧ ∀ p ∈ ws, p.1 < 16777217 := by
  unfold big at hn
  have := h.length
  refine ⟨by omega, fun p hp => ?_⟩
  have := h.here p hp
  omega

set_option maxHeartbeats 1000000 in
set_option maxRecDepth 100000 in
theorem set_find (base B n : Nat) (ws : List Wd) (a : Nat) (w : World) (h : SetAt w base B n ws) (hw : WS n ws) (hn : n ≤ big) (ha : a < 4611686018427387904) :
    Calls Tryd.prog 44 #[.pointer (some ⟨B, 0, none⟩), .int .i64 a] w (Pos ws a w) := by
  obtain ⟨A, c, c0, c1, hc, hr⟩ := h.read
  have hl := len_big hw hn
  have HS := Lib.hid (search_words A ws.length c ws a w rfl hr hw.asc (by omega) ha (fun p hp => by have := hl.2 p hp; omega))
  clear hr hw hl h
  go_enter Tryd.func44, Tryd.ntmps44
  go_wp2_with (go_at_call 49; refine HS.out.mono ?_; rintro e w' ⟨rfl, hbb⟩)
  go_ret2
  exact ⟨rfl, hbb⟩

/-- The word at a place: 0, where none is kept. -/
def GaveW (x : Nat) (w : World) (e : Ending) (w' : World) : Prop := e = .returned (.int .u64 x) ∧ Below w.heap.size w w'
set_option maxHeartbeats 1000000 in
set_option maxRecDepth 100000 in
theorem set_word (base B n : Nat) (ws : List Wd) (a : Nat) (w : World) (h : SetAt w base B n ws) (hw : WS n ws) (hn : n ≤ big) (ha : a < 4611686018427387904) :
    Calls Tryd.prog 37 #[.pointer (some ⟨B, 0, none⟩), .int .i64 a] w (GaveW (getW ws a) w) := by
  have HF := Lib.hid (set_find base B n ws a w h hw hn ha)
  have hl := (len_big hw hn).1
  have hpl := Plain.posW_le ws a
  cases hk : keptW ws a
  · have hg := Plain.getW_not hw.asc hk
    rw [hg]
    go_enter Tryd.func37, Tryd.ntmps37
    go_wp2_with (go_at_call 44; refine HF.out.mono ?_; rintro e w' ⟨rfl, hbb⟩; rw [hk])
    go_ret
    exact ⟨rfl, hbb⟩
  · obtain ⟨x, hx, hlt⟩ := Plain.keptW_at hk
    have hg := Plain.getW_kept hw hx
    rw [hg]
    have hx2 : ws[posW ws a]'hlt = (a, x) := (List.getElem?_eq_some_iff.1 hx).2
    have HX := Lib.hid hx2
    have H := Lib.hid h
    clear hx hx2 hg h
    go_enter Tryd.func37, Tryd.ntmps37
    go_wp2_with (go_at_call 44; refine HF.out.mono ?_)
    rintro e w' ⟨rfl, hbb⟩
    rw [hk]
    obtain ⟨A, c, c0, c1, hc, hr⟩ := (H.out.below hbb).read
    obtain ⟨b1, o1, e1, hb1, hc1, hc2⟩ := row_word hr hlt
    subst e1
    rw [HX.out] at hc1 hc2
    obtain ⟨k, hkk⟩ : ∃ k, k = posW ws a := ⟨_, rfl⟩
    rw [← hkk] at hc2 hc1 hlt ⊢
    clear hkk hr
    go_wp2
    go_ret
    exact ⟨rfl, hbb⟩
end Go.Proofs.YtkflmhpmnceniaaDoor
