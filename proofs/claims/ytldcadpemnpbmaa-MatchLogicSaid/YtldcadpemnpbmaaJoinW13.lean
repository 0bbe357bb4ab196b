/- What the walks over lists of documents share. -/
import Derived.Test.YtldcadpemnpbmaaRefK13
import Derived.Test.YtldcadpemnpbmaaGoodF13
import Derived.Test.YtldcadpemnpbmaaLivesF13
set_option linter.unusedVariables false
namespace Go.Proofs.Ytldcadpemnpbmaa
open Go Go.RowKit

theorem InRaw.later {w w' : World} {a : Option Addr} {len cap : Nat} {l : List (Int × Int)} (h : InRaw w a len cap l) (hb : Below w.heap.size w w') : InRaw w' a len cap l := ⟨h.1, h.2.1, h.2.2.1, (Row.below h.2.2.2.1 hb).more hb.size, h.2.2.2.2⟩
theorem same_true (v u : Value) (l : List Fo) (w : World) (h1 : InFo w v l) (h2 : InFo w u l) (hl : l.length ≤ 1099511627776) : Calls Try.prog 7 #[v, u] w fun e w' => e = .returned (.bool true) ∧ Below w.heap.size w w' := by
  obtain ⟨A, c, rfl, -, -, hr⟩ := h1
  obtain ⟨A2, c2, rfl, -, -, hr2⟩ := h2
  have := ref13_Same A A2 _ c _ c2 l l w hr hr2 rfl rfl hl hl
  rwa [decide_eq_true rfl] at this
theorem topD_good {k : Nat} {g : List Fo} (h : GoodFo k g) (hk : k ≤ 20) : topD g ≤ 200 := by
  unfold topD
  cases hl : g.getLast? with
  | none => exact Nat.zero_le _
  | some z => have := h.docs z (List.mem_of_getLast? hl); simp; omega
theorem kept_len (f : Bool → Bool → Bool) (a b : List Fo) : (keptF f a b).length ≤ a.length + b.length := Nat.le_trans (keptL_length _ _) (pairs_length _ a b (Nat.le_refl _))
/-- What is asked of a list that was made. -/
theorem good_ops {k k2 : Nat} {g g2 : List Fo} (hg : GoodFo k g) (hg2 : GoodFo k2 g2) (hk : k ≤ 20) (hk2 : k2 ≤ 20) {w : World} {v v2 : Value} (h1 : InFo w v g) (h2 : InFo w v2 g2) :
    (Calls Try.prog 8 #[v, v2] w (GaveFo (andF g g2) w)) ∧ (Calls Try.prog 10 #[v, v2] w (GaveFo (orF g g2) w)) ∧
    (Calls Try.prog 9 #[v, v2, .bool false] w (GaveFo (andF g g2) w)) ∧ (Calls Try.prog 9 #[v, v2, .bool true] w (GaveFo (orF g g2) w)) :=
  ⟨match_And v v2 g g2 w h1 h2 (hg.few (by omega)) (hg2.few (by omega)), match_Or v v2 g g2 w h1 h2 (hg.few (by omega)) (hg2.few (by omega)),
    ref13_Join v v2 g g2 false w h1 h2 hg.rise hg2.rise (hg.few (by omega)) (hg2.few (by omega)) (by have := topD_good hg hk; omega) (by have := topD_good hg2 hk2; omega),
    ref13_Join v v2 g g2 true w h1 h2 hg.rise hg2.rise (hg.few (by omega)) (hg2.few (by omega)) (by have := topD_good hg hk; omega) (by have := topD_good hg2 hk2; omega)⟩
theorem good_nots {k : Nat} {g : List Fo} (hg : GoodFo k g) (hk : k ≤ 20) {n : Nat} (hn : n ≤ 1048576) {w : World} {v : Value} (h1 : InFo w v g) :
    (Calls Try.prog 11 #[v, .int .i64 (n : Int)] w (GaveFo (notF g n) w)) ∧ (Calls Try.prog 12 #[v, .int .i64 (n : Int)] w (GaveFo (notF g n) w)) :=
  ⟨match_Not v g n w h1 (hg.few (by omega)) hn, ref13_Not v g n w h1 hg.rise (hg.few (by omega)) hn⟩
theorem not_len {a : List Fo} (ha : RiseF a) (n : Nat) : (notF a n).length ≤ n := by rw [not_is ha]; exact tab_length _ _
end Go.Proofs.Ytldcadpemnpbmaa
