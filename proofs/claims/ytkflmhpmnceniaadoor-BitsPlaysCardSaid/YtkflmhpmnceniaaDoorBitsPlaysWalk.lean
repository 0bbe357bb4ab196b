/- BitsPlays, walked: true for every input. -/
import Derived.Test.YtkflmhpmnceniaaDoorLike03
set_option linter.unusedVariables false
namespace Go.Proofs.YtkflmhpmnceniaaDoor
open Go Go.RowKit
open Plain (Rep WS hasB mayB turnB turnedB ones nextB rankB)

set_option maxHeartbeats 4000000 in
set_option maxRecDepth 100000 in
theorem walk_BitsPlays (n : Int) (a : Option Addr) (len cap : Nat) (ds : List (Int × Int)) (w : World) (hn : n < 9223372036854775808) (hn0 : -9223372036854775808 ≤ n) (hd : InDeeds w a len cap ds) (hT : Tab w) :
    Calls Tryd.prog 3 #[.int .i64 n, .slice a len cap] w (GaveTrue w) := by
  have HZ := Lib.hid (law03_size n w hn hn0)
  have HM := Lib.hid (law03_made (sizeI n) a len cap ds w (sizeI_le n) (sizeI_ge n hn0) hd hT)
  have hN : (sizeI n).toNat ≤ 200 := by have := sizeI_le n; omega
  have HT := Lib.hid hT
  have HN1 := Lib.hid hn
  have HN0 := Lib.hid hn0
  obtain ⟨N, hNe⟩ : ∃ N, N = (sizeI n).toNat := ⟨_, rfl⟩
  rw [← hNe] at HM hN
  obtain ⟨Z, hZe⟩ : ∃ Z, Z = sizeI n := ⟨_, rfl⟩
  rw [← hZe] at HM HZ
  clear hNe hZe hd hT hn hn0
  go_enter Tryd.func3, Tryd.ntmps3
  go_wp2_with (first
    | (go_at_call 10; (with_reducible refine HZ.out.mono ?_); rintro e w' ⟨rfl, rfl⟩)
    | (go_at_call 9; (with_reducible refine HM.out.mono ?_)))
  rintro e w1 ⟨B, v, r, rfl, hrl, hset, hown, hb1⟩
  have hrb : r.length ≤ big := by unfold big; omega
  have HLK := Lib.hid (law03_like w.heap.size w.heap.size B v r w1 hset hown hrb (HT.out.below hb1 HT.out.lt))
  have HB1 := Lib.hid hb1
  have hz1 := hb1.size
  clear hset hown hb1 hrl hrb
  go_wp2_with (go_at_call 11; (with_reducible refine HLK.out.mono ?_))
  rintro e w2 ⟨rfl, hb2⟩
  have hB2 := HB1.out.trans (hb2.mono hz1)
  have HB2 := Lib.hid hB2
  have HT2 := Lib.hid (HT.out.below hB2 HT.out.lt)
  have hz2 := hB2.size
  clear hb2 hB2
  go_wp2_with (go_at_call 12; (with_reducible refine (law03_lives _ HT2.out).mono ?_))
  rintro e w3 ⟨rfl, hb3⟩
  go_wp2
  go_ret
  exact ⟨rfl, HB2.out.trans (hb3.mono hz2)⟩
end Go.Proofs.YtkflmhpmnceniaaDoor
