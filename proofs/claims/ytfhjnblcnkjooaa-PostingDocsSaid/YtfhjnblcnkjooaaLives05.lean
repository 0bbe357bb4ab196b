/- What package posting's calls are to give (by their promises), and the statements' own 'lives' of layer 5 out of that. -/
import Derived.Test.YtfhjnblcnkjooaaSameL05
import Derived.Test.YtfhjnblcnkjooaaFew05
namespace Go.Proofs.Ytfhjnblcnkjooaa
open Go Go.RowKit
set_option linter.unusedVariables false

/-- What a call gives that makes a list. -/
def GaveList (l : List Po) (w : World) (e : Ending) (w' : World) : Prop := ∃ p L, e = .returned (.tuple #[.pointer (some p), .int .i64 0]) ∧ ListCalls p l L ∧ L w' ∧ Below w.heap.size w w'
def GaveNone (err : Int) (w : World) (e : Ending) (w' : World) : Prop := e = .returned (.tuple #[.pointer none, .int .i64 err]) ∧ Below w.heap.size w w'
structure PostingOk : Prop where
  may : ∀ (A : Option Addr) (n c : Nat) (l : List Po) (w : World), l.length = n → n ≤ c → c ≤ maxLen → n ≤ 100 → Posts w w.heap.size A l → (∀ q ∈ l, q.2.length ≤ 20) →
    Calls Try.prog 11 #[.slice A n c] w fun e w' => e = .returned (.bool (mayB' (-1) l)) ∧ Below w.heap.size w w'
  make_ok : ∀ (A : Option Addr) (n c : Nat) (l : List Po) (w : World), l.length = n → n ≤ c → c ≤ maxLen → n ≤ 100 → Posts w w.heap.size A l → (∀ q ∈ l, q.2.length ≤ 20) → mayB' (-1) l = true →
    Calls Try.prog 10 #[.slice A n c] w (GaveList l w)
  make_no : ∀ (A : Option Addr) (n c : Nat) (l : List Po) (w : World), l.length = n → n ≤ c → c ≤ maxLen → n ≤ 100 → Posts w w.heap.size A l → (∀ q ∈ l, q.2.length ≤ 20) → mayB' (-1) l = false →
    Calls Try.prog 10 #[.slice A n c] w (GaveNone 1 w)
  read_ok : ∀ (many : Int) (A : Option Addr) (m c : Nat) (b : List UInt8) (l : List Po) (w : World), Row w w.heap.size A (Lib.byteCells b) → b.length = m → m ≤ c → c ≤ maxLen → m ≤ 10000 → many ≤ 100 → -9223372036854775808 ≤ many → Fits many b l →
    Calls Try.prog 15 #[.int .i64 many, .slice A m c] w (GaveList l w)
  read_no : ∀ (many : Int) (A : Option Addr) (m c : Nat) (b : List UInt8) (w : World), Row w w.heap.size A (Lib.byteCells b) → b.length = m → m ≤ c → c ≤ maxLen → m ≤ 10000 → many ≤ 100 → -9223372036854775808 ≤ many → (∀ l, ¬ Fits many b l) →
    Calls Try.prog 15 #[.int .i64 many, .slice A m c] w (GaveNone 2 w)

theorem bytes_302 : bytesP (-1) [(3, [0, 2])] = [3, 2, 0, 1] := by
  simp only [bytesP, putR, dB, List.length_cons, List.length_nil]
  rw [putB_small (by decide), putB_small (by decide), putB_small (by decide), putB_small (by decide)]
  rfl
theorem row_new' (w : World) (l : List Value) (t : TypeId) : Row (w.alloc (.cells l.toArray t)) (w.alloc (.cells l.toArray t)).heap.size (some ⟨w.heap.size, 0, none⟩) l :=
  .inr ⟨_, _, rfl, by simp, fun j u hu => by have := news_at w l t j u hu; rwa [Addr.add_lit] at this⟩

set_option maxHeartbeats 2000000 in
set_option maxRecDepth 100000 in
theorem law05_lives (PO : PostingOk) (w : World) :
    Calls Try.prog 14 #[] w fun e w' => e = .returned (.bool true) ∧ Below w.heap.size w w' := by
  have mk := fun A c w1 hc hcx hp => PO.make_ok A 1 c [(3, [0, 2])] w1 rfl hc hcx (by omega) hp (by intro q hq; simp at hq; subst hq; simp) (by decide)
  have MK := Lib.hid mk
  clear mk
  go_enter Try.func14, Try.ntmps14
  go_wp2_with (go_at_call 10; refine (MK.out _ _ _ (by omega) (by unfold maxLen; omega) ?_).mono ?_)
  · have h1 := row_new' w (ints [0, 2]) 3
    have hb := (Below.refl (w.alloc (.cells (ints [0, 2]).toArray 3)).heap.size (w.alloc (.cells (ints [0, 2]).toArray 3))).alloc (Nat.le_refl _) (.cells #[.int .i64 3, .slice (some ⟨w.heap.size, 0, none⟩) 2 2] 43)
    have h2 := row_new' (w.alloc (.cells (ints [0, 2]).toArray 3)) [.int .i64 3, .slice (some ⟨w.heap.size, 0, none⟩) 2 2] 43
    have e2 : (w.alloc (.cells (ints [0, 2]).toArray 3)).heap.size = w.heap.size + 1 := by simp
    rw [e2] at h2
    exact ⟨[.int .i64 3, .slice (some ⟨w.heap.size, 0, none⟩) 2 2], ⟨_, _, [], rfl, by simp, by unfold maxLen; omega, (h1.below hb).more hb.size, rfl⟩, h2⟩
  rintro e w2 ⟨p, L, rfl, LC, hL, hb2⟩
  have hb0 := ((Below.refl _ w).alloc (Nat.le_refl _) (.cells (ints [0, 2]).toArray 3)).alloc (by simp) (.cells #[.int .i64 3, .slice (some ⟨w.heap.size, 0, none⟩) 2 2] 43)
  have HB2 := Lib.hid (hb0.trans (hb2.mono (by simp; omega)))
  have hby := LC.bytes
  rw [bytes_302] at hby
  have HBY := Lib.hid hby
  have HLEN := Lib.hid LC.len
  have hla := LC.last
  have HLA : Hid (∀ w, L w → Calls Try.prog 20 #[.pointer (some p), .int .i64 0] w fun e w' => e = .returned (.int .i64 3) ∧ Below w.heap.size w w') := Lib.hid fun w h => hla w 0 (by omega) (by omega) h
  have HST := Lib.hid LC.stays
  have HL := Lib.hid hL
  clear hby hla LC hL hb2 hb0
  go_wp2_with (go_at_call 32; refine (HBY.out _ HL.out).mono ?_)
  rintro e w3 ⟨A, c, rfl, hr, hb3⟩
  have hcv := run_string_of (P := Try.prog) hr 32 9 5 4 c rfl Try.underlying32 Try.underlying5 Try.underlying9
  have HL3 := Lib.hid (HST.out _ _ HL.out hb3)
  have HB3 := Lib.hid (HB2.out.trans (hb3.mono HB2.out.size))
  clear hr hb3
  go_wp2_with (go_at_call 22; refine (HLEN.out _ HL3.out).mono ?_)
  rintro e w4 ⟨rfl, hb4⟩
  have HL4 := Lib.hid (HST.out _ _ HL3.out hb4)
  have HB4 := Lib.hid (HB3.out.trans (hb4.mono HB3.out.size))
  clear hb4
  go_wp2_with (go_at_call 20; refine (HLA.out _ HL4.out).mono ?_; rintro e w5 ⟨rfl, hb5⟩)
  go_wp2
  go_ret
  exact ⟨rfl, HB4.out.trans (hb5.mono HB4.out.size)⟩
end Go.Proofs.Ytfhjnblcnkjooaa
