/- What package cursor's calls are to give (by their promises), and the statements' own 'like' of layer 6 out of that. -/
import Derived.Test.YtnmnbckaccicaaaCurAt06
import Derived.Test.YtnmnbckaccicaaaRefAdv06
import Derived.Test.YtnmnbckaccicaaaRefBoth06
import Derived.Test.YtnmnbckaccicaaaP04
import Derived.Test.YtnmnbckaccicaaaP05
import Derived.Deep.RegionHeld3
set_option linter.unusedVariables false
namespace Go.Proofs.Ytnmnbckaccicaaa
open Go Go.RowKit

/-- What the calls on a cursor of the postings g give, wherever it stands as At says. -/
structure CurOk (C : Nat) (g : List Po) (At : Int → World → Prop) : Prop where
  stays : ∀ i w w', At i w → Below w.heap.size w w' → At i w'
  aside : ∀ i w w' (S : Nat → Prop), At i w → (∀ D, S D → D ≠ C ∧ ∃ cs fr, w.heap[D]? = some (.cells cs 68 fr)) → OnlyIn S w w' → At i w'
  real : ∀ i w, At i w → CAt (False, 0) C g i w
  box : ∀ i w w' R cs fr, At i w → C ≠ R → w.heap[R]? = some (.cells cs 32 fr) → OnlyIn (fun q => q = R) w w' → At i w'
  own : ∀ i w, At i w → ∃ cs fr, w.heap[C]? = some (.cells cs 68 fr)
  doc : ∀ i w, At i w → -1 ≤ i → i ≤ (g.length : Int) → Calls Try.prog 23 #[.pointer (some ⟨C, 0, none⟩)] w fun e w' => e = .returned (.int .i64 (docC g i)) ∧ Below w.heap.size w w'
  places : ∀ i w, At i w → -1 ≤ i → i ≤ (g.length : Int) → Calls Try.prog 24 #[.pointer (some ⟨C, 0, none⟩)] w (GavePl (placesC g i) w)
  count : ∀ i w, At i w → -1 ≤ i → i ≤ (g.length : Int) → Calls Try.prog 32 #[.pointer (some ⟨C, 0, none⟩)] w fun e w' => e = .returned (.int .i64 ((placesC g i).length : Int)) ∧ Below w.heap.size w w'
  next : ∀ i w, At i w → -1 ≤ i → i ≤ (g.length : Int) → Calls Try.prog 13 #[.pointer (some ⟨C, 0, none⟩)] w fun e w' => e = .returned (.int .i64 (docC g (nextC g i))) ∧ At (nextC g i) w' ∧ OnlyAt C w w'
  advance : ∀ i w (doc : Int), At i w → -1 ≤ i → i ≤ (g.length : Int) → -9223372036854775808 ≤ doc → doc ≤ 9223372036854775807 → Calls Try.prog 15 #[.pointer (some ⟨C, 0, none⟩), .int .i64 doc] w fun e w' =>
    e = .returned (.int .i64 (docC g (advC g doc i))) ∧ At (advC g doc i) w' ∧ OnlyAt C w w'

/-- What a call gives that makes a cursor. -/
def GaveCur (g : List Po) (w : World) (e : Ending) (w' : World) : Prop := ∃ C At, e = .returned (.pointer (some ⟨C, 0, none⟩)) ∧ CurOk C g At ∧ At (-1) w' ∧ w.heap.size ≤ C ∧ Below w.heap.size w w'
/-- What a call gives that tells what is in both. -/
def GaveBoth (C D : Nat) (l : List Int) (w : World) (e : Ending) (w' : World) : Prop := ∃ v, e = .returned v ∧ w'.ownsRow w.heap.size 3 1 v l.length (ints l) ∧ OnlyIn (fun k => k = C ∨ k = D) w w'
structure CursorOk : Prop where
  new : ∀ base B (g : List Po) (w : World), LAt w base B (bytesP (-1) g) g → mayB' (-1) g = true → g.length ≤ 1000 → (bytesP (-1) g).length ≤ 1000000 → Calls Try.prog 10 #[.pointer (some ⟨B, 0, none⟩)] w (GaveCur g w)
  both : ∀ C D (g h : List Po) At Bt (w : World), CurOk C g At → CurOk D h Bt → C ≠ D → At (-1) w → Bt (-1) w → mayB' (-1) g = true → mayB' (-1) h = true → g.length ≤ 1000 → h.length ≤ 1000 →
    Calls Try.prog 21 #[.pointer (some ⟨C, 0, none⟩), .pointer (some ⟨D, 0, none⟩)] w (GaveBoth C D (interP g h) w)

set_option maxHeartbeats 4000000 in
set_option maxRecDepth 100000 in
theorem law06_like (C : Nat) (g : List Po) (At : Int → World → Prop) (CO : CurOk C g At) (A : Option Addr) (n c : Nat) (i : Int) (w : World) (hat : At i w) (hn : g.length = n) (hnx : n ≤ 1000) (hpo : Posts w w.heap.size A g) (h0 : -1 ≤ i) (h1 : i ≤ (n : Int)) (hpl : (placesC g i).length ≤ 1000) :
    Calls Try.prog 12 #[.pointer (some ⟨C, 0, none⟩), curV A n c i] w fun e w' => e = .returned (.bool true) ∧ Below w.heap.size w w' := by
  have hat' : ∀ w', Below w.heap.size w w' → At i w' := fun w' h => CO.stays i w w' hat h
  have hd1 := fun w' (h : Below w.heap.size w w') => CO.doc i w' (hat' w' h) h0 (by rw [hn]; exact h1)
  have hd2 := fun w' (h : Below w.heap.size w w') => ref06_Doc A n c g i w' hn (by omega) (hpo.later h) h0 h1
  have hp1 := fun w' (h : Below w.heap.size w w') => CO.places i w' (hat' w' h) h0 (by rw [hn]; exact h1)
  have hp2 := fun w' (h : Below w.heap.size w w') => ref06_Places A n c g i w' hn (by omega) (hpo.later h) h0 h1
  have hc1 := fun w' (h : Below w.heap.size w w') => CO.count i w' (hat' w' h) h0 (by rw [hn]; exact h1)
  obtain ⟨x, hx⟩ : ∃ x, x = docC g i := ⟨_, rfl⟩
  obtain ⟨ps, hps⟩ : ∃ ps, ps = placesC g i := ⟨_, rfl⟩
  rw [← hx] at hd1 hd2
  rw [← hps] at hp1 hp2 hc1 hpl
  obtain ⟨m, hm⟩ : ∃ m, m = ps.length := ⟨_, rfl⟩
  rw [← hm] at hc1 hpl
  have HM := Lib.hid hm
  have HD1 := Lib.hid hd1
  unfold curV at hd2 hp2 ⊢
  have HD2 := Lib.hid hd2
  have HP1 := Lib.hid hp1
  have HP2 := Lib.hid hp2
  have HC1 := Lib.hid hc1
  have hb0 : Below w.heap.size w (w.alloc (.cells #[.slice A n c, .int .i64 i] 32)) := (Below.refl _ _).alloc (Nat.le_refl _) _
  have HB0 := Lib.hid hb0
  have hx2 : (x == x) = true := by simp
  have hm2 : ((m : Int) == (m : Int)) = true := by simp
  clear hat hat' hd1 hd2 hp1 hp2 hc1 hx hps hm hb0 CO
  go_enter Try.func12, Try.ntmps12
  go_wp2_with (go_at_call 31; refine (HP2.out _ HB0.out).mono ?_)
  rintro e w1 ⟨A1, c1, rfl, hr1, hb1⟩
  rw [← HM.out]
  have hbx : w1.heap[w.heap.size]? = some (.cells #[.slice A n c, .int .i64 i] 32 (0, 0)) := (hb1.block w.heap.size (by simp)).trans (heap_alloc_new w _)
  have HBX : Hid (∀ w', Below w1.heap.size w1 w' → w'.cell? ⟨w.heap.size, 0, none⟩ = some (.slice A n c) ∧ w'.cell? ⟨w.heap.size, 1, none⟩ = some (.int .i64 i)) := Lib.hid fun w' h =>
    ⟨(cellsPair ((h.block _ (lt_of_block hbx)).trans hbx)).1, (cellsPair ((h.block _ (lt_of_block hbx)).trans hbx)).2.1⟩
  have HB1 := Lib.hid (HB0.out.trans (hb1.mono HB0.out.size))
  have hs1 := HB1.out.size
  have HR1 := Lib.hid hr1
  clear hb1 hbx hr1
  go_wp2
  go_region_held3 (fun w' => w'.cell? ⟨w.heap.size, 0, none⟩ = some (.slice A n c) ∧ w'.cell? ⟨w.heap.size, 1, none⟩ = some (.int .i64 i))
    (first | exact HBX.out _ (Below.refl _ _).drew | exact HBX.out _ HB3.out | exact HBX.out _ HB4.out | exact HBX.out _ HB5.out | exact HBX.out _ HB6.out | exact HBX.out _ HB7.out)
    (first
      | (go_simp; go_at_call 23; (with_reducible refine (HD1.out _ (HB1.out.trans ((Below.refl _ w1).drew.mono hs1))).mono ?_); rintro e w3 ⟨rfl, hb3⟩; have HB3 : Hid (Below w1.heap.size w1 w3) := Lib.hid ((Below.refl _ w1).drew.trans hb3))
      | (go_simp; go_at_call 17; (with_reducible refine (HD2.out _ (HB1.out.trans (HB3.out.mono hs1))).mono ?_); rintro e w4 ⟨rfl, hb4⟩; have HB4 : Hid (Below w1.heap.size w1 w4) := Lib.hid (HB3.out.trans (hb4.mono HB3.out.size)))
      | (go_simp; go_at_call 24; (with_reducible refine (HP1.out _ (HB1.out.trans (HB4.out.mono hs1))).mono ?_); rintro e w5 ⟨A5, c5, rfl, hr5, hb5⟩; (try rw [← HM.out]); have HR5 := Lib.hid hr5; have HB5 : Hid (Below w1.heap.size w1 w5) := Lib.hid (HB4.out.trans (hb5.mono HB4.out.size)))
      | (go_simp; go_at_call 20; (with_reducible refine (ref_Same_at A5 A1 m m c5 c1 ps _ HM.out.symm HM.out.symm HR5.out ((HR1.out.below HB5.out).more HB5.out.size) (by omega)).mono ?_); rintro e w6 ⟨rfl, hb6⟩; have HB6 : Hid (Below w1.heap.size w1 w6) := Lib.hid (HB5.out.trans (hb6.mono HB5.out.size)))
      | (go_simp; go_at_call 32; (with_reducible refine (HC1.out _ (HB1.out.trans (HB6.out.mono hs1))).mono ?_); rintro e w7 ⟨rfl, hb7⟩; have HB7 : Hid (Below w1.heap.size w1 w7) := Lib.hid (HB6.out.trans (hb7.mono HB6.out.size))))
  all_goals
    go_wp2
    go_ret
    exact ⟨rfl, HB1.out.trans (HB7.out.mono hs1)⟩
end Go.Proofs.Ytnmnbckaccicaaa
