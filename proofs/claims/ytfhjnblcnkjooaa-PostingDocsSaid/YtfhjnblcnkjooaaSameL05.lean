/- What the statements' own 'same' answers of a list that has what it must have: true. Of any list whose calls keep their contracts. -/
import Derived.Test.YtfhjnblcnkjooaaSame05
import Derived.Test.YtfhjnblcnkjooaaBytes05
import Derived.Deep.RegionHeld3
import Derived.Deep.CutRange
import Derived.Test.YtfhjnblcnkjooaaRead05
namespace Go.Proofs.Ytfhjnblcnkjooaa
open Go Go.RowKit
set_option linter.unusedVariables false

/-- What the calls on a list give, wherever it is as L says. -/
structure ListCalls (p : Addr) (l : List Po) (L : World → Prop) : Prop where
  stays : ∀ w w', L w → Below w.heap.size w w' → L w'
  len : ∀ w, L w → Calls Try.prog 22 #[.pointer (some p)] w fun e w' => e = .returned (.int .i64 (l.length : Int)) ∧ Below w.heap.size w w'
  blocks : ∀ w, L w → Calls Try.prog 18 #[.pointer (some p)] w fun e w' => e = .returned (.int .i64 (blocksP l.length : Int)) ∧ Below w.heap.size w w'
  total : ∀ w, L w → Calls Try.prog 31 #[.pointer (some p)] w fun e w' => e = .returned (.int .i64 (totalP l : Int)) ∧ Below w.heap.size w w'
  bytes : ∀ w, L w → Calls Try.prog 32 #[.pointer (some p)] w fun e w' => ∃ A c, e = .returned (.slice A (bytesP (-1) l).length c) ∧ Row w' w'.heap.size A (Lib.byteCells (bytesP (-1) l)) ∧ Below w.heap.size w w'
  last : ∀ w (k : Int), -1 ≤ k → k ≤ 1000 → L w → Calls Try.prog 20 #[.pointer (some p), .int .i64 k] w fun e w' => e = .returned (.int .i64 (lastP l k)) ∧ Below w.heap.size w w'
  block : ∀ w (k : Int), -1 ≤ k → k ≤ 1000 → L w → Calls Try.prog 19 #[.pointer (some p), .int .i64 k] w fun e w' => ∃ A c, e = .returned (.slice A (blockP l k).length c) ∧ Posts w' w'.heap.size A (blockP l k) ∧ Below w.heap.size w w'
  all : ∀ w, L w → Calls Try.prog 35 #[.pointer (some p)] w fun e w' => ∃ A c, e = .returned (.slice A l.length c) ∧ Posts w' w'.heap.size A l ∧ Below w.heap.size w w'

theorem totalP_take {l : List Po} {k : Nat} (hk : k < l.length) : totalP (l.take (k + 1)) = totalP (l.take k) + (l.getD k (0, [])).2.length := by
  have e : ∀ (a b : List Po), totalP (a ++ b) = totalP a + totalP b := by
    intro a
    induction a with
    | nil => intro b; simp [totalP]
    | cons p r ih => intro b; simp [totalP, ih, Nat.add_assoc]
  rw [List.take_succ_eq_append_getElem hk, e, List.getD_eq_getElem?_getD, List.getElem?_eq_getElem hk]
  simp [totalP]
theorem totalP_le_take {l : List Po} (k : Nat) : totalP (l.take k) ≤ totalP l := by
  have e : ∀ (a b : List Po), totalP (a ++ b) = totalP a + totalP b := by
    intro a
    induction a with
    | nil => intro b; simp [totalP]
    | cons p r ih => intro b; simp [totalP, ih, Nat.add_assoc]
  have h := e (l.take k) (l.drop k)
  rw [List.take_append_drop] at h
  omega

def SumRel (l : List Po) (w : World) (t i : Value) (wr : World) : Prop := ∃ k : Nat, k ≤ l.length ∧ i = .int .i64 (k : Int) ∧ t = .int .i64 (totalP (l.take k) : Int) ∧ wr = w

def SameLRel (B : Nat) (w : World) (r i : Value) (wr : World) : Prop := r = .bool false ∧ ∃ k : Int, -1 ≤ k ∧ k ≤ B + 1 ∧ i = .int .i64 k ∧ Below w.heap.size w wr

set_option maxHeartbeats 4000000 in
set_option maxRecDepth 100000 in
theorem law05_same (p : Addr) (l : List Po) (L : World → Prop) (LC : ListCalls p l L) (R : Option Addr) (n c : Nat) (w : World) (hl : L w) (hn : l.length = n) (hc : n ≤ c) (hcx : c ≤ maxLen) (hn100 : n ≤ 100) (hpo : Posts w w.heap.size R l) (hmay : mayB' (-1) l = true) (hpl : ∀ q ∈ l, q.2.length ≤ 1000) (hbl : (bytesP (-1) l).length ≤ 1000000) :
    Calls Try.prog 13 #[.pointer (some p), .slice R n c] w fun e w' => e = .returned (.bool true) ∧ Below w.heap.size w w' := by
  obtain ⟨hst, hlen, hblocks, htotal, hbytes, hlast, hblock, hall⟩ := LC
  rw [hn] at hlen hblocks
  have bl := fun w => ref05_Blocks n w (by omega)
  obtain ⟨B, hB⟩ : ∃ B, B = blocksP n := ⟨_, rfl⟩
  rw [← hB] at bl hblocks
  have hB13 : B ≤ 13 := by rw [hB]; unfold blocksP; omega
  obtain ⟨T, hT⟩ : ∃ T, T = totalP l := ⟨_, rfl⟩
  rw [← hT] at htotal
  have hT2 : T ≤ 100000 := by
    rw [hT]
    have h1 : totalP l ≤ l.length * 1000 := by
      have key : ∀ (q : List Po), (∀ x ∈ q, x.2.length ≤ 1000) → totalP q ≤ q.length * 1000 := by
        intro q
        induction q with
        | nil => intro _; simp [totalP]
        | cons a r ih => intro h; have := ih fun x hx => h x (by simp [hx]); have := h a (by simp); simp only [totalP, List.length_cons]; omega
      exact key l hpl
    omega
  have BLK := Lib.hid bl
  have HN := Lib.hid hn
  have HB := Lib.hid hB
  have HT := Lib.hid hT
  have HPO := Lib.hid hpo
  have HMAY := Lib.hid hmay
  have HPL := Lib.hid hpl
  have HBL := Lib.hid hbl
  have HL0 := Lib.hid hl
  have HALL := Lib.hid hall
  have HLAST := Lib.hid hlast
  have HBLOCK := Lib.hid hblock
  clear bl hn hB hT hpo hmay hpl hbl hl hall hlast hblock
  go_enter Try.func13, Try.ntmps13
  go_wp2_with (go_at_call 30; refine (BLK.out _).mono ?_; rintro e w' ⟨rfl, rfl⟩)
  go_loopw [6, 7] (fun t i wr => SumRel l w t i wr) (fun _ i _ => n - (intOf i).toNat)
  case atStart => exact ⟨0, Nat.zero_le _, rfl, rfl, rfl⟩
  case round =>
    obtain ⟨k, hk, rfl, rfl, rfl⟩ := hrel
    rw [HN.out] at hk
    by_cases hlt : k < n
    · obtain ⟨b1, o1, e1, hb1, hc1, A2, c2, hc2, hlc, hx2, _⟩ := HPO.out.at_ (k := k) (by rw [HN.out]; exact hlt)
      subst e1
      have hs := totalP_take (l := l) (k := k) (by rw [HN.out]; exact hlt)
      have hb := totalP_le_take (l := l) (k + 1)
      rw [← HT.out] at hb
      obtain ⟨Q, hQ⟩ : ∃ Q, Q = (l.getD k (0, [])).2.length := ⟨_, rfl⟩
      obtain ⟨T0, hT0⟩ : ∃ T0, T0 = totalP (l.take k) := ⟨_, rfl⟩
      rw [← hQ] at hc2 hlc hs
      rw [← hT0] at hs
      rw [← hT0]
      rw [hs] at hb
      have HS := Lib.hid hs
      clear hs hQ hT0 hc1
      go_wp2
      go_roundw
      case rel => exact ⟨k + 1, by rw [HN.out]; omega, by go_num, by rw [HS.out]; go_num, rfl⟩
      case measure => simp [intOf]; omega
    · have hkn : l.take k = l := List.take_of_length_le (by rw [HN.out]; omega)
      rw [hkn, ← HT.out]
      clear hkn
      obtain ⟨w0, hw0⟩ : ∃ w0, w0 = wr := ⟨_, rfl⟩
      rw [← hw0] at HPO HL0
      rw [← hw0]
      have HW0 := Lib.hid hw0
      clear hw0
      have HL := HL0
      have rb : ∀ w', Below w0.heap.size w0 w' → Calls Try.prog 17 #[.slice R n c] w' (GaveOwn w'.heap.size (bytesP (-1) l) w') := fun w' h' =>
        ref05_Bytes R n c l w' HN.out (by omega) (HPO.out.later h') HMAY.out HPL.out HBL.out
      obtain ⟨bs, hbs⟩ : ∃ bs, bs = bytesP (-1) l := ⟨_, rfl⟩
      rw [← hbs] at hbytes rb
      have RB := Lib.hid rb
      clear rb hbs
      go_upto_region 9 with fail
      go_cut [55] from 30 to 55 (fun t wx => t = .bool false ∧ Below w0.heap.size w0 wx)
      case first =>
        refine wp_region_noPanic ?_
        refine wp_region_held_drew (S := fun _ => True) (by kernel_rfl) trivial (fun _ => ?_)
        refine wpAnyH_take (i := 0) (v := .pointer (some p)) rfl (by kernel_rfl) (by kernel_rfl) (by kernel_rfl) (fun _ _ _ h => h) (Or.inl ⟨by rfl, fun wx hSw => by go_simp⟩) trivial ?_
        try simp only [Act.put, List.getElem_toArray, List.getElem_cons_zero, List.setIfInBounds_toArray, List.set_cons_zero, List.set_cons_succ]
        refine wpAnyH_take (i := 2) (v := .slice R n c) rfl (by kernel_rfl) (by kernel_rfl) (by kernel_rfl) (fun _ _ _ h => h) (Or.inl ⟨by rfl, fun wx hSw => by go_simp⟩) trivial ?_
        try simp only [Act.put, List.getElem_toArray, List.getElem_cons_zero, List.getElem_cons_succ, List.setIfInBounds_toArray, List.set_cons_zero, List.set_cons_succ]
        refine wpAnyH_take (i := 3) (v := .int .i64 (n : Int)) rfl (by kernel_rfl) (by kernel_rfl) (by kernel_rfl) (fun _ _ _ h => h) (Or.inl ⟨by rfl, fun wx hSw => by go_simp⟩) trivial ?_
        try simp only [Act.put, List.getElem_toArray, List.getElem_cons_zero, List.getElem_cons_succ, List.setIfInBounds_toArray, List.set_cons_zero, List.set_cons_succ]
        refine wpAnyH_ready (rs := [1]) (by kernel_rfl) (by simp) ?_
        refine AllReadyH.cons rfl (fun K hK => ?_) AllReadyH.nil
        try simp only [List.getElem_toArray, List.getElem_cons_zero, List.getElem_cons_succ]
        go_simp
        go_at_call 22
        refine (hlen w0.drew (hst w0 _ HL.out (Below.refl _ _).drew)).mono ?_
        rintro e w1 ⟨rfl, hb1⟩
        have HB1 := Lib.hid ((Below.refl w0.heap.size w0).drew.trans hb1)
        go_wp2_with fail
        refine hK.out _ _ trivial (fun _ => ?_)
        clear hK K
        try simp only [Act.put, List.getElem_toArray, List.getElem_cons_zero, List.getElem_cons_succ, List.setIfInBounds_toArray, List.set_cons_zero, List.set_cons_succ]
        refine wpAnyH_take (i := 4) (v := .bool false) rfl (by kernel_rfl) (by kernel_rfl) (by kernel_rfl) (fun _ _ _ h => h) (Or.inl ⟨by rfl, fun wx hSw => by go_simp⟩) trivial ?_
        try simp only [Act.put, List.getElem_toArray, List.getElem_cons_zero, List.getElem_cons_succ, List.setIfInBounds_toArray, List.set_cons_zero, List.set_cons_succ]
        refine wpAnyH_take (i := 5) (v := .bool false) rfl (by kernel_rfl) (by kernel_rfl) (by kernel_rfl) (fun _ _ _ h => h) (Or.inl ⟨by rfl, fun wx hSw => by go_simp⟩) trivial ?_
        try simp only [Act.put, List.getElem_toArray, List.getElem_cons_zero, List.getElem_cons_succ, List.setIfInBounds_toArray, List.set_cons_zero, List.set_cons_succ]
        refine wpAnyH_take (i := 6) (v := .pointer (some p)) rfl (by kernel_rfl) (by kernel_rfl) (by kernel_rfl) (fun _ _ _ h => h) (Or.inl ⟨by rfl, fun wx hSw => by go_simp⟩) trivial ?_
        try simp only [Act.put, List.getElem_toArray, List.getElem_cons_zero, List.getElem_cons_succ, List.setIfInBounds_toArray, List.set_cons_zero, List.set_cons_succ]
        refine wpAnyH_take (i := 8) (v := .int .i64 (B : Int)) rfl (by kernel_rfl) (by kernel_rfl) (by kernel_rfl) (fun _ _ _ h => h) (Or.inl ⟨by rfl, fun wx hSw => by go_simp⟩) trivial ?_
        try simp only [Act.put, List.getElem_toArray, List.getElem_cons_zero, List.getElem_cons_succ, List.setIfInBounds_toArray, List.set_cons_zero, List.set_cons_succ]
        refine wpAnyH_ready (rs := [7]) (by kernel_rfl) (by simp) ?_
        refine AllReadyH.cons rfl (fun K hK => ?_) AllReadyH.nil
        try simp only [List.getElem_toArray, List.getElem_cons_zero, List.getElem_cons_succ]
        go_simp
        go_at_call 18
        refine (hblocks w1 (hst w0 _ HL.out HB1.out)).mono ?_
        rintro e w2 ⟨rfl, hb2⟩
        have HB2 := Lib.hid (HB1.out.trans (hb2.mono HB1.out.size))
        go_wp2_with fail
        refine hK.out _ _ trivial (fun _ => ?_)
        clear hK K
        try simp only [Act.put, List.getElem_toArray, List.getElem_cons_zero, List.getElem_cons_succ, List.setIfInBounds_toArray, List.set_cons_zero, List.set_cons_succ]
        refine wpAnyH_take (i := 9) (v := .bool false) rfl (by kernel_rfl) (by kernel_rfl) (by kernel_rfl) (fun _ _ _ h => h) (Or.inl ⟨by rfl, fun wx hSw => by go_simp⟩) trivial ?_
        try simp only [Act.put, List.getElem_toArray, List.getElem_cons_zero, List.getElem_cons_succ, List.setIfInBounds_toArray, List.set_cons_zero, List.set_cons_succ]
        refine wpAnyH_take (i := 10) (v := .bool false) rfl (by kernel_rfl) (by kernel_rfl) (by kernel_rfl) (fun _ _ _ h => h) (Or.inl ⟨by rfl, fun wx hSw => by go_simp⟩) trivial ?_
        try simp only [Act.put, List.getElem_toArray, List.getElem_cons_zero, List.getElem_cons_succ, List.setIfInBounds_toArray, List.set_cons_zero, List.set_cons_succ]
        refine wpAnyH_take (i := 11) (v := .bool false) rfl (by kernel_rfl) (by kernel_rfl) (by kernel_rfl) (fun _ _ _ h => h) (Or.inl ⟨by rfl, fun wx hSw => by go_simp⟩) trivial ?_
        try simp only [Act.put, List.getElem_toArray, List.getElem_cons_zero, List.getElem_cons_succ, List.setIfInBounds_toArray, List.set_cons_zero, List.set_cons_succ]
        refine wpAnyH_take (i := 12) (v := .pointer (some p)) rfl (by kernel_rfl) (by kernel_rfl) (by kernel_rfl) (fun _ _ _ h => h) (Or.inl ⟨by rfl, fun wx hSw => by go_simp⟩) trivial ?_
        try simp only [Act.put, List.getElem_toArray, List.getElem_cons_zero, List.getElem_cons_succ, List.setIfInBounds_toArray, List.set_cons_zero, List.set_cons_succ]
        refine wpAnyH_take (i := 14) (v := .int .i64 (T : Int)) rfl (by kernel_rfl) (by kernel_rfl) (by kernel_rfl) (fun _ _ _ h => h) (Or.inl ⟨by rfl, fun wx hSw => by go_simp⟩) trivial ?_
        try simp only [Act.put, List.getElem_toArray, List.getElem_cons_zero, List.getElem_cons_succ, List.setIfInBounds_toArray, List.set_cons_zero, List.set_cons_succ]
        refine wpAnyH_ready (rs := [13]) (by kernel_rfl) (by simp) ?_
        refine AllReadyH.cons rfl (fun K hK => ?_) AllReadyH.nil
        try simp only [List.getElem_toArray, List.getElem_cons_zero, List.getElem_cons_succ]
        go_simp
        go_at_call 31
        refine (htotal w2 (hst w0 _ HL.out HB2.out)).mono ?_
        rintro e w3 ⟨rfl, hb3⟩
        have HB3 := Lib.hid (HB2.out.trans (hb3.mono HB2.out.size))
        go_wp2_with fail
        refine hK.out _ _ trivial (fun _ => ?_)
        clear hK K
        try simp only [Act.put, List.getElem_toArray, List.getElem_cons_zero, List.getElem_cons_succ, List.setIfInBounds_toArray, List.set_cons_zero, List.set_cons_succ]
        refine wpAnyH_take (i := 15) (v := .bool false) rfl (by kernel_rfl) (by kernel_rfl) (by kernel_rfl) (fun _ _ _ h => h) (Or.inl ⟨by rfl, fun wx hSw => by go_simp⟩) trivial ?_
        try simp only [Act.put, List.getElem_toArray, List.getElem_cons_zero, List.getElem_cons_succ, List.setIfInBounds_toArray, List.set_cons_zero, List.set_cons_succ]
        refine wpAnyH_take (i := 16) (v := .bool false) rfl (by kernel_rfl) (by kernel_rfl) (by kernel_rfl) (fun _ _ _ h => h) (Or.inl ⟨by rfl, fun wx hSw => by go_simp⟩) trivial ?_
        try simp only [Act.put, List.getElem_toArray, List.getElem_cons_zero, List.getElem_cons_succ, List.setIfInBounds_toArray, List.set_cons_zero, List.set_cons_succ]
        refine wpAnyH_take (i := 17) (v := .bool false) rfl (by kernel_rfl) (by kernel_rfl) (by kernel_rfl) (fun _ _ _ h => h) (Or.inl ⟨by rfl, fun wx hSw => by go_simp⟩) trivial ?_
        try simp only [Act.put, List.getElem_toArray, List.getElem_cons_zero, List.getElem_cons_succ, List.setIfInBounds_toArray, List.set_cons_zero, List.set_cons_succ]
        refine wpAnyH_take (i := 18) (v := .pointer (some p)) rfl (by kernel_rfl) (by kernel_rfl) (by kernel_rfl) (fun _ _ _ h => h) (Or.inl ⟨by rfl, fun wx hSw => by go_simp⟩) trivial ?_
        try simp only [Act.put, List.getElem_toArray, List.getElem_cons_zero, List.getElem_cons_succ, List.setIfInBounds_toArray, List.set_cons_zero, List.set_cons_succ]
        refine wpAnyH_take (i := 21) (v := .slice R n c) rfl (by kernel_rfl) (by kernel_rfl) (by kernel_rfl) (fun _ _ _ h => h) (Or.inl ⟨by rfl, fun wx hSw => by go_simp⟩) trivial ?_
        try simp only [Act.put, List.getElem_toArray, List.getElem_cons_zero, List.getElem_cons_succ, List.setIfInBounds_toArray, List.set_cons_zero, List.set_cons_succ]
        refine wpAnyH_ready (rs := [19]) (by kernel_rfl) (by simp) ?_
        refine AllReadyH.cons rfl (fun K hK => ?_) AllReadyH.nil
        try simp only [List.getElem_toArray, List.getElem_cons_zero, List.getElem_cons_succ]
        go_simp
        go_at_call 32
        refine (hbytes w3 (hst w0 w3 HL.out HB3.out)).mono ?_
        rintro e w4 ⟨AB, cB, rfl, hrB, hbB⟩
        have HRB := Lib.hid hrB
        have HBB := Lib.hid ((HB3.out).trans (hbB.mono (HB3.out).size))
        go_wp2_with fail
        refine hK.out _ _ trivial (fun _ => ?_)
        clear hK K
        try simp only [Act.put, List.getElem_toArray, List.getElem_cons_zero, List.getElem_cons_succ, List.setIfInBounds_toArray, List.set_cons_zero, List.set_cons_succ]
        refine wpAnyH_ready (rs := [20, 22]) (by kernel_rfl) (by simp) ?_
        refine AllReadyH.cons rfl (fun K hK => ?_) (AllReadyH.cons rfl (fun K hK => ?_) AllReadyH.nil)
        · skip
          try simp only [List.getElem_toArray, List.getElem_cons_zero, List.getElem_cons_succ]
          have hcvB := run_string_of (P := Try.prog) (HRB.out) 32 9 5 _ cB rfl Try.underlying32 Try.underlying5 Try.underlying9
          go_simp
          refine hK.out _ _ trivial (fun _ => ?_)
          clear hK K
          try simp only [Act.put, List.getElem_toArray, List.getElem_cons_zero, List.getElem_cons_succ, List.setIfInBounds_toArray, List.set_cons_zero, List.set_cons_succ]
          refine wpAnyH_ready (rs := [22]) (by kernel_rfl) (by simp) ?_
          refine AllReadyH.cons rfl (fun K hK => ?_) AllReadyH.nil
          try simp only [List.getElem_toArray, List.getElem_cons_zero, List.getElem_cons_succ]
          go_simp
          go_at_call 17
          refine (RB.out w4 (HBB.out)).mono ?_
          rintro e w5 ⟨vR, rfl, hownR, hbR⟩
          obtain ⟨AR, cR, rfl, _, hrR0⟩ := hownR.row
          have HRR := Lib.hid hrR0
          have HBR := Lib.hid ((HBB.out).trans (hbR.mono (HBB.out).size))
          go_wp2_with fail
          refine hK.out _ _ trivial (fun _ => ?_)
          clear hK K
          try simp only [Act.put, List.getElem_toArray, List.getElem_cons_zero, List.getElem_cons_succ, List.setIfInBounds_toArray, List.set_cons_zero, List.set_cons_succ]
          refine wpAnyH_ready (rs := [23]) (by kernel_rfl) (by simp) ?_
          refine AllReadyH.cons rfl (fun K hK => ?_) AllReadyH.nil
          try simp only [List.getElem_toArray, List.getElem_cons_zero, List.getElem_cons_succ]
          have hcvR := run_string_of (P := Try.prog) (HRR.out) 32 9 5 _ cR rfl Try.underlying32 Try.underlying5 Try.underlying9
          go_simp
          refine hK.out _ _ trivial (fun _ => ?_)
          clear hK K
          try simp only [Act.put, List.getElem_toArray, List.getElem_cons_zero, List.getElem_cons_succ, List.setIfInBounds_toArray, List.set_cons_zero, List.set_cons_succ]
          refine wpAnyH_take (i := 24) (v := .bool false) rfl (by kernel_rfl) (by kernel_rfl) (by kernel_rfl) (fun _ _ _ h => h) (Or.inl ⟨by rfl, fun wx hSw => by go_simp⟩) trivial ?_
          try simp only [Act.put, List.getElem_toArray, List.getElem_cons_zero, List.getElem_cons_succ, List.setIfInBounds_toArray, List.set_cons_zero, List.set_cons_succ]
          refine wpAnyH_take (i := 25) (v := .bool false) rfl (by kernel_rfl) (by kernel_rfl) (by kernel_rfl) (fun _ _ _ h => h) (Or.inl ⟨by rfl, fun wx hSw => by go_simp⟩) trivial ?_
          try simp only [Act.put, List.getElem_toArray, List.getElem_cons_zero, List.getElem_cons_succ, List.setIfInBounds_toArray, List.set_cons_zero, List.set_cons_succ]
          refine wpAnyH_done (by kernel_rfl) ?_ _
          refine NoPanic.normal ?_
          go_wp2_with fail
          go_meet
          exact ⟨rfl, HBR.out⟩
        · skip
          try simp only [List.getElem_toArray, List.getElem_cons_zero, List.getElem_cons_succ]
          go_simp
          go_at_call 17
          refine (RB.out w4 (HBB.out)).mono ?_
          rintro e w5 ⟨vR, rfl, hownR, hbR⟩
          obtain ⟨AR, cR, rfl, _, hrR0⟩ := hownR.row
          have HRR := Lib.hid hrR0
          have HBR := Lib.hid ((HBB.out).trans (hbR.mono (HBB.out).size))
          go_wp2_with fail
          refine hK.out _ _ trivial (fun _ => ?_)
          clear hK K
          try simp only [Act.put, List.getElem_toArray, List.getElem_cons_zero, List.getElem_cons_succ, List.setIfInBounds_toArray, List.set_cons_zero, List.set_cons_succ]
          refine wpAnyH_ready (rs := [20, 23]) (by kernel_rfl) (by simp) ?_
          refine AllReadyH.cons rfl (fun K hK => ?_) (AllReadyH.cons rfl (fun K hK => ?_) AllReadyH.nil)
          · skip
            try simp only [List.getElem_toArray, List.getElem_cons_zero, List.getElem_cons_succ]
            have hcvB := run_string_of (P := Try.prog) (HRB.out.below hbR) 32 9 5 _ cB rfl Try.underlying32 Try.underlying5 Try.underlying9
            go_simp
            refine hK.out _ _ trivial (fun _ => ?_)
            clear hK K
            try simp only [Act.put, List.getElem_toArray, List.getElem_cons_zero, List.getElem_cons_succ, List.setIfInBounds_toArray, List.set_cons_zero, List.set_cons_succ]
            refine wpAnyH_ready (rs := [23]) (by kernel_rfl) (by simp) ?_
            refine AllReadyH.cons rfl (fun K hK => ?_) AllReadyH.nil
            try simp only [List.getElem_toArray, List.getElem_cons_zero, List.getElem_cons_succ]
            have hcvR := run_string_of (P := Try.prog) (HRR.out) 32 9 5 _ cR rfl Try.underlying32 Try.underlying5 Try.underlying9
            go_simp
            refine hK.out _ _ trivial (fun _ => ?_)
            clear hK K
            try simp only [Act.put, List.getElem_toArray, List.getElem_cons_zero, List.getElem_cons_succ, List.setIfInBounds_toArray, List.set_cons_zero, List.set_cons_succ]
            refine wpAnyH_take (i := 24) (v := .bool false) rfl (by kernel_rfl) (by kernel_rfl) (by kernel_rfl) (fun _ _ _ h => h) (Or.inl ⟨by rfl, fun wx hSw => by go_simp⟩) trivial ?_
            try simp only [Act.put, List.getElem_toArray, List.getElem_cons_zero, List.getElem_cons_succ, List.setIfInBounds_toArray, List.set_cons_zero, List.set_cons_succ]
            refine wpAnyH_take (i := 25) (v := .bool false) rfl (by kernel_rfl) (by kernel_rfl) (by kernel_rfl) (fun _ _ _ h => h) (Or.inl ⟨by rfl, fun wx hSw => by go_simp⟩) trivial ?_
            try simp only [Act.put, List.getElem_toArray, List.getElem_cons_zero, List.getElem_cons_succ, List.setIfInBounds_toArray, List.set_cons_zero, List.set_cons_succ]
            refine wpAnyH_done (by kernel_rfl) ?_ _
            refine NoPanic.normal ?_
            go_wp2_with fail
            go_meet
            exact ⟨rfl, HBR.out⟩
          · skip
            try simp only [List.getElem_toArray, List.getElem_cons_zero, List.getElem_cons_succ]
            have hcvR := run_string_of (P := Try.prog) (HRR.out) 32 9 5 _ cR rfl Try.underlying32 Try.underlying5 Try.underlying9
            go_simp
            refine hK.out _ _ trivial (fun _ => ?_)
            clear hK K
            try simp only [Act.put, List.getElem_toArray, List.getElem_cons_zero, List.getElem_cons_succ, List.setIfInBounds_toArray, List.set_cons_zero, List.set_cons_succ]
            refine wpAnyH_ready (rs := [20]) (by kernel_rfl) (by simp) ?_
            refine AllReadyH.cons rfl (fun K hK => ?_) AllReadyH.nil
            try simp only [List.getElem_toArray, List.getElem_cons_zero, List.getElem_cons_succ]
            have hcvB := run_string_of (P := Try.prog) (HRB.out.below hbR) 32 9 5 _ cB rfl Try.underlying32 Try.underlying5 Try.underlying9
            go_simp
            refine hK.out _ _ trivial (fun _ => ?_)
            clear hK K
            try simp only [Act.put, List.getElem_toArray, List.getElem_cons_zero, List.getElem_cons_succ, List.setIfInBounds_toArray, List.set_cons_zero, List.set_cons_succ]
            refine wpAnyH_take (i := 24) (v := .bool false) rfl (by kernel_rfl) (by kernel_rfl) (by kernel_rfl) (fun _ _ _ h => h) (Or.inl ⟨by rfl, fun wx hSw => by go_simp⟩) trivial ?_
            try simp only [Act.put, List.getElem_toArray, List.getElem_cons_zero, List.getElem_cons_succ, List.setIfInBounds_toArray, List.set_cons_zero, List.set_cons_succ]
            refine wpAnyH_take (i := 25) (v := .bool false) rfl (by kernel_rfl) (by kernel_rfl) (by kernel_rfl) (fun _ _ _ h => h) (Or.inl ⟨by rfl, fun wx hSw => by go_simp⟩) trivial ?_
            try simp only [Act.put, List.getElem_toArray, List.getElem_cons_zero, List.getElem_cons_succ, List.setIfInBounds_toArray, List.set_cons_zero, List.set_cons_succ]
            refine wpAnyH_done (by kernel_rfl) ?_ _
            refine NoPanic.normal ?_
            go_wp2_with fail
            go_meet
            exact ⟨rfl, HBR.out⟩
      case rest =>
        obtain ⟨rfl, hb9⟩ := hcut
        have HB9 := Lib.hid hb9
        have hs9 := hb9.size
        clear hb9 RB
        go_wp2
        go_loopw [4, 8] (fun r i wr => SameLRel B w0 r i wr) (fun _ i _ => (B + 1 - intOf i).toNat)
        case atStart => exact ⟨rfl, -1, by omega, by omega, rfl, HB9.out⟩
        case round =>
          obtain ⟨rfl, k, hk0, hk1, rfl, hbw⟩ := hrel
          have hsz := hbw.size
          by_cases hlt : k ≤ B
          · have bk := ref05_Block R n c l k wr HN.out hc hcx (by omega) (HPO.out.later hbw) (by omega)
            have hlp : ∀ q ∈ blockP l k, q.2.length ≤ 1073741824 := fun q hq => by
              have : q ∈ l := by
                unfold blockP at hq
                split at hq
                · cases hq
                · exact List.mem_of_mem_drop (List.mem_of_mem_take hq)
              have := HPL.out q this
              omega
            have hbl8 : (blockP l k).length ≤ 8 := by
              unfold blockP
              split
              · simp
              · exact List.length_take_le 8 _
            have HLP := Lib.hid hlp
            have hlst : lastP l k = docOf (-1) (blockP l k) := rfl
            have lst := HLAST.out
            have blk := fun w1 => HBLOCK.out w1 k hk0 (by omega)
            have la := fun w1 => HLAST.out w1 k hk0 (by omega)
            rw [hlst] at la
            obtain ⟨q, hq⟩ : ∃ q, q = blockP l k := ⟨_, rfl⟩
            rw [← hq] at bk la blk hbl8 HLP
            have BK := Lib.hid bk
            have LA := Lib.hid la
            have BLC := Lib.hid blk
            clear bk la blk lst hlp hlst hq
            go_wp2_with (go_at_call 33; refine BK.out.mono ?_)
            rintro e w1 ⟨A1, c1, rfl, hq1, hp1, rfl⟩
            obtain ⟨m, hm⟩ : ∃ m, m = q.length := ⟨_, rfl⟩
            rw [← hm] at hq1 hbl8
            rw [← hm]
            have HM := Lib.hid hm
            have HP1 := Lib.hid hp1
            clear hm hp1
            obtain ⟨z, hz⟩ : ∃ z, z = docOf (-1) q := ⟨_, rfl⟩
            rw [← hz] at LA
            have HZ := Lib.hid hz
            clear hz
            go_upto_if 66 with fail
            go_cut [10] from 64 to 73 (fun s wx => s = .int .i64 z ∧ wr = wx)
            case first =>
              rcases Nat.eq_zero_or_pos m with hm0 | hm0
              · have hd : decide (0 < m) = false := decide_eq_false (by omega)
                have hz1 : z = -1 := by
                  rw [HZ.out, List.eq_nil_of_length_eq_zero (HM.out.symm.trans hm0)]
                  rfl
                have HZ1 := Lib.hid hz1
                clear hm0 hz1
                rw [hd]
                go_wp2_with fail
                go_meet
                exact ⟨congrArg (Value.int .i64) HZ1.out.symm, rfl⟩
              · obtain ⟨j, hj⟩ : ∃ j, j = m - 1 := ⟨_, rfl⟩
                obtain ⟨b3, o3, e3, _, hc3, _⟩ := HP1.out.at_ (k := j) (by rw [← HM.out]; omega)
                subst e3
                have hzc : (q.getD j (0, [])).1 = z := by
                  rw [HZ.out, docOf_getD (by rw [← HM.out]; exact hm0), ← HM.out, hj]
                rw [hzc] at hc3
                have hkj : (m : Int) - 1 = (j : Int) := by omega
                have hjm : j < m := by omega
                have hd : decide (0 < m) = true := decide_eq_true hm0
                clear hj hzc hm0
                rw [hd]
                go_wp2_with fail
                go_meet
                exact ⟨rfl, rfl⟩
            case rest =>
              obtain ⟨rfl, rfl⟩ := hcut
              have HBW := Lib.hid hbw
              have hLw := hst w0 _ HL.out hbw
              have HLW := Lib.hid hLw
              clear hbw hLw
              go_wp2_with (go_at_call 20; refine (LA.out _ HLW.out).mono ?_)
              rintro e w2 ⟨rfl, hb2⟩
              have HB2 := Lib.hid hb2
              have hs2 := hb2.size
              have HLW2 := Lib.hid (hst _ _ HLW.out hb2)
              have HP2 := Lib.hid (HP1.out.later hb2)
              clear hb2
              go_wp2_with (go_at_call 19; refine (BLC.out _ HLW2.out).mono ?_)
              rintro e w3 ⟨A3, c3, rfl, hp3, hb3⟩
              rw [← HM.out]
              have HP3 := Lib.hid hp3
              have HP4 := Lib.hid (HP2.out.later hb3)
              have HB3 := Lib.hid (HBW.out.trans (HB2.out.trans (hb3.mono hs2) |> fun h => h.mono (by omega)))
              have hs3 := hb3.size
              clear hp3 hb3
              go_wp2_with (go_at_call 34; refine (ref05_Same A3 A1 m m c3 c1 q _ HM.out.symm HM.out.symm HP3.out HP4.out (by omega) HLP.out).mono ?_)
              rintro e w4 ⟨rfl, hb4⟩
              have HB4 := Lib.hid (HB3.out.trans (hb4.mono HB3.out.size))
              clear hb4
              go_wp2
              go_roundw
              case rel => exact ⟨rfl, k + 1, by omega, by omega, by go_num, HB4.out⟩
              case measure => simp [intOf]; omega
          · have HBW := Lib.hid hbw
            have HLW := Lib.hid (hst w0 _ HL.out hbw)
            have HPW := Lib.hid (HPO.out.later hbw)
            clear hbw
            go_wp2_with (go_at_call 35; refine (HALL.out _ HLW.out).mono ?_; rintro e w3 ⟨A3, c3, rfl, hp3, hb3⟩)
            rw [HN.out]
            have HP3 := Lib.hid hp3
            have HP4 := Lib.hid (HPW.out.later hb3)
            have HB3 := Lib.hid (HBW.out.trans (hb3.mono hsz))
            clear hp3 hb3
            go_wp2_with (go_at_call 34; refine (ref05_Same A3 R n n c3 c l _ HN.out HN.out HP3.out HP4.out (by omega) (fun q hq => by have := HPL.out q hq; omega)).mono ?_)
            rintro e w4 ⟨rfl, hb4⟩
            go_wp2
            go_ret
            exact ⟨rfl, by have h9 := HB3.out.trans (hb4.mono HB3.out.size); rwa [HW0.out] at h9⟩
end Go.Proofs.Ytfhjnblcnkjooaa
