/- What package posting's Read answers: the list whose bytes these are, or that there is none. -/
import Derived.Test.YtfhjnblcnkjooaaCloseW05
import Derived.Test.YtfhjnblcnkjooaaFld05
set_option linter.unusedVariables false
namespace Go.Proofs.Ytfhjnblcnkjooaa
open Go Go.RowKit

/-- A part of postings stands in all their bytes. -/
theorem split_stands {u g r : List Po} (hm : mayB' (-1) (u ++ (g ++ r)) = true) : Stands (bytesP (-1) (u ++ (g ++ r))) (docOf (-1) u) (bytesP (-1) u).length g := by
  rw [mayB'_append, mayB'_append, Bool.and_eq_true, Bool.and_eq_true] at hm
  rw [bytesP_append, bytesP_append]
  obtain ⟨a, ha⟩ : ∃ a, a = bytesP (-1) u := ⟨_, rfl⟩
  obtain ⟨c, hc⟩ : ∃ c, c = bytesP (docOf (-1) u) g := ⟨_, rfl⟩
  rw [← ha, ← hc]
  refine ⟨hm.2.1, ?_, ?_⟩
  · rw [← hc]; simp
  · rw [← hc, List.take_left, ← List.append_assoc, ← List.length_append, List.take_left]
theorem stands_append {b : List UInt8} {acc g : List Po} (h1 : Stands b (-1) 0 acc) (h2 : Stands b (docOf (-1) acc) (bytesP (-1) acc).length g) : Stands b (-1) 0 (acc ++ g) := by
  obtain ⟨a1, a2, a3⟩ := h1
  obtain ⟨b1, b2, b3⟩ := h2
  rw [Nat.zero_add] at a2 a3
  refine ⟨by rw [mayB'_append, a1, b1]; rfl, by rw [bytesP_append, List.length_append]; omega, ?_⟩
  rw [bytesP_append, List.length_append, Nat.zero_add, b3, a3, List.append_assoc]
theorem totalP_bytes : ∀ (l : List Po) (last : Int), totalP l ≤ (bytesP last l).length
  | [], _ => by simp [totalP]
  | q :: r, last => by
    have h1 := totalP_bytes r q.1
    have h2 := bytes_placesA [q] last q (by simp)
    rw [bytesP, List.length_append, List.length_append] at h2 ⊢
    have h3 : (bytesP q.1 []).length = 0 := rfl
    rw [totalP]
    have hd : ∀ (ps : List Int) (x : Int), ps.length ≤ (dB x ps).length := by
      intro ps
      induction ps with
      | nil => simp
      | cons a t ih =>
        intro x
        have := ih a
        have := putB_pos (a - (x + 1)).toNat
        rw [dB, List.length_append, List.length_cons]
        omega
    have h4 := hd q.2 (-1)
    rw [putR, List.length_append]
    omega
/-- Of a list whose bytes these are, the next ones stand behind those that were read. -/
theorem fits_block {many : Int} {b : List UInt8} {l acc : List Po} (h : Fits many b l) (ha : acc = l.take acc.length) {q : Nat} (hq : ((acc.length + q : Nat) : Int) ≤ many) :
    Stands b (docOf (-1) acc) (bytesP (-1) acc).length ((l.drop acc.length).take q) ∧ ((l.drop acc.length).take q).length = q ∧ l.take (acc.length + q) = acc ++ (l.drop acc.length).take q := by
  obtain ⟨h1, h2, h3⟩ := h
  have hsp : l = acc ++ ((l.drop acc.length).take q ++ (l.drop acc.length).drop q) := by
    rw [List.take_append_drop]
    conv => rhs; lhs; rw [ha]
    rw [List.take_append_drop]
  refine ⟨?_, by rw [List.length_take, List.length_drop]; omega, by rw [List.take_add, ← ha]⟩
  have h5 := split_stands (u := acc) (g := (l.drop acc.length).take q) (r := (l.drop acc.length).drop q) (by rw [← hsp]; exact h1)
  rw [← hsp, h3] at h5
  exact h5

/-- How many postings a list in memory tells. -/
def manyIn (B : Nat) (w : World) : Nat := match w.cell? ⟨B, 2, none⟩ with | some (.int _ z) => z.toNat | _ => 0
theorem manyIn_eq {w : World} {base B : Nat} {bs : List UInt8} {l : List Po} (h : LAt w base B bs l) : manyIn B w = l.length := by
  obtain ⟨_, _, _, _, ⟨_, _, c2, _⟩, _⟩ := h.read
  simp [manyIn, c2]

def GaveReadD (many : Int) (b : List UInt8) (w : World) (e : Ending) (w' : World) : Prop :=
  Below w.heap.size w w' ∧ ((∃ l B, Fits many b l ∧ e = .returned (.tuple #[.pointer (some ⟨B, 0, none⟩), .int .i64 0]) ∧ LAt w' w.heap.size B b l) ∨ ((∀ l, ¬ Fits many b l) ∧ e = .returned (.tuple #[.pointer none, .int .i64 2])))
def ReadDRel (many : Int) (b : List UInt8) (w : World) (r4 r5 : Value) (wr : World) : Prop :=
  r4 = .pointer none ∧ r5 = .int .i64 0 ∧ ∃ (acc : List Po) (n : Nat), (acc.length = 8 * n ∨ many ≤ (acc.length : Int)) ∧ (acc = [] ∨ (acc.length : Int) ≤ many) ∧ Stands b (-1) 0 acc ∧ (∀ l, Fits many b l → acc = l.take acc.length) ∧ LAt wr w.heap.size w.heap.size [] acc ∧ Below w.heap.size w wr
/-- What the two calls at the head of a round leave. -/
def Head (b : List UInt8) (acc : List Po) (q : Nat) (wr : World) (s7 s8 s9 : Value) (wx : World) : Prop :=
  Below wr.heap.size wr wx ∧ ((∃ g, g.length = q ∧ Stands b (docOf (-1) acc) (bytesP (-1) acc).length g ∧ (∀ g', g'.length = q → Stands b (docOf (-1) acc) (bytesP (-1) acc).length g' → g' = g) ∧
      s8 = .int .i64 ((bytesP (-1) (acc ++ g)).length : Int) ∧ s9 = .bool true ∧ NewPo wr.heap.size wx s7 g) ∨
    ((∀ g', g'.length = q → ¬ Stands b (docOf (-1) acc) (bytesP (-1) acc).length g') ∧ s7 = .slice none 0 0 ∧ s8 = .int .i64 0 ∧ s9 = .bool false))

theorem Head.low {b : List UInt8} {acc : List Po} {q : Nat} {wr w' wx : World} {s7 s8 s9 : Value} (h : Head b acc q w' s7 s8 s9 wx) (hb : Below wr.heap.size wr w') : Head b acc q wr s7 s8 s9 wx := by
  obtain ⟨h1, h2⟩ := h
  refine ⟨hb.trans (h1.mono hb.size), h2.imp ?_ id⟩
  rintro ⟨g, a1, a2, a3, a4, a5, a6⟩
  exact ⟨g, a1, a2, a3, a4, a5, a6.low hb.size⟩
theorem LAt.setBytes {w : World} {base B : Nat} {bs b' : List UInt8} {l : List Po} {v : Value} (h : LAt w base B bs l) (hv' : Own base w v b') : LAt (w.setCell ⟨B, 0, none⟩ v) base B b' l ∧ Mild base w (w.setCell ⟨B, 0, none⟩ v) := by
  obtain ⟨h1, vb, ve, hv, ho, he⟩ := h
  exact ⟨⟨h1, v, ve, heap_setCell_same w B 0 _ _ _ hv, owned_setCell hv' (owned_apart hv' hv (by decide)) _, owned_setCell he (owned_apart he hv (by decide)) _⟩, Mild.setCell hv (.inl rfl) h1 _⟩

set_option maxHeartbeats 4000000 in
set_option maxRecDepth 100000 in
theorem posting_Read (many : Int) (A : Option Addr) (m c : Nat) (b : List UInt8) (w : World) (hr : Row w w.heap.size A (Lib.byteCells b)) (hm : b.length = m) (hc : m ≤ c) (hcx : c ≤ maxLen) (hl : m ≤ 1000000) (hmany : many ≤ 1000) (hmany2 : -9223372036854775808 ≤ many) :
    Calls Try.prog 15 #[.int .i64 many, .slice A m c] w (GaveReadD many b w) := by
  have HR := Lib.hid hr
  have HM := Lib.hid hm
  clear hr
  have hl0 : LAt (w.alloc (.cells #[.slice none 0 0, .slice none 0 0, .int .i64 0, .int .i64 0] 49)) w.heap.size w.heap.size [] [] :=
    ⟨Nat.le_refl _, _, _, heap_alloc_new w _, World.ownsRow_nil _ _ _ _, World.ownsRow_nil _ _ _ _⟩
  have HL0 := Lib.hid hl0
  clear hl0
  go_enter Try.func15, Try.ntmps15
  go_wp2
  go_loopw [4, 5] (fun r4 r5 wr => ReadDRel many b w r4 r5 wr) (fun _ _ wr => many.toNat - manyIn w.heap.size wr)
  case atStart => exact ⟨rfl, rfl, [], 0, .inl rfl, .inl rfl, Stands.nil (Nat.zero_le _), fun l _ => by simp, HL0.out, (Below.refl _ _).alloc (Nat.le_refl _) _⟩
  case round =>
    obtain ⟨rfl, rfl, acc, n, h8, hle, hst, huni, hla, hbw⟩ := hrel
    have hsz := hbw.size
    obtain ⟨Ab, cb, Ae, ce, ⟨c0, c1, c2, c3⟩, _, _, _, _, _, _⟩ := hla.read
    have hblt := hla.lt
    have hx0 := docOf_ge acc (-1) hst.1
    have hx1 := docOf_lt acc (-1) hst.1 (by omega)
    have ha := hst.2.1
    rw [Nat.zero_add, hm] at ha
    have htb := totalP_bytes acc (-1)
    have hlast := fun w' (hb : Below wr.heap.size wr w') (hla' : acc.length ≤ 1000000) => list_last w.heap.size w.heap.size [] acc w' (hla.below hb) (by omega)
    obtain ⟨x, hx⟩ : ∃ x, x = docOf (-1) acc := ⟨_, rfl⟩
    obtain ⟨a, hae⟩ : ∃ a, a = (bytesP (-1) acc).length := ⟨_, rfl⟩
    rw [← hx] at hx0 hx1 hlast
    rw [← hae] at ha hlast htb
    obtain ⟨N, hN⟩ : ∃ N, N = acc.length := ⟨_, rfl⟩
    rw [← hN] at c2 h8 hle hlast huni
    have HN := Lib.hid hN
    have HX := Lib.hid hx
    have HAE := Lib.hid hae
    have HST := Lib.hid hst
    have HUNI := Lib.hid huni
    have HLA := Lib.hid hla
    have HBW := Lib.hid hbw
    have hrow : ∀ w', Below wr.heap.size wr w' → Row w' w'.heap.size A (Lib.byteCells b) := fun w' h => ((HR.out.below hbw).more hsz |>.below h).more h.size
    have HROW := Lib.hid hrow
    have HTB := Lib.hid htb
    have HHLE := Lib.hid hle
    clear hst huni hla hbw hx hae hN hrow htb hle
    by_cases hlt : (N : Int) < many
    · have hn8 : N = 8 * n := by rcases h8 with h | h <;> omega
      have hN1 : N ≤ 1000 := by omega
      obtain ⟨q, hq⟩ : ∃ q : Nat, q = min 8 (many.toNat - N) := ⟨_, rfl⟩
      have hq0 : 0 < q ∧ q ≤ 8 ∧ ((N + q : Nat) : Int) ≤ many ∧ (q = 8 ∨ ((N + q : Nat) : Int) = many) := by omega
      have hqm : (if (8 : Int) < many - (N : Int) then (8 : Int) else many - (N : Int)) = (q : Int) := by split <;> omega
      have HLAST : Hid (∀ w', Below wr.heap.size wr w' → Calls Try.prog 26 #[.pointer (some ⟨w.heap.size, 0, none⟩)] w' fun e w2 => e = .returned (.agg #[.int .i64 x, .int .i64 (a : Int)]) ∧ Below w'.heap.size w' w2) := Lib.hid fun w' h => hlast w' h (by omega)
      have HG : Hid (∀ w', Below wr.heap.size wr w' → Calls Try.prog 36 #[.slice A m c, .agg #[.int .i64 x, .int .i64 (a : Int)], .int .i64 (q : Int)] w' fun e w2 => ∃ s7 s8 s9, e = .returned (.tuple #[s7, s8, s9]) ∧ Head b acc q w' s7 s8 s9 w2) := Lib.hid fun w' h =>
        (posting_get A m c b x a q w' (HROW.out w' h) hm hc hcx hl ha (by omega) hx1 (by omega)).mono fun e w2 => by
          rintro ⟨h1, (⟨g, v, h2, h3, h4, _, rfl, h5⟩ | ⟨h2, rfl⟩)⟩
          · refine ⟨_, _, _, rfl, h1, .inl ⟨g, h2, by rw [← HX.out, ← HAE.out]; exact h3, by rw [← HX.out, ← HAE.out]; exact h4, ?_, rfl, h5⟩⟩
            rw [bytesP_append, List.length_append, ← HX.out, ← HAE.out]
          · exact ⟨_, _, _, rfl, h1, .inr ⟨by rw [← HX.out, ← HAE.out]; exact h2, rfl, rfl, rfl⟩⟩
      have HC : Hid (∀ w', Below wr.heap.size wr w' → w'.cell? ⟨w.heap.size, 2, none⟩ = some (.int .i64 (N : Int))) := Lib.hid fun w' hb => (hb.cell (p := ⟨w.heap.size, 2, none⟩) hblt).trans c2
      have hsub : IntKind.i64.wrap (many - (N : Int)) = many - (N : Int) := IntWalk.i64_in _ (by omega)
      have HN8 := Lib.hid hn8
      clear hlast hq h8 hx0 hx1 c0 c1 c3 hn8
      go_upto_region 3 with fail
      go_cut [7, 8, 9] from 18 to 33 (fun s7 s8 s9 wx => Head b acc q wr s7 s8 s9 wx)
      case first =>
        go_region_held3 (fun w' => w'.cell? ⟨w.heap.size, 2, none⟩ = some (.int .i64 (N : Int)))
          (first | exact HC.out _ (Below.refl _ _).drew | exact HC.out _ HB5.out | exact HC.out _ HB6.out)
          (first
            | (go_simp; go_at_call 26; (with_reducible refine (HLAST.out _ (Below.refl _ _).drew).mono ?_); rintro e w5 ⟨rfl, hb5⟩; have HB5 : Hid (Below wr.heap.size wr w5) := Lib.hid ((Below.refl _ wr).drew.trans hb5))
            | (go_simp; go_at_call 36; (with_reducible refine (HG.out _ HB5.out).mono ?_); rintro e w6 ⟨s7, s8, s9, rfl, hhead⟩; have HB6 : Hid (Below wr.heap.size wr w6) := Lib.hid (HB5.out.trans (hhead.1.mono HB5.out.size))))
        all_goals
          go_wp2_with fail
          go_meet
          exact hhead.low HB5.out
      case rest =>
        obtain ⟨hb6, (⟨g, hg1, hg2, hg3, rfl, rfl, hown⟩ | ⟨hno, rfl, rfl, rfl⟩)⟩ := hcut
        · have hla6 := HLA.out.below hb6
          have hB6 := HBW.out.trans (hb6.mono hsz)
          obtain ⟨cs, h1, h2⟩ := hown
          obtain ⟨Ag, cg, rfl, hcg, hcgx, _⟩ := NewPo.room ⟨cs, h1, h2⟩
          have hst2 := stands_append HST.out hg2
          have hlen2 : (acc ++ g).length = N + q := by rw [List.length_append, ← HN.out, hg1]
          have huni2 : ∀ l, Fits many b l → acc ++ g = l.take (acc ++ g).length := fun l hf => by
            obtain ⟨e1, e2, e3⟩ := fits_block hf (by rw [← HN.out]; exact HUNI.out l hf) (q := q) (by rw [← HN.out]; exact hq0.2.2.1)
            rw [hlen2, HN.out, e3, hg3 _ e2 e1]
          have htb2 := totalP_bytes (acc ++ g) (-1)
          have hzb := hst2.2.1
          rw [Nat.zero_add, hm] at hzb
          obtain ⟨z, hz⟩ : ∃ z, z = (bytesP (-1) (acc ++ g)).length := ⟨_, rfl⟩
          rw [← hz] at htb2 hzb
          have hcl := list_close w.heap.size w.heap.size [] acc g n Ag g.length cg cs z wc hla6 (by rw [← HN.out]; exact HN8.out) rfl hcg hcgx (h2.imp fun _ _ _ => trivial) (RowM.of_own h1 (by unfold Turning; decide)) (by omega) (by omega) (by rw [← HN.out]; omega) (by omega) hz (by omega)
          rw [hg1] at hcl
          rw [← hz, hg1]
          have HCL := Lib.hid hcl
          have HST2 := Lib.hid hst2
          have HUNI2 := Lib.hid huni2
          have HLEN2 := Lib.hid hlen2
          have HB6 := Lib.hid hB6
          clear hla6 hB6 h1 h2 hst2 huni2 hlen2 htb2 hzb hz hcl hg1 hg2 hg3 hb6
          go_wp2_with (go_at_call 27; refine HCL.out.mono ?_)
          rintro e w7 ⟨⟨v7, rfl⟩, hla7, hmild⟩
          have hfin : ReadDRel many b w (.pointer none) (.int .i64 0) w7 :=
            ⟨rfl, rfl, acc ++ g, n + 1, by rw [HLEN2.out]; have := HN8.out; omega, .inr (by rw [HLEN2.out]; omega), HST2.out, HUNI2.out, hla7, HB6.out.trans hmild.below⟩
          have hme := manyIn_eq hla7
          have hme0 := manyIn_eq HLA.out
          rw [HLEN2.out] at hme
          rw [← HN.out] at hme0
          have HF := Lib.hid hfin
          have HME := Lib.hid hme
          have HME0 := Lib.hid hme0
          clear hfin hla7 hmild hme hme0
          go_wp2
          go_roundw
          case rel => exact HF.out
          case measure => rw [HME.out, HME0.out]; omega
        · have HNO : Hid (∀ l, ¬ Fits many b l) := Lib.hid fun l hf => by
            obtain ⟨e1, e2, _⟩ := fits_block hf (by rw [← HN.out]; exact HUNI.out l hf) (q := q) (by rw [← HN.out]; exact hq0.2.2.1)
            exact hno _ e2 e1
          have HB6 := Lib.hid (HBW.out.trans (hb6.mono hsz))
          clear hno hb6
          go_wp2
          go_ret2
          exact ⟨HB6.out, .inr ⟨HNO.out, rfl⟩⟩
    · by_cases hneg : many < 0
      · have HNO : Hid (∀ l, ¬ Fits many b l) := Lib.hid fun l hf => by have := hf.2.1; omega
        have hd : decide (many < 0) = true := decide_eq_true hneg
        clear hlast h8 hx0 hx1 c0 c1 c3
        go_wp2
        go_ret2
        exact ⟨HBW.out, .inr ⟨HNO.out, rfl⟩⟩
      · have hd : decide (many < 0) = false := decide_eq_false hneg
        have hNm : (N : Int) = many := by
          rcases HHLE.out with h | h
          · have : N = 0 := by rw [HN.out, h]; rfl
            omega
          · omega
        have hN1 : N ≤ 1000 := by omega
        have HLAST := Lib.hid (hlast wr (Below.refl _ _) (by omega))
        have hfit : ∀ l, Fits many b l → l = acc := fun l hf => by
          have h1 := HUNI.out l hf
          rw [List.take_of_length_le (by have := hf.2.1; omega)] at h1
          exact h1.symm
        have hfld := fun w1 => fld_at x (a : Int) w1
        have HFIT := Lib.hid hfit
        have HNM := Lib.hid hNm
        clear hlast h8 hx0 hx1 c0 c1 c3 hNm hfit
        by_cases ham : a = m
        · have hfits : Fits many b acc := by
            refine ⟨HST.out.1, by rw [← HN.out]; exact HNM.out, ?_⟩
            have h1 := HST.out.2.2
            rw [Nat.zero_add, ← HAE.out, ham, List.take_of_length_le (by omega), List.take_zero, List.nil_append] at h1
            exact h1.symm
          have hne : ((a : Int) != (m : Int)) = false := by simp [ham]
          have HC := Lib.hid (fun w' h => clone_bytes A m c b w' hm (HROW.out w' h) (by omega))
          have HFI := Lib.hid hfits
          clear ham hfits
          go_wp2_with (first
            | (go_at_call 26; refine HLAST.out.mono ?_; rintro e w5 ⟨rfl, hb5⟩; have HB5 := Lib.hid hb5; clear hb5)
            | (go_at_call 37; refine (HC.out _ HB5.out).mono ?_))
          rintro e w6 ⟨v6, rfl, hown6, hb6⟩
          have hb56 := HB5.out.trans (hb6.mono HB5.out.size)
          have hla6 := HLA.out.below hb56
          have hown0 : Own w.heap.size w6 v6 b := hown6.low (by have := HB5.out.size; omega)
          obtain ⟨hs1, hs2⟩ := hla6.setBytes hown0
          obtain ⟨A6, c6, rfl, _, _⟩ := hown6.row
          obtain ⟨_, vb', ve', hv', _, _⟩ := hla6
          obtain ⟨⟨d0, d1, d2, d3⟩, g0, g1, g2, g3⟩ := cell_four hv'
          rw [HM.out] at hs1 hs2
          have HS1 := Lib.hid hs1
          have HS2 := Lib.hid ((HBW.out.trans (hb56.mono hsz)).trans hs2.below)
          clear hv' hs1 hs2 hown6 hown0 hb6 hb56
          go_wp2
          go_ret2
          exact ⟨HS2.out, .inl ⟨acc, w.heap.size, HFI.out, rfl, HS1.out⟩⟩
        · have HNO : Hid (∀ l, ¬ Fits many b l) := Lib.hid fun l hf => by
            have h1 := HFIT.out l hf
            subst h1
            have h2 := congrArg List.length hf.2.2
            rw [← HAE.out, HM.out] at h2
            exact ham h2
          have hne : ((a : Int) != (m : Int)) = true := by simp; omega
          have hne2 : ¬ (a : Int) = (m : Int) := by omega
          go_wp2_with (go_at_call 26; refine HLAST.out.mono ?_; rintro e w5 ⟨rfl, hb5⟩; have HB5 := Lib.hid (HBW.out.trans (hb5.mono hsz)); clear hb5)
          go_ret2
          exact ⟨HB5.out, .inr ⟨HNO.out, rfl⟩⟩
end Go.Proofs.Ytfhjnblcnkjooaa
