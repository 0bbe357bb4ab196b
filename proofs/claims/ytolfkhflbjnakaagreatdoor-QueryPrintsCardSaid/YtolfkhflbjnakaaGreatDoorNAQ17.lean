/- Texts laid together: RefGood12, GoodQ12. -/
import Derived.Test.YtolfkhflbjnakaaGreatDoorNAQ15
import Derived.Test.YtolfkhflbjnakaaGreatDoorNAQ12
import Derived.Test.YtolfkhflbjnakaaGreatDoorNAQ06
import Derived.Test.YtolfkhflbjnakaaGreatDoorNAQ11
import Derived.BigCall
import Derived.Deep.RegionLaw
import Derived.IntWalk

/- What the document's Good answers: a query that may be, made of any. -/
namespace Go.Proofs.YtolfkhflbjnakaaGreatDoor
open Go Go.RowKit
set_option linter.unusedVariables false

def zeroC : Array Value := #[.int .i64 0, .string ⟨#[]⟩, .string ⟨#[]⟩, .slice none 0 0, .slice none 0 0]
/-- A query in a block of its own, the one that is to be answered in the next one. -/
def boxQ2 (w : World) (k : Int) (f x : ByteArray) (A : Option Addr) (n c : Nat) (K : Option Addr) (m d : Nat) : World := (boxQ w k f x A n c K m d).alloc (.cells #[.int .i64 0, .string ⟨#[]⟩, .string ⟨#[]⟩, .slice none 0 0, .slice none 0 0] 27)
theorem boxQ2_of {w wr : World} {k : Int} {f x : ByteArray} {A K : Option Addr} {n c m d : Nat} (h : Below (w.heap.size + 2) (boxQ2 w k f x A n c K m d) wr) :
    Below w.heap.size w wr ∧ (wr.cell? ⟨w.heap.size, 0, none⟩ = some (.int .i64 k) ∧ wr.cell? ⟨w.heap.size, 1, none⟩ = some (.string f) ∧ wr.cell? ⟨w.heap.size, 2, none⟩ = some (.string x) ∧ wr.cell? ⟨w.heap.size, 3, none⟩ = some (.slice A n c) ∧ wr.cell? ⟨w.heap.size, 4, none⟩ = some (.slice K m d)) ∧
    wr.heap[w.heap.size + 1]? = some (.cells #[.int .i64 0, .string ⟨#[]⟩, .string ⟨#[]⟩, .slice none 0 0, .slice none 0 0] 27 (0, 0)) := by
  have hs : (boxQ w k f x A n c K m d).heap.size = w.heap.size + 1 := boxQ_size
  have h1 : Below (boxQ w k f x A n c K m d).heap.size (boxQ w k f x A n c K m d) wr := ((Below.refl _ _).alloc (Nat.le_refl _) _).trans (h.mono (by rw [hs]; omega))
  have h0 := boxQ_of h1
  refine ⟨h0.1, h0.2, (h.block (w.heap.size + 1) (by omega)).trans ?_⟩
  have := heap_alloc_new (boxQ w k f x A n c K m d) (.cells #[.int .i64 0, .string ⟨#[]⟩, .string ⟨#[]⟩, .slice none 0 0, .slice none 0 0] 27)
  rwa [hs] at this

theorem drew_below12 (w : World) : Below w.heap.size w w.drew := ⟨rfl, rfl, rfl, Nat.le_refl _, fun _ _ => rfl⟩
theorem below_drew12 {w w' : World} (h : Below w.drew.heap.size w.drew w') : Below w.heap.size w w' := ⟨h.os, h.tape, h.output, h.size, h.block⟩
/-- What is answered of kids. -/
def KidsGood (w : World) (D : Nat) (ks : List Qy) : Prop := ∀ q ∈ ks, ∀ (v : Value) (w' : World), Below w.heap.size w w' → QIn w' q v → Calls Tryz.prog 13 #[v, .int .i64 ((D : Int) + 1)] w' (GaveQ (goodQ (D + 1) q) w')
/-- The kids that are made so far. -/
def GoodRel (w2 : World) (z B D : Nat) (GK : Int) (M : Nat) (ks : List Qy) (i : Value) (wr : World) : Prop := ∃ j : Nat, j ≤ M ∧ j ≤ ks.length ∧ i = .int .i64 (j : Int) ∧ ∃ v, GoodAt w2 z B GK ⟨#[]⟩ ⟨#[]⟩ (.slice none 0 0) ((ks.take j).map (goodQ (D + 1))) v wr
/-- The words that are taken so far. -/
def PhrRel (w2 : World) (z B : Nat) (fb : ByteArray) (ws : List Nm) (i : Value) (wr : World) : Prop := ∃ j : Nat, j ≤ 3 ∧ j ≤ ws.length ∧ i = .int .i64 (j : Int) ∧ ∃ v, WordsAt w2 z B 5 fb ⟨#[]⟩ (.slice none 0 0) ((ws.take j).filter mayWord) v wr
def NoPhr (w2 : World) (z : Nat) (GK : Int) (ws : List Nm) (wr : World) : Prop := Below z w2 wr ∧ ¬ (GK = 5 ∧ 0 < (goodWs ws).length)
set_option maxHeartbeats 8000000 in
set_option maxRecDepth 100000 in
theorem good_step (D : Nat) (k : Int) (t : Tm) (ws : List Nm) (ks : List Qy) (f x : ByteArray) (A : Option Addr) (c : Nat) (K : Option Addr) (d : Nat) (ds : List Value) (w : World) (hD : D ≤ 100) (hraw : RawQ 100000000 (.mk k t ws ks)) (hf : f.data.toList = t.1) (hx : x.data.toList = t.2)
    (hA : RowP (fun b => b < w.heap.size) w A (strs ws)) (hK : RowP (fun b => b < w.heap.size) w K ds) (hks : QsAt (fun b => b < w.heap.size) w ks ds) (hkids : D < 4 → KidsGood w D ks) :
    Calls Tryz.prog 13 #[qV k f x A ws.length c K ks.length d, .int .i64 (D : Int)] w (GaveQ (goodQ D (.mk k t ws ks)) w) := by
  rw [RawQ] at hraw
  obtain ⟨⟨hk1, hk2⟩, ht, hws, hrl⟩ := hraw
  have hfs : f.data.toList.length = f.size := Array.length_toList
  have hxs : x.data.toList.length = x.size := Array.length_toList
  have hfl : f.size ≤ 100000000 := by rw [← hfs, hf]; exact ht.1
  have hxl : x.size ≤ 100000000 := by rw [← hxs, hx]; exact ht.2
  obtain ⟨w2, hw2⟩ : ∃ w2, w2 = boxQ2 w k f x A ws.length c K ks.length d := ⟨_, rfl⟩
  have HW2 := Lib.hid hw2
  have HB : Hid (∀ wr, Below (w.heap.size + 2) w2 wr → Below w.heap.size w wr ∧ (wr.cell? ⟨w.heap.size, 0, none⟩ = some (.int .i64 k) ∧ wr.cell? ⟨w.heap.size, 1, none⟩ = some (.string f) ∧ wr.cell? ⟨w.heap.size, 2, none⟩ = some (.string x) ∧ wr.cell? ⟨w.heap.size, 3, none⟩ = some (.slice A ws.length c) ∧ wr.cell? ⟨w.heap.size, 4, none⟩ = some (.slice K ks.length d)) ∧
    wr.heap[w.heap.size + 1]? = some (.cells #[.int .i64 0, .string ⟨#[]⟩, .string ⟨#[]⟩, .slice none 0 0, .slice none 0 0] 27 (0, 0))) := Lib.hid fun wr h => by
    rw [hw2] at h
    exact boxQ2_of h
  have hs2 : w2.heap.size = w.heap.size + 2 := by rw [hw2]; simp [boxQ2, boxQ]
  have HN : Hid (∀ w', Calls Tryz.prog 31 #[.string f] w' fun e w'' => e = .returned (.bool (nameB t.1)) ∧ Below w'.heap.size w' w'') := Lib.hid fun w' => by rw [← hf]; exact ref08_Name f w' (by omega)
  obtain ⟨y, hy⟩ : ∃ y, y = nameB t.1 := ⟨_, rfl⟩
  rw [← hy] at HN
  obtain ⟨fb, hfb1, hfb2, hfb⟩ : ∃ fb : ByteArray, (y = true → f = fb) ∧ (y = false → fb = ⟨#[116]⟩) ∧ fb.data.toList = goodFn t.1 := by
    unfold goodFn
    rw [← hy]
    cases y with
    | true => exact ⟨f, fun _ => rfl, (fun h => by cases h), by rw [if_pos rfl, hf]⟩
    | false => exact ⟨⟨#[116]⟩, (fun h => by cases h), fun _ => rfl, rfl⟩
  obtain ⟨kk, hkk1, hkk2, hkk⟩ : ∃ kk : Int, (k < 0 → -(k + 1) = kk) ∧ (¬ k < 0 → k = kk) ∧ goodK k = 1 + kk % 5 := by
    unfold goodK
    by_cases h : k < 0
    · exact ⟨-(k + 1), fun _ => rfl, fun h' => absurd h h', by rw [if_pos h]⟩
    · exact ⟨k, fun h' => absurd h' h, fun _ => rfl, by rw [if_neg h]⟩
  have hkk0 : 0 ≤ kk := by
    by_cases h : k < 0
    · have := hkk1 h; omega
    · have := hkk2 h; omega
  have hkk9 : kk ≤ 9223372036854775807 := by
    by_cases h : k < 0
    · have := hkk1 h; omega
    · have := hkk2 h; omega
  have HFB1 := Lib.hid hfb1
  have HFB2 := Lib.hid hfb2
  have HFB := Lib.hid hfb
  have HK1 := Lib.hid hkk1
  have HK2 : Hid (0 ≤ k → k = kk) := Lib.hid fun h => hkk2 (by omega)
  have HKK := Lib.hid hkk
  have HS2 := Lib.hid hs2
  have HX := Lib.hid hx
  have HROW : Hid (∀ wr, Below w.heap.size w wr → Row wr w.heap.size A (strs ws)) := Lib.hid fun wr h => Row.below (RowP.row hA fun _ h => h) h
  have HWS := Lib.hid hws
  have HKI := Lib.hid hkids
  have HKA : Hid (KidsAt w w2 ks K) := Lib.hid (kids_at hK hks (HB.out _ (Below.refl _ _)).1)
  clear hw2 hy hs2 hf hx hfb1 hfb2 hfb hkk1 hkk2 hkk hA hK hks hkids hws hrl ht hfs hxs
  go_enter Tryz.func13, Tryz.ntmps13
  go_upto_if 22 with (go_at_call 31; rw [show (w.alloc _).alloc _ = w2 from HW2.out.symm]; (with_reducible refine (HN.out _).mono ?_); rintro e w3 ⟨rfl, hb3⟩; have HB3 : Hid (Below (w.heap.size + 2) w2 w3) := Lib.hid (by rw [← HS2.out]; exact hb3); clear hb3)
  go_cut [5] from 21 to 22 (fun s wx => s = .string fb ∧ w3 = wx)
  case first =>
    cases y with
    | true =>
      have e := HFB1.out rfl
      subst e
      go_wp2_with fail
      go_meet
      exact ⟨rfl, rfl⟩
    | false =>
      have e := HFB2.out rfl
      subst e
      go_wp2_with fail
      go_meet
      exact ⟨rfl, rfl⟩
  case rest =>
    obtain ⟨rfl, rfl⟩ := hcut
    obtain ⟨hb0, ⟨a0, a1, a2, a3, a4⟩, r0⟩ := HB.out _ HB3.out
    have HB0 := Lib.hid hb0
    have R0 := Lib.hid r0
    clear hb0 r0
    go_upto_if 26 with fail
    go_cut [7] from 25 to 29 (fun s wx => s = .int .i64 kk ∧ w3 = wx)
    case first =>
      by_cases h0 : k < 0
      · have e := HK1.out h0
        subst e
        go_wp2_with fail
        go_meet
        exact ⟨rfl, rfl⟩
      · have e := HK2.out (by omega)
        subst e
        go_wp2_with fail
        go_meet
        exact ⟨rfl, rfl⟩
    case rest =>
      obtain ⟨rfl, rfl⟩ := hcut
      obtain ⟨GK, hGK⟩ : ∃ GK, 1 + kk % 5 = GK := ⟨_, rfl⟩
      have hg1 : 1 ≤ GK := by omega
      have hg5 : GK ≤ 5 := by omega
      have hgood : goodK k = GK := by rw [HKK.out, hGK]
      have HG := Lib.hid hgood
      obtain ⟨⟨r0, r1, r2, r3, r4⟩, f0, f1, f2, f3, f4⟩ := five_cells R0.out
      obtain ⟨KB, hKB⟩ : ∃ KB, KB = decide ((2 ≤ GK ∧ GK ≤ 4) ∧ D < 4 ∧ 0 < ks.length) := ⟨_, rfl⟩
      have HKB := Lib.hid hKB
      clear hgood hKB
      go_upto_region 9 with fail
      go_cut [48] from 33 to 48 (fun s wx => s = .bool KB ∧ w3 = wx)
      case first =>
        by_cases e1 : 2 ≤ GK
        · by_cases e2 : GK ≤ 4
          · have d1 : decide (2 ≤ GK) = true := decide_eq_true e1
            have d2 : decide (GK ≤ 4) = true := decide_eq_true e2
            by_cases e3 : D < 4
            · have d3 : decide ((D : Int) < 4) = true := decide_eq_true (by omega)
              by_cases e4 : ks.length = 0
              · have hb : KB = false := by rw [HKB.out]; simp [e4]
                have d4 : decide (0 < ks.length) = false := by simp [e4]
                subst hb
                clear e4
                go_wp2_with fail
                go_meet
                exact ⟨rfl, rfl⟩
              · have hb : KB = true := by rw [HKB.out]; exact decide_eq_true ⟨⟨e1, e2⟩, e3, by omega⟩
                subst hb
                have d4 : 0 < ks.length := by omega
                clear e4
                go_wp2_with fail
                go_meet
                exact ⟨rfl, rfl⟩
            · have hb : KB = false := by rw [HKB.out]; exact decide_eq_false fun h => e3 h.2.1
              have d3 : decide ((D : Int) < 4) = false := decide_eq_false (by omega)
              subst hb
              go_wp2_with fail
              go_meet
              exact ⟨rfl, rfl⟩
          · have hb : KB = false := by rw [HKB.out]; exact decide_eq_false fun h => e2 h.1.2
            have d1 : decide (2 ≤ GK) = true := decide_eq_true e1
            have d2 : decide (GK ≤ 4) = false := decide_eq_false e2
            subst hb
            go_wp2_with fail
            go_meet
            exact ⟨rfl, rfl⟩
        · have hb : KB = false := by rw [HKB.out]; exact decide_eq_false fun h => e1 h.1.1
          have d1 : decide (2 ≤ GK) = false := decide_eq_false e1
          subst hb
          go_wp2_with fail
          go_meet
          exact ⟨rfl, rfl⟩
      case rest =>
        obtain ⟨rfl, rfl⟩ := hcut
        clear hGK
        go_upto_if 48 with fail
        go_cut [] from 49 to 77 (fun wx => w3 = wx ∧ KB = false)
        case first =>
          cases KB with
          | false =>
            go_wp2_with fail
            go_meet
            exact ⟨rfl, trivial⟩
          | true =>
            have hcond : (2 ≤ GK ∧ GK ≤ 4) ∧ D < 4 ∧ 0 < ks.length := of_decide_eq_true HKB.out.symm
            obtain ⟨⟨e1, e2⟩, e3, e4⟩ := hcond
            obtain ⟨M, hM1, hM2, hM3⟩ : ∃ M : Nat, (GK = 4 → M = 1) ∧ (¬ GK = 4 → M = 3) ∧ M = if GK = 4 then 1 else 3 := by
              by_cases h : GK = 4
              · exact ⟨1, fun _ => rfl, fun h' => absurd h h', by rw [if_pos h]⟩
              · exact ⟨3, fun h' => absurd h' h, fun _ => rfl, by rw [if_neg h]⟩
            have hM4 : M ≤ 3 := by rw [hM3]; split <;> omega
            have HM1 := Lib.hid hM1
            have HM2 := Lib.hid hM2
            have HM3 := Lib.hid hM3
            clear hM1 hM2 hM3
            go_upto_if 52 with fail
            obtain ⟨w4, hw4⟩ : ∃ w4, w4 = w3.alloc (.cells #[.int .i64 GK, .string ⟨#[]⟩, .string ⟨#[]⟩, .slice none 0 0, .slice none 0 0] 27) := ⟨_, rfl⟩
            obtain ⟨B, hB⟩ : ∃ B, B = w3.heap.size := ⟨_, rfl⟩
            have hBz : w.heap.size + 2 ≤ B := by have h1 := HB3.out.size; have h2 := HS2.out; omega
            have hG4 : GoodAt w2 (w.heap.size + 2) B GK ⟨#[]⟩ ⟨#[]⟩ (.slice none 0 0) [] (.slice none 0 0) w4 := by
              refine ⟨by rw [hw4, hB]; exact heap_alloc_new _ _, OwnQs.nil, ?_, hBz⟩
              rw [hw4]
              exact HB3.out.trans ((Below.refl _ _).alloc (by omega) _)
            rw [← hw4, ← hB]
            have HG4 := Lib.hid hG4
            clear hw4 hB hG4 a0 a1 a2 a3 a4 r0 r1 r2 r3 r4 f0 f1 f2 f3 f4
            go_cut [9] from 51 to 52 (fun s wx => s = .int .i64 (M : Int) ∧ w4 = wx)
            case first =>
              by_cases h4 : GK = 4
              · have e := HM1.out h4
                subst h4 e
                go_wp2_with fail
                go_meet
                exact ⟨rfl, rfl⟩
              · have e := HM2.out h4
                have e5 : (GK == 4) = false := by rw [beq_eq_false_iff_ne]; exact h4
                subst e
                clear h4
                go_wp2_with fail
                go_meet
                exact ⟨rfl, rfl⟩
            case rest =>
              obtain ⟨rfl, rfl⟩ := hcut
              obtain ⟨j0, hj0, hj1, hj2, hj3⟩ := info_parts info_query
              go_wp2_with fail
              go_loopw [10] (fun i wr => GoodRel w2 (w.heap.size + 2) B D GK M ks i wr) (fun i _ => M - (intOf i).toNat)
              case atStart => exact ⟨0, by omega, by omega, rfl, _, by rw [List.take_zero]; exact HG4.out⟩
              case round =>
                obtain ⟨j, hjM, hjk, rfl, v, hat⟩ := hrel
                obtain ⟨hb0, ⟨a0, a1, a2, a3, a4⟩, r0⟩ := HB.out _ hat.2.2.1
                clear a0 a1 a2 a3
                have HB0 := Lib.hid hb0
                have R1 := Lib.hid r0
                clear hb0 r0
                have hBl := hat.lt
                by_cases hlt : j < M ∧ j < ks.length
                · obtain ⟨hlM, hlk⟩ := hlt
                  obtain ⟨b, off, k', f', x', A', n', c', K', m', d', e', hbl, hv, c0, c1, c2, c3, c4⟩ := HKA.out wr (by rw [HS2.out]; exact hat.2.2.1) j hlk
                  subst e'
                  obtain ⟨cs, h1, h2⟩ := hat.2.1
                  obtain ⟨A4, c5, e4, -⟩ := owned_row h1
                  have hln : ((ks.take j).map (goodQ (D + 1))).length = j := by rw [List.length_map, List.length_take]; omega
                  rw [hln] at h1 e4
                  subst e4
                  have hq4 : ∀ W, Below wr.heap.size wr W → W.cell? ⟨B, 4, none⟩ = some (.slice A4 j c5) := fun W hW => (five_cells (hat.later hW).1).1.2.2.2.2
                  have hq5 : ∀ W, Below wr.heap.size wr W → W.cell? ⟨w.heap.size, 4, none⟩ = some (.slice (some ⟨b, off, none⟩) ks.length d) := fun W hW => ((HB.out W (hat.later hW).2.2.1).2.1).2.2.2.2
                  have hq6 : ∀ W, Below wr.heap.size wr W → W.cell? ⟨b, off + j * 5, none⟩ = some (.int .i64 k') ∧ W.cell? ⟨b, off + j * 5 + 1, none⟩ = some (.string f') ∧ W.cell? ⟨b, off + j * 5 + 2, none⟩ = some (.string x') ∧ W.cell? ⟨b, off + j * 5 + 3, none⟩ = some (.slice A' n' c') ∧ W.cell? ⟨b, off + j * 5 + 4, none⟩ = some (.slice K' m' d') := fun W hW => by
                    have hbr : b < wr.heap.size := by have := hat.2.2.1.size; have := HS2.out; omega
                    exact ⟨(hW.cell (p := ⟨b, off + j * 5, none⟩) hbr).trans c0, (hW.cell (p := ⟨b, off + j * 5 + 1, none⟩) hbr).trans c1, (hW.cell (p := ⟨b, off + j * 5 + 2, none⟩) hbr).trans c2, (hW.cell (p := ⟨b, off + j * 5 + 3, none⟩) hbr).trans c3, (hW.cell (p := ⟨b, off + j * 5 + 4, none⟩) hbr).trans c4⟩
                  have HQ4 := Lib.hid hq4
                  have HQ5 := Lib.hid hq5
                  have HQ6 := Lib.hid hq6
                  have HAT := Lib.hid hat
                  have HLN := Lib.hid hln
                  have HO := Lib.hid h1
                  have HQS := Lib.hid h2
                  have HV := Lib.hid hv
                  have HCALL : Hid (∀ W, Below wr.heap.size wr W → Calls Tryz.prog 13 #[qV k' f' x' A' n' c' K' m' d', .int .i64 ((D : Int) + 1)] W (GaveQ (goodQ (D + 1) ks[j]) W)) :=
                    Lib.hid fun W hW => HKI.out e3 _ (List.getElem_mem hlk) _ W (HB0.out.trans (hW.mono HB0.out.size)) (hv.later hW)
                  have i0 : (0 : Int) ≤ j := by omega
                  have i1 : (j : Int) < ks.length := by omega
                  have i2 : (j : Int) < M := by omega
                  have HTK : Hid ((ks.take (j + 1)).map (goodQ (D + 1)) = (ks.take j).map (goodQ (D + 1)) ++ [goodQ (D + 1) ks[j]]) := Lib.hid (by rw [List.take_succ_eq_append_getElem hlk, List.map_append]; rfl)
                  have iw : IntKind.i64.wrap ((D : Int) + 1) = (D : Int) + 1 := IntWalk.i64_in _ (by omega)
                  clear hat h1 h2 hv hln hq4 hq5 hq6 c0 c1 c2 c3 c4 a4
                  have q4 := HQ4.out wr (Below.refl _ _)
                  have q5 := HQ5.out wr (Below.refl _ _)
                  obtain ⟨q60, q61, q62, q63, q64⟩ := HQ6.out wr (Below.refl _ _)
                  go_wp2
                  go_region_law (first
                    | (refine step_append_lies _ (by rfl) _ _ _ (by rfl) (B + 1) 27 j0 _ 5 88 Tryz.underlying25 hj0 hj1 hj2 hj3 rfl (by omega) (.slice A4 j c5) j cs (by rfl) ((owned_below HO.out HB6.out).alloc _)
                        ⟨w6.heap.size, 0, none⟩ 1 1 (qC k6 f6 x6 A6 n6 c6 K6 m6 d6) (by rfl) (by rfl) (World.news_of_block (cs := #[.int .i64 k6, .string f6, .string x6, .slice A6 n6 c6, .slice K6 m6 d6]) (t := 27) (fr := (0, 0)) (heap_alloc_new w6 _)) (HQ7.out.one)
                        (by omega) (by unfold maxLen; omega) (by omega) (by have := HB6.out.size; simp; omega) (w6.heap.size + 1) (by simp) ?_
                       intro gg cap w8 hown8 hgrow hat8 hlt8
                       rw [← HLN.out] at hown8
                       obtain ⟨⟨c8, f8⟩, hd8⟩ := HAT.out.push (g := gg) (by rw [HLN.out]; exact HO.out) HQS.out HB6.out HQ7.out hown8 hgrow rfl (hat8.imp id fun h => by omega)
                       rw [HLN.out] at hd8
                       have HD8 := Lib.hid hd8
                       clear hown8 hgrow hat8 hlt8 hd8)
                    | (go_simp; go_at_call 13; (with_reducible refine (HCALL.out _ (Below.refl _ _).drew).mono ?_); rintro e w6 ⟨v6, rfl, hq6, hb6⟩
                       obtain ⟨k6, f6, x6, A6, n6, c6, K6, m6, d6, rfl, hq7⟩ := hq6
                       have HB6 : Hid (Below wr.heap.size wr w6) := Lib.hid (below_drew12 hb6)
                       have HQ7 : Hid (QAt (fun b => wr.heap.size ≤ b ∧ b < w6.heap.size) w6 (goodQ (D + 1) ks[j]) (qC k6 f6 x6 A6 n6 c6 K6 m6 d6)) := Lib.hid hq7
                       have q4a := HQ4.out w6 HB6.out
                       have q4b : ∀ o, (w6.alloc o).cell? ⟨B, 4, none⟩ = some (.slice A4 j c5) := fun o => HQ4.out _ (HB6.out.alloc HB6.out.size o)
                       clear hb6 hq7))
                  all_goals
                    go_wp2
                    go_roundw
                    case rel => exact ⟨j + 1, by omega, by omega, by go_num, _, by rw [HTK.out]; exact HD8.out⟩
                    case measure => simp [intOf]; omega
                · have hlist : (ks.take j).map (goodQ (D + 1)) = goodL M (D + 1) ks := by
                    rw [goodL_map]
                    by_cases h : j = M
                    · rw [h]
                    · rw [List.take_of_length_le (by omega), List.take_of_length_le (by omega)]
                  rw [hlist] at hat
                  have hlen : (goodL M (D + 1) ks).length = j := by rw [← hlist, List.length_map, List.length_take]; omega
                  have hgq : Qy.mk GK ([], []) [] (goodL M (D + 1) ks) = goodQ D (.mk k t ws ks) := by
                    rw [goodQ, HG.out, if_pos ⟨⟨e1, e2⟩, e3, e4⟩, HM3.out]
                  have hAt := hat
                  obtain ⟨A4, c5, rfl, hqv⟩ := hat.done (C := w.heap.size + 1) (y0 := .int .i64 GK) (y1 := .string ⟨#[]⟩) (y2 := .string ⟨#[]⟩) (y3 := .slice none 0 0) (y4 := v) (by have := hat.2.2.2; omega) hlen
                  obtain ⟨⟨b40, b41, b42, b43, b44⟩, -⟩ := five_cells hAt.1
                  obtain ⟨⟨s0, s1, s2, s3, s4⟩, g0, g1, g2, g3, g4⟩ := five_cells R1.out
                  have hfin : GaveQ (goodQ D (.mk k t ws ks)) w (.returned (qV GK ⟨#[]⟩ ⟨#[]⟩ none 0 0 A4 j c5)) (set5 wr (w.heap.size + 1) (.int .i64 GK) (.string ⟨#[]⟩) (.string ⟨#[]⟩) (.slice none 0 0) (.slice A4 j c5)) :=
                    ⟨_, rfl, by rw [← hgq]; exact hqv.imp fun b hb => ⟨by omega, hb.2⟩, set5_below HB0.out (by omega)⟩
                  obtain ⟨⟨t0, t1, t2, t3, t4⟩, -⟩ := five_cells (set5_at (y0 := .int .i64 GK) (y1 := .string ⟨#[]⟩) (y2 := .string ⟨#[]⟩) (y3 := .slice none 0 0) (y4 := .slice A4 j c5) R1.out)
                  obtain ⟨we, hwe⟩ : ∃ we, we = set5 wr (w.heap.size + 1) (.int .i64 GK) (.string ⟨#[]⟩) (.string ⟨#[]⟩) (.slice none 0 0) (.slice A4 j c5) := ⟨_, rfl⟩
                  rw [← hwe] at hfin t0 t1 t2 t3 t4
                  have HFIN := Lib.hid hfin
                  have HWE := Lib.hid hwe
                  have T0 := Lib.hid t0
                  have T1 := Lib.hid t1
                  have T2 := Lib.hid t2
                  have T3 := Lib.hid t3
                  have T4 := Lib.hid t4
                  have hsp : (j < ks.length ∧ ¬ j < M) ∨ ¬ j < ks.length := by omega
                  clear hfin hqv hwe hat hAt hlist hlen hgq t0 t1 t2 t3 t4 hlt
                  rcases hsp with ⟨h1, h2⟩ | h1
                  all_goals
                    go_wp2
                    rw [show (((((wr.setCell _ _).setCell _ _).setCell _ _).setCell _ _).setCell _ _) = we from HWE.out.symm]
                    exact bodyPost_ret (v := qV GK ⟨#[]⟩ ⟨#[]⟩ none 0 0 A4 j c5) (by simp [results, Tryz.results13, go_sem, T0.out, T1.out, T2.out, T3.out, T4.out]) rfl HFIN.out
        case rest =>
          obtain ⟨rfl, hkb⟩ := hcut
          have HNK : Hid (¬ ((2 ≤ GK ∧ GK ≤ 4) ∧ D < 4 ∧ 0 < ks.length)) := Lib.hid (by rw [HKB.out] at hkb; exact of_decide_eq_false hkb)
          clear hkb
          go_upto_if 80 with fail
          go_cut [] from 79 to 116 (fun wx => NoPhr w2 (w.heap.size + 2) GK ws wx)
          case first =>
            by_cases h5 : GK = 5
            · have H5 := Lib.hid h5
              have e5 : (GK == 5) = true := by rw [h5]; rfl
              clear h5
              rw [e5]
              go_upto_region 21 with fail
              obtain ⟨w4, hw4⟩ : ∃ w4, w4 = w3.alloc (.cells #[.int .i64 5, .string fb, .string ⟨#[]⟩, .slice none 0 0, .slice none 0 0] 27) := ⟨_, rfl⟩
              obtain ⟨B, hB⟩ : ∃ B, B = w3.heap.size := ⟨_, rfl⟩
              have hBz : w.heap.size + 2 ≤ B := by have h1 := HB3.out.size; have h2 := HS2.out; omega
              have hG4 : WordsAt w2 (w.heap.size + 2) B 5 fb ⟨#[]⟩ (.slice none 0 0) [] (.slice none 0 0) w4 := by
                refine ⟨by rw [hw4, hB]; exact heap_alloc_new _ _, OwnNm.nil, ?_, hBz⟩
                rw [hw4]
                exact HB3.out.trans ((Below.refl _ _).alloc (by omega) _)
              rw [← hw4, ← hB]
              have HG4 := Lib.hid hG4
              clear hw4 hB hG4 a0 a1 a2 a3 a4 r0 r1 r2 r3 r4 f0 f1 f2 f3 f4
              obtain ⟨j0, hj0, hj1, hj2, hj3⟩ := info_parts info_string
              go_wp2_with fail
              go_loopw [12] (fun i wr => PhrRel w2 (w.heap.size + 2) B fb ws i wr) (fun i _ => 3 - (intOf i).toNat)
              case atStart => exact ⟨0, by omega, by omega, rfl, _, by rw [List.take_zero]; exact HG4.out⟩
              case round =>
                obtain ⟨j, hjM, hjk, rfl, v, hat⟩ := hrel
                obtain ⟨hb0, ⟨a0, a1, a2, a3, a4⟩, r0⟩ := HB.out _ hat.2.2.1
                clear a0 a1 a2 a4
                have HB0 := Lib.hid hb0
                have R1 := Lib.hid r0
                clear hb0 r0
                have hBl := hat.lt
                by_cases hlt : j < 3 ∧ j < ws.length
                · obtain ⟨hl3, hlk⟩ := hlt
                  obtain ⟨b1, o1, e1, hb1, hc1⟩ := row_str (HROW.out wr HB0.out) hlk
                  subst e1
                  obtain ⟨u, hu, hu2⟩ := as_text ws[j]
                  rw [← hu] at hc1
                  have hul := HWS.out _ (List.getElem_mem hlk)
                  have HT3 : Hid (∀ w', Calls Tryz.prog 32 #[.string u] w' fun e w'' => e = .returned (.bool (mayWord ws[j])) ∧ Below w'.heap.size w' w'') := Lib.hid fun w' => by rw [← hu2]; exact ref_May u w' (by rw [hu, size_nm]; omega)
                  have hbr : b1 < wr.heap.size := by have := HB0.out.size; omega
                  have hq5 : ∀ W, Below wr.heap.size wr W → W.cell? ⟨w.heap.size, 3, none⟩ = some (.slice (some ⟨b1, o1, none⟩) ws.length c) ∧ W.cell? ⟨b1, o1 + j, none⟩ = some (.string u) := fun W hW => ⟨((HB.out W (hat.later hW).2.2.1).2.1).2.2.2.1, (hW.cell (p := ⟨b1, o1 + j, none⟩) hbr).trans hc1⟩
                  have HQ5 := Lib.hid hq5
                  have HAT := Lib.hid hat
                  have HU := Lib.hid hu
                  have i0 : (0 : Int) ≤ j := by omega
                  have i1 : (j : Int) < ws.length := by omega
                  have i2 : (j : Int) < 3 := by omega
                  obtain ⟨mw, hmw⟩ : ∃ mw, mw = mayWord ws[j] := ⟨_, rfl⟩
                  rw [← hmw] at HT3
                  have HTK : Hid ((ws.take (j + 1)).filter mayWord = (ws.take j).filter mayWord ++ (if mw = true then [ws[j]] else [])) := Lib.hid (by
                    rw [List.take_succ_eq_append_getElem hlk, List.filter_append, hmw]
                    congr 1
                    cases h : mayWord ws[j] <;> simp [h])
                  clear hat hu hu2 hul hmw hq5
                  cases mw with
                  | false =>
                    go_wp2_with (go_at_call 32; (with_reducible refine (HT3.out _).mono ?_); rintro e w5 ⟨rfl, hb5⟩; have HA5 := Lib.hid (HAT.out.later hb5); clear hb5)
                    go_roundw
                    case rel => exact ⟨j + 1, by omega, by omega, by go_num, _, by rw [HTK.out, if_neg (by decide), List.append_nil]; exact HA5.out⟩
                    case measure => simp [intOf]; omega
                  | true =>
                    have hno := HAT.out.2.1
                    obtain ⟨l', hl'⟩ : ∃ l', l' = (ws.take j).filter mayWord := ⟨_, rfl⟩
                    rw [← hl'] at hno HAT HTK
                    obtain ⟨nl, hnl⟩ : ∃ nl, nl = l'.length := ⟨_, rfl⟩
                    have hnl3 : nl ≤ 3 := by
                      rw [hnl, hl']
                      have := List.length_filter_le mayWord (ws.take j)
                      rw [List.length_take] at this
                      omega
                    obtain ⟨A4, c5, e4, -⟩ := owned_row (show wr.ownsRow (B + 1) 9 1 v l'.length (strs l') from hno)
                    rw [← hnl] at e4
                    subst e4
                    have HNL := Lib.hid hnl
                    clear hno hl' hnl
                    go_upto_region 26 with (go_at_call 32; (with_reducible refine (HT3.out _).mono ?_); rintro e w5 ⟨rfl, hb5⟩; have HB5 := Lib.hid hb5; clear hb5; clear a3)
                    have HA5 := Lib.hid (HAT.out.later HB5.out)
                    have hq4 : ∀ W, Below w5.heap.size w5 W → W.cell? ⟨B, 3, none⟩ = some (.slice A4 nl c5) := fun W hW => (five_cells (HA5.out.later hW).1).1.2.2.2.1
                    have q4 := hq4 w5 (Below.refl _ _)
                    have q4b : ∀ o, (w5.alloc o).cell? ⟨B, 3, none⟩ = some (.slice A4 nl c5) := fun o => hq4 _ ((Below.refl _ _).alloc (Nat.le_refl _) o)
                    obtain ⟨q50, q51⟩ := HQ5.out w5 HB5.out
                    have hBl5 : B < w5.heap.size := HA5.out.lt
                    have HO : Hid (w5.ownsRow (B + 1) 9 1 (.slice A4 nl c5) nl (strs l')) := Lib.hid (by rw [HNL.out]; have := HA5.out.2.1; rw [HNL.out] at this; exact this)
                    clear hq4
                    go_region_law (first
                      | (refine step_append_lies _ (by rfl) _ _ _ (by rfl) (B + 1) 9 j0 _ 1 16 Tryz.underlying24 hj0 hj1 hj2 hj3 rfl (by omega) (.slice A4 nl c5) nl (strs l') (by rfl) (HO.out.drew.alloc _)
                          ⟨w5.drew.heap.size, 0, none⟩ 1 1 [.string u] (by rfl) (by rfl) (World.news_of_block (cs := #[.string u]) (t := 9) (fr := (0, 0)) (heap_alloc_new w5.drew _)) (by intro u hu; simp at hu; subst hu; rfl)
                          (by omega) (by unfold maxLen; omega) (by omega) (by simp; omega) (w5.heap.size + 1) (by simp) ?_
                         intro gg cap w8 hown8 hgrow hat8 hlt8
                         rw [HU.out] at hown8
                         obtain ⟨⟨c8, f8⟩, hd8⟩ := HA5.out.push (v' := .slice (some ⟨gg, 0, none⟩) (nl + 1) cap) (W := (w5.alloc (.cells #[.string u] 9)).drew) (by rw [← HNL.out]; exact hown8) ((Below.refl _ w5).alloc (Nat.le_refl _) _).drew hgrow
                         have HD8 := Lib.hid hd8
                         clear hown8 hgrow hat8 hlt8 hd8))
                    all_goals
                      go_wp2
                      go_roundw
                      case rel => exact ⟨j + 1, by omega, by omega, by go_num, _, by rw [HTK.out, if_pos trivial]; exact HD8.out⟩
                      case measure => simp [intOf]; omega
                · have hlist : (ws.take j).filter mayWord = goodWs ws := by
                    unfold goodWs
                    by_cases h : j = 3
                    · rw [h]
                    · rw [List.take_of_length_le (by omega), List.take_of_length_le (by omega)]
                  rw [hlist] at hat
                  obtain ⟨nl, hnl⟩ : ∃ nl, nl = (goodWs ws).length := ⟨_, rfl⟩
                  have hgq : 0 < nl → Qy.mk 5 (goodFn t.1, []) (goodWs ws) [] = goodQ D (.mk k t ws ks) := fun h => by
                    rw [goodQ, HG.out, if_neg HNK.out, if_pos ⟨H5.out, by omega⟩]
                  have hAt := hat
                  obtain ⟨A4, c5, rfl, hqv⟩ := hat.done (C := w.heap.size + 1) (n := nl) (y0 := .int .i64 5) (y1 := .string fb) (y2 := .string ⟨#[]⟩) (y3 := v) (y4 := .slice none 0 0) (by have := hat.2.2.2; omega) hnl.symm HFB.out
                  obtain ⟨⟨b40, b41, b42, b43, b44⟩, -⟩ := five_cells hAt.1
                  obtain ⟨⟨s0, s1, s2, s3, s4⟩, g0, g1, g2, g3, g4⟩ := five_cells R1.out
                  have HAt := Lib.hid hAt
                  have HNL := Lib.hid hnl
                  have hsp : (j < ws.length ∧ ¬ j < 3) ∨ ¬ j < ws.length := by omega
                  by_cases hn0 : nl = 0
                  · have HFIN : Hid (NoPhr w2 (w.heap.size + 2) GK ws wr) := Lib.hid ⟨HAt.out.2.2.1, fun h => by have := HNL.out; omega⟩
                    subst hn0
                    clear hqv hat hAt hlist hgq hnl hlt
                    rcases hsp with ⟨h1, h2⟩ | h1
                    all_goals
                      go_wp2_with fail
                      go_meet
                      exact HFIN.out
                  · have hfin : GaveQ (goodQ D (.mk k t ws ks)) w (.returned (qV 5 fb ⟨#[]⟩ A4 nl c5 none 0 0)) (set5 wr (w.heap.size + 1) (.int .i64 5) (.string fb) (.string ⟨#[]⟩) (.slice A4 nl c5) (.slice none 0 0)) :=
                      ⟨_, rfl, by rw [← hgq (by omega)]; exact hqv.imp fun b hb => ⟨by omega, hb.2⟩, set5_below HB0.out (by omega)⟩
                    obtain ⟨⟨t0, t1, t2, t3, t4⟩, -⟩ := five_cells (set5_at (y0 := .int .i64 5) (y1 := .string fb) (y2 := .string ⟨#[]⟩) (y3 := .slice A4 nl c5) (y4 := .slice none 0 0) R1.out)
                    obtain ⟨we, hwe⟩ : ∃ we, we = set5 wr (w.heap.size + 1) (.int .i64 5) (.string fb) (.string ⟨#[]⟩) (.slice A4 nl c5) (.slice none 0 0) := ⟨_, rfl⟩
                    rw [← hwe] at hfin t0 t1 t2 t3 t4
                    have HFIN := Lib.hid hfin
                    have HWE := Lib.hid hwe
                    have T0 := Lib.hid t0
                    have T1 := Lib.hid t1
                    have T2 := Lib.hid t2
                    have T3 := Lib.hid t3
                    have T4 := Lib.hid t4
                    have hn1 : 0 < nl := by omega
                    clear hfin hqv hwe hat hAt hlist hgq t0 t1 t2 t3 t4 hlt hnl hn0
                    rcases hsp with ⟨h1, h2⟩ | h1
                    all_goals
                      go_wp2
                      rw [show (((((wr.setCell _ _).setCell _ _).setCell _ _).setCell _ _).setCell _ _) = we from HWE.out.symm]
                      exact bodyPost_ret (v := qV 5 fb ⟨#[]⟩ A4 nl c5 none 0 0) (by simp [results, Tryz.results13, go_sem, T0.out, T1.out, T2.out, T3.out, T4.out]) rfl HFIN.out
            · have HFIN : Hid (NoPhr w2 (w.heap.size + 2) GK ws w3) := Lib.hid ⟨HB3.out, fun h => h5 h.1⟩
              have e5 : (GK == 5) = false := by rw [beq_eq_false_iff_ne]; exact h5
              clear h5
              go_wp2_with fail
              go_meet
              exact HFIN.out
          case rest =>
            obtain ⟨hbc, hnp⟩ := hcut
            clear a0 a1 a2 a3 a4 r0 r1 r2 r3 r4 f0 f1 f2 f3 f4
            obtain ⟨hb0, ⟨a0, a1, a2, a3, a4⟩, r0⟩ := HB.out _ hbc
            have HNP := Lib.hid hnp
            have HBC := Lib.hid hbc
            have HT3 : Hid (∀ w', Calls Tryz.prog 32 #[.string x] w' fun e w'' => e = .returned (.bool (mayWord t.2)) ∧ Below w'.heap.size w' w'') := Lib.hid fun w' => by rw [← HX.out]; exact ref_May x w' (by omega)
            obtain ⟨mw, hmw⟩ : ∃ mw, mw = mayWord t.2 := ⟨_, rfl⟩
            rw [← hmw] at HT3
            obtain ⟨xb, hxb1, hxb2, hxb⟩ : ∃ xb : ByteArray, (mw = true → x = xb) ∧ (mw = false → xb = ⟨#[97]⟩) ∧ xb.data.toList = goodWd t.2 := by
              unfold goodWd
              rw [← hmw]
              cases mw with
              | true => exact ⟨x, fun _ => rfl, (fun h => by cases h), by rw [if_pos rfl, HX.out]⟩
              | false => exact ⟨⟨#[97]⟩, (fun h => by cases h), fun _ => rfl, rfl⟩
            have X1 := Lib.hid hxb1
            have X2 := Lib.hid hxb2
            have X3 := Lib.hid hxb
            clear hnp hbc hb0 r0 hmw hxb1 hxb2 hxb
            go_upto_if 123 with (go_at_call 32; (with_reducible refine (HT3.out _).mono ?_); rintro e w5 ⟨rfl, hb5⟩; have HB5 : Hid (Below (w.heap.size + 2) w2 w5) := Lib.hid (HBC.out.trans (hb5.mono (by have := HBC.out.size; have := HS2.out; omega))); clear hb5)
            go_cut [14] from 122 to 123 (fun s wx => s = .string xb ∧ w5 = wx)
            case first =>
              cases mw with
              | true =>
                have e := X1.out rfl
                subst e
                go_wp2_with fail
                go_meet
                exact ⟨rfl, rfl⟩
              | false =>
                have e := X2.out rfl
                subst e
                go_wp2_with fail
                go_meet
                exact ⟨rfl, rfl⟩
            case rest =>
              obtain ⟨rfl, rfl⟩ := hcut
              obtain ⟨hb0, -, r0⟩ := HB.out _ HB5.out
              have hgq : Qy.mk 1 (goodFn t.1, goodWd t.2) [] [] = goodQ D (.mk k t ws ks) := by
                rw [goodQ, HG.out, if_neg HNK.out, if_neg HNP.out]
              obtain ⟨⟨s0, s1, s2, s3, s4⟩, g0, g1, g2, g3, g4⟩ := five_cells r0
              have hfin : GaveQ (goodQ D (.mk k t ws ks)) w (.returned (qV 1 fb xb none 0 0 none 0 0)) (set5 w5 (w.heap.size + 1) (.int .i64 1) (.string fb) (.string xb) (.slice none 0 0) (.slice none 0 0)) :=
                ⟨_, rfl, by rw [← hgq]; exact QV.mk (ds := []) rfl rfl HFB.out X3.out (Nat.le_refl _) (Nat.le_refl _) (.inl rfl) (.inl rfl) QsAt.nil, set5_below hb0 (by omega)⟩
              obtain ⟨⟨t0, t1, t2, t3, t4⟩, -⟩ := five_cells (set5_at (y0 := .int .i64 1) (y1 := .string fb) (y2 := .string xb) (y3 := .slice none 0 0) (y4 := .slice none 0 0) r0)
              obtain ⟨we, hwe⟩ : ∃ we, we = set5 w5 (w.heap.size + 1) (.int .i64 1) (.string fb) (.string xb) (.slice none 0 0) (.slice none 0 0) := ⟨_, rfl⟩
              rw [← hwe] at hfin t0 t1 t2 t3 t4
              have HFIN := Lib.hid hfin
              have HWE := Lib.hid hwe
              have T0 := Lib.hid t0
              have T1 := Lib.hid t1
              have T2 := Lib.hid t2
              have T3 := Lib.hid t3
              have T4 := Lib.hid t4
              clear hfin hwe hgq t0 t1 t2 t3 t4 hb0 r0
              go_wp2
              rw [show (((((w5.setCell _ _).setCell _ _).setCell _ _).setCell _ _).setCell _ _) = we from HWE.out.symm]
              exact bodyPost_ret (v := qV 1 fb xb none 0 0 none 0 0) (by simp [results, Tryz.results13, go_sem, T0.out, T1.out, T2.out, T3.out, T4.out]) rfl HFIN.out
end Go.Proofs.YtolfkhflbjnakaaGreatDoor

/- What the document's Good answers: a query that may be, made of any, in memory of its own. -/
namespace Go.Proofs.YtolfkhflbjnakaaGreatDoor
open Go Go.RowKit
set_option linter.unusedVariables false

theorem ref12_Good (m : Nat) : ∀ (q : Qy) (D : Nat) (v : Value) (w : World), 4 ≤ D + m → D ≤ 100 → RawQ 100000000 q → QIn w q v → Calls Tryz.prog 13 #[v, .int .i64 (D : Int)] w (GaveQ (goodQ D q) w) := by
  induction m with
  | zero =>
    intro q D v w hm hD hraw hq
    obtain ⟨k, t, ws, ks, f, x, A, c, K, d, ds, rfl, rfl, hf, hx, hc, hdd, hA, hK, hks⟩ := hq.open_
    exact good_step D k t ws ks f x A c K d ds w hD hraw hf hx hA hK hks fun h => by omega
  | succ m ih =>
    intro q D v w hm hD hraw hq
    obtain ⟨k, t, ws, ks, f, x, A, c, K, d, ds, rfl, rfl, hf, hx, hc, hdd, hA, hK, hks⟩ := hq.open_
    refine good_step D k t ws ks f x A c K d ds w hD hraw hf hx hA hK hks fun h q hq v w' hb hv => ?_
    have h1 := hraw
    rw [RawQ] at h1
    have := ih q (D + 1) v w' (by omega) (by omega) (rawL_mem h1.2.2.2 hq) hv
    rwa [show ((D + 1 : Nat) : Int) = (D : Int) + 1 by omega] at this
theorem GaveQ.in_ {q : Qy} {w w' : World} {v : Value} (h : QV (fun b => w.heap.size ≤ b ∧ b < w'.heap.size) w' q v) : QIn w' q v := h.imp fun b hb => hb.2
end Go.Proofs.YtolfkhflbjnakaaGreatDoor
