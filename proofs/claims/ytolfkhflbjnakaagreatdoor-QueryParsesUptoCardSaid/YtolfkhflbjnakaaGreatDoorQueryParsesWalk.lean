/- QueryParses' walk: a text's query, if there is one, may be, and has that text. -/
import Derived.Test.YtolfkhflbjnakaaGreatDoorNAQ21
import Derived.Test.YtolfkhflbjnakaaGreatDoorNAQ16
import Derived.Test.YtolfkhflbjnakaaGreatDoorNAQ17
import Derived.Test.YtolfkhflbjnakaaGreatDoorNAQ12
import Derived.Test.YtolfkhflbjnakaaGreatDoorNAQ20
import Derived.Laws.IdiomStrings
import Derived.OpenShut
import Derived.Deep.RegionHeld3
set_option linter.unusedVariables false
namespace Go.Proofs.YtolfkhflbjnakaaGreatDoor
open Go Go.RowKit

theorem text_pos (q : Qy) : 0 < (textQ q).length := by
  obtain ⟨k, t, ws, ks⟩ := q
  rw [textQ]
  split
  · simp; omega
  · split <;> simp <;> omega
theorem brow_at {T : ByteArray} {cap j : Nat} (hj : j < T.data.toList.length) : (bytesRow T cap)[j]? = some (.int .u8 ((T.data.toList[j]).toNat : Int)) := by
  have h1 : j < (T.data.map (fun b => Value.int .u8 b.toNat)).size := by rw [Array.size_map]; exact hj
  unfold bytesRow
  rw [Array.getElem?_append_left h1, Array.getElem?_map, ← Array.getElem?_toList, List.getElem?_eq_getElem hj]
  rfl
theorem set_fr {w : World} {b k : Nat} {cs : Array Value} {t : TypeId} {v : Value} {fr : Nat × Nat} (h : w.heap[b]? = some (.cells cs t fr)) : (w.setCell ⟨b, k, none⟩ v).heap[b]? = some (.cells (cs.setIfInBounds k v) t fr) := by
  have hlt := lt_of_block h
  have h' : w.heap[b] = .cells cs t fr := by simpa [Array.getElem?_eq_getElem hlt] using h
  show (w.heap.modify b _)[b]? = _
  rw [Array.getElem?_eq_getElem (by simpa using hlt), Array.getElem_modify_self, h']
  rfl
/-- Bytes in a block of their own. -/
def ByAt (w : World) (B : Nat) (l : List UInt8) : Prop := ∃ C : Array Value, w.heap[B]? = some (.cells C 5 (C.size, C.size + 1)) ∧ l.length ≤ C.size ∧ ∀ j (hj : j < l.length), C[j]? = some (.int .u8 (l[j].toNat : Int))
theorem ByAt.cell {w : World} {B : Nat} {l : List UInt8} (h : ByAt w B l) {j : Nat} (hj : j < l.length) : w.cell? ⟨B, j, none⟩ = some (.int .u8 (l[j].toNat : Int)) ∧ w.frozen? ⟨B, j, none⟩ = false := by
  obtain ⟨C, h1, h2, h3⟩ := h
  have hjC : j < C.size := by omega
  refine ⟨by simp only [World.cell?, h1]; exact h3 j hj, ?_⟩
  simp only [World.frozen?, h1]
  simp
  omega
theorem ByAt.put {w : World} {B : Nat} {l : List UInt8} (h : ByAt w B l) (k : Nat) (b : UInt8) : ByAt (w.setCell ⟨B, k, none⟩ (.int .u8 (b.toNat : Int))) B (l.set k b) := by
  obtain ⟨C, h1, h2, h3⟩ := h
  refine ⟨C.setIfInBounds k (.int .u8 (b.toNat : Int)), ?_, by simpa using h2, fun j hj => ?_⟩
  · rw [set_fr h1]; simp
  · rw [Array.getElem?_setIfInBounds]
    rw [List.length_set] at hj
    by_cases e : k = j
    · subst e
      rw [if_pos rfl, if_pos (by omega)]
      simp
    · rw [if_neg e, h3 j hj]
      simp [e]
theorem byte_of {z : Int} (h : (Lit.int .u8 z).wf = true) : ∃ b : UInt8, z = (b.toNat : Int) := by
  have e1 : IntKind.u8.min = 0 := rfl
  have e2 : IntKind.u8.max = 255 := rfl
  simp [Lit.wf] at h
  rw [e1, e2] at h
  refine ⟨UInt8.ofNat z.toNat, ?_⟩
  have h3 : z.toNat < 256 := by omega
  have h4 : (UInt8.ofNat z.toNat).toNat = z.toNat := by rw [UInt8.toNat_ofNat']; exact Nat.mod_eq_of_lt (by simpa using h3)
  rw [h4]
  omega
theorem ByAt.str {w : World} {B cap n : Nat} {l : List UInt8} (h : ByAt w B l) (hn : l.length = n) : (convert 40 9 (.slice (some ⟨B, 0, none⟩) n cap)).run Tryz.prog w = .ok (.string ⟨l.toArray⟩) w := by
  subst hn
  exact run_convert_bytes_back w _ _ _ ⟨B, 0, none⟩ cap l Tryz.underlying40 Tryz.underlying5 Tryz.underlying9 fun j hj => by
    rw [Addr.add_lit, Nat.zero_add]
    exact (h.cell hj).1
def ParsesRel (w8 : World) (i u : Value) (wr : World) : Prop := ∃ j : Nat, j ≤ 2 ∧ i = .int .i64 (j : Int) ∧ Below w8.heap.size w8 wr

set_option maxHeartbeats 8000000 in
set_option maxRecDepth 100000 in
theorem walk_QueryParses (w : World) (hg : Glob w) (s : ByteArray) (hs : s.size ≤ 100000000) (q : Qy) (v : Value) (hq : QIn w q v) (hraw : RawQ 100000000 q) (at_ : Int) (hat : -9223372036854775808 ≤ at_ ∧ at_ ≤ 9223372036854775807) (by_ : Int) (hby : -9223372036854775808 ≤ by_ ∧ by_ ≤ 9223372036854775807) :
    Calls Tryz.prog 5 #[.string s, v, .int .i64 at_, .int .i64 by_] w fun e w' => e = .returned (.bool true) ∧ Below w.heap.size w w' := by
  have HGQ : Hid (∀ w1, Below w.heap.size w w1 → Calls Tryz.prog 13 #[v, .int .i64 1] w1 (GaveQ (goodQ 1 q) w1)) := Lib.hid fun w1 hb => ref12_Good 3 q 1 v w1 (by omega) (by omega) hraw (hq.later hb)
  obtain ⟨hm, hdp⟩ := good_may 3 (d := 1) (q := q) (by omega) (by omega)
  obtain ⟨g, hgq⟩ : ∃ g, g = goodQ 1 q := ⟨_, rfl⟩
  rw [← hgq] at hm hdp HGQ
  obtain ⟨T, hT⟩ : ∃ T : ByteArray, T = ⟨(textQ g).toArray⟩ := ⟨_, rfl⟩
  have hTl : T.data.toList = textQ g := by rw [hT]
  have hTs : T.data.toList.length = T.size := Array.length_toList
  have hTz : T.size ≤ 2500000 := by rw [← hTs, hTl]; exact textQ_length 4 hdp hm
  have hTp : 0 < T.size := by rw [← hTs, hTl]; exact text_pos g
  have HTX : Hid (∀ (v : Value) (w2 : World), QIn w2 g v → Calls Tryz.prog 20 #[v] w2 fun e w' => e = .returned (.string T) ∧ Below w2.heap.size w2 w') := Lib.hid fun v w2 hv => by rw [hT]; exact ref12_Text 7 g v w2 (by omega) ⟨1, Nat.le_refl _, hm⟩ hv
  have HL : Hid (∀ w2, Below w.heap.size w w2 → Calls Tryz.prog 18 #[] w2 fun e w' => e = .returned (.bool true) ∧ Below w2.heap.size w2 w') := Lib.hid fun w2 hb => law12_lives w2 (hg.below hb hg.size)
  have HPA : Hid (∀ (x : ByteArray) (w2 : World), x.size ≤ 100000000 → Below w.heap.size w w2 → Calls Tryz.prog 21 #[.string x] w2 (GaveP (parseQ x.data.toList) w2)) := Lib.hid fun x w2 hx hb => query_Parse x.data.toList w2 (hg.below hb hg.size) (by rw [show x.data.toList.length = x.size from Array.length_toList]; exact hx)
  obtain ⟨nn, hn1, hn2, hn0, hn9⟩ : ∃ nn : Int, (at_ < 0 → -(at_ + 1) = nn) ∧ (0 ≤ at_ → at_ = nn) ∧ 0 ≤ nn ∧ nn ≤ 9223372036854775807 := by
    by_cases h : at_ < 0
    · exact ⟨-(at_ + 1), fun _ => rfl, fun h' => by omega, by omega, by omega⟩
    · exact ⟨at_, fun h' => absurd h' h, fun _ => rfl, by omega, by omega⟩
  obtain ⟨N, hN⟩ : ∃ N : Nat, nn = (N : Int) := ⟨nn.toNat, by omega⟩
  obtain ⟨ms, hms⟩ : ∃ ms : Nat, ms = min s.size 150 := ⟨_, rfl⟩
  have hns : ∀ (w : World) (ts : Array TypeId) (ty : TypeId), (Builtin.min_ ts ty #[.int .i64 s.size, .int .i64 150]).run Tryz.prog w = .ok (.int .i64 (ms : Int)) w := fun w ts ty => by rw [run_min_int2, hms]; congr 2; split <;> omega
  obtain ⟨S, hS⟩ : ∃ S, S = fewB s 150 := ⟨_, rfl⟩
  have hes : s.extract 0 ms = S := by rw [hS]; exact ext_cut s 150 ms hms
  have hms1 : ms ≤ s.size := by omega
  have hSz : S.size ≤ 150 := by
    rw [← show S.data.toList.length = S.size from Array.length_toList, hS, fewB]
    simp only [List.length_take]
    omega
  obtain ⟨k, t, ws, ks, f, x, A, c, K, m, ds, he, rfl, -⟩ := hq.open_
  obtain ⟨w1, hw1⟩ : ∃ w1, w1 = boxQ w k f x A ws.length c K ks.length m := ⟨_, rfl⟩
  have HB1 : Hid (Below w.heap.size w w1) := Lib.hid (by rw [hw1]; exact boxQ_below)
  obtain ⟨-, a0, a1, a2, a3, a4⟩ := boxQ_of (w := w) (k := k) (f := f) (x := x) (A := A) (n := ws.length) (c := c) (K := K) (m := ks.length) (d := m) (wr := w1) (by rw [hw1]; exact Below.refl _ _)
  have HW1 := Lib.hid hw1
  have HN1 := Lib.hid hn1
  have HN2 := Lib.hid hn2
  have hcb : ∀ w : World, (convert 9 40 (.string T)).run Tryz.prog w = .ok (.slice (some ⟨w.heap.size, 0, none⟩) T.size (grownCap w T.size 0 5)) (w.drew.alloc (.cells (bytesRow T (grownCap w T.size 0 5)) 5 ((bytesRow T (grownCap w T.size 0 5)).size, (bytesRow T (grownCap w T.size 0 5)).size + 1))) :=
    fun w => run_bytes_of_string w _ _ _ T Tryz.underlying9 Tryz.underlying40 Tryz.underlying5
  clear hms hS hn1 hn2 hT hTl hTs hgq hm hdp he hq hraw hg hw1
  go_enter Tryz.func5, Tryz.ntmps5
  go_upto_region 1 with fail
  rw [show w.alloc _ = w1 from HW1.out.symm]
  go_upto_region 2 with fail
  clear hns hes hms1
  go_upto_region 3 with (first
    | (go_at_call 13; (with_reducible refine (HGQ.out _ HB1.out).mono ?_); rintro e w2 ⟨v2, rfl, hq2, hb2⟩; have HQ2 : Hid (QIn w2 g v2) := Lib.hid (hq2.imp fun b hb => hb.2); have HB2 := Lib.hid (HB1.out.trans (hb2.mono HB1.out.size)); clear hq2 hb2 a0 a1 a2 a3 a4)
    | (go_at_call 20; (with_reducible refine (HTX.out _ _ HQ2.out).mono ?_); rintro e w3 ⟨rfl, hb3⟩; have HB3 := Lib.hid (HB2.out.trans (hb3.mono HB2.out.size)); clear hb3))
  obtain ⟨cap, hcap⟩ : ∃ cap, cap = grownCap w3 T.size 0 5 := ⟨_, rfl⟩
  rw [← hcap]
  obtain ⟨w4, hw4⟩ : ∃ w4, w4 = (w3.alloc (.cells (bytesRow T cap) 5 ((bytesRow T cap).size, (bytesRow T cap).size + 1))).drew := ⟨_, rfl⟩
  rw [← hw4]
  have HB4 : Hid (Below w.heap.size w w4) := Lib.hid (by rw [hw4]; exact (HB3.out.alloc HB3.out.size _).drew)
  obtain ⟨Bb, hBb⟩ : ∃ Bb, Bb = w3.heap.size := ⟨_, rfl⟩
  rw [← hBb]
  obtain ⟨l, hl⟩ : ∃ l, l = T.data.toList := ⟨_, rfl⟩
  have hll : l.length = T.size := by rw [hl]; exact Array.length_toList
  have hby : ByAt w4 Bb l := ⟨bytesRow T cap, by rw [hw4, hBb]; exact heap_alloc_new _ _, by rw [hll]; unfold bytesRow; rw [Array.size_append, Array.size_map]; exact Nat.le_add_right _ _, fun j hj => by
    subst hl
    exact brow_at hj⟩
  have HBY := Lib.hid hby
  have hge : w.heap.size ≤ Bb := by rw [hBb]; exact HB3.out.size
  have hlt4 : Bb < w4.heap.size := by
    obtain ⟨C, h, -⟩ := hby
    exact (Array.getElem?_eq_some_iff.1 h).1
  obtain ⟨L, hL⟩ : ∃ L, L = T.size := ⟨_, rfl⟩
  rw [← hL] at hll hTz hTp ⊢
  have HLL := Lib.hid hll
  clear hcap hw4 hBb hl hll hby hcb hL
  go_upto_if 25 with fail
  go_cut [2] from 24 to 28 (fun s wx => s = .int .i64 (N : Int) ∧ w4 = wx)
  case first =>
    subst hN
    by_cases h0 : at_ < 0
    · have e := HN1.out h0
      go_wp2_with fail
      go_meet
      exact ⟨rfl, rfl⟩
    · have e := HN2.out (by omega)
      go_wp2_with fail
      go_meet
      exact ⟨rfl, rfl⟩
  case rest =>
    obtain ⟨rfl, rfl⟩ := hcut
    obtain ⟨KK, hKK⟩ : ∃ KK, KK = N % L := ⟨_, rfl⟩
    have hkI : (N : Int) % (L : Int) = (KK : Int) := by rw [hKK]; rfl
    have hkL : KK < L := by rw [hKK]; exact Nat.mod_lt _ hTp
    obtain ⟨bb, hbb⟩ : ∃ bb, bb = (l[KK]'(by rw [HLL.out]; exact hkL)) := ⟨_, rfl⟩
    obtain ⟨bc, bf⟩ := HBY.out.cell (j := KK) (by rw [HLL.out]; exact hkL)
    rw [← hbb] at bc
    have hL0 : (0 : Int) < (L : Int) := by omega
    have hk0 : (0 : Int) ≤ (KK : Int) := by omega
    have hkL' : (KK : Int) < (L : Int) := by omega
    clear hKK hbb
    go_upto_region 8 with fail
    obtain ⟨b9, hb9⟩ := byte_of (wf_bits .xor .u8 (bb.toNat : Int) (by_ % 256))
    rw [hb9]
    obtain ⟨w5, hw5⟩ : ∃ w5, w5 = w4.setCell ⟨Bb, KK, none⟩ (.int .u8 (b9.toNat : Int)) := ⟨_, rfl⟩
    rw [← hw5]
    obtain ⟨l9, hl9⟩ : ∃ l9, l9 = l.set KK b9 := ⟨_, rfl⟩
    have HBY5 : Hid (ByAt w5 Bb l9) := Lib.hid (by rw [hw5, hl9]; exact HBY.out.put KK b9)
    have HB5 : Hid (Below w.heap.size w w5) := Lib.hid (by rw [hw5]; exact HB4.out.setCell hge _)
    have hl9l : l9.length = L := by rw [hl9, List.length_set, HLL.out]
    have hstr := HBY5.out.str (cap := cap) hl9l
    obtain ⟨U, hU⟩ : ∃ U : ByteArray, U = ⟨l9.toArray⟩ := ⟨_, rfl⟩
    rw [← hU] at hstr
    have hUz : U.size ≤ 100000000 := by
      rw [← show U.data.toList.length = U.size from Array.length_toList, hU]
      show l9.length ≤ _
      omega
    clear hw5 hl9 hb9 hU hl9l bc bf hkI hkL hL0 hk0 hkL' HBY hlt4
    go_upto_region 9 with fail
    obtain ⟨w6, hw6⟩ : ∃ w6, w6 = w5.alloc (.cells #[.string S, .string U] 9) := ⟨_, rfl⟩
    rw [show w5.alloc _ = w6 from hw6.symm]
    have HB6 : Hid (Below w.heap.size w w6) := Lib.hid (by rw [hw6]; exact HB5.out.alloc HB5.out.size _)
    have h6 : w6.heap[w5.heap.size]? = some (.cells #[.string S, .string U] 9 (0, 0)) := by rw [hw6]; exact heap_alloc_new _ _
    obtain ⟨Ba, hBa⟩ : ∃ Ba, Ba = w5.heap.size := ⟨_, rfl⟩
    rw [← hBa] at h6 ⊢
    have HS6 : Hid (∀ wr, Below w6.heap.size w6 wr → ∀ j : Nat, j < 2 → ∃ X : ByteArray, X.size ≤ 100000000 ∧ ∀ w', Below wr.heap.size wr w' → w'.cell? ⟨Ba, j, none⟩ = some (.string X)) := Lib.hid fun wr h j hj => by
      have e : ∀ w', Below wr.heap.size wr w' → w'.heap[Ba]? = some (.cells #[.string S, .string U] 9 (0, 0)) := fun w' h' => ((h.trans (h'.mono h.size)).block _ (Array.getElem?_eq_some_iff.1 h6).1).trans h6
      match j, hj with
      | 0, _ => exact ⟨S, by omega, fun w' h' => (two_cells12 (e w' h')).1.1⟩
      | 1, _ => exact ⟨U, hUz, fun w' h' => (two_cells12 (e w' h')).1.2⟩
    clear hw6 h6 hBa hstr hUz hSz hTz
    go_wp2_with fail
    go_loopw [12, 14] (fun i u wr => ParsesRel w6 i u wr) (fun i _ _ => 2 - (intOf i).toNat)
    case atStart => exact ⟨0, by omega, rfl, Below.refl _ _⟩
    case round =>
      obtain ⟨j, hj, rfl, hbw⟩ := hrel
      have HBW := Lib.hid hbw
      have HBX := Lib.hid (HB6.out.trans (hbw.mono HB6.out.size))
      by_cases hlt : j < 2
      · obtain ⟨X, hX, hXc⟩ := HS6.out wr hbw j hlt
        have HXC := Lib.hid hXc
        have c0 := hXc wr (Below.refl _ _)
        have HP := Lib.hid (HPA.out X wr hX HBX.out)
        obtain ⟨P, hP⟩ : ∃ P, P = parseQ X.data.toList := ⟨_, rfl⟩
        rw [← hP] at HP
        have HPP := Lib.hid hP
        have i0 : (0 : Int) ≤ j := by omega
        have i3 : (j : Int) < 2 := by omega
        clear hXc hbw hP hlt
        cases P with
        | none =>
          have HSM : Hid (∀ w2 : World, Calls Tryz.prog 22 #[qV 0 ⟨#[]⟩ ⟨#[]⟩ none 0 0 none 0 0, qV 0 ⟨#[]⟩ ⟨#[]⟩ none 0 0 none 0 0] w2 fun e w' => e = .returned (.bool true) ∧ Below w2.heap.size w2 w') := Lib.hid fun w2 => by
            have hz : QIn w2 (.mk 0 ([], []) [] []) (qV 0 ⟨#[]⟩ ⟨#[]⟩ none 0 0 none 0 0) := QV.mk (ds := []) rfl rfl rfl rfl (Nat.le_refl _) (Nat.le_refl _) (.inl rfl) (.inl rfl) QsAt.nil
            have hfz : FineQ (.mk 0 ([], []) [] []) := by
              rw [FineQ]
              exact ⟨⟨by simp, by simp⟩, ⟨by simp, by simp⟩, by simp, by rw [FineL]; trivial⟩
            have := ref12_Same 1 (.mk 0 ([], []) [] []) (.mk 0 ([], []) [] []) _ _ w2 (by rw [deepQ, deepL]; omega) hfz hfz hz hz
            rwa [same_self] at this
          have HP2 : Hid (Calls Tryz.prog 21 #[.string X] wr fun e w' => e = .returned (.tuple #[qV 0 ⟨#[]⟩ ⟨#[]⟩ none 0 0 none 0 0, .int .i64 2]) ∧ Below wr.heap.size wr w') := Lib.hid (HP.out.mono fun e w' h => ⟨h.2, h.1⟩)
          clear HP
          go_wp2_with (first
            | (go_at_call 21; (with_reducible refine HP2.out.mono ?_); rintro e w7 ⟨rfl, hb7⟩; have HB7 := Lib.hid (HBW.out.trans (hb7.mono HBW.out.size)); clear hb7)
            | (go_at_call 22; (with_reducible refine (HSM.out _).mono ?_); rintro e w8 ⟨rfl, hb8⟩; have HB8 : Hid (Below w6.heap.size w6 w8) := Lib.hid ((HB7.out.alloc HB7.out.size _).trans (hb8.mono (by have := HB7.out.size; simp; omega))); clear hb8))
          go_roundw
          case rel => exact ⟨j + 1, by omega, by go_num, HB8.out⟩
          case measure => simp [intOf]; omega
        | some q9 =>
          obtain ⟨htx, hm9⟩ := parse_text HPP.out.symm
          have hd9 := mayQ_deep hm9
          have hTX : X = ⟨(textQ q9).toArray⟩ := by rw [← htx]
          have HMY : Hid (∀ (v : Value) (w2 : World), QIn w2 q9 v → Calls Tryz.prog 15 #[v] w2 fun e w' => e = .returned (.int .i64 0) ∧ Below w2.heap.size w2 w') := Lib.hid fun v w2 hv => by
            have := ref12_May q9 v w2 (by omega) hv (may_fine 7 (by omega) hm9)
            rwa [hm9] at this
          have HTT : Hid (∀ (v : Value) (w2 : World), QIn w2 q9 v → Calls Tryz.prog 20 #[v] w2 fun e w' => e = .returned (.string X) ∧ Below w2.heap.size w2 w') := Lib.hid fun v w2 hv => by
            rw [hTX]; exact ref12_Text 7 q9 v w2 (by omega) ⟨1, Nat.le_refl _, hm9⟩ hv
          have HP2 : Hid (Calls Tryz.prog 21 #[.string X] wr fun e w' => ∃ k f x A n c K m d, e = .returned (.tuple #[qV k f x A n c K m d, .int .i64 0]) ∧ QIn w' q9 (qV k f x A n c K m d) ∧ Below wr.heap.size wr w') := Lib.hid (HP.out.mono fun e w' h => by
            obtain ⟨hb, v, he, k, f, x, A, n, c, K, m, d, rfl, hq⟩ := h
            exact ⟨k, f, x, A, n, c, K, m, d, he, ⟨_, _, _, _, _, _, _, _, _, rfl, hq.imp fun b hb => hb.2⟩, hb⟩)
          clear HP htx hm9 hd9 hTX
          go_upto_region 16 with (go_at_call 21; (with_reducible refine HP2.out.mono ?_); rintro e w7 ⟨k7, f7, x7, A7, n7, c7, K7, m7, d7, rfl, hq7, hb7⟩; have HB7 := Lib.hid hb7; have HQ7 := Lib.hid hq7; clear hb7 hq7)
          obtain ⟨w8, hw8⟩ : ∃ w8, w8 = boxQ w7 k7 f7 x7 A7 n7 c7 K7 m7 d7 := ⟨_, rfl⟩
          rw [show w7.alloc _ = w8 from hw8.symm]
          obtain ⟨Bp, hBp⟩ : ∃ Bp, Bp = w7.heap.size := ⟨_, rfl⟩
          rw [← hBp]
          have hv8 : VQ w8 Bp q9 k7 f7 x7 A7 n7 c7 K7 m7 d7 := by rw [hw8, hBp]; exact VQ.made HQ7.out
          have hb8 : Below wr.heap.size wr w8 := by rw [hw8]; exact HB7.out.trans (boxQ_below.mono HB7.out.size)
          have HV : Hid (VQ w8.drew Bp q9 k7 f7 x7 A7 n7 c7 K7 m7 d7) := Lib.hid (hv8.later (Below.refl _ _).drew)
          have HX : Hid (Below wr.heap.size wr w8.drew) := Lib.hid (hb8.trans ((Below.refl _ w8).drew.mono hb8.size))
          clear hw8 hBp hv8 hb8 HQ7 HB7
          go_region_held3 (fun w' => (w'.cell? ⟨Bp, 0, none⟩ = some (.int .i64 k7) ∧ w'.cell? ⟨Bp, 1, none⟩ = some (.string f7) ∧ w'.cell? ⟨Bp, 2, none⟩ = some (.string x7) ∧ w'.cell? ⟨Bp, 3, none⟩ = some (.slice A7 n7 c7) ∧ w'.cell? ⟨Bp, 4, none⟩ = some (.slice K7 m7 d7)) ∧ w'.cell? ⟨Ba, j, none⟩ = some (.string X))
            (exact ⟨HV.out.cells, HXC.out _ HX.out⟩)
            (first
              | (go_at_call 15; (with_reducible refine (HMY.out _ _ HV.out.in_).mono ?_); rintro e wn ⟨rfl, hbn⟩; have HV := Lib.hid (HV.out.later hbn); have HX := Lib.hid (HX.out.trans (hbn.mono HX.out.size)); clear hbn)
              | (go_at_call 20; (with_reducible refine (HTT.out _ _ HV.out.in_).mono ?_); rintro e wn ⟨rfl, hbn⟩; have HV := Lib.hid (HV.out.later hbn); have HX := Lib.hid (HX.out.trans (hbn.mono HX.out.size)); clear hbn))
          all_goals
            go_wp2_with fail
            go_roundw
            case rel => exact ⟨j + 1, by omega, by go_num, HBW.out.trans (HX.out.mono HBW.out.size)⟩
            case measure => simp [intOf]; omega
      · obtain rfl : j = 2 := by omega
        clear hbw
        go_wp2_with (go_at_call 18; (with_reducible refine (HL.out _ HBX.out).mono ?_); rintro e w7 ⟨rfl, hb7⟩; have HB7 := Lib.hid (HBX.out.trans (hb7.mono HBX.out.size)); clear hb7)
        go_ret
        exact ⟨rfl, HB7.out⟩
end Go.Proofs.YtolfkhflbjnakaaGreatDoor
