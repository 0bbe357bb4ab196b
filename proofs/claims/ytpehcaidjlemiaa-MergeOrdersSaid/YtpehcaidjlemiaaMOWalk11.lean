/- MergeOrders, walked out of what Order and Places give. -/
import Derived.Test.YtpehcaidjlemiaaOrdOk11
import Derived.Test.YtpehcaidjlemiaaTwo11
import Derived.Test.YtpehcaidjlemiaaGoodV11
import Derived.Test.YtpehcaidjlemiaaRefOrder11
import Derived.Test.YtpehcaidjlemiaaRefPlace11
import Derived.Test.YtpehcaidjlemiaaNat
import Derived.Maps.AppendAt
import Derived.Deep.RegionHeld3
import Derived.Deep.AppendLies
set_option linter.unusedVariables false
namespace Go.Proofs.Ytpehcaidjlemiaa
open Go Go.RowKit

def ownL (l : List (List Int)) (k : Nat) : List (List Int) := (l.take k).map fun s => s.take 10
def goodL (l : List (List Int)) (k : Nat) : List (List Int) := (l.take k).map fun s => goodZ (-1) (s.take 10)
theorem ownL_succ {l : List (List Int)} {k : Nat} (hk : k < l.length) : ownL l (k + 1) = ownL l k ++ [l[k].take 10] := by rw [ownL, List.take_succ_eq_append_getElem hk, List.map_append]; rfl
theorem goodL_succ {l : List (List Int)} {k : Nat} (hk : k < l.length) : goodL l (k + 1) = goodL l k ++ [goodZ (-1) (l[k].take 10)] := by rw [goodL, List.take_succ_eq_append_getElem hk, List.map_append]; rfl
theorem ownL_length {l : List (List Int)} {k : Nat} (hk : k ≤ l.length) : (ownL l k).length = k := by simp [ownL, List.length_take]; omega
theorem goodL_length {l : List (List Int)} {k : Nat} (hk : k ≤ l.length) : (goodL l k).length = k := by simp [goodL, List.length_take]; omega
theorem goodZ_len : ∀ (l : List Int) (x : Int), (goodZ x l).length = l.length
  | [], x => rfl
  | y :: l, x => by simp [goodZ, goodZ_len l]
def MO1 (l : List (List Int)) (w : World) (v5 v6 i : Value) (wr : World) : Prop :=
  ∃ k : Nat, k ≤ l.length ∧ k ≤ 5 ∧ i = .int .i64 (k : Int) ∧ TwoL w.heap.size (ownL l k) (goodL l k) v5 v6 wr ∧ Below w.heap.size w wr

theorem wrap64_in {n : Int} (h : 0 ≤ n ∧ n ≤ 1000) : wrap64 n = n := by unfold wrap64; omega
def MO2 (W0 : World) (r q : Value) (wr : World) : Prop := r = .bool false ∧ ∃ k : Nat, k ≤ 2 ∧ q = .int .i64 (k : Int) ∧ Below W0.heap.size W0 wr
def MO3 (N : Nat) (W4 : World) (r j : Value) (wr : World) : Prop := r = .bool false ∧ ∃ k : Nat, k ≤ N ∧ j = .int .i64 (k : Int) ∧ Below W4.heap.size W4 wr
def MO4 (N : Nat) (W4 : World) (r i : Value) (wr : World) : Prop := r = .bool false ∧ ∃ t : Nat, t ≤ N + 2 ∧ i = .int .i64 ((t : Int) - 1) ∧ Below W4.heap.size W4 wr
theorem Row.later' {w w' : World} {A : Option Addr} {xs : List Value} (h : Row w w.heap.size A xs) (hb : Below w.heap.size w w') : Row w' w'.heap.size A xs := (h.below hb).more hb.size

set_option maxHeartbeats 8000000 in
set_option maxRecDepth 100000 in
theorem walk0_MergeOrders (OK : OrdOk) (a0 : Option Addr) (len0 cap0 : Nat) (z0 : List (List Int)) (a1 : Int) (w : World) (hL : Lol (Value.int .i64) w w.heap.size a0 z0) (hl0 : z0.length = len0) (hl1 : len0 ≤ 9223372036854775807)
    (hll : ∀ s ∈ z0, s.length ≤ 9223372036854775807 ∧ ∀ x ∈ s, (Lit.int .i64 x).wf = true) (h1 : (Lit.int .i64 a1).wf = true) :
    Calls Try.prog 3 #[.slice a0 len0 cap0, .int .i64 a1] w fun e w' => e = .returned (.bool true) ∧ Below w.heap.size w w' := by
  obtain ⟨i0, hi0, hz0, hz1, hz2⟩ := info_parts info_intsl
  have HB0 := Lib.hid (wf_bd h1)
  have HL := Lib.hid hL
  have HLL := Lib.hid hll
  have HZ := Lib.hid hl0
  clear hL hll h1 hl0
  go_enter Try.func3, Try.ntmps3
  go_wp2
  go_loopw [5, 6, 7] (fun v5 v6 i wr => MO1 z0 w v5 v6 i wr) (fun _ _ i _ => 5 - (intOf i).toNat)
  case atStart => exact ⟨0, by omega, by omega, rfl, TwoL.nil, Below.refl _ _⟩
  case round =>
    obtain ⟨k, hk, hk5, rfl, htwo, hbw⟩ := hrel
    have hsz := hbw.size
    by_cases hlt : k < len0 ∧ k < 5
    · obtain ⟨hkl, hk52⟩ := hlt
      have d0 : decide ((k : Int) < (len0 : Int)) = true := decide_eq_true (by omega)
      have d1 : decide ((k : Int) < 5) = true := decide_eq_true (by omega)
      have hkz : k < z0.length := by rw [HZ.out]; exact hkl
      obtain ⟨b1, o1, A', c', rfl, hb1, hc1, ⟨hle, hcm'⟩, hrow⟩ := (HL.out.below hbw).at_ hkz
      have hos := ownL_succ hkz
      have hgs := goodL_succ hkz
      have hol := ownL_length (l := z0) (k := k) (by omega)
      have hgl := goodL_length (l := z0) (k := k) (by omega)
      obtain ⟨hxl, hxw⟩ := HLL.out _ (List.getElem_mem hkz)
      obtain ⟨x, hx⟩ : ∃ x, x = z0[k] := ⟨_, rfl⟩
      rw [← hx] at hc1 hle hrow hos hgs hxl hxw
      obtain ⟨m, hm⟩ : ∃ m, m = x.length := ⟨_, rfl⟩
      rw [← hm] at hc1 hle hxl
      obtain ⟨mm, hmm⟩ : ∃ mm : Nat, mm = min m 10 := ⟨_, rfl⟩
      have hmn : ∀ (w : World) (ts : Array TypeId) (ty : TypeId), (Builtin.min_ ts ty #[.int .i64 m, .int .i64 10]).run Try.prog w = .ok (.int .i64 (mm : Int)) w := fun w ts ty => by rw [run_min_int2, hmm]; congr 2; split <;> omega
      have hrow2 : Row wr w.heap.size A' (ints (x.take 10)) := by
        have := hrow.cut 10
        rwa [show (x.map (Value.int .i64)).take 10 = ints (x.take 10) by simp [ints, List.map_take]] at this
      have hxt : (x.take 10).length = mm := by rw [List.length_take, hmm, hm]; omega
      have C1 := Lib.hid (fun W (hb : Below w.heap.size wr W) (hs : w.heap.size ≤ W.heap.size) => ref04_Good A' m c' 10 x W hm.symm hxl (by omega) ((hrow.below hb).more hs) hxw)
      have HCC : Hid (mm ≤ c' ∧ c' ≤ maxLen) := Lib.hid ⟨by omega, hcm'⟩
      unfold maxLen at hcm'
      have k1 : (0 : Int) ≤ (mm : Int) := by omega
      have k2 : (mm : Int) ≤ (m : Int) := by omega
      have k3 : (mm : Int) ≤ (c' : Int) := by omega
      have k4 : (m : Int) ≤ (c' : Int) := by omega
      obtain ⟨cs, hcs1, hcs2⟩ := htwo.own
      rw [hol] at hcs2
      have HC1 := Lib.hid hcs1
      have HC2 := Lib.hid hcs2
      have HOS := Lib.hid hos
      have HGS := Lib.hid hgs
      have HOL := Lib.hid hol
      have HGL := Lib.hid hgl
      have HTW := Lib.hid htwo
      have HXT := Lib.hid hxt
      have HR2 := Lib.hid hrow2
      have HSS : Hid (∀ w', Below w.heap.size wr w' → w'.cell? ⟨b1, o1 + k, none⟩ = some (.slice A' m c')) := Lib.hid fun w' h => (h.cell (p := ⟨b1, o1 + k, none⟩) hb1).trans hc1
      clear hx hm hmm hrow hrow2 hos hgs hol hgl hcs1 hcs2 hxt htwo hxl hxw
      go_wp2
      go_region_held3 (fun w' => w'.cell? ⟨b1, o1 + k, none⟩ = some (.slice A' m c'))
        (first | exact HSS.out _ (Below.refl _ _).drew | exact HSS.out _ ((Below.refl _ _).drew.alloc (by simpa using hsz) _) | exact HSS.out _ (((Below.refl _ _).alloc (by omega) _).drew) | exact HSS.out _ HB5.out)
        (first
          | (refine step_append_lies _ (by rfl) _ _ _ (by rfl) w.heap.size 23 i0 _ 1 24 Try.underlying22 hi0 hz0 hz1 hz2 rfl (by omega) _ k cs (by rfl) (HC2.out.alloc _)
              ⟨wr.heap.size, 0, none⟩ 1 1 [.slice A' mm c'] (by rfl) (by rfl) (World.news_of_block (cs := #[.slice A' mm c']) (t := 23) (fr := (0, 0)) (heap_alloc_new wr _)) (by intro u hu; simp at hu; subst hu; rfl)
              (by omega) (by unfold maxLen; omega) (by omega) (by simp; omega) (wr.heap.size + 1) (by simp) ?_
             intro gg cap w5 hown5 hg5 hat hlt5
             have hb5 : Below w.heap.size wr w5 := ((Below.refl _ wr).alloc (by omega) _).drew.grown hg5 (by simp; omega) fun k hk => (HC2.out.lt k hk).1
             have HB5 := Lib.hid hb5))
      have hs5 : w.heap.size ≤ w5.heap.size := Nat.le_trans hsz HB5.out.size
      have hT5 : TwoL w.heap.size (ownL z0 (k + 1)) (goodL z0 k) (.slice (some ⟨gg, 0, none⟩) (k + 1) cap) u6 w5 := by
        rw [HOS.out]
        refine TwoL.push0 (HTW.out.below ?_ hsz) ?_ (HC1.out.below ?_) (by rw [HOL.out]; exact HC2.out.alloc _) (by rw [HXT.out]; exact HCC.out) (HR2.out.below ?_) (by rw [HOL.out, HXT.out]; exact hown5) hg5 ?_
        · first | exact (Below.refl _ _).alloc (Nat.le_refl _) _ | exact ((Below.refl _ _).alloc (Nat.le_refl _) _).drew
        · simp; omega
        · first | exact (Below.refl _ _).alloc hsz _ | exact ((Below.refl _ _).alloc hsz _).drew
        · first | exact (Below.refl _ _).alloc hsz _ | exact ((Below.refl _ _).alloc hsz _).drew
        · rcases hat with e | e
          · exact .inl e.symm
          · exact .inr (by rw [e]; simp [Value.ownBlock])
      have HT5 := Lib.hid hT5
      clear hT5 hown5 hg5 hat hlt5
      go_wp2_with (go_at_call 4; refine (C1.out _ HB5.out hs5).mono ?_)
      rintro e w6 ⟨v, rfl, ho6, hb6⟩
      obtain ⟨A6, c6, hv6, hc6, hm6, _⟩ := owned_roomy ho6
      have hT6 := HT5.out.below hb6 hs5
      obtain ⟨ds, hd1, hd2⟩ := hT6.good
      rw [HGL.out] at hd2
      rw [HXT.out] at ho6 hv6
      subst hv6
      have hs6 : w.heap.size ≤ w6.heap.size := Nat.le_trans hs5 hb6.size
      have HO6 := Lib.hid (owned_low ho6 hs5)
      have HT6 := Lib.hid hT6
      have HD1 := Lib.hid hd1
      have HD2 := Lib.hid hd2
      have HB6 := Lib.hid (hbw.trans (HB5.out.trans (hb6.mono hs5)))
      clear ho6 hb6 hc6 hm6 hT6 hd1 hd2
      go_wp2_with (at_builtin; refine wpList_append_own_at _ rfl (.tmp 42) (.tmp 48) 22 rfl w.heap.size 23 i0 _ 1 24 Try.underlying22 hi0 hz0 hz1 hz2 rfl (by omega) u6 k ds rfl (HD2.out.alloc _) ⟨w6.heap.size, 0, none⟩ 1 1 [.slice A6 mm c6] rfl rfl (news_at w6 [.slice A6 mm c6] 23) (by intro u hu; simp at hu; subst hu; rfl) (by unfold maxLen; omega) (by omega) (by simp; omega) ?_)
      intro v7 w7 hown7 hg7 _ hat7
      have hT7 : TwoL w.heap.size (ownL z0 (k + 1)) (goodL z0 (k + 1)) (.slice (some ⟨gg, 0, none⟩) (k + 1) cap) v7 w7 := by
        rw [HGS.out]
        have hlz : (goodZ (-1) (x.take 10)).length = mm := by rw [goodZ_len, HXT.out]
        have hba : Below w6.heap.size w6 (w6.alloc (.cells #[.slice A6 mm c6] 23)) := (Below.refl _ _).alloc (Nat.le_refl _) _
        exact TwoL.push1 (HT6.out.below hba hs6) (by simp; omega) (HD1.out.imp fun _ _ h => owned_below h hba) (by rw [HGL.out]; exact HD2.out.alloc _) (by rw [hlz]; exact HO6.out.alloc _) (by rw [HGL.out]; exact hown7) hg7 (hat7.imp id fun e => by rw [e]; simp)
      have hb7 : Below w.heap.size w w7 := HB6.out.trans (((Below.refl _ w6).alloc hs6 _).grown hg7 (by simp; omega) fun q hq => (HD2.out.lt q hq).1)
      have HT7 := Lib.hid hT7
      have HB7 := Lib.hid hb7
      clear hT7 hb7 hown7 hg7 hat7
      go_wp2
      go_roundw
      case rel => exact ⟨k + 1, by omega, by omega, by go_num, HT7.out, HB7.out⟩
      case measure => simp [intOf]; omega
    · have hkl : k ≤ z0.length := hk
      obtain ⟨A5, c5, hv5, hc5, hm5, hlol5⟩ := htwo.lol0 hsz
      obtain ⟨A6, c6, hv6, hc6, hm6, hlol6⟩ := htwo.lol1
      have hol := ownL_length hkl
      have hgl := goodL_length hkl
      rw [hol] at hv5 hc5
      rw [hgl] at hv6 hc6
      have hos : ∀ s ∈ ownL z0 k, s.length ≤ 1000 := fun s hs => by
        obtain ⟨x, _, rfl⟩ := List.mem_map.1 hs
        rw [List.length_take]; omega
      have hgs : ∀ s ∈ goodL z0 k, s.length ≤ 1000 := fun s hs => by
        obtain ⟨x, _, rfl⟩ := List.mem_map.1 hs
        rw [goodZ_len, List.length_take]; omega
      subst hv5 hv6
      obtain ⟨W0, hW0⟩ : ∃ W0, W0 = wr.alloc (.cells #[.slice A5 k c5, .slice A6 k c6] 22) := ⟨_, rfl⟩
      have hbW : Below wr.heap.size wr W0 := by rw [hW0]; exact (Below.refl _ _).alloc (Nat.le_refl _) _
      obtain ⟨G, hG⟩ : ∃ G, G = wr.heap.size := ⟨_, rfl⟩
      have hcG : W0.heap[G]? = some (.cells #[.slice A5 k c5, .slice A6 k c6] 22 (0, 0)) := by rw [hW0, hG]; exact heap_alloc_new wr _
      have hGs : G < W0.heap.size := by rw [hW0, hG]; simp
      have HK : Hid (∀ q, q < 2 → ∃ A c L, L.length = k ∧ (∀ s ∈ L, s.length ≤ 1000) ∧ ∀ W, Below W0.heap.size W0 W → W.cell? ⟨G, q, none⟩ = some (.slice A k c) ∧ Lol (Value.int .i64) W W.heap.size A L) := Lib.hid fun q hq => by
        have hq2 : q = 0 ∨ q = 1 := by omega
        rcases hq2 with rfl | rfl
        · refine ⟨A5, c5, ownL z0 k, hol, hos, fun W hW => ⟨?_, (hlol5.later hbW).later hW⟩⟩
          rw [World.cell?_of_block (a := ⟨G, 0, none⟩) (hW.block G hGs), cell_of_row _ _ _ _ _ _ hcG]
          rfl
        · refine ⟨A6, c6, goodL z0 k, hgl, hgs, fun W hW => ⟨?_, (hlol6.later hbW).later hW⟩⟩
          rw [World.cell?_of_block (a := ⟨G, 1, none⟩) (hW.block G hGs), cell_of_row _ _ _ _ _ _ hcG]
          rfl
      have HW0 := Lib.hid hW0
      have HG := Lib.hid hG
      have HBW : Hid (Below w.heap.size w W0) := Lib.hid (hbw.trans (hbW.mono hsz))
      have HLV := Lib.hid (fun W => law11_lives OK W)
      have HOK := Lib.hid OK
      obtain ⟨g, hg, hneg, hpos⟩ := made_nat HB0.out
      have HN := Lib.hid hneg
      have HP := Lib.hid hpos
      obtain ⟨nn, hnn⟩ : ∃ nn : Nat, (g : Int) % 15 = (nn : Int) := ⟨((g : Int) % 15).toNat, by omega⟩
      have hn15 : nn < 15 := by omega
      have HNN := Lib.hid hnn
      have hsp : (k < len0 ∧ ¬ k < 5) ∨ ¬ k < len0 := by omega
      have hd : (decide ((k : Int) < (len0 : Int)) = true ∧ decide ((k : Int) < 5) = false ∧ k < len0) ∨ (decide ((k : Int) < (len0 : Int)) = false ∧ decide (k < len0) = false ∧ ¬ k < len0) := by
        rcases hsp with ⟨h1, h2⟩ | h1
        · exact .inl ⟨decide_eq_true (by omega), decide_eq_false (by omega), h1⟩
        · exact .inr ⟨decide_eq_false (by omega), decide_eq_false h1, h1⟩
      clear htwo hbw hlt hc5 hm5 hlol5 hc6 hm6 hlol6 hol hgl hos hgs hW0 hbW hG hcG hGs hneg hpos hnn hsp OK
      rcases hd with ⟨e1, e2, e3⟩ | ⟨e1, e2, e3⟩
      all_goals
        go_upto_if 51 with fail
        go_cut [1] from 50 to 54 (fun s wx => s = .int .i64 (g : Int) ∧ wr = wx)
        case first =>
          by_cases h0 : a1 < 0
          · have hng := HN.out h0
            go_wp2_with fail
            go_meet
            exact ⟨rfl, rfl⟩
          · have hng := HP.out h0
            subst hng
            go_wp2_with fail
            go_meet
            exact ⟨rfl, rfl⟩
        case rest =>
          obtain ⟨rfl, rfl⟩ := hcut
          clear HN HP hg e1 e2 e3
          go_wp2
          rw [← HW0.out, ← HG.out, HNN.out]
          go_loopw [4, 9, 10, 11, 12, 13, 14, 15, 16, 17] (fun r q v10 v11 v12 v13 v14 v15 v16 v17 wr => MO2 W0 r q wr) (fun _ q _ _ _ _ _ _ _ _ _ => 2 - (intOf q).toNat)
          case atStart => exact ⟨rfl, 0, by omega, rfl, Below.refl _ _⟩
          case round =>
            obtain ⟨rfl, q, hq, rfl, hbq⟩ := hrel
            by_cases hlq : q < 2
            · obtain ⟨A, c, L, hLk, hLs, hLW⟩ := HK.out q hlq
              have C1 := Lib.hid (fun W (hb : Below W0.heap.size W0 W) => HOK.out.order A k c L W (hLW W hb).2 hLk (by omega) hLs)
              have C2 := Lib.hid (fun W (hb : Below W0.heap.size W0 W) => ref11_Order A k c L W (hLW W hb).2 hLk (by omega) hLs)
              have HLW : Hid (∀ W, Below W0.heap.size W0 W → W.cell? ⟨G, q, none⟩ = some (.slice A k c)) := Lib.hid fun W hW => (hLW W hW).1
              have hcq := HLW.out _ hbq
              have HBQ := Lib.hid hbq
              have HLS := Lib.hid hLs
              have HLK := Lib.hid hLk
              clear hLk hLs hLW hbq
              go_wp2_with (go_at_call 5; refine (C1.out _ HBQ.out).mono ?_)
              rintro e w3 ⟨e3, o3, A3, c3, ho3, rfl, hc3, hr3, hb3⟩
              have HB3 := Lib.hid (HBQ.out.trans (hb3.mono HBQ.out.size))
              have hcq3 := HLW.out _ HB3.out
              have HR3 := Lib.hid hr3
              have HO3 := Lib.hid ho3
              have HC3 := Lib.hid hc3
              clear hr3 ho3 hb3 hcq hc3
              go_wp2_with (go_at_call 6; refine (C2.out _ HB3.out).mono ?_)
              rintro e w4 ⟨e4, o4, A4, c4, ho4, rfl, hc4, hr4, hb4, hmil⟩
              obtain ⟨rfl, rfl⟩ := HO3.out.det ho4
              obtain ⟨hnd, hps⟩ := ho4.small (by rw [HLK.out]; omega) HLS.out
              have HB4 := Lib.hid (HB3.out.trans (hb4.mono HB3.out.size))
              have HR3' : Hid (Row w4 w4.heap.size A3 (plc o3)) := Lib.hid ((HR3.out.below hb4).more hb4.size)
              have HR4 := Lib.hid hr4
              have HLW4 := Lib.hid (fun W (hb : Below w4.heap.size w4 W) => HLW.out W (HB4.out.trans (hb.mono HB4.out.size)))
              obtain ⟨N, hN⟩ : ∃ N, N = o3.length := ⟨_, rfl⟩
              rw [← hN] at hmil
              have C3 := Lib.hid (fun W (hb : Below w4.heap.size w4 W) (i : Int) => HOK.out.places A4 N c4 nn o3 i W (hr4.later' hb) hN.symm hmil hnd hps (by omega))
              have C4 := Lib.hid (fun W (hb : Below w4.heap.size w4 W) (i k : Int) => ref11_Place A4 N c4 o3 i k W (hr4.later' hb) hN.symm hmil)
              rw [← hN]
              have HN := Lib.hid hN
              clear hr4 ho4 hb4 hnd hps hcq3 hN hc4
              go_wp2
              go_loopw [4, 14] (fun r j wr => MO3 N w4 r j wr) (fun _ j _ => N - (intOf j).toNat)
              case atStart => exact ⟨rfl, 0, by omega, rfl, Below.refl _ _⟩
              case round =>
                obtain ⟨rfl, j, hj, rfl, hb5⟩ := hrel
                by_cases hlj : j < N
                · have hjo : j < o3.length := by rw [← HN.out]; exact hlj
                  obtain ⟨b3, x3, f1, _, p1, p2⟩ := row_plc (HR3'.out.below hb5) hjo
                  obtain ⟨b4, x4, f2, _, p3, p4⟩ := row_plc (HR4.out.below hb5) hjo
                  subst f1 f2
                  obtain ⟨y1, hy1⟩ : ∃ y, y = (o3[j].1 : Int) := ⟨_, rfl⟩
                  obtain ⟨y2, hy2⟩ : ∃ y, y = (o3[j].2 : Int) := ⟨_, rfl⟩
                  rw [← hy1] at p1 p3
                  rw [← hy2] at p2 p4
                  have hq5 : ∀ W, (Op.equalIn 10000 30 (.agg #[.int .i64 y1, .int .i64 y2]) (.agg #[.int .i64 y1, .int .i64 y2])).run Try.prog W = .ok true W := fun W => by rw [run_equal_pair]; simp
                  have hfin : ∀ n, MO3 N w4 (.bool false) (.int .i64 ((j : Int) + 1)) (wr.drewN n) := fun n => ⟨rfl, j + 1, by omega, by go_num, hb5.trans ⟨rfl, rfl, rfl, Nat.le_refl _, fun _ _ => rfl⟩⟩
                  have HFIN := Lib.hid hfin
                  have k0 : (0 : Int) ≤ j := by omega
                  have k1 : (j : Int) < N := by omega
                  clear hy1 hy2 hjo hfin hb5
                  go_wp2
                  go_quiet (fail)
                  go_wp2
                  go_roundw
                  case rel => exact HFIN.out _
                  case measure => simp [intOf]; omega
                · have HB5 := Lib.hid hb5
                  clear hb5
                  go_wp2
                  go_loopw [4, 15, 16, 17] (fun r i v16 v17 wr => MO4 k w4 r i wr) (fun _ i _ _ _ => ((k : Int) + 1 - intOf i).toNat)
                  case atStart => exact ⟨rfl, 0, by omega, rfl, HB5.out⟩
                  case round =>
                    obtain ⟨rfl, t, ht, rfl, hb6⟩ := hrel
                    have hcq6 := HLW4.out _ hb6
                    obtain ⟨ii, hii⟩ : ∃ ii, ii = (t : Int) - 1 := ⟨_, rfl⟩
                    rw [← hii]
                    have k0 : (0 : Int) ≤ q := by omega
                    have k1 : (q : Int) < 2 := by omega
                    by_cases hlt6 : t < k + 2
                    · have d6 : decide (ii ≤ (k : Int)) = true := decide_eq_true (by omega)
                      have HII := Lib.hid hii
                      have HB6 := Lib.hid hb6
                      have C3' := Lib.hid (C3.out _ hb6 ii)
                      clear hii hb6
                      go_wp2_with (go_at_call 7; refine (C3'.out).mono ?_)
                      rintro e w7 ⟨v, rfl, ho7, hb7⟩
                      obtain ⟨A7, c7, hv7, hc7, hm7, hr7⟩ := owned_roomy ho7
                      subst hv7
                      have HB7 := Lib.hid (HB6.out.trans (hb7.mono HB6.out.size))
                      have HR7 := Lib.hid hr7
                      clear ho7 hb7 hr7 hm7
                      go_wp2
                      go_loopw [4, 17] (fun r j wr => MO3 nn w7 r j wr) (fun _ j _ => nn - (intOf j).toNat)
                      case atStart => exact ⟨rfl, 0, by omega, rfl, Below.refl _ _⟩
                      case round =>
                        obtain ⟨rfl, j, hj, rfl, hb8⟩ := hrel
                        by_cases hlj : j < nn
                        · have hjl : j < (placesO o3 ii nn).length := by simpa [placesO] using hlj
                          obtain ⟨b7, x7, f7, hbl7, p7⟩ := row_int HR7.out hjl
                          subst f7
                          have hpj : (placesO o3 ii nn)[j] = placeO o3 0 ii (j : Int) := by simp [placesO]
                          rw [hpj] at p7
                          have c5 := fun W (hb : Below w4.heap.size w4 W) => C4.out W hb ii (j : Int)
                          obtain ⟨y, hy⟩ : ∃ y, y = placeO o3 0 ii (j : Int) := ⟨_, rfl⟩
                          rw [← hy] at p7
                          simp only [← hy] at c5
                          have C5 := Lib.hid c5
                          have HS8 : Hid (∀ W, Below w7.heap.size w7 W → W.cell? ⟨b7, x7 + j, none⟩ = some (.int .i64 y)) := Lib.hid fun W hW => (hW.cell (p := ⟨b7, x7 + j, none⟩) hbl7).trans p7
                          have HB8 := Lib.hid hb8
                          have HB48 := Lib.hid (HB7.out.trans (hb8.mono HB7.out.size))
                          have k2 : (0 : Int) ≤ j := by omega
                          have k3 : (j : Int) < nn := by omega
                          have p8 := HS8.out _ hb8
                          clear hy c5 hpj hjl p7 hb8
                          go_wp2
                          go_region_held3 (fun W => W.cell? ⟨b7, x7 + j, none⟩ = some (.int .i64 y))
                            (first | exact HS8.out _ HB8.out.drew | exact HS8.out _ HB8.out | exact HS8.out _ HB9.out)
                            (first
                              | (go_at_call 8; refine (C5.out _ (by first | exact HB48.out.drew | exact HB48.out)).mono ?_; rintro e w9 ⟨rfl, hb9⟩
                                 have HB9 : Hid (Below w7.heap.size w7 w9) := Lib.hid (HB8.out.trans ((show Below wr.heap.size wr w9 from (by first | exact hb9 | exact ((Below.refl _ wr).drew).trans hb9)).mono HB8.out.size))
                                 clear hb9))
                          go_wp2
                          go_roundw
                          case rel => exact ⟨rfl, j + 1, by omega, by go_num, HB9.out⟩
                          case measure => simp [intOf]; omega
                        · have HB8 := Lib.hid hb8
                          have hw1 : IntKind.i64.wrap (ii + 1) = ii + 1 := IntWalk.i64_in _ (by have := HII.out; omega)
                          have hw2 : wrap64 (ii + 1) = ii + 1 := wrap64_in (by have := HII.out; omega)
                          clear hb8
                          go_wp2
                          go_roundw
                          case rel => exact ⟨rfl, t + 1, by omega, congrArg _ (by have := HII.out; omega), HB7.out.trans (HB8.out.mono HB7.out.size)⟩
                          case measure => have := HII.out; simp [intOf]; omega
                    · have d6 : decide (ii ≤ (k : Int)) = false := decide_eq_false (by omega)
                      have HB6 := Lib.hid hb6
                      clear hb6 hii
                      go_wp2
                      go_roundw
                      case rel => exact ⟨rfl, q + 1, by omega, by go_num, HB4.out.trans (HB6.out.mono HB4.out.size)⟩
                      case measure => simp [intOf]; omega
            · have HBQ := Lib.hid hbq
              clear hbq
              go_wp2_with (go_at_call 9; refine (HLV.out _).mono ?_; rintro e w9 ⟨rfl, hb9⟩)
              go_ret
              exact ⟨rfl, HBW.out.trans ((HBQ.out.trans (hb9.mono HBQ.out.size)).mono HBW.out.size)⟩
end Go.Proofs.Ytpehcaidjlemiaa
