import Derived.Test.YtmoomnpbiifedaaGreatMBQ20
import Derived.Test.YtmoomnpbiifedaaGreatMBQ27
import Derived.Test.YtmoomnpbiifedaaGreatMBQ28
import Derived.Test.YtmoomnpbiifedaaGreatMBQ29
import Derived.Test.YtmoomnpbiifedaaGreatMBQ05
import Derived.Deep.RegionHeld3
import Derived.Deep.DeepCutAuto
set_option linter.unusedVariables false
namespace Go.Proofs.YtmoomnpbiifedaaGreat
open Go Go.RowKit
theorem build_like {G:List En} (h:AddOk G):LikeOk (buildP G):=⟨build_may h,build_small h,by simpa [buildP] using h.few⟩
set_option maxHeartbeats 8000000 in
set_option maxRecDepth 100000 in
theorem walk_SegmentBuilds (a0:Option Addr) (len0 cap0:Nat) (z0:List Dc) (a1:Int) (tf tw:ByteArray) (W:World) (h0:InDocs W a0 len0 cap0 z0) (h1:(Lit.int .i64 a1).wf=true) (hf:tf.size≤140737488355328) (hw:tw.size≤140737488355328):
    Calls Tryz.prog 4 #[.slice a0 len0 cap0,.int .i64 a1,.agg #[.string tf,.string tw]] W fun e W'=>e= .returned (.bool true)∧Below W.heap.size W W':=by
  obtain ⟨g1,g2,g3,g4,g5⟩:=h0
  have hb63:=wf_bd h1
  have HN:=Lib.hid g4
  have HFD:=Lib.hid g5
  have HL3:=Lib.hid g3
  have HF:=Lib.hid hf
  have HWW:=Lib.hid hw
  obtain ⟨w1,hw1⟩:∃ w1,w1=W.alloc (.cells #[.string tf,.string tw] 39):=⟨_,rfl⟩
  have hb1:Below W.heap.size W w1:=by rw [hw1];exact (Below.refl _ W).alloc (Nat.le_refl _) _
  have hT1:w1.heap[W.heap.size]?=some (.cells #[.string tf,.string tw] 39 (0,0)):=by rw [hw1];exact heap_alloc_new W _
  have HRC:Hid (∀ w',Below w1.heap.size w1 w'→w'.cell? ⟨W.heap.size,0,none⟩=some (.string tf)∧w'.cell? ⟨W.heap.size,1,none⟩=some (.string tw)):=Lib.hid fun w' h=>by
    have e2:=(h.block _ (lt_of_block hT1)).trans hT1
    exact ⟨by simp [World.cell?,e2],by simp [World.cell?,e2]⟩
  have HGD:Hid (∀ T:Int,0≤T→T<1000→∃ G:List En,G.length≤10∧AddOk G∧Calls Tryz.prog 14 #[.slice a0 len0 cap0,.int .i64 10,.int .i64 T,.int .i64 1] w1 (GaveEn G w1)):=Lib.hid fun T t0 t1=>
    ⟨goodsE z0 10 T 1,by rw [goodsE_length];omega,goodsE_add _ _ _ _ (by omega) t0 (by omega),ref09_Good a0 len0 cap0 z0 10 T 1 w1 HL3.out (Nest.later HN.out hb1) (by unfold maxLen at g2;omega) (by omega) (by omega) (by omega) fun q hq f hf=>by
      have :=HFD.out q hq f hf
      unfold maxLen at this
      omega⟩
  have HB1:=Lib.hid hb1
  have HW1:=Lib.hid hw1
  clear h1 g3 g4 g5 hf hw hb1 hT1 hw1
  go_enter Tryz.func4,Tryz.ntmps4
  go_upto_if 11 with fail
  rw [show W.alloc _=w1 from HW1.out.symm]
  obtain ⟨d1,hd1⟩:∃ d1,d1=decide (a1<0):=⟨_,rfl⟩
  rw [← hd1]
  have HD1:=Lib.hid hd1
  clear hd1
  go_cut [1] from 12 to 14 (fun s wx=>∃ T:Int,0≤T∧T≤9223372036854775807∧s= .int .i64 T∧wx=w1)
  case first=>
    cases d1 with
    |true=>
      have hn:a1<0:=of_decide_eq_true HD1.out.symm
      have hz:=IntWalk.i64_in (a1+1) (by omega)
      have hz2:=IntWalk.i64_in (-(a1+1)) (by omega)
      go_wp2_with fail
      go_meet
      exact ⟨-(a1+1),by omega,by omega,by simp,rfl⟩
    |false=>
      have hn:0≤a1:=Int.not_lt.1 (of_decide_eq_false HD1.out.symm)
      go_wp2_with fail
      go_meet
      exact ⟨_,hn,hb63.2,rfl,rfl⟩
  case rest=>
    obtain ⟨F,hF0,hF1,rfl,rfl⟩:=hcut
    obtain ⟨T,hT⟩:∃ T:Int,T=F%1000:=⟨_,rfl⟩
    have hT0:0≤T:=by omega
    have hT1:T<1000:=by omega
    obtain ⟨G,hGl,hadd,hgood⟩:=HGD.out T hT0 hT1
    have HGOOD:=Lib.hid hgood
    have HADD:=Lib.hid hadd
    obtain ⟨N,hN⟩:∃ N,N=G.length:=⟨_,rfl⟩
    rw [← hN] at hGl
    have HHN:=Lib.hid hN
    have HT:=Lib.hid hT
    clear hadd hgood hN hT
    go_upto_region 5 with (first
      | (go_at_call 14; (try rw [← HT.out]); (with_reducible refine HGOOD.out.mono ?_); rintro e w2 ⟨V, rfl, ho2, hb2⟩
         obtain ⟨AG,cG,rfl,hcG,hu⟩:=ho2.nest
         rw [← HHN.out] at hcG ⊢
         have HO2:Hid (OwnES (fun k=>wc.heap.size≤k) w2 (.slice AG N cG) G):=Lib.hid (by rw [HHN.out];exact ho2)
         have HU2:=Lib.hid hu
         have HB2:=Lib.hid hb2
         clear ho2 hb2 hu)
      | (go_at_call 16; (with_reducible refine (seg_Build (.slice AG N cG) G w2 HO2.out.small HADD.out).mono ?_); rintro e w3 ⟨S, rfl, hs3, -, hb3⟩
         have HS3:=Lib.hid hs3
         have HU3:=Lib.hid (Nest.later HU2.out hb3)
         have HB3:=Lib.hid (HB2.out.trans (hb3.mono HB2.out.size))
         clear hs3 hb3))
    have HBL:Hid (∀ w',Below w3.heap.size w3 w'→Calls Tryz.prog 13 #[.slice AG N cG] w' (GaveParts (buildP G) w')):=Lib.hid fun w' h=>ref10_Build AG N cG G w' HHN.out.symm (Nest.later HU3.out h) HADD.out
    have HB30:Hid (Below w3.heap.size w3 w3.drew):=Lib.hid (Below.refl _ w3).drew
    go_region_held3 (fun w'=>w'.cell? ⟨W.heap.size,0,none⟩=some (.string tf)∧w'.cell? ⟨W.heap.size,1,none⟩=some (.string tw))
      (first|exact HRC.out _ HB3.out.drew|exact HRC.out _ HB4.out|exact HRC.out _ HB5.out|exact HRC.out _ HB6.out)
      (first
        | (go_at_call 13; (with_reducible refine (HBL.out _ HB30.out).mono ?_); rintro e w4 ⟨A1, c1, A2, c2, A3, c3, A4, c4, rfl, hp4, hb4⟩
           have HB4:=Lib.hid (HB3.out.drew.trans (hb4.mono HB3.out.drew.size))
           have HS4:=Lib.hid ((HS3.out.below HB30.out).below hb4)
           have HLK:=Lib.hid (law10_like HS4.out A1 A2 A3 A4 _ c1 _ c2 _ c3 _ c4 tf tw rfl rfl rfl rfl hp4 (build_like HADD.out) (build_few HADD.out) HF.out HWW.out)
           clear hp4 hb4)
        | (go_at_call 12; (with_reducible refine HLK.out.mono ?_); rintro e w5 ⟨rfl, hb5⟩
           have HB5:=Lib.hid (HB4.out.trans (hb5.mono HB4.out.size))
           clear hb5)
        | (go_at_call 15; (with_reducible refine (law10_lives _).mono ?_); rintro e w6 ⟨rfl, hb6⟩
           have HB6:=Lib.hid (HB5.out.trans (hb6.mono HB5.out.size))
           clear hb6))
    all_goals
      go_wp2
      go_ret
      exact ⟨rfl,HB1.out.trans (HB6.out.mono HB1.out.size)⟩
end Go.Proofs.YtmoomnpbiifedaaGreat
