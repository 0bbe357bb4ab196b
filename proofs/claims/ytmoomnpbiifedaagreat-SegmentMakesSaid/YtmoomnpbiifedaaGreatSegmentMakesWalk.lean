import Derived.Test.YtmoomnpbiifedaaGreatMAQ14
import Derived.Test.YtmoomnpbiifedaaGreatMAQ15
import Derived.Test.YtmoomnpbiifedaaGreatMAQ24
import Derived.Test.YtmoomnpbiifedaaGreatMAQ31
import Derived.Test.YtmoomnpbiifedaaGreatMAQ13
import Derived.Test.YtmoomnpbiifedaaGreatMAQ30
import Derived.Test.YtmoomnpbiifedaaGreatMAQ29
import Derived.Test.YtmoomnpbiifedaaGreatMAQ16
import Derived.Test.YtmoomnpbiifedaaGreatMAQ08
import Derived.Deep.DeepCutAuto
set_option linter.unusedVariables false
namespace Go.Proofs.YtmoomnpbiifedaaGreat
open Go Go.RowKit
def GaveN (n1 n2 n3 n4:Nat) (x:PartsP) (w:World) (e:Ending) (w':World):Prop:=∃ A1 c1 A2 c2 A3 c3 A4 c4,e= .returned (.agg #[.slice A1 n1 c1,.slice A2 n2 c2,.slice A3 n3 c3,.slice A4 n4 c4])∧PAt w' w'.heap.size A1 A2 A3 A4 x∧Below w.heap.size w w'
theorem few_few {x:PartsP} (h:∀ l∈x.lists,∀ p∈l,p.2.length≤maxLen):PFew (fewP x):=by
 unfold maxLen at h
 refine ⟨by simp [fewP];omega,by simp [fewP];omega,by simp [fewP];omega,by simp [fewP];omega,fun l hl=> ?_⟩
 obtain ⟨l0,hl0,rfl⟩:=List.mem_map.1 hl
 exact ⟨by rw [List.length_take];omega,fun p hp=>h l0 (List.mem_of_mem_take hl0) p (List.mem_of_mem_take hp)⟩
theorem few_like {x:PartsP} (hm:mayPs (fewP x)=true):LikeOk (fewP x) where
 may:=hm
 small:=by
  refine ⟨by simp [fewP];omega,by simp [fewP];omega,fun l hl=> ?_⟩
  have h1:=(mayL_may ((mayPs_iff.1 hm).2.2.2.2 l hl)).1
  obtain ⟨l0,hl0,rfl⟩:=List.mem_map.1 hl
  have h2:(l0.take 10).length≤10:=by rw [List.length_take];omega
  have h3:=totalP_le (l:=l0.take 10) (n:=2147483648) fun p hp=>places_count (mayB_places h1 p hp)
  have h4:(l0.take 10).length*2147483648≤10*2147483648:=Nat.mul_le_mul_right _ h2
  exact ⟨by omega,by omega⟩
 few:=by simp [fewP];omega
set_option maxHeartbeats 16000000 in
set_option maxRecDepth 100000 in
theorem walk_SegmentMakes (A1 A2 A3 A4:Option Addr) (n1 c1 n2 c2 n3 c3 n4 c4:Nat) (x:PartsP) (a1:Option Addr) (len1 cap1:Nat) (z1:List Dc) (W:World) (h0:InPar W A1 A2 A3 A4 n1 c1 n2 c2 n3 c3 n4 c4 x) (h1:InDocs W a1 len1 cap1 z1):
    Calls Tryz.prog 3 #[.agg #[.slice A1 n1 c1,.slice A2 n2 c2,.slice A3 n3 c3,.slice A4 n4 c4],.slice a1 len1 cap1] W fun e W'=>e= .returned (.bool true)∧Below W.heap.size W W':=by
  obtain ⟨⟨hx1,hx2,hx3,hx4⟩,hx,l1,l2,l3,l4,hkl⟩:=h0
  obtain ⟨Y,hY⟩:∃ Y,Y=fewP x:=⟨_,rfl⟩
  have hpf:PFew Y:=by rw [hY];exact few_few hx.lists.places
  have hlk:mayPs Y=true→LikeOk Y:=by rw [hY];exact few_like
  have hk3:Y.keys.length≤1048576:=by rw [hY];simp [fewP];omega
  obtain ⟨p1,hp1⟩:∃ n,n=Y.ids.length:=⟨_,rfl⟩
  obtain ⟨p2,hp2⟩:∃ n,n=Y.seqs.length:=⟨_,rfl⟩
  obtain ⟨p3,hp3⟩:∃ n,n=Y.keys.length:=⟨_,rfl⟩
  obtain ⟨p4,hp4⟩:∃ n,n=Y.lists.length:=⟨_,rfl⟩
  obtain ⟨w1,hw1⟩:∃ w1,w1=W.alloc (.cells #[.slice A1 n1 c1,.slice A2 n2 c2,.slice A3 n3 c3,.slice A4 n4 c4] 26):=⟨_,rfl⟩
  have hb1:Below W.heap.size W w1:=by rw [hw1];exact (Below.refl _ W).alloc (Nat.le_refl _) _
  have HFW:Hid (Calls Tryz.prog 7 #[.agg #[.slice A1 n1 c1,.slice A2 n2 c2,.slice A3 n3 c3,.slice A4 n4 c4]] w1 (GaveN p1 p2 p3 p4 Y w1)):=Lib.hid (by
    subst hp1 hp2 hp3 hp4 hY
    exact law10_few A1 A2 A3 A4 n1 c1 n2 c2 n3 c3 n4 c4 x w1 hx1 hx2 hx3 hx4 (hx.later hb1) l1 l2 l3 l4 hkl)
  obtain ⟨G,hG⟩:∃ G,G=goodsE z1 6 2 3:=⟨_,rfl⟩
  have hadd:AddOk G:=by rw [hG];exact goodsE_add _ _ _ _ (by omega) (by omega) (by omega)
  have HGD:Hid (∀ w,Below W.heap.size W w→Calls Tryz.prog 14 #[.slice a1 len1 cap1,.int .i64 6,.int .i64 2,.int .i64 3] w (GaveEn G w)):=Lib.hid fun w hb=>by
    obtain ⟨g1,g2,g3,g4,g5⟩:=h1
    rw [hG]
    exact ref09_Good a1 len1 cap1 z1 6 2 3 w g3 (Nest.later g4 hb) (by unfold maxLen at g2;omega) (by omega) (by omega) (by omega) fun q hq f hf=>by
      have :=g5 q hq f hf
      unfold maxLen at this
      omega
  obtain ⟨N,hN⟩:∃ N,N=G.length:=⟨_,rfl⟩
  obtain ⟨r1,hr1⟩:∃ n,n=(buildP G).ids.length:=⟨_,rfl⟩
  obtain ⟨r2,hr2⟩:∃ n,n=(buildP G).seqs.length:=⟨_,rfl⟩
  obtain ⟨r3,hr3⟩:∃ n,n=(buildP G).keys.length:=⟨_,rfl⟩
  obtain ⟨r4,hr4⟩:∃ n,n=(buildP G).lists.length:=⟨_,rfl⟩
  have HBL:Hid (∀ (AG:Option Addr) (cG:Nat) w,Nest enS w w.heap.size AG G→Calls Tryz.prog 13 #[.slice AG N cG] w (GaveN r1 r2 r3 r4 (buildP G) w)):=Lib.hid fun AG cG w hn=>by
    subst hr1 hr2 hr3 hr4
    exact ref10_Build AG N cG G w hN.symm hn hadd
  have HMG:Hid (∀ (D1 D2 D3 D4:Option Addr) (d1 d2 d3 d4:Nat) w,PAt w w.heap.size D1 D2 D3 D4 (buildP G)→Calls Tryz.prog 9 #[.agg #[.slice D1 r1 d1,.slice D2 r2 d2,.slice D3 r3 d3,.slice D4 r4 d4]] w (MadeSeg (buildP G) w)):=Lib.hid fun D1 D2 D3 D4 d1 d2 d3 d4 w hp=>seg_Make D1 D2 D3 D4 r1 d1 r2 d2 r3 d3 r4 d4 (buildP G) w hr1.symm hr2.symm hr3.symm hr4.symm hp (build_few hadd) (build_small hadd) (build_may hadd)
  have HLG:Hid (∀ (Z:Nat) (D1 D2 D3 D4:Option Addr) (d1 d2 d3 d4:Nat) w,SegAt w Z (buildP G)→PAt w w.heap.size D1 D2 D3 D4 (buildP G)→Calls Tryz.prog 12 #[.pointer (some ⟨Z,0,none⟩),.agg #[.slice D1 r1 d1,.slice D2 r2 d2,.slice D3 r3 d3,.slice D4 r4 d4],.agg #[.string ⟨#[116]⟩,.string ⟨#[98]⟩]] w fun e w'=>e= .returned (.bool true)∧Below w.heap.size w w'):=Lib.hid fun Z D1 D2 D3 D4 d1 d2 d3 d4 w hz hp=>
    law10_like hz D1 D2 D3 D4 r1 d1 r2 d2 r3 d3 r4 d4 ⟨#[116]⟩ ⟨#[98]⟩ hr1.symm hr2.symm hr3.symm hr4.symm hp ⟨build_may hadd,build_small hadd,by simpa [buildP] using hadd.few⟩ (build_few hadd) (by decide) (by decide)
  obtain ⟨may,hmay⟩:∃ b,b=mayPs Y:=⟨_,rfl⟩
  have HMR:Hid (∀ (B1 B2 B3 B4:Option Addr) (e1 e2 e3 e4:Nat) w,PAt w w.heap.size B1 B2 B3 B4 Y→Calls Tryz.prog 8 #[.agg #[.slice B1 p1 e1,.slice B2 p2 e2,.slice B3 p3 e3,.slice B4 p4 e4]] w fun e w'=>e= .returned (.bool may)∧Below w.heap.size w w'):=Lib.hid fun B1 B2 B3 B4 e1 e2 e3 e4 w hp=>by
    rw [hmay]
    exact ref10_May B1 B2 B3 B4 p1 e1 p2 e2 p3 e3 p4 e4 Y w hp1.symm hp2.symm hp3.symm hp4.symm hp hpf
  have HMS2:Hid (∀ (B1 B2 B3 B4:Option Addr) (e1 e2 e3 e4:Nat) w,PAt w w.heap.size B1 B2 B3 B4 Y→Calls Tryz.prog 11 #[.agg #[.slice B1 p1 e1,.slice B2 p2 e2,.slice B3 p3 e3,.slice B4 p4 e4]] w fun e w'=>e= .returned (.bool may)∧Below w.heap.size w w'):=Lib.hid fun B1 B2 B3 B4 e1 e2 e3 e4 w hp=>by
    rw [hmay]
    exact seg_May B1 B2 B3 B4 p1 e1 p2 e2 p3 e3 p4 e4 Y w hp1.symm hp2.symm hp3.symm hp4.symm hp hpf (hp3▸hk3)
  have HMT:may=true→Hid (∀ (B1 B2 B3 B4:Option Addr) (e1 e2 e3 e4:Nat) w,PAt w w.heap.size B1 B2 B3 B4 Y→Calls Tryz.prog 9 #[.agg #[.slice B1 p1 e1,.slice B2 p2 e2,.slice B3 p3 e3,.slice B4 p4 e4]] w (MadeSeg Y w)):=fun hm=>Lib.hid fun B1 B2 B3 B4 e1 e2 e3 e4 w hp=>by
    have ok:=hlk (by rw [← hmay];exact hm)
    exact seg_Make B1 B2 B3 B4 p1 e1 p2 e2 p3 e3 p4 e4 Y w hp1.symm hp2.symm hp3.symm hp4.symm hp hpf ok.small ok.may
  have HMF:may=false→Hid (∀ (B1 B2 B3 B4:Option Addr) (e1 e2 e3 e4:Nat) w,PAt w w.heap.size B1 B2 B3 B4 Y→Calls Tryz.prog 9 #[.agg #[.slice B1 p1 e1,.slice B2 p2 e2,.slice B3 p3 e3,.slice B4 p4 e4]] w (NoSeg w)):=fun hm=>Lib.hid fun B1 B2 B3 B4 e1 e2 e3 e4 w hp=>
    seg_Make_no B1 B2 B3 B4 p1 e1 p2 e2 p3 e3 p4 e4 Y w hp1.symm hp2.symm hp3.symm hp4.symm hp hpf (hp3▸hk3) (by rw [← hmay];exact hm)
  have HLT:may=true→Hid (∀ (S:Nat) (B1 B2 B3 B4:Option Addr) (e1 e2 e3 e4:Nat) w,SegAt w S Y→PAt w w.heap.size B1 B2 B3 B4 Y→Calls Tryz.prog 12 #[.pointer (some ⟨S,0,none⟩),.agg #[.slice B1 p1 e1,.slice B2 p2 e2,.slice B3 p3 e3,.slice B4 p4 e4],.agg #[.string ⟨#[116]⟩,.string ⟨#[97]⟩]] w fun e w'=>e= .returned (.bool true)∧Below w.heap.size w w'):=fun hm=>Lib.hid fun S B1 B2 B3 B4 e1 e2 e3 e4 w hz hp=>
    law10_like hz B1 B2 B3 B4 p1 e1 p2 e2 p3 e3 p4 e4 ⟨#[116]⟩ ⟨#[97]⟩ hp1.symm hp2.symm hp3.symm hp4.symm hp (hlk (by rw [← hmay];exact hm)) hpf (by decide) (by decide)
  have HN:=Lib.hid hN
  have HW1:=Lib.hid hw1
  have HB1:=Lib.hid hb1
  have hPW:w1.heap[W.heap.size]?=some (.cells #[.slice A1 n1 c1,.slice A2 n2 c2,.slice A3 n3 c3,.slice A4 n4 c4] 26 (0,0)):=by rw [hw1];exact heap_alloc_new W _
  obtain ⟨i0,i1,i2,i3⟩:=cells4 hPW
  rw [hw1] at i0 i1 i2 i3
  clear hx1 hx2 hx3 hx4 hx l1 l2 l3 l4 hkl hY hpf hlk hk3 hp1 hp2 hp3 hp4 hb1 hG hadd hN hr1 hr2 hr3 hr4 h1 hmay hPW hw1
  go_enter Tryz.func3,Tryz.ntmps3
  go_upto_region 2 with (go_at_call 7;(try rw [show W.alloc _=w1 from HW1.out.symm]);(with_reducible refine HFW.out.mono ?_);rintro e w2 ⟨B1,e1,B2,e2,B3,e3,B4,e4,rfl,hp2,hb2⟩)
  obtain ⟨w3,hw3⟩:∃ w3,w3=w2.alloc (.cells #[.slice B1 p1 e1,.slice B2 p2 e2,.slice B3 p3 e3,.slice B4 p4 e4] 26):=⟨_,rfl⟩
  have hb3:Below w2.heap.size w2 w3:=by rw [hw3];exact (Below.refl _ w2).alloc (Nat.le_refl _) _
  have hP3:w3.heap[w2.heap.size]?=some (.cells #[.slice B1 p1 e1,.slice B2 p2 e2,.slice B3 p3 e3,.slice B4 p4 e4] 26 (0,0)):=by rw [hw3];exact heap_alloc_new w2 _
  have HRC:Hid (∀ w',Below w3.heap.size w3 w'→w'.cell? ⟨w2.heap.size,0,none⟩=some (.slice B1 p1 e1)∧w'.cell? ⟨w2.heap.size,1,none⟩=some (.slice B2 p2 e2)∧w'.cell? ⟨w2.heap.size,2,none⟩=some (.slice B3 p3 e3)∧w'.cell? ⟨w2.heap.size,3,none⟩=some (.slice B4 p4 e4)):=Lib.hid fun w' h=>cells4 ((h.block _ (lt_of_block hP3)).trans hP3)
  have HPA:Hid (∀ w',Below w3.heap.size w3 w'→PAt w' w'.heap.size B1 B2 B3 B4 Y):=Lib.hid fun w' h=>(hp2.later hb3).later h
  have HW2:=Lib.hid (HB1.out.trans (hb2.mono HB1.out.size))
  have HW3:=Lib.hid (HW2.out.trans (hb3.mono HW2.out.size))
  have HMRX:=Lib.hid (HMR.out B1 B2 B3 B4 e1 e2 e3 e4 w3 (HPA.out _ (Below.refl _ _)))
  rw [show w2.alloc _=w3 from hw3.symm]
  clear hp2 hb2 hb3 hP3 hw3 i0 i1 i2 i3
  obtain ⟨q0,q1,q2,q3⟩:=HRC.out w3 (Below.refl _ _)
  go_upto_region 3 with (go_at_call 8;(with_reducible refine HMRX.out.mono ?_);rintro e w4 ⟨rfl,hb4⟩)
  have HC4:=Lib.hid hb4
  clear q0 q1 q2 q3 hb4
  obtain ⟨q0,q1,q2,q3⟩:=HRC.out w4 HC4.out
  cases may with
  |true=>
    have HMS:=HMT rfl
    have HLS:=HLT rfl
    clear HMT HMF HLT
    go_wp2_with (first
      | (go_at_call 10; (with_reducible refine (law10_parts B1 B2 B3 B4 p1 e1 p2 e2 p3 e3 p4 e4 w4).mono ?_); rintro e w5 ⟨rfl, hb⟩
         have HC5:=Lib.hid (HC4.out.trans (hb.mono HC4.out.size))
         have HMX:=Lib.hid (HMS.out B1 B2 B3 B4 e1 e2 e3 e4 w5 (HPA.out _ HC5.out))
         clear hb)
      | (go_at_call 9; (with_reducible refine HMX.out.mono ?_); rintro e w6 ⟨S, rfl, hs, -, hb⟩
         have HC6:=Lib.hid (HC5.out.trans (hb.mono HC5.out.size))
         have HS6:=Lib.hid hs
         clear hs
         clear hb q0 q1 q2 q3
         obtain ⟨q0,q1,q2,q3⟩:=HRC.out w6 HC6.out)
      | (go_at_call 10; (with_reducible refine (law10_parts B1 B2 B3 B4 p1 e1 p2 e2 p3 e3 p4 e4 w6).mono ?_); rintro e w7 ⟨rfl, hb⟩
         have HC7:=Lib.hid (HC6.out.trans (hb.mono HC6.out.size))
         have HS7:=Lib.hid (HS6.out.below hb)
         have HMY:=Lib.hid (HMS2.out B1 B2 B3 B4 e1 e2 e3 e4 w7 (HPA.out _ HC7.out))
         clear hb)
      | (go_at_call 11; (with_reducible refine HMY.out.mono ?_); rintro e w8 ⟨rfl, hb⟩
         have HC8:=Lib.hid (HC7.out.trans (hb.mono HC7.out.size))
         have HW8:=Lib.hid (HW3.out.trans (HC8.out.mono HW3.out.size))
         have HLX:=Lib.hid (HLS.out S B1 B2 B3 B4 e1 e2 e3 e4 w8 (HS7.out.below hb) (HPA.out _ HC8.out))
         clear hb q0 q1 q2 q3
         obtain ⟨q0,q1,q2,q3⟩:=HRC.out w8 HC8.out)
      | (go_at_call 12; (with_reducible refine HLX.out.mono ?_); rintro e w9 ⟨rfl, hb⟩
         have HW9:=Lib.hid (HW8.out.trans (hb.mono HW8.out.size))
         clear hb)
      | (go_at_call 14; (with_reducible refine (HGD.out _ HW9.out).mono ?_); rintro e v1 ⟨V, rfl, ho, hb⟩
         obtain ⟨AG,cG,rfl,hcG,hu⟩:=ho.nest
         rw [← HN.out] at hcG ⊢
         have HRB:=Lib.hid (HBL.out AG cG v1 hu)
         have HV1:=Lib.hid (HW9.out.trans (hb.mono HW9.out.size))
         clear ho hb hu)
      | (go_at_call 13; (with_reducible refine HRB.out.mono ?_); rintro e v2 ⟨D1, d1, D2, d2, D3, d3, D4, d4, rfl, hp, hb⟩
         have HV2:=Lib.hid (HV1.out.trans (hb.mono HV1.out.size))
         obtain ⟨v3,hv3⟩:∃ v3,v3=v2.alloc (.cells #[.slice D1 r1 d1,.slice D2 r2 d2,.slice D3 r3 d3,.slice D4 r4 d4] 26):=⟨_,rfl⟩
         have hb3:Below v2.heap.size v2 v3:=by rw [hv3];exact (Below.refl _ v2).alloc (Nat.le_refl _) _
         have hP3:v3.heap[v2.heap.size]?=some (.cells #[.slice D1 r1 d1,.slice D2 r2 d2,.slice D3 r3 d3,.slice D4 r4 d4] 26 (0,0)):=by rw [hv3];exact heap_alloc_new v2 _
         have HRD:Hid (∀ w',Below v3.heap.size v3 w'→w'.cell? ⟨v2.heap.size,0,none⟩=some (.slice D1 r1 d1)∧w'.cell? ⟨v2.heap.size,1,none⟩=some (.slice D2 r2 d2)∧w'.cell? ⟨v2.heap.size,2,none⟩=some (.slice D3 r3 d3)∧w'.cell? ⟨v2.heap.size,3,none⟩=some (.slice D4 r4 d4)):=Lib.hid fun w' h=>cells4 ((h.block _ (lt_of_block hP3)).trans hP3)
         have HPD:Hid (∀ w',Below v3.heap.size v3 w'→PAt w' w'.heap.size D1 D2 D3 D4 (buildP G)):=Lib.hid fun w' h=>(hp.later hb3).later h
         have HV3:=Lib.hid (HV2.out.trans (hb3.mono HV2.out.size))
         have HV:=Lib.hid hv3
         clear hp hb hb3 hP3 hv3)
      | (go_at_call 10; (try rw [show v2.alloc _ = v3 from HV.out.symm]); (with_reducible refine (law10_parts D1 D2 D3 D4 r1 d1 r2 d2 r3 d3 r4 d4 v3).mono ?_); rintro e v4 ⟨rfl, hb⟩
         have HU4:=Lib.hid hb
         have HMK:=Lib.hid (HMG.out D1 D2 D3 D4 d1 d2 d3 d4 v4 (HPD.out _ HU4.out))
         clear hb)
      | (go_at_call 9; (with_reducible refine HMK.out.mono ?_); rintro e v5 ⟨Z, rfl, hz, -, hb⟩
         have HU5:=Lib.hid (HU4.out.trans (hb.mono HU4.out.size))
         have HLK:=Lib.hid (HLG.out Z D1 D2 D3 D4 d1 d2 d3 d4 v5 hz (HPD.out _ HU5.out))
         obtain ⟨qd0,qd1,qd2,qd3⟩:=HRD.out v5 HU5.out
         clear hz hb)
      | (go_at_call 12; (with_reducible refine HLK.out.mono ?_); rintro e v6 ⟨rfl, hb⟩
         have HU6:=Lib.hid (HU5.out.trans (hb.mono HU5.out.size))
         clear hb)
      | (go_at_call 15; (with_reducible refine (law10_lives v6).mono ?_); rintro e v7 ⟨rfl, hb⟩
         have HU7:=Lib.hid (HU6.out.trans (hb.mono HU6.out.size))
         clear hb))
    go_ret
    exact ⟨rfl,HV3.out.trans (HU7.out.mono HV3.out.size)⟩
  |false=>
    have HMS:=HMF rfl
    clear HMT HMF HLT
    go_wp2_with (first
      | (go_at_call 10; (with_reducible refine (law10_parts B1 B2 B3 B4 p1 e1 p2 e2 p3 e3 p4 e4 w4).mono ?_); rintro e w5 ⟨rfl, hb⟩
         have HC5:=Lib.hid (HC4.out.trans (hb.mono HC4.out.size))
         have HMX:=Lib.hid (HMS.out B1 B2 B3 B4 e1 e2 e3 e4 w5 (HPA.out _ HC5.out))
         clear hb)
      | (go_at_call 9; (with_reducible refine HMX.out.mono ?_); rintro e w6 ⟨rfl, hb⟩
         have HC6:=Lib.hid (HC5.out.trans (hb.mono HC5.out.size))
         clear hb q0 q1 q2 q3
         obtain ⟨q0,q1,q2,q3⟩:=HRC.out w6 HC6.out)
      | (go_at_call 10; (with_reducible refine (law10_parts B1 B2 B3 B4 p1 e1 p2 e2 p3 e3 p4 e4 w6).mono ?_); rintro e w7 ⟨rfl, hb⟩
         have HC7:=Lib.hid (HC6.out.trans (hb.mono HC6.out.size))
         have HMY:=Lib.hid (HMS2.out B1 B2 B3 B4 e1 e2 e3 e4 w7 (HPA.out _ HC7.out))
         clear hb)
      | (go_at_call 11; (with_reducible refine HMY.out.mono ?_); rintro e w8 ⟨rfl, hb⟩
         have HC8:=Lib.hid (HC7.out.trans (hb.mono HC7.out.size))
         have HW8:=Lib.hid (HW3.out.trans (HC8.out.mono HW3.out.size))
         clear hb q0 q1 q2 q3
         obtain ⟨q0,q1,q2,q3⟩:=HRC.out w8 HC8.out)
      | (go_at_call 14; (with_reducible refine (HGD.out _ HW8.out).mono ?_); rintro e v1 ⟨V, rfl, ho, hb⟩
         obtain ⟨AG,cG,rfl,hcG,hu⟩:=ho.nest
         rw [← HN.out] at hcG ⊢
         have HRB:=Lib.hid (HBL.out AG cG v1 hu)
         have HV1:=Lib.hid (HW8.out.trans (hb.mono HW8.out.size))
         clear ho hb hu)
      | (go_at_call 13; (with_reducible refine HRB.out.mono ?_); rintro e v2 ⟨D1, d1, D2, d2, D3, d3, D4, d4, rfl, hp, hb⟩
         have HV2:=Lib.hid (HV1.out.trans (hb.mono HV1.out.size))
         obtain ⟨v3,hv3⟩:∃ v3,v3=v2.alloc (.cells #[.slice D1 r1 d1,.slice D2 r2 d2,.slice D3 r3 d3,.slice D4 r4 d4] 26):=⟨_,rfl⟩
         have hb3:Below v2.heap.size v2 v3:=by rw [hv3];exact (Below.refl _ v2).alloc (Nat.le_refl _) _
         have hP3:v3.heap[v2.heap.size]?=some (.cells #[.slice D1 r1 d1,.slice D2 r2 d2,.slice D3 r3 d3,.slice D4 r4 d4] 26 (0,0)):=by rw [hv3];exact heap_alloc_new v2 _
         have HRD:Hid (∀ w',Below v3.heap.size v3 w'→w'.cell? ⟨v2.heap.size,0,none⟩=some (.slice D1 r1 d1)∧w'.cell? ⟨v2.heap.size,1,none⟩=some (.slice D2 r2 d2)∧w'.cell? ⟨v2.heap.size,2,none⟩=some (.slice D3 r3 d3)∧w'.cell? ⟨v2.heap.size,3,none⟩=some (.slice D4 r4 d4)):=Lib.hid fun w' h=>cells4 ((h.block _ (lt_of_block hP3)).trans hP3)
         have HPD:Hid (∀ w',Below v3.heap.size v3 w'→PAt w' w'.heap.size D1 D2 D3 D4 (buildP G)):=Lib.hid fun w' h=>(hp.later hb3).later h
         have HV3:=Lib.hid (HV2.out.trans (hb3.mono HV2.out.size))
         have HV:=Lib.hid hv3
         clear hp hb hb3 hP3 hv3)
      | (go_at_call 10; (try rw [show v2.alloc _ = v3 from HV.out.symm]); (with_reducible refine (law10_parts D1 D2 D3 D4 r1 d1 r2 d2 r3 d3 r4 d4 v3).mono ?_); rintro e v4 ⟨rfl, hb⟩
         have HU4:=Lib.hid hb
         have HMK:=Lib.hid (HMG.out D1 D2 D3 D4 d1 d2 d3 d4 v4 (HPD.out _ HU4.out))
         clear hb)
      | (go_at_call 9; (with_reducible refine HMK.out.mono ?_); rintro e v5 ⟨Z, rfl, hz, -, hb⟩
         have HU5:=Lib.hid (HU4.out.trans (hb.mono HU4.out.size))
         have HLK:=Lib.hid (HLG.out Z D1 D2 D3 D4 d1 d2 d3 d4 v5 hz (HPD.out _ HU5.out))
         obtain ⟨qd0,qd1,qd2,qd3⟩:=HRD.out v5 HU5.out
         clear hz hb)
      | (go_at_call 12; (with_reducible refine HLK.out.mono ?_); rintro e v6 ⟨rfl, hb⟩
         have HU6:=Lib.hid (HU5.out.trans (hb.mono HU5.out.size))
         clear hb)
      | (go_at_call 15; (with_reducible refine (law10_lives v6).mono ?_); rintro e v7 ⟨rfl, hb⟩
         have HU7:=Lib.hid (HU6.out.trans (hb.mono HU6.out.size))
         clear hb))
    go_ret
    exact ⟨rfl,HV3.out.trans (HU7.out.mono HV3.out.size)⟩
end Go.Proofs.YtmoomnpbiifedaaGreat
