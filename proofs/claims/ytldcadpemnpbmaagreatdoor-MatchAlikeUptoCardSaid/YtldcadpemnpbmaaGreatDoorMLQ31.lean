import Derived.Test.YtldcadpemnpbmaaGreatDoorMLZz
import Derived.Test.YtldcadpemnpbmaaGreatDoorMLQ30
set_option linter.unusedVariables false
namespace Go.Proofs.YtldcadpemnpbmaaGreatDoor
open Go Go.RowKit
def BuildRelS1 (B P:Nat) (V:Value) (G:List En) (w:World) (i:Value) (wr:World):Prop:=∃ (k:Nat) (S:Nat→Prop) (v1 v2:Value),k≤G.length∧i= .int .i64 (k:Int)∧SRig S B (G.take k) (lastE (G.take k)) V G w wr∧
 GatI 91 w.heap.size w.heap.size P v1 v2 ((G.take k).map (·.1)) ((G.take k).map (·.2.2)) wr∧¬ S P∧(∀ g,v1.ownBlock=some g→¬ S g)∧∀ g,v2.ownBlock=some g→¬ S g
def BuildRelS2 (S:Nat→Prop) (B P base:Nat) (V:Value) (G:List En) (W1 W2 W3:Value) (A1 A2:Option Addr) (w:World) (i:Value) (wr:World):Prop:=∃ (k:Nat) (v4:Value),k≤(keysE G).length∧i= .int .i64 (k:Int)∧SRig S B G (lastE G) V G w wr∧
 GatL 91 w.heap.size base P W1 W2 W3 v4 (keysE G) ((buildP G).lists.take k) wr∧RowG w.heap.size 3 wr A1 (ints (buildP G).ids)∧RowG w.heap.size 3 wr A2 (ints (buildP G).seqs)
set_option maxHeartbeats 16000000 in
set_option maxRecDepth 100000 in
theorem seg_BuildS (V:Value) (G:List En) (w:World) (hV:SeenES (fun k=>k<w.heap.size) w V G) (hG:AddOk G):Calls Tryz.prog 13 #[V] w (MadeSeg (buildP G) w):=by
  obtain ⟨i0,hi0,hz0,hz1,hz2⟩:=info_parts info_int
  obtain ⟨j0,hj0,hj1,hj2,hj3⟩:=info_parts info_lists
  obtain ⟨AV,cV,csV,rfl,hcV,_,_⟩:=id hV
  have HV:=Lib.hid hV
  have HG:=Lib.hid hG
  obtain ⟨N,hN⟩:∃ N,N=G.length:=⟨_,rfl⟩
  have hN100:N≤100:=by rw [hN];exact hG.few
  rw [← hN] at HV hcV ⊢
  have HN:=Lib.hid hN
  clear hV hG hN
  have HST:Hid (∀ (S:Nat→Prop) (B:Nat) (w1:World),BufAt S w1 B [] (-1)→(∀ k,S k→w.heap.size≤k)→Below w.heap.size w w1→BuildRelS1 B w1.heap.size (.slice AV N cV) G w (.int .i64 ((0:Nat):Int)) (w1.alloc (.cells #[.slice none 0 0,.slice none 0 0,.slice none 0 0,.slice none 0 0] 91))):=Lib.hid fun S B w1 hb hS hw1=>by
    have hal:Below w1.heap.size w1 (w1.alloc (.cells #[.slice none 0 0,.slice none 0 0,.slice none 0 0,.slice none 0 0] 91)):=(Below.refl _ _).alloc (Nat.le_refl _) _
    have hbel:=hw1.trans (hal.mono hw1.size)
    refine ⟨0,S,.slice none 0 0,.slice none 0 0,Nat.zero_le _,rfl,⟨hb.below hal,hS,HV.out.keeps hbel.size fun k hk _=>hbel.block k hk,hbel⟩,⟨heap_alloc_new w1 _,hw1.size,Nat.le_refl _,hbel.size,World.ownsRow_nil _ _ _ _,World.ownsRow_nil _ _ _ _,fun g hg=>by cases hg⟩,fun hs=>Nat.lt_irrefl _ (hb.lt _ hs),(fun g hg=>by cases hg),fun g hg=>by cases hg⟩
  go_enter Tryz.func13,Tryz.ntmps13
  go_wp2_with (go_at_call 40; refine (buf_New w).mono ?_; rintro e w1 ⟨S0, B, rfl, hb1, hS1, hw1⟩
               have HR1:=Lib.hid (HST.out S0 B w1 hb1 hS1 hw1)
               have HP1:Hid (w.heap.size≤w1.heap.size):=Lib.hid hw1.size
               clear hb1 hS1 hw1)
  obtain ⟨P,hP⟩:∃ P,P=w1.heap.size:=⟨_,rfl⟩
  have hR1:=HR1.out
  rw [← hP] at hR1 ⊢
  have HR2:=Lib.hid hR1
  clear HR1 HST hR1 hP HP1
  go_loopw [15] (fun i wr=>BuildRelS1 B P (.slice AV N cV) G w i wr) (fun i _=>N-(intOf i).toNat)
  case atStart=>exact HR2.out
  case round=>
    obtain ⟨k,S,v1,v2,hk,rfl,hrig,hgat,hSP,hS1,hS2⟩:=hrel
    rw [← HN.out] at hk
    by_cases hlt:k<N
    · have hkl:k<G.length:=by rw [← HN.out];exact hlt
      obtain ⟨hn0,hnu⟩:=HG.out.next hkl
      obtain ⟨b,off,c0,A',c',hv,hbb,e0,e1,e2,hadd⟩:=hrig.add HG.out (by rw [List.length_take];omega) hkl hn0 hnu
      have hAV:AV=some ⟨b,off,none⟩:=by injection hv
      subst hAV
      have hts:G.take (k+1)=G.take k++[G[k]]:=List.take_succ_eq_append_getElem hkl
      have htl:(G.take k).length=k:=by rw [List.length_take];omega
      obtain ⟨gk,hgk⟩:∃ gk,gk=G[k]:=⟨_,rfl⟩
      rw [← hgk] at e0 e1 e2 hadd hts
      obtain ⟨q1,d,q3⟩:=gk
      simp only at e0 e1 e2 hadd
      obtain ⟨m,hm⟩:∃ m,m=d.length:=⟨_,rfl⟩
      rw [← hm] at e1 hadd
      obtain ⟨wr1,hwr1⟩:∃ wr1,wr1=wr.alloc (.cells #[.int .i64 q1,.slice A' m c',.int .i64 q3] 85):=⟨_,rfl⟩
      have hal:Below wr.heap.size wr wr1:=by rw [hwr1];exact (Below.refl _ _).alloc (Nat.le_refl _) _
      have hE1:wr1.heap[wr.heap.size]?=some (.cells #[.int .i64 q1,.slice A' m c',.int .i64 q3] 85 (0,0)):=by rw [hwr1];exact heap_alloc_new wr _
      have hsz1:wr1.heap.size=wr.heap.size+1:=by rw [hwr1];simp
      have HADD:=Lib.hid (hadd wr1 hal)
      have HSLT:Hid (∀ k,S k→k<wr.heap.size):=Lib.hid hrig.buf.lt
      obtain ⟨XS,hXS⟩:∃ XS,XS=(G.take k).map (·.1):=⟨_,rfl⟩
      obtain ⟨YS,hYS⟩:∃ YS,YS=(G.take k).map (·.2.2):=⟨_,rfl⟩
      have hXL:XS.length=k:=by rw [hXS,List.length_map,htl]
      have hYL:YS.length=k:=by rw [hYS,List.length_map,htl]
      rw [← hXS,← hYS] at hgat
      have HXL:=Lib.hid hXL
      have HYL:=Lib.hid hYL
      have HXS:=Lib.hid hXS
      have HYS:=Lib.hid hYS
      clear hXS hYS hXL hYL
      have HGAT:=Lib.hid hgat
      have HSP:=Lib.hid hSP
      have HS1:=Lib.hid hS1
      have HS2:=Lib.hid hS2
      have HWR1:=Lib.hid hwr1
      have HAL:=Lib.hid hal
      have HE1:=Lib.hid hE1
      have HSZ1:=Lib.hid hsz1
      have HTS:=Lib.hid hts
      have HTL:=Lib.hid htl
      have k0:(0:Int)≤k:=by omega
      have k1:(k:Int)<N:=by omega
      have HBW:=Lib.hid hrig.bel
      clear hrig hgat hSP hS1 hS2 hwr1 hal hE1 hsz1 hadd hgk hm hts htl hn0 hnu hv hkl
      go_wp2_with (first
                | (go_at_call 41; rw [show wr.alloc _ = wr1 from HWR1.out.symm]; refine HADD.out.mono ?_; rintro e w5 ⟨rfl, S', hrig5, hS5, ho5⟩
                   have hg5:GatI 91 w.heap.size w.heap.size P v1 v2 XS YS w5:=(HGAT.out.below HAL.out).keep (fun j hj hj'=>ho5.block j hj (by rcases hj' with rfl|h|h<;>first|exact HSP.out|exact HS1.out _ h|exact HS2.out _ h)) ho5.size
                   have hE5:w5.heap[wr.heap.size]?=some (.cells #[.int .i64 q1,.slice A' m c',.int .i64 q3] 85 (0,0)):=(ho5.block _ (by rw [HSZ1.out];exact Nat.lt_succ_self _) (fun h=>Nat.lt_irrefl _ (HSLT.out _ h))).trans HE1.out
                   have hSP5:¬ S' P:=fun h=>(hS5 P h).elim HSP.out fun h=>by have :=HGAT.out.lt;have :=HSZ1.out;omega
                   have hS15:∀ g,v1.ownBlock=some g→¬ S' g:=fun g hg h=>(hS5 g h).elim (HS1.out g hg) fun h=>by have :=(HGAT.out.ids.lt g hg).2;have :=HSZ1.out;omega
                   have hS25:∀ g,v2.ownBlock=some g→¬ S' g:=fun g hg h=>(hS5 g h).elim (HS2.out g hg) fun h=>by have :=(HGAT.out.seqs.lt g hg).2;have :=HSZ1.out;omega
                   have p0:=(four10 hg5.cells).1.1
                   have x0:=(cells3 hE5).1
                   have ho1:=hg5.ids
                   rw [HXL.out] at ho1
                   have HO5:=Lib.hid ho1
                   clear ho1
                   have HRIG5:=Lib.hid hrig5
                   have HG5:=Lib.hid hg5
                   have HE5:=Lib.hid hE5
                   have HSP5:=Lib.hid hSP5
                   have HS15:=Lib.hid hS15
                   have HS25:=Lib.hid hS25
                   have HEV:Hid ((∀ g,v1.ownBlock=some g→g<wr.heap.size)∧(∀ g,v2.ownBlock=some g→g<wr.heap.size)∧P<wr.heap.size∧wr.heap.size<w5.heap.size):=Lib.hid ⟨fun g hg=>(HGAT.out.ids.lt g hg).2,fun g hg=>(HGAT.out.seqs.lt g hg).2,HGAT.out.lt,(Array.getElem?_eq_some_iff.1 hE5).1⟩
                   clear hrig5 hg5 hE5 hSP5 hS15 hS25 hS5 ho5)
                |(at_builtin;refine wpList_append_own_at _ rfl (.tmp 26) (.tmp 30) 88 rfl w.heap.size 3 i0 _ 1 8 Tryz.underlying88 hi0 hz0 hz1 hz2 rfl (by omega) v1 k (ints XS) rfl (HO5.out.alloc _) ⟨w5.heap.size,0,none⟩ 1 1 [.int .i64 q1] rfl rfl (news_at w5 [.int .i64 q1] 3) (by intro u hu;simp at hu;subst hu;rfl) (by unfold maxLen;omega) (by omega) (by have :=HG5.out.size;simp;omega) ?_))
      intro v1' w6 hown6 hgrow6 hz6 hat6
      clear hz6
      obtain ⟨g1',cap1',hv1',_,_⟩:=hown6.form (by omega)
      subst hv1'
      have hal5:Below w5.heap.size w5 (w5.alloc (.cells #[.int .i64 q1] 3)):=(Below.refl _ _).alloc (Nat.le_refl _) _
      obtain ⟨hP6,hg6,hb6,hk6⟩:=(HG5.out.below hal5).id (by decide) (by rw [HXL.out];exact hown6) hgrow6 (hat6.imp id fun h=>h.trans (by simp))
      obtain ⟨⟨r0,_⟩,s0,_⟩:=four10 hP6
      obtain ⟨w7,hw7⟩:∃ w7,w7=w6.setCell ⟨P,0,none⟩ (.slice (some ⟨g1',0,none⟩) (k+1) cap1'):=⟨_,rfl⟩
      rw [← hw7] at hg6 hb6 hk6
      have hsz5a:(w5.alloc (.cells #[.int .i64 q1] 3)).heap.size=w5.heap.size+1:=by simp
      have hkk:∀ j,j<w5.heap.size→j≠P→v1.ownBlock≠some j→w7.heap[j]?=w5.heap[j]?:=fun j hj h1 h2=>(hk6 j (by omega) h1 h2).trans (hal5.block j hj)
      have hE7:=(hkk wr.heap.size HEV.out.2.2.2 (by have :=HEV.out.2.2.1;omega) (fun e=>Nat.lt_irrefl _ (HEV.out.1 _ e))).trans HE5.out
      have p1:=(four10 hg6.cells).1.2.1
      have x2:=(cells3 hE7).2.2
      rw [hw7] at p1 x2
      have hS1g:∀ g,(Value.slice (some ⟨g1',0,none⟩) (k+1) cap1').ownBlock=some g→¬ S' g:=fun g hg hs=>by
        rcases hat6 with hat|hat
        · exact HS15.out g (hat▸hg) hs
        · rw [hat] at hg
          injection hg with hg
          have :=HRIG5.out.buf.lt g hs
          omega
      have hb57:Below w.heap.size w5 w7:=(hal5.mono HRIG5.out.bel.size).trans hb6
      have HB57:=Lib.hid hb57
      have HKK:=Lib.hid hkk
      have HS1G:=Lib.hid hS1g
      have ho2:=hg6.seqs
      rw [HYL.out,hw7] at ho2
      have HO7:=Lib.hid ho2
      have hnw:=news_at w7 [.int .i64 q3] 3
      rw [show (⟨w7.heap.size,0,none⟩:Addr)=⟨w6.heap.size,0,none⟩ by rw [hw7];simp,hw7] at hnw
      have HNW:=Lib.hid hnw
      have HSB:Hid (w.heap.size≤((w6.setCell ⟨P,0,none⟩ (.slice (some ⟨g1',0,none⟩) (k+1) cap1')).alloc (.cells #[.int .i64 q3] 3)).heap.size):=Lib.hid (by rw [← hw7];have :=hg6.size;simp;omega)
      clear hnw
      clear ho2
      have HG7:=Lib.hid hg6
      have HW7:=Lib.hid hw7
      have HSZ7:Hid (w5.heap.size≤w7.heap.size):=Lib.hid hb57.size
      clear hown6 hgrow6 hat6 hal5 hP6 hg6 hb6 hk6 hw7 hsz5a hkk hE7 hS1g hb57 p0 x0
      go_wp2_with (at_builtin;refine wpList_append_own_at _ rfl (.tmp 34) (.tmp 37) 88 rfl w.heap.size 3 i0 _ 1 8 Tryz.underlying88 hi0 hz0 hz1 hz2 rfl (by omega) v2 k (ints YS) rfl (HO7.out.alloc _) ⟨w6.heap.size,0,none⟩ 1 1 [.int .i64 q3] rfl rfl HNW.out (by intro u hu;simp at hu;subst hu;rfl) (by unfold maxLen;omega) (by omega) HSB.out ?_)
      intro v2' w8 hown8 hgrow8 hz8 hat8
      clear hz8
      rw [← HW7.out] at hgrow8
      have hat8:v2'.ownBlock=v2.ownBlock∨v2'.ownBlock=some (w7.heap.size+1):=hat8.imp id fun h=>h.trans (by rw [HW7.out];simp)
      obtain ⟨g2',cap2',hv2',_,_⟩:=hown8.form (by omega)
      subst hv2'
      have hal7:Below w7.heap.size w7 (w7.alloc (.cells #[.int .i64 q3] 3)):=(Below.refl _ _).alloc (Nat.le_refl _) _
      obtain ⟨hP8,hg8,hb8,hk8⟩:=(HG7.out.below hal7).seq (by decide) (by rw [HYL.out];exact hown8) hgrow8 (hat8.imp id fun h=>h.trans (by simp))
      obtain ⟨⟨_,r1,_⟩,_,s1,_⟩:=four10 hP8
      have hsz7a:(w7.alloc (.cells #[.int .i64 q3] 3)).heap.size=w7.heap.size+1:=by simp
      have hrel:BuildRelS1 B P (.slice (some ⟨b,off,none⟩) N cV) G w (.int .i64 ((k:Int)+1)) (w8.setCell ⟨P,1,none⟩ (.slice (some ⟨g2',0,none⟩) (k+1) cap2')):=by
        refine ⟨k+1,S',.slice (some ⟨g1',0,none⟩) (k+1) cap1',.slice (some ⟨g2',0,none⟩) (k+1) cap2',by rw [← HN.out];omega,by go_num,?_,?_,HSP5.out,HS1G.out,fun g hg hs=> ?_⟩
        · have hbb:=HB57.out.trans ((hal7.mono (by have :=HRIG5.out.bel.size;have :=HSZ7.out;omega)).trans hb8)
          have :=HRIG5.out.keep (w':=w8.setCell ⟨P,1,none⟩ (.slice (some ⟨g2',0,none⟩) (k+1) cap2')) (fun j hj=>by
            have hj5:=HRIG5.out.buf.lt j hj
            have hjP:j≠P:=by rintro rfl;exact HSP5.out hj
            have h57:=HKK.out j hj5 hjP (fun e=>HS15.out j e hj)
            exact ((hk8 j (by have :=HSZ7.out;omega) hjP (fun e=>HS25.out j e hj)).trans (hal7.block j (by have :=HSZ7.out;omega))).trans h57) hbb
          rw [HTS.out,lastE_snoc]
          exact this
        · rw [HTS.out,List.map_append,List.map_append,← HXS.out,← HYS.out]
          exact hg8
        · rcases hat8 with hat|hat
          · exact HS25.out g (hat▸hg) hs
          · rw [hat] at hg
            injection hg with hg
            have :=HRIG5.out.buf.lt g hs
            have :=HSZ7.out
            omega
      have HRL:=Lib.hid hrel
      clear hown8 hgrow8 hat8 hal7 hP8 hg8 hb8 hk8 hsz7a hrel
      go_wp2
      go_roundw
      case rel=>exact HRL.out
      case measure=>simp [intOf];omega
    · have hke:k=N:=by omega
      subst hke
      have htk:G.take k=G:=List.take_of_length_le (by rw [HN.out];exact Nat.le_refl _)
      rw [htk] at hrig hgat
      have hids:G.map (·.1)=(buildP G).ids:=rfl
      have hseqs:G.map (·.2.2)=(buildP G).seqs:=rfl
      rw [hids,hseqs] at hgat
      have HKEY:=Lib.hid (buf_Keys hrig.buf (by have :=HN.out;omega))
      have HRIG:=Lib.hid hrig
      have HGAT:=Lib.hid hgat
      have HSP:=Lib.hid hSP
      obtain ⟨A1,c1,A2,c2,rfl,rfl,hc1,hc2,_,_⟩:=hgat.rowG
      have hl1:(buildP G).ids.length=k:=by rw [HN.out];simp [buildP]
      have hl2:(buildP G).seqs.length=k:=by rw [HN.out];simp [buildP]
      have HL1:=Lib.hid hl1
      have HL2:=Lib.hid hl2
      clear hrig hgat hSP hS1 hS2 htk hids hseqs hlt hc1 hc2 hl1 hl2
      go_wp2_with (go_at_call 42; refine HKEY.out.mono ?_; rintro e w8 ⟨v8, rfl, ho8, hb8⟩
                   have hg8:=HGAT.out.below hb8
                   obtain ⟨A8,c8,rfl,hc8,hu8⟩:=OwnNm.row ho8
                   obtain ⟨⟨_,_,r2,_⟩,_,_,s2,_⟩:=four10 hg8.cells
                   obtain ⟨hgl,hkl,hbl⟩:=hg8.lists (by unfold PoK;decide) (by decide) (bk:=wr.heap.size) (ks:=keysE G) ho8
                   have r2':=(four10 hgl.cells).1.2.2.1
                   have HGL:=Lib.hid hgl
                   have HKL:=Lib.hid hkl
                   have HBL:=Lib.hid hbl
                   have HB8:=Lib.hid hb8
                   have HG8:=Lib.hid hg8
                   obtain ⟨K,hK⟩:∃ K,K=(keysE G).length:=⟨_,rfl⟩
                   rw [← hK] at hc8 r2' ⊢
                   have HK:=Lib.hid hK
                   clear hgl hkl hbl hb8 hg8 hu8 hK)
      obtain ⟨base,hbase⟩:∃ b,b=w8.heap.size:=⟨_,rfl⟩
      have hgl0:=HGL.out
      rw [← hbase] at hgl0
      have hSb:∀ q,S q→q<base:=fun q hq=>by have :=HRIG.out.buf.lt q hq;have :=HB8.out.size;omega
      have hrab:RowG w.heap.size 3 w8 A1 (ints (buildP G).ids)∧RowG w.heap.size 3 w8 A2 (ints (buildP G).seqs):=by
        obtain ⟨_,_,_,_,g1,g2,_,_,hra,hrb⟩:=HG8.out.rowG
        injection g1 with g1 _ _
        injection g2 with g2 _ _
        subst g1 g2
        exact ⟨hra,hrb⟩
      obtain ⟨hra,hrb⟩:=hrab
      have hrel:BuildRelS2 S B P base (.slice AV k cV) G (.slice A1 (buildP G).ids.length c1) (.slice A2 (buildP G).seqs.length c2) (.slice A8 K c8) A1 A2 w (.int .i64 ((0:Nat):Int)) (w8.setCell ⟨P,2,none⟩ (.slice A8 K c8)):=by
        refine ⟨0,.slice none 0 0,Nat.zero_le _,rfl,(HRIG.out.below HB8.out).keep (fun q hq=>Below.heap_setCell _ _ _ _ (show q≠P by rintro rfl;exact HSP.out hq)) ?_,?_,hra.keep (.inr rfl) ?_,hrb.keep (.inr rfl) ?_⟩
        · rw [HK.out];exact HBL.out
        · rw [HK.out];exact hgl0
        · rw [HK.out];exact HKL.out
        · rw [HK.out];exact HKL.out
      have HREL:=Lib.hid hrel
      have HSB:=Lib.hid hSb
      have hK4:K≤400000:=by rw [HK.out];exact build_keys HG.out
      have HKK:Hid ((buildP G).lists.length=K):=Lib.hid (by rw [HK.out];simp [buildP])
      clear hrel hSb hgl0 hbase hra hrb HGL HKL HBL HRIG HGAT HG8 r2 s2 r2'
      go_loopw [47] (fun i wr=>BuildRelS2 S B P base (.slice AV k cV) G (.slice A1 (buildP G).ids.length c1) (.slice A2 (buildP G).seqs.length c2) (.slice A8 K c8) A1 A2 w i wr) (fun i _=>K-(intOf i).toNat)
      case atStart=>exact HREL.out
      case round=>
        obtain ⟨j,v4,hj,rfl,hrig,hgl,hra,hrb⟩:=hrel
        rw [← HK.out] at hj
        by_cases hjk:j<K
        · have hjl:j<(keysE G).length:=by rw [← HK.out];exact hjk
          have hjl2:j<(buildP G).lists.length:=by rw [HKK.out];exact hjk
          obtain ⟨bk,hkk⟩:=hgl.keys
          obtain ⟨b1,o1,rfl,hb1,hc1⟩:=row_nm (owned_row_of hkk) hjl
          have hgood:=HG.out.good
          have hmem:(keysE G)[j]∈keysE G:=List.getElem_mem hjl
          have hL0:(buildP G).lists[j]=postsE 0 G (keysE G)[j]:=by simp [buildP]
          have hpg:=posts_good hgood (key:=(keysE G)[j])
          have hpl:=posts_len hgood (key:=(keysE G)[j]) G 0 (fun q hq=>hq)
          have hts:(buildP G).lists.take (j+1)=(buildP G).lists.take j++[postsE 0 G (keysE G)[j]]:=by rw [List.take_succ_eq_append_getElem hjl2,hL0]
          obtain ⟨L,hL⟩:∃ L,L=postsE 0 G (keysE G)[j]:=⟨_,rfl⟩
          rw [← hL] at hpg hpl hts
          obtain ⟨X,hX,hX2⟩:=as_text (keysE G)[j]
          rw [← hX] at hc1
          rw [← hX2] at hL
          have hlen4:((buildP G).lists.take j).length=j:=by rw [List.length_take];omega
          obtain ⟨m6,hm6⟩:∃ m,m=L.length:=⟨_,rfl⟩
          have HPO:Hid (∀ W1,Below wr.heap.size wr W1→Calls Tryz.prog 43 #[.pointer (some ⟨B,0,none⟩),.string X] W1 (GotPo L W1)):=Lib.hid fun W1 hb=>
            buf_Postings (hrig.buf.below hb) X L hL (by have :=HN.out;omega) fun p hp=>by have :=hpg p hp;omega
          have HB0:Hid (Below wr.heap.size wr wr.drew):=Lib.hid (Below.refl _ wr).drew
          have HG5:=Lib.hid hgl
          have HLOAD:Hid (∀ W1,Below wr.heap.size wr W1→W1.cell? ⟨P,3,none⟩=some v4):=Lib.hid fun W1 hb=>(four10 (hgl.below hb).cells).1.2.2.2
          have HL0:=Lib.hid (HLOAD.out _ HB0.out)
          have HLL:=Lib.hid hm6
          have HLEN4:=Lib.hid hlen4
          have hjb:j≤400000:=by omega
          have HFIN:Hid (∀ w6 wa W7 v7,Below wr.heap.size wr w6→Below w6.heap.size w6 wa→GatL 91 w.heap.size base P (.slice A1 (buildP G).ids.length c1) (.slice A2 (buildP G).seqs.length c2) (.slice (some ⟨b1,o1,none⟩) K c8) v7 (keysE G) ((buildP G).lists.take j++[L]) W7→Below w.heap.size wa W7→KeptG w.heap.size wa W7→(∀ k,k<base→k≠P→W7.heap[k]?=wa.heap[k]?)→
              (∀ (k:Nat) (cs:Array Value) (t:TypeId) (fr:Nat × Nat),k≠P→wa.heap[k]?=some (.cells cs t fr)→t≠94→W7.heap[k]?=some (.cells cs t fr))→
              BuildRelS2 S B P base (.slice AV k cV) G (.slice A1 (buildP G).ids.length c1) (.slice A2 (buildP G).seqs.length c2) (.slice (some ⟨b1,o1,none⟩) K c8) A1 A2 w (.int .i64 ((j:Int)+1)) W7):=Lib.hid fun w6 wa W7 v7 hb6 hba hg7 hb7 hk7 hs7 _=>by
            have hbA:Below wr.heap.size wr wa:=hb6.trans (hba.mono hb6.size)
            have hkA:KeptG w.heap.size wr W7:=(KeptG.of_below hbA hrig.bel.size).trans hk7
            refine ⟨j+1,v7,by rw [← HK.out];omega,by go_num,(hrig.below hbA).keep (fun q hq=>hs7 q (HSB.out q hq) (by rintro rfl;exact HSP.out hq)) hb7,?_,hra.keep (.inr rfl) hkA,hrb.keep (.inr rfl) hkA⟩
            rw [hts]
            exact hg7
          have k0:(0:Int)≤j:=by omega
          have k1:(j:Int)<K:=by omega
          clear hrig hgl hra hrb hkk hgood hmem hL0 hpg hpl hts hL hX hX2 hlen4 hm6 hjl hjl2 hj
          go_upto_region 15 with fail
          refine wp_region_noPanic ?_
          refine wp_region_held_drew (S:=fun _=>True) (by kernel_rfl) trivial (fun hHeld=> ?_)
          refine wpAnyH_take (i:=0) (v:= .pointer (some ⟨P,3,none⟩)) rfl (by kernel_rfl) (by kernel_rfl) (by kernel_rfl) (fun _ _ _ h=>h) (Or.inl ⟨by rfl,fun wx hSw=>by go_simp⟩) (by assumption) ?_
          try simp only [Act.put,zA,zB,zD,zE,zF]
          refine wpAnyH_take (i:=2) (v:= .pointer (some ⟨B,0,none⟩)) rfl (by kernel_rfl) (by kernel_rfl) (by kernel_rfl) (fun _ _ _ h=>h) (Or.inl ⟨by rfl,fun wx hSw=>by go_simp⟩) (by assumption) ?_
          try simp only [Act.put,zA,zB,zC,zD,zE,zF]
          refine wpAnyH_take (i:=3) (v:= .string X) rfl (by kernel_rfl) (by kernel_rfl) (by kernel_rfl) (fun _ _ _ h=>h) (Or.inl ⟨by rfl,fun wx hSw=>by go_simp⟩) (by assumption) ?_
          try simp only [Act.put,zA,zB,zC,zD,zE,zF]
          refine wpAnyH_ready (rs:=[1,4]) (by kernel_rfl) (by simp) ?_
          refine (AllReadyH.cons rfl (fun K hK=> ?_) (AllReadyH.cons rfl (fun K hK=> ?_) AllReadyH.nil))
          · try simp only [zA,zB,zC]
            have hl:=HL0.out
            go_simp
            refine hK.out _ _ ?_ (fun hHeld=> ?_)
            · exact trivial
            clear hK K
            try simp only [Act.put,zA,zB,zC,zD,zE,zF]
            refine wpAnyH_ready (rs:=[4]) (by kernel_rfl) (by simp) ?_
            refine (AllReadyH.cons rfl (fun K hK=> ?_) AllReadyH.nil)
            · try simp only [zA,zB,zC]
              go_simp
              go_at_call 43
              (with_reducible refine (HPO.out _ HB0.out).mono ?_)
              rintro e w6 ⟨v6,rfl,hn6,hb6⟩
              obtain ⟨A6,c6,rfl,hc6,hp6⟩:=PostsG.of_pp (b0:=w.heap.size) hn6
              rw [← HLL.out] at hc6
              have HB6:Hid (Below wr.heap.size wr w6):=Lib.hid (HB0.out.trans hb6)
              have HL6:=Lib.hid (HLOAD.out _ HB6.out)
              have HL6a:=Lib.hid (HLOAD.out _ (HB6.out.alloc HB6.out.size (.cells #[.slice A6 m6 c6] 94)))
              obtain ⟨cs4,ho4,hg4⟩:=(HG5.out.below HB6.out).lists
              have hal6:Below w6.heap.size w6 (w6.alloc (.cells #[.slice A6 m6 c6] 94)):=(Below.refl _ _).alloc (Nat.le_refl _) _
              obtain ⟨g,cap,w7,hrun,hown7,hg7,_,_⟩:=run_append_lies (P:=Tryz.prog) (w6.alloc (.cells #[.slice A6 m6 c6] 94)) 89 89 base 94 j0 _ 1 24 Tryz.underlying89 hj0 hj1 hj2 hj3 rfl (by omega) v4 ((buildP G).lists.take j).length cs4 (ho4.alloc _) ⟨w6.heap.size,0,none⟩ 1 1 [.slice A6 m6 c6] rfl (news_at w6 [.slice A6 m6 c6] 94) (by intro u hu;simp at hu;subst hu;rfl) (by omega) (by unfold maxLen;rw [HLEN4.out];omega) (by rw [HLEN4.out];omega) (by have :=HG5.out.size;have :=HB6.out.size;simp;omega) (w6.heap.size+1) (by simp)
              rw [HLEN4.out] at hown7 hrun
              have hkg6:=KeptG.of_below (b0:=w.heap.size) hal6 (by have :=HG5.out.hbase;have :=HG5.out.size;have :=HB6.out.size;omega)
              obtain ⟨hP7,hG7,hB7,hK7,hS7,hO7⟩:=((HG5.out.below HB6.out).below hal6).list (by unfold PoK;decide) (by decide) (by decide) (by rw [← HLL.out];exact hc6) (hp6.keep hkg6) (ho4.alloc _) (hg4.keep hkg6) (by rw [HLEN4.out,← HLL.out];exact hown7) hg7
              have HRUN:=Lib.hid hrun
              have F7:=Lib.hid (And.intro (four10 hP7).1.2.2.2 (four10 hP7).2.2.2.2)
              have HEND:=Lib.hid (HFIN.out w6 _ _ _ HB6.out hal6 hG7 hB7 hK7 hS7 hO7)
              clear hn6 hb6 hp6 hc6 ho4 hg4 hal6 hown7 hg7 hkg6 hP7 hG7 hB7 hK7 hS7 hO7 hrun
              rw [← HLL.out]
              go_wp2_with fail
              refine hK.out _ _ ?_ (fun hHeld=> ?_)
              · exact trivial
              clear hK K
              try simp only [Act.put,zA,zB,zC,zD,zE,zF]
              refine wpAnyH_ready (rs:=[5]) (by kernel_rfl) (by simp) ?_
              refine (AllReadyH.cons rfl (fun K hK=> ?_) AllReadyH.nil)
              · try simp only [zA,zB,zC]
                go_simp
                refine hK.out _ _ ?_ (fun hHeld=> ?_)
                · exact trivial
                clear hK K
                try simp only [Act.put,zA,zB,zC,zD,zE,zF]
                refine wpAnyH_ready (rs:=[6]) (by kernel_rfl) (by simp) ?_
                refine (AllReadyH.cons rfl (fun K hK=> ?_) AllReadyH.nil)
                · try simp only [zA,zB,zC]
                  refine step_append_known (a:=⟨_,_⟩) ?_ (.tmp 52) (.tmp 56) 89 ?_ v4 (.slice (some ⟨w6.heap.size,0,none⟩) 1 1) ?_ ?_ (.slice (some ⟨g,0,none⟩) (j+1) cap) w7 ?_ ?_
                  · rfl
                  · rfl
                  · rfl
                  · rfl
                  · exact HRUN.out
                  refine hK.out _ _ ?_ (fun hHeld=> ?_)
                  · exact trivial
                  clear hK K
                  try simp only [Act.put,zD,zE,zF]
                  refine wpAnyH_take (i:=7) (v:= .pointer (some ⟨P,3,none⟩)) rfl (by kernel_rfl) (by kernel_rfl) (by kernel_rfl) (fun _ _ _ h=>h) (Or.inl ⟨by rfl,fun wx hSw=>by go_simp⟩) (by assumption) ?_
                  try simp only [Act.put,zA,zB,zC,zD,zE,zF]
                  refine wpAnyH_ready (rs:=[8]) (by kernel_rfl) (by simp) ?_
                  refine (AllReadyH.cons rfl (fun K hK=> ?_) AllReadyH.nil)
                  · try simp only [zA,zB,zC]
                    obtain ⟨f7,f8⟩:=F7.out
                    go_simp
                    refine hK.out _ _ ?_ (fun hHeld=> ?_)
                    · exact trivial
                    clear hK K
                    try simp only [Act.put,zA,zB,zC,zD,zE,zF]
                    refine wpAnyH_done (by kernel_rfl) ?_ _
                    refine NoPanic.normal ?_
                    go_wp2
                    go_roundw
                    case rel=>exact HEND.out
                    case measure=>simp [intOf];omega
          · try simp only [zA,zB,zC]
            go_simp
            go_at_call 43
            (with_reducible refine (HPO.out _ HB0.out).mono ?_)
            rintro e w6 ⟨v6,rfl,hn6,hb6⟩
            obtain ⟨A6,c6,rfl,hc6,hp6⟩:=PostsG.of_pp (b0:=w.heap.size) hn6
            rw [← HLL.out] at hc6
            have HB6:Hid (Below wr.heap.size wr w6):=Lib.hid (HB0.out.trans hb6)
            have HL6:=Lib.hid (HLOAD.out _ HB6.out)
            have HL6a:=Lib.hid (HLOAD.out _ (HB6.out.alloc HB6.out.size (.cells #[.slice A6 m6 c6] 94)))
            obtain ⟨cs4,ho4,hg4⟩:=(HG5.out.below HB6.out).lists
            have hal6:Below w6.heap.size w6 (w6.alloc (.cells #[.slice A6 m6 c6] 94)):=(Below.refl _ _).alloc (Nat.le_refl _) _
            obtain ⟨g,cap,w7,hrun,hown7,hg7,_,_⟩:=run_append_lies (P:=Tryz.prog) (w6.alloc (.cells #[.slice A6 m6 c6] 94)) 89 89 base 94 j0 _ 1 24 Tryz.underlying89 hj0 hj1 hj2 hj3 rfl (by omega) v4 ((buildP G).lists.take j).length cs4 (ho4.alloc _) ⟨w6.heap.size,0,none⟩ 1 1 [.slice A6 m6 c6] rfl (news_at w6 [.slice A6 m6 c6] 94) (by intro u hu;simp at hu;subst hu;rfl) (by omega) (by unfold maxLen;rw [HLEN4.out];omega) (by rw [HLEN4.out];omega) (by have :=HG5.out.size;have :=HB6.out.size;simp;omega) (w6.heap.size+1) (by simp)
            rw [HLEN4.out] at hown7 hrun
            have hkg6:=KeptG.of_below (b0:=w.heap.size) hal6 (by have :=HG5.out.hbase;have :=HG5.out.size;have :=HB6.out.size;omega)
            obtain ⟨hP7,hG7,hB7,hK7,hS7,hO7⟩:=((HG5.out.below HB6.out).below hal6).list (by unfold PoK;decide) (by decide) (by decide) (by rw [← HLL.out];exact hc6) (hp6.keep hkg6) (ho4.alloc _) (hg4.keep hkg6) (by rw [HLEN4.out,← HLL.out];exact hown7) hg7
            have HRUN:=Lib.hid hrun
            have F7:=Lib.hid (And.intro (four10 hP7).1.2.2.2 (four10 hP7).2.2.2.2)
            have HEND:=Lib.hid (HFIN.out w6 _ _ _ HB6.out hal6 hG7 hB7 hK7 hS7 hO7)
            clear hn6 hb6 hp6 hc6 ho4 hg4 hal6 hown7 hg7 hkg6 hP7 hG7 hB7 hK7 hS7 hO7 hrun
            rw [← HLL.out]
            go_wp2_with fail
            refine hK.out _ _ ?_ (fun hHeld=> ?_)
            · exact trivial
            clear hK K
            try simp only [Act.put,zA,zB,zC,zD,zE,zF]
            refine wpAnyH_ready (rs:=[1,5]) (by kernel_rfl) (by simp) ?_
            refine (AllReadyH.cons rfl (fun K hK=> ?_) (AllReadyH.cons rfl (fun K hK=> ?_) AllReadyH.nil))
            · try simp only [zA,zB,zC]
              have hl:=HL6.out
              go_simp
              refine hK.out _ _ ?_ (fun hHeld=> ?_)
              · exact trivial
              clear hK K
              try simp only [Act.put,zA,zB,zC,zD,zE,zF]
              refine wpAnyH_ready (rs:=[5]) (by kernel_rfl) (by simp) ?_
              refine (AllReadyH.cons rfl (fun K hK=> ?_) AllReadyH.nil)
              · try simp only [zA,zB,zC]
                go_simp
                refine hK.out _ _ ?_ (fun hHeld=> ?_)
                · exact trivial
                clear hK K
                try simp only [Act.put,zA,zB,zC,zD,zE,zF]
                refine wpAnyH_ready (rs:=[6]) (by kernel_rfl) (by simp) ?_
                refine (AllReadyH.cons rfl (fun K hK=> ?_) AllReadyH.nil)
                · try simp only [zA,zB,zC]
                  refine step_append_known (a:=⟨_,_⟩) ?_ (.tmp 52) (.tmp 56) 89 ?_ v4 (.slice (some ⟨w6.heap.size,0,none⟩) 1 1) ?_ ?_ (.slice (some ⟨g,0,none⟩) (j+1) cap) w7 ?_ ?_
                  · rfl
                  · rfl
                  · rfl
                  · rfl
                  · exact HRUN.out
                  refine hK.out _ _ ?_ (fun hHeld=> ?_)
                  · exact trivial
                  clear hK K
                  try simp only [Act.put,zD,zE,zF]
                  refine wpAnyH_take (i:=7) (v:= .pointer (some ⟨P,3,none⟩)) rfl (by kernel_rfl) (by kernel_rfl) (by kernel_rfl) (fun _ _ _ h=>h) (Or.inl ⟨by rfl,fun wx hSw=>by go_simp⟩) (by assumption) ?_
                  try simp only [Act.put,zA,zB,zC,zD,zE,zF]
                  refine wpAnyH_ready (rs:=[8]) (by kernel_rfl) (by simp) ?_
                  refine (AllReadyH.cons rfl (fun K hK=> ?_) AllReadyH.nil)
                  · try simp only [zA,zB,zC]
                    obtain ⟨f7,f8⟩:=F7.out
                    go_simp
                    refine hK.out _ _ ?_ (fun hHeld=> ?_)
                    · exact trivial
                    clear hK K
                    try simp only [Act.put,zA,zB,zC,zD,zE,zF]
                    refine wpAnyH_done (by kernel_rfl) ?_ _
                    refine NoPanic.normal ?_
                    go_wp2
                    go_roundw
                    case rel=>exact HEND.out
                    case measure=>simp [intOf];omega
            · try simp only [zA,zB,zC]
              go_simp
              refine hK.out _ _ ?_ (fun hHeld=> ?_)
              · exact trivial
              clear hK K
              try simp only [Act.put,zA,zB,zC,zD,zE,zF]
              refine wpAnyH_ready (rs:=[1]) (by kernel_rfl) (by simp) ?_
              refine (AllReadyH.cons rfl (fun K hK=> ?_) AllReadyH.nil)
              · try simp only [zA,zB,zC]
                have hl:=HL6a.out
                go_simp
                refine hK.out _ _ ?_ (fun hHeld=> ?_)
                · exact trivial
                clear hK K
                try simp only [Act.put,zA,zB,zC,zD,zE,zF]
                refine wpAnyH_ready (rs:=[6]) (by kernel_rfl) (by simp) ?_
                refine (AllReadyH.cons rfl (fun K hK=> ?_) AllReadyH.nil)
                · try simp only [zA,zB,zC]
                  refine step_append_known (a:=⟨_,_⟩) ?_ (.tmp 52) (.tmp 56) 89 ?_ v4 (.slice (some ⟨w6.heap.size,0,none⟩) 1 1) ?_ ?_ (.slice (some ⟨g,0,none⟩) (j+1) cap) w7 ?_ ?_
                  · rfl
                  · rfl
                  · rfl
                  · rfl
                  · exact HRUN.out
                  refine hK.out _ _ ?_ (fun hHeld=> ?_)
                  · exact trivial
                  clear hK K
                  try simp only [Act.put,zD,zE,zF]
                  refine wpAnyH_take (i:=7) (v:= .pointer (some ⟨P,3,none⟩)) rfl (by kernel_rfl) (by kernel_rfl) (by kernel_rfl) (fun _ _ _ h=>h) (Or.inl ⟨by rfl,fun wx hSw=>by go_simp⟩) (by assumption) ?_
                  try simp only [Act.put,zA,zB,zC,zD,zE,zF]
                  refine wpAnyH_ready (rs:=[8]) (by kernel_rfl) (by simp) ?_
                  refine (AllReadyH.cons rfl (fun K hK=> ?_) AllReadyH.nil)
                  · try simp only [zA,zB,zC]
                    obtain ⟨f7,f8⟩:=F7.out
                    go_simp
                    refine hK.out _ _ ?_ (fun hHeld=> ?_)
                    · exact trivial
                    clear hK K
                    try simp only [Act.put,zA,zB,zC,zD,zE,zF]
                    refine wpAnyH_done (by kernel_rfl) ?_ _
                    refine NoPanic.normal ?_
                    go_wp2
                    go_roundw
                    case rel=>exact HEND.out
                    case measure=>simp [intOf];omega
        · have hje:j=K:=by omega
          subst hje
          have htl:(buildP G).lists.take j=(buildP G).lists:=List.take_of_length_le (by rw [HKK.out];exact Nat.le_refl _)
          rw [htl] at hgl
          have hv4:∃ A4 c4,v4= .slice A4 (buildP G).lists.length c4:=by
            obtain ⟨cs4,hl4,_⟩:=hgl.lists
            obtain ⟨A4,c4,e,_⟩:=owned_row hl4
            exact ⟨A4,c4,e⟩
          obtain ⟨A4,c4,rfl⟩:=hv4
          have qq:=(four10 hgl.cells).1
          obtain ⟨n1,hn1⟩:∃ n,n=(buildP G).ids.length:=⟨_,rfl⟩
          obtain ⟨n2,hn2⟩:∃ n,n=(buildP G).seqs.length:=⟨_,rfl⟩
          obtain ⟨n4,hn4⟩:∃ n,n=(buildP G).lists.length:=⟨_,rfl⟩
          have hpat:PAt wr wr.heap.size A1 A2 A8 A4 (buildP G):=⟨hra.row,hrb.row,hgl.rows.1,hgl.rows.2⟩
          have HM:=Lib.hid (seg_Make A1 A2 A8 A4 n1 c1 n2 c2 _ c8 n4 c4 (buildP G) wr hn1.symm hn2.symm HK.out.symm hn4.symm hpat (build_few HG.out) (build_small HG.out) (build_may HG.out))
          have HBE:=Lib.hid hrig.bel
          rw [← hn1,← hn2,← hn4] at qq
          obtain ⟨q0,q1,q2,q3⟩:=qq
          clear hgl hra hrb hrig htl hpat hn1 hn2 hn4
          go_wp2_with (go_at_call 44;refine HM.out.mono ?_;rintro e w9 ⟨S9,rfl,hs9,hS9,hb9⟩)
          go_ret2
          exact ⟨S9,rfl,hs9,Nat.le_trans HBE.out.size hS9,HBE.out.trans (hb9.mono HBE.out.size)⟩
end Go.Proofs.YtldcadpemnpbmaaGreatDoor
