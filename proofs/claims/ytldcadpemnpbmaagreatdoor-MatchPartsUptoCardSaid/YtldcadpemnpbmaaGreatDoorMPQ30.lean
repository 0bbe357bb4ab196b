import Derived.Test.YtldcadpemnpbmaaGreatDoorMPZz
import Derived.Test.YtldcadpemnpbmaaGreatDoorMPQ28
import Derived.Test.YtldcadpemnpbmaaGreatDoorMPQ29
import Derived.Test.YtldcadpemnpbmaaGreatDoorMPQ09
import Derived.Test.YtldcadpemnpbmaaGreatDoorMPQ18
import Derived.Maps.AppendAt
import Derived.Test.YtldcadpemnpbmaaGreatDoorMPQ26
import Derived.Test.YtldcadpemnpbmaaGreatDoorMPQ08
import Derived.Test.YtldcadpemnpbmaaGreatDoorMPQ06
import Derived.Test.YtldcadpemnpbmaaGreatDoorMPQ04
import Derived.Test.YtldcadpemnpbmaaGreatDoorMPQ20
set_option linter.unusedVariables false
namespace Go.Proofs.YtldcadpemnpbmaaGreatDoor
open Go Go.RowKit
theorem PostsG.of_pp {b0:Nat} {S:Nat→Prop} {w:World} {v:Value} {l:List Pn} (h:OwnPP S w v l):∃ A c,v= .slice A l.length c∧(l.length≤c∧c≤maxLen)∧PostsG b0 w A l:=by
 obtain ⟨cs,h1,_,h2⟩:=h
 obtain ⟨A,c,rfl,hc,hr⟩:=owned_roomed h1
 refine ⟨A,c,rfl,hc,cs,h2.imp fun A xs h=> ?_,.of_own h1⟩
 rcases h with h|⟨b,off,e,⟨_,cs',fr,hh,_⟩,hx⟩
 ·exact .inl h
 ·exact .inr ⟨b,off,e,(Array.getElem?_eq_some_iff.1 hh).1,.inr ⟨cs',fr,hh⟩,hx⟩
def BuildRel1 (B P:Nat) (V:Value) (G:List En) (w:World) (i:Value) (wr:World):Prop:=∃ (k:Nat) (S:Nat→Prop) (v1 v2:Value),k≤G.length∧i= .int .i64 (k:Int)∧BRig S B (G.take k) (lastE (G.take k)) V G w wr∧
 GatI 91 w.heap.size w.heap.size P v1 v2 ((G.take k).map (·.1)) ((G.take k).map (·.2.2)) wr∧¬ S P∧(∀ g,v1.ownBlock=some g→¬ S g)∧∀ g,v2.ownBlock=some g→¬ S g
def BuildRel2 (S:Nat→Prop) (B P base:Nat) (V:Value) (G:List En) (W1 W2 W3:Value) (A1 A2:Option Addr) (w:World) (i:Value) (wr:World):Prop:=∃ (k:Nat) (v4:Value),k≤(keysE G).length∧i= .int .i64 (k:Int)∧BRig S B G (lastE G) V G w wr∧
 GatL 91 w.heap.size base P W1 W2 W3 v4 (keysE G) ((buildP G).lists.take k) wr∧RowG w.heap.size 3 wr A1 (ints (buildP G).ids)∧RowG w.heap.size 3 wr A2 (ints (buildP G).seqs)
set_option maxHeartbeats 16000000 in
set_option maxRecDepth 100000 in
theorem seg_Build (V:Value) (G:List En) (w:World) (hV:OwnES (fun k=>k<w.heap.size) w V G) (hG:AddOk G):Calls Tryz.prog 13 #[V] w (MadeSeg (buildP G) w):=by
  obtain ⟨i0,hi0,hz0,hz1,hz2⟩:=info_parts info_int
  obtain ⟨j0,hj0,hj1,hj2,hj3⟩:=info_parts info_lists
  obtain ⟨AV,cV,rfl,hcV,_⟩:=hV.nest
  have HV:=Lib.hid hV
  have HG:=Lib.hid hG
  obtain ⟨N,hN⟩:∃ N,N=G.length:=⟨_,rfl⟩
  have hN100:N≤100:=by rw [hN];exact hG.few
  rw [← hN] at HV hcV ⊢
  have HN:=Lib.hid hN
  clear hV hG hN
  have HST:Hid (∀ (S:Nat→Prop) (B:Nat) (w1:World),BufAt S w1 B [] (-1)→(∀ k,S k→w.heap.size≤k)→Below w.heap.size w w1→BuildRel1 B w1.heap.size (.slice AV N cV) G w (.int .i64 ((0:Nat):Int)) (w1.alloc (.cells #[.slice none 0 0,.slice none 0 0,.slice none 0 0,.slice none 0 0] 91))):=Lib.hid fun S B w1 hb hS hw1=>by
    have hal:Below w1.heap.size w1 (w1.alloc (.cells #[.slice none 0 0,.slice none 0 0,.slice none 0 0,.slice none 0 0] 91)):=(Below.refl _ _).alloc (Nat.le_refl _) _
    have hbel:=hw1.trans (hal.mono hw1.size)
    refine ⟨0,S,.slice none 0 0,.slice none 0 0,Nat.zero_le _,rfl,⟨hb.below hal,hS,HV.out.keeps fun k hk _=>hbel.block k hk,hbel⟩,⟨heap_alloc_new w1 _,hw1.size,Nat.le_refl _,hbel.size,World.ownsRow_nil _ _ _ _,World.ownsRow_nil _ _ _ _,fun g hg=>by cases hg⟩,fun hs=>Nat.lt_irrefl _ (hb.lt _ hs),(fun g hg=>by cases hg),fun g hg=>by cases hg⟩
  go_enter Tryz.func13,Tryz.ntmps13
  go_wp2_with (go_at_call 40; refine (buf_New w).mono ?_; rintro e w1 ⟨S0, B, rfl, hb1, hS1, hw1⟩
               have HR1:=Lib.hid (HST.out S0 B w1 hb1 hS1 hw1)
               have HP1:Hid (w.heap.size≤w1.heap.size):=Lib.hid hw1.size
               clear hb1 hS1 hw1)
  obtain ⟨P,hP⟩:∃ P,P=w1.heap.size:=⟨_,rfl⟩
  have hR1:=HR1.out
  rw [← hP] at hR1 ⊢
  have HR2:=Lib.hid hR1
  clear HR1 HST hR1 hP HP1
  go_loopw [15] (fun i wr=>BuildRel1 B P (.slice AV N cV) G w i wr) (fun i _=>N-(intOf i).toNat)
  case atStart=>exact HR2.out
  case round=>
    obtain ⟨k,S,v1,v2,hk,rfl,hrig,hgat,hSP,hS1,hS2⟩:=hrel
    rw [← HN.out] at hk
    by_cases hlt:k<N
    · have hkl:k<G.length:=by rw [← HN.out];exact hlt
      obtain ⟨hn0,hnu⟩:=HG.out.next hkl
      obtain ⟨b,c0,A',c',hv,hbb,e0,e1,e2,hadd⟩:=hrig.add HG.out (by rw [List.length_take];omega) hkl hn0 hnu
      have hAV:AV=some ⟨b,0,none⟩:=by injection hv
      subst hAV
      have hts:G.take (k+1)=G.take k++[G[k]]:=List.take_succ_eq_append_getElem hkl
      have htl:(G.take k).length=k:=by rw [List.length_take];omega
      obtain ⟨gk,hgk⟩:∃ gk,gk=G[k]:=⟨_,rfl⟩
      rw [← hgk] at e0 e1 e2 hadd hts
      obtain ⟨q1,d,q3⟩:=gk
      simp only at e0 e1 e2 hadd
      obtain ⟨m,hm⟩:∃ m,m=d.length:=⟨_,rfl⟩
      rw [← hm] at e1 hadd
      obtain ⟨wr1,hwr1⟩:∃ wr1,wr1=wr.alloc (.cells #[.int .i64 q1,.slice A' m c',.int .i64 q3] 85):=⟨_,rfl⟩
      have hal:Below wr.heap.size wr wr1:=by rw [hwr1];exact (Below.refl _ _).alloc (Nat.le_refl _) _
      have hE1:wr1.heap[wr.heap.size]?=some (.cells #[.int .i64 q1,.slice A' m c',.int .i64 q3] 85 (0,0)):=by rw [hwr1];exact heap_alloc_new wr _
      have hsz1:wr1.heap.size=wr.heap.size+1:=by rw [hwr1];simp
      have HADD:=Lib.hid (hadd wr1 hal)
      have HSLT:Hid (∀ k,S k→k<wr.heap.size):=Lib.hid hrig.buf.lt
      obtain ⟨XS,hXS⟩:∃ XS,XS=(G.take k).map (·.1):=⟨_,rfl⟩
      obtain ⟨YS,hYS⟩:∃ YS,YS=(G.take k).map (·.2.2):=⟨_,rfl⟩
      have hXL:XS.length=k:=by rw [hXS,List.length_map,htl]
      have hYL:YS.length=k:=by rw [hYS,List.length_map,htl]
      rw [← hXS,← hYS] at hgat
      have HXL:=Lib.hid hXL
      have HYL:=Lib.hid hYL
      have HXS:=Lib.hid hXS
      have HYS:=Lib.hid hYS
      clear hXS hYS hXL hYL
      have HGAT:=Lib.hid hgat
      have HSP:=Lib.hid hSP
      have HS1:=Lib.hid hS1
      have HS2:=Lib.hid hS2
      have HWR1:=Lib.hid hwr1
      have HAL:=Lib.hid hal
      have HE1:=Lib.hid hE1
      have HSZ1:=Lib.hid hsz1
      have HTS:=Lib.hid hts
      have HTL:=Lib.hid htl
      have k0:(0:Int)≤k:=by omega
      have k1:(k:Int)<N:=by omega
      have HBW:=Lib.hid hrig.bel
      clear hrig hgat hSP hS1 hS2 hwr1 hal hE1 hsz1 hadd hgk hm hts htl hn0 hnu hv hkl
      go_wp2_with (first
                | (go_at_call 41; rw [show wr.alloc _ = wr1 from HWR1.out.symm]; refine HADD.out.mono ?_; rintro e w5 ⟨rfl, S', hrig5, hS5, ho5⟩
                   have hg5:GatI 91 w.heap.size w.heap.size P v1 v2 XS YS w5:=(HGAT.out.below HAL.out).keep (fun j hj hj'=>ho5.block j hj (by rcases hj' with rfl|h|h<;>first|exact HSP.out|exact HS1.out _ h|exact HS2.out _ h)) ho5.size
                   have hE5:w5.heap[wr.heap.size]?=some (.cells #[.int .i64 q1,.slice A' m c',.int .i64 q3] 85 (0,0)):=(ho5.block _ (by rw [HSZ1.out];exact Nat.lt_succ_self _) (fun h=>Nat.lt_irrefl _ (HSLT.out _ h))).trans HE1.out
                   have hSP5:¬ S' P:=fun h=>(hS5 P h).elim HSP.out fun h=>by have :=HGAT.out.lt;have :=HSZ1.out;omega
                   have hS15:∀ g,v1.ownBlock=some g→¬ S' g:=fun g hg h=>(hS5 g h).elim (HS1.out g hg) fun h=>by have :=(HGAT.out.ids.lt g hg).2;have :=HSZ1.out;omega
                   have hS25:∀ g,v2.ownBlock=some g→¬ S' g:=fun g hg h=>(hS5 g h).elim (HS2.out g hg) fun h=>by have :=(HGAT.out.seqs.lt g hg).2;have :=HSZ1.out;omega
                   have p0:=(four10 hg5.cells).1.1
                   have x0:=(cells3 hE5).1
                   have ho1:=hg5.ids
                   rw [HXL.out] at ho1
                   have HO5:=Lib.hid ho1
                   clear ho1
                   have HRIG5:=Lib.hid hrig5
                   have HG5:=Lib.hid hg5
                   have HE5:=Lib.hid hE5
                   have HSP5:=Lib.hid hSP5
                   have HS15:=Lib.hid hS15
                   have HS25:=Lib.hid hS25
                   have HEV:Hid ((∀ g,v1.ownBlock=some g→g<wr.heap.size)∧(∀ g,v2.ownBlock=some g→g<wr.heap.size)∧P<wr.heap.size∧wr.heap.size<w5.heap.size):=Lib.hid ⟨fun g hg=>(HGAT.out.ids.lt g hg).2,fun g hg=>(HGAT.out.seqs.lt g hg).2,HGAT.out.lt,(Array.getElem?_eq_some_iff.1 hE5).1⟩
                   clear hrig5 hg5 hE5 hSP5 hS15 hS25 hS5 ho5)
                |(at_builtin;refine wpList_append_own_at _ rfl (.tmp 26) (.tmp 30) 88 rfl w.heap.size 3 i0 _ 1 8 Tryz.underlying88 hi0 hz0 hz1 hz2 rfl (by omega) v1 k (ints XS) rfl (HO5.out.alloc _) ⟨w5.heap.size,0,none⟩ 1 1 [.int .i64 q1] rfl rfl (news_at w5 [.int .i64 q1] 3) (by intro u hu;simp at hu;subst hu;rfl) (by unfold maxLen;omega) (by omega) (by have :=HG5.out.size;simp;omega) ?_))
      intro v1' w6 hown6 hgrow6 hz6 hat6
      clear hz6
      obtain ⟨g1',cap1',hv1',_,_⟩:=hown6.form (by omega)
      subst hv1'
      have hal5:Below w5.heap.size w5 (w5.alloc (.cells #[.int .i64 q1] 3)):=(Below.refl _ _).alloc (Nat.le_refl _) _
      obtain ⟨hP6,hg6,hb6,hk6⟩:=(HG5.out.below hal5).id (by decide) (by rw [HXL.out];exact hown6) hgrow6 (hat6.imp id fun h=>h.trans (by simp))
      obtain ⟨⟨r0,_⟩,s0,_⟩:=four10 hP6
      obtain ⟨w7,hw7⟩:∃ w7,w7=w6.setCell ⟨P,0,none⟩ (.slice (some ⟨g1',0,none⟩) (k+1) cap1'):=⟨_,rfl⟩
      rw [← hw7] at hg6 hb6 hk6
      have hsz5a:(w5.alloc (.cells #[.int .i64 q1] 3)).heap.size=w5.heap.size+1:=by simp
      have hkk:∀ j,j<w5.heap.size→j≠P→v1.ownBlock≠some j→w7.heap[j]?=w5.heap[j]?:=fun j hj h1 h2=>(hk6 j (by omega) h1 h2).trans (hal5.block j hj)
      have hE7:=(hkk wr.heap.size HEV.out.2.2.2 (by have :=HEV.out.2.2.1;omega) (fun e=>Nat.lt_irrefl _ (HEV.out.1 _ e))).trans HE5.out
      have p1:=(four10 hg6.cells).1.2.1
      have x2:=(cells3 hE7).2.2
      rw [hw7] at p1 x2
      have hS1g:∀ g,(Value.slice (some ⟨g1',0,none⟩) (k+1) cap1').ownBlock=some g→¬ S' g:=fun g hg hs=>by
        rcases hat6 with hat|hat
        · exact HS15.out g (hat▸hg) hs
        · rw [hat] at hg
          injection hg with hg
          have :=HRIG5.out.buf.lt g hs
          omega
      have hb57:Below w.heap.size w5 w7:=(hal5.mono HRIG5.out.bel.size).trans hb6
      have HB57:=Lib.hid hb57
      have HKK:=Lib.hid hkk
      have HS1G:=Lib.hid hS1g
      have ho2:=hg6.seqs
      rw [HYL.out,hw7] at ho2
      have HO7:=Lib.hid ho2
      have hnw:=news_at w7 [.int .i64 q3] 3
      rw [show (⟨w7.heap.size,0,none⟩:Addr)=⟨w6.heap.size,0,none⟩ by rw [hw7];simp,hw7] at hnw
      have HNW:=Lib.hid hnw
      have HSB:Hid (w.heap.size≤((w6.setCell ⟨P,0,none⟩ (.slice (some ⟨g1',0,none⟩) (k+1) cap1')).alloc (.cells #[.int .i64 q3] 3)).heap.size):=Lib.hid (by rw [← hw7];have :=hg6.size;simp;omega)
      clear hnw
      clear ho2
      have HG7:=Lib.hid hg6
      have HW7:=Lib.hid hw7
      have HSZ7:Hid (w5.heap.size≤w7.heap.size):=Lib.hid hb57.size
      clear hown6 hgrow6 hat6 hal5 hP6 hg6 hb6 hk6 hw7 hsz5a hkk hE7 hS1g hb57 p0 x0
      go_wp2_with (at_builtin;refine wpList_append_own_at _ rfl (.tmp 34) (.tmp 37) 88 rfl w.heap.size 3 i0 _ 1 8 Tryz.underlying88 hi0 hz0 hz1 hz2 rfl (by omega) v2 k (ints YS) rfl (HO7.out.alloc _) ⟨w6.heap.size,0,none⟩ 1 1 [.int .i64 q3] rfl rfl HNW.out (by intro u hu;simp at hu;subst hu;rfl) (by unfold maxLen;omega) (by omega) HSB.out ?_)
      intro v2' w8 hown8 hgrow8 hz8 hat8
      clear hz8
      rw [← HW7.out] at hgrow8
      have hat8:v2'.ownBlock=v2.ownBlock∨v2'.ownBlock=some (w7.heap.size+1):=hat8.imp id fun h=>h.trans (by rw [HW7.out];simp)
      obtain ⟨g2',cap2',hv2',_,_⟩:=hown8.form (by omega)
      subst hv2'
      have hal7:Below w7.heap.size w7 (w7.alloc (.cells #[.int .i64 q3] 3)):=(Below.refl _ _).alloc (Nat.le_refl _) _
      obtain ⟨hP8,hg8,hb8,hk8⟩:=(HG7.out.below hal7).seq (by decide) (by rw [HYL.out];exact hown8) hgrow8 (hat8.imp id fun h=>h.trans (by simp))
      obtain ⟨⟨_,r1,_⟩,_,s1,_⟩:=four10 hP8
      have hsz7a:(w7.alloc (.cells #[.int .i64 q3] 3)).heap.size=w7.heap.size+1:=by simp
      have hrel:BuildRel1 B P (.slice (some ⟨b,0,none⟩) N cV) G w (.int .i64 ((k:Int)+1)) (w8.setCell ⟨P,1,none⟩ (.slice (some ⟨g2',0,none⟩) (k+1) cap2')):=by
        refine ⟨k+1,S',.slice (some ⟨g1',0,none⟩) (k+1) cap1',.slice (some ⟨g2',0,none⟩) (k+1) cap2',by rw [← HN.out];omega,by go_num,?_,?_,HSP5.out,HS1G.out,fun g hg hs=> ?_⟩
        · have hbb:=HB57.out.trans ((hal7.mono (by have :=HRIG5.out.bel.size;have :=HSZ7.out;omega)).trans hb8)
          have :=HRIG5.out.keep (w':=w8.setCell ⟨P,1,none⟩ (.slice (some ⟨g2',0,none⟩) (k+1) cap2')) (fun j hj=>by
            have hj5:=HRIG5.out.buf.lt j hj
            have hjP:j≠P:=by rintro rfl;exact HSP5.out hj
            have h57:=HKK.out j hj5 hjP (fun e=>HS15.out j e hj)
            exact ((hk8 j (by have :=HSZ7.out;omega) hjP (fun e=>HS25.out j e hj)).trans (hal7.block j (by have :=HSZ7.out;omega))).trans h57) hbb
          rw [HTS.out,lastE_snoc]
          exact this
        · rw [HTS.out,List.map_append,List.map_append,← HXS.out,← HYS.out]
          exact hg8
        · rcases hat8 with hat|hat
          · exact HS25.out g (hat▸hg) hs
          · rw [hat] at hg
            injection hg with hg
            have :=HRIG5.out.buf.lt g hs
            have :=HSZ7.out
            omega
      have HRL:=Lib.hid hrel
      clear hown8 hgrow8 hat8 hal7 hP8 hg8 hb8 hk8 hsz7a hrel
      go_wp2
      go_roundw
      case rel=>exact HRL.out
      case measure=>simp [intOf];omega
    · have hke:k=N:=by omega
      subst hke
      have htk:G.take k=G:=List.take_of_length_le (by rw [HN.out];exact Nat.le_refl _)
      rw [htk] at hrig hgat
      have hids:G.map (·.1)=(buildP G).ids:=rfl
      have hseqs:G.map (·.2.2)=(buildP G).seqs:=rfl
      rw [hids,hseqs] at hgat
      have HKEY:=Lib.hid (buf_Keys hrig.buf (by have :=HN.out;omega))
      have HRIG:=Lib.hid hrig
      have HGAT:=Lib.hid hgat
      have HSP:=Lib.hid hSP
      obtain ⟨A1,c1,A2,c2,rfl,rfl,hc1,hc2,_,_⟩:=hgat.rowG
      have hl1:(buildP G).ids.length=k:=by rw [HN.out];simp [buildP]
      have hl2:(buildP G).seqs.length=k:=by rw [HN.out];simp [buildP]
      have HL1:=Lib.hid hl1
      have HL2:=Lib.hid hl2
      clear hrig hgat hSP hS1 hS2 htk hids hseqs hlt hc1 hc2 hl1 hl2
      go_wp2_with (go_at_call 42; refine HKEY.out.mono ?_; rintro e w8 ⟨v8, rfl, ho8, hb8⟩
                   have hg8:=HGAT.out.below hb8
                   obtain ⟨A8,c8,rfl,hc8,hu8⟩:=OwnNm.row ho8
                   obtain ⟨⟨_,_,r2,_⟩,_,_,s2,_⟩:=four10 hg8.cells
                   obtain ⟨hgl,hkl,hbl⟩:=hg8.lists (by unfold PoK;decide) (by decide) (bk:=wr.heap.size) (ks:=keysE G) ho8
                   have r2':=(four10 hgl.cells).1.2.2.1
                   have HGL:=Lib.hid hgl
                   have HKL:=Lib.hid hkl
                   have HBL:=Lib.hid hbl
                   have HB8:=Lib.hid hb8
                   have HG8:=Lib.hid hg8
                   obtain ⟨K,hK⟩:∃ K,K=(keysE G).length:=⟨_,rfl⟩
                   rw [← hK] at hc8 r2' ⊢
                   have HK:=Lib.hid hK
                   clear hgl hkl hbl hb8 hg8 hu8 hK)
      obtain ⟨base,hbase⟩:∃ b,b=w8.heap.size:=⟨_,rfl⟩
      have hgl0:=HGL.out
      rw [← hbase] at hgl0
      have hSb:∀ q,S q→q<base:=fun q hq=>by have :=HRIG.out.buf.lt q hq;have :=HB8.out.size;omega
      have hrab:RowG w.heap.size 3 w8 A1 (ints (buildP G).ids)∧RowG w.heap.size 3 w8 A2 (ints (buildP G).seqs):=by
        obtain ⟨_,_,_,_,g1,g2,_,_,hra,hrb⟩:=HG8.out.rowG
        injection g1 with g1 _ _
        injection g2 with g2 _ _
        subst g1 g2
        exact ⟨hra,hrb⟩
      obtain ⟨hra,hrb⟩:=hrab
      have hrel:BuildRel2 S B P base (.slice AV k cV) G (.slice A1 (buildP G).ids.length c1) (.slice A2 (buildP G).seqs.length c2) (.slice A8 K c8) A1 A2 w (.int .i64 ((0:Nat):Int)) (w8.setCell ⟨P,2,none⟩ (.slice A8 K c8)):=by
        refine ⟨0,.slice none 0 0,Nat.zero_le _,rfl,(HRIG.out.below HB8.out).keep (fun q hq=>Below.heap_setCell _ _ _ _ (show q≠P by rintro rfl;exact HSP.out hq)) ?_,?_,hra.keep (.inr rfl) ?_,hrb.keep (.inr rfl) ?_⟩
        · rw [HK.out];exact HBL.out
        · rw [HK.out];exact hgl0
        · rw [HK.out];exact HKL.out
        · rw [HK.out];exact HKL.out
      have HREL:=Lib.hid hrel
      have HSB:=Lib.hid hSb
      have hK4:K≤400000:=by rw [HK.out];exact build_keys HG.out
      have HKK:Hid ((buildP G).lists.length=K):=Lib.hid (by rw [HK.out];simp [buildP])
      clear hrel hSb hgl0 hbase hra hrb HGL HKL HBL HRIG HGAT HG8 r2 s2 r2'
      go_loopw [47] (fun i wr=>BuildRel2 S B P base (.slice AV k cV) G (.slice A1 (buildP G).ids.length c1) (.slice A2 (buildP G).seqs.length c2) (.slice A8 K c8) A1 A2 w i wr) (fun i _=>K-(intOf i).toNat)
      case atStart=>exact HREL.out
      case round=>
        obtain ⟨j,v4,hj,rfl,hrig,hgl,hra,hrb⟩:=hrel
        rw [← HK.out] at hj
        by_cases hjk:j<K
        · have hjl:j<(keysE G).length:=by rw [← HK.out];exact hjk
          have hjl2:j<(buildP G).lists.length:=by rw [HKK.out];exact hjk
          obtain ⟨bk,hkk⟩:=hgl.keys
          obtain ⟨b1,o1,rfl,hb1,hc1⟩:=row_nm (owned_row_of hkk) hjl
          have hgood:=HG.out.good
          have hmem:(keysE G)[j]∈keysE G:=List.getElem_mem hjl
          have hL0:(buildP G).lists[j]=postsE 0 G (keysE G)[j]:=by simp [buildP]
          have hpg:=posts_good hgood (key:=(keysE G)[j])
          have hpl:=posts_len hgood (key:=(keysE G)[j]) G 0 (fun q hq=>hq)
          have hts:(buildP G).lists.take (j+1)=(buildP G).lists.take j++[postsE 0 G (keysE G)[j]]:=by rw [List.take_succ_eq_append_getElem hjl2,hL0]
          obtain ⟨L,hL⟩:∃ L,L=postsE 0 G (keysE G)[j]:=⟨_,rfl⟩
          rw [← hL] at hpg hpl hts
          obtain ⟨X,hX,hX2⟩:=as_text (keysE G)[j]
          rw [← hX] at hc1
          rw [← hX2] at hL
          have hlen4:((buildP G).lists.take j).length=j:=by rw [List.length_take];omega
          obtain ⟨m6,hm6⟩:∃ m,m=L.length:=⟨_,rfl⟩
          have HPO:Hid (∀ W1,Below wr.heap.size wr W1→Calls Tryz.prog 43 #[.pointer (some ⟨B,0,none⟩),.string X] W1 (GotPo L W1)):=Lib.hid fun W1 hb=>
            buf_Postings (hrig.buf.below hb) X L hL (by have :=HN.out;omega) fun p hp=>by have :=hpg p hp;omega
          have HB0:Hid (Below wr.heap.size wr wr.drew):=Lib.hid (Below.refl _ wr).drew
          have HG5:=Lib.hid hgl
          have HLOAD:Hid (∀ W1,Below wr.heap.size wr W1→W1.cell? ⟨P,3,none⟩=some v4):=Lib.hid fun W1 hb=>(four10 (hgl.below hb).cells).1.2.2.2
          have HL0:=Lib.hid (HLOAD.out _ HB0.out)
          have HLL:=Lib.hid hm6
          have HLEN4:=Lib.hid hlen4
          have hjb:j≤400000:=by omega
          have HFIN:Hid (∀ w6 wa W7 v7,Below wr.heap.size wr w6→Below w6.heap.size w6 wa→GatL 91 w.heap.size base P (.slice A1 (buildP G).ids.length c1) (.slice A2 (buildP G).seqs.length c2) (.slice (some ⟨b1,o1,none⟩) K c8) v7 (keysE G) ((buildP G).lists.take j++[L]) W7→Below w.heap.size wa W7→KeptG w.heap.size wa W7→(∀ k,k<base→k≠P→W7.heap[k]?=wa.heap[k]?)→
              (∀ (k:Nat) (cs:Array Value) (t:TypeId) (fr:Nat × Nat),k≠P→wa.heap[k]?=some (.cells cs t fr)→t≠94→W7.heap[k]?=some (.cells cs t fr))→
              BuildRel2 S B P base (.slice AV k cV) G (.slice A1 (buildP G).ids.length c1) (.slice A2 (buildP G).seqs.length c2) (.slice (some ⟨b1,o1,none⟩) K c8) A1 A2 w (.int .i64 ((j:Int)+1)) W7):=Lib.hid fun w6 wa W7 v7 hb6 hba hg7 hb7 hk7 hs7 _=>by
            have hbA:Below wr.heap.size wr wa:=hb6.trans (hba.mono hb6.size)
            have hkA:KeptG w.heap.size wr W7:=(KeptG.of_below hbA hrig.bel.size).trans hk7
            refine ⟨j+1,v7,by rw [← HK.out];omega,by go_num,(hrig.below hbA).keep (fun q hq=>hs7 q (HSB.out q hq) (by rintro rfl;exact HSP.out hq)) hb7,?_,hra.keep (.inr rfl) hkA,hrb.keep (.inr rfl) hkA⟩
            rw [hts]
            exact hg7
          have k0:(0:Int)≤j:=by omega
          have k1:(j:Int)<K:=by omega
          clear hrig hgl hra hrb hkk hgood hmem hL0 hpg hpl hts hL hX hX2 hlen4 hm6 hjl hjl2 hj
          go_upto_region 15 with fail
          refine wp_region_noPanic ?_
          refine wp_region_held_drew (S:=fun _=>True) (by kernel_rfl) trivial (fun hHeld=> ?_)
          refine wpAnyH_take (i:=0) (v:= .pointer (some ⟨P,3,none⟩)) rfl (by kernel_rfl) (by kernel_rfl) (by kernel_rfl) (fun _ _ _ h=>h) (Or.inl ⟨by rfl,fun wx hSw=>by go_simp⟩) (by assumption) ?_
          try simp only [Act.put,zA,zB,zD,zE,zF]
          refine wpAnyH_take (i:=2) (v:= .pointer (some ⟨B,0,none⟩)) rfl (by kernel_rfl) (by kernel_rfl) (by kernel_rfl) (fun _ _ _ h=>h) (Or.inl ⟨by rfl,fun wx hSw=>by go_simp⟩) (by assumption) ?_
          try simp only [Act.put,zA,zB,zC,zD,zE,zF]
          refine wpAnyH_take (i:=3) (v:= .string X) rfl (by kernel_rfl) (by kernel_rfl) (by kernel_rfl) (fun _ _ _ h=>h) (Or.inl ⟨by rfl,fun wx hSw=>by go_simp⟩) (by assumption) ?_
          try simp only [Act.put,zA,zB,zC,zD,zE,zF]
          refine wpAnyH_ready (rs:=[1,4]) (by kernel_rfl) (by simp) ?_
          refine (AllReadyH.cons rfl (fun K hK=> ?_) (AllReadyH.cons rfl (fun K hK=> ?_) AllReadyH.nil))
          · try simp only [zA,zB,zC]
            have hl:=HL0.out
            go_simp
            refine hK.out _ _ ?_ (fun hHeld=> ?_)
            · exact trivial
            clear hK K
            try simp only [Act.put,zA,zB,zC,zD,zE,zF]
            refine wpAnyH_ready (rs:=[4]) (by kernel_rfl) (by simp) ?_
            refine (AllReadyH.cons rfl (fun K hK=> ?_) AllReadyH.nil)
            · try simp only [zA,zB,zC]
              go_simp
              go_at_call 43
              (with_reducible refine (HPO.out _ HB0.out).mono ?_)
              rintro e w6 ⟨v6,rfl,hn6,hb6⟩
              obtain ⟨A6,c6,rfl,hc6,hp6⟩:=PostsG.of_pp (b0:=w.heap.size) hn6
              rw [← HLL.out] at hc6
              have HB6:Hid (Below wr.heap.size wr w6):=Lib.hid (HB0.out.trans hb6)
              have HL6:=Lib.hid (HLOAD.out _ HB6.out)
              have HL6a:=Lib.hid (HLOAD.out _ (HB6.out.alloc HB6.out.size (.cells #[.slice A6 m6 c6] 94)))
              obtain ⟨cs4,ho4,hg4⟩:=(HG5.out.below HB6.out).lists
              have hal6:Below w6.heap.size w6 (w6.alloc (.cells #[.slice A6 m6 c6] 94)):=(Below.refl _ _).alloc (Nat.le_refl _) _
              obtain ⟨g,cap,w7,hrun,hown7,hg7,_,_⟩:=run_append_lies (P:=Tryz.prog) (w6.alloc (.cells #[.slice A6 m6 c6] 94)) 89 89 base 94 j0 _ 1 24 Tryz.underlying89 hj0 hj1 hj2 hj3 rfl (by omega) v4 ((buildP G).lists.take j).length cs4 (ho4.alloc _) ⟨w6.heap.size,0,none⟩ 1 1 [.slice A6 m6 c6] rfl (news_at w6 [.slice A6 m6 c6] 94) (by intro u hu;simp at hu;subst hu;rfl) (by omega) (by unfold maxLen;rw [HLEN4.out];omega) (by rw [HLEN4.out];omega) (by have :=HG5.out.size;have :=HB6.out.size;simp;omega) (w6.heap.size+1) (by simp)
              rw [HLEN4.out] at hown7 hrun
              have hkg6:=KeptG.of_below (b0:=w.heap.size) hal6 (by have :=HG5.out.hbase;have :=HG5.out.size;have :=HB6.out.size;omega)
              obtain ⟨hP7,hG7,hB7,hK7,hS7,hO7⟩:=((HG5.out.below HB6.out).below hal6).list (by unfold PoK;decide) (by decide) (by decide) (by rw [← HLL.out];exact hc6) (hp6.keep hkg6) (ho4.alloc _) (hg4.keep hkg6) (by rw [HLEN4.out,← HLL.out];exact hown7) hg7
              have HRUN:=Lib.hid hrun
              have F7:=Lib.hid (And.intro (four10 hP7).1.2.2.2 (four10 hP7).2.2.2.2)
              have HEND:=Lib.hid (HFIN.out w6 _ _ _ HB6.out hal6 hG7 hB7 hK7 hS7 hO7)
              clear hn6 hb6 hp6 hc6 ho4 hg4 hal6 hown7 hg7 hkg6 hP7 hG7 hB7 hK7 hS7 hO7 hrun
              rw [← HLL.out]
              go_wp2_with fail
              refine hK.out _ _ ?_ (fun hHeld=> ?_)
              · exact trivial
              clear hK K
              try simp only [Act.put,zA,zB,zC,zD,zE,zF]
              refine wpAnyH_ready (rs:=[5]) (by kernel_rfl) (by simp) ?_
              refine (AllReadyH.cons rfl (fun K hK=> ?_) AllReadyH.nil)
              · try simp only [zA,zB,zC]
                go_simp
                refine hK.out _ _ ?_ (fun hHeld=> ?_)
                · exact trivial
                clear hK K
                try simp only [Act.put,zA,zB,zC,zD,zE,zF]
                refine wpAnyH_ready (rs:=[6]) (by kernel_rfl) (by simp) ?_
                refine (AllReadyH.cons rfl (fun K hK=> ?_) AllReadyH.nil)
                · try simp only [zA,zB,zC]
                  refine step_append_known (a:=⟨_,_⟩) ?_ (.tmp 52) (.tmp 56) 89 ?_ v4 (.slice (some ⟨w6.heap.size,0,none⟩) 1 1) ?_ ?_ (.slice (some ⟨g,0,none⟩) (j+1) cap) w7 ?_ ?_
                  · rfl
                  · rfl
                  · rfl
                  · rfl
                  · exact HRUN.out
                  refine hK.out _ _ ?_ (fun hHeld=> ?_)
                  · exact trivial
                  clear hK K
                  try simp only [Act.put,zD,zE,zF]
                  refine wpAnyH_take (i:=7) (v:= .pointer (some ⟨P,3,none⟩)) rfl (by kernel_rfl) (by kernel_rfl) (by kernel_rfl) (fun _ _ _ h=>h) (Or.inl ⟨by rfl,fun wx hSw=>by go_simp⟩) (by assumption) ?_
                  try simp only [Act.put,zA,zB,zC,zD,zE,zF]
                  refine wpAnyH_ready (rs:=[8]) (by kernel_rfl) (by simp) ?_
                  refine (AllReadyH.cons rfl (fun K hK=> ?_) AllReadyH.nil)
                  · try simp only [zA,zB,zC]
                    obtain ⟨f7,f8⟩:=F7.out
                    go_simp
                    refine hK.out _ _ ?_ (fun hHeld=> ?_)
                    · exact trivial
                    clear hK K
                    try simp only [Act.put,zA,zB,zC,zD,zE,zF]
                    refine wpAnyH_done (by kernel_rfl) ?_ _
                    refine NoPanic.normal ?_
                    go_wp2
                    go_roundw
                    case rel=>exact HEND.out
                    case measure=>simp [intOf];omega
          · try simp only [zA,zB,zC]
            go_simp
            go_at_call 43
            (with_reducible refine (HPO.out _ HB0.out).mono ?_)
            rintro e w6 ⟨v6,rfl,hn6,hb6⟩
            obtain ⟨A6,c6,rfl,hc6,hp6⟩:=PostsG.of_pp (b0:=w.heap.size) hn6
            rw [← HLL.out] at hc6
            have HB6:Hid (Below wr.heap.size wr w6):=Lib.hid (HB0.out.trans hb6)
            have HL6:=Lib.hid (HLOAD.out _ HB6.out)
            have HL6a:=Lib.hid (HLOAD.out _ (HB6.out.alloc HB6.out.size (.cells #[.slice A6 m6 c6] 94)))
            obtain ⟨cs4,ho4,hg4⟩:=(HG5.out.below HB6.out).lists
            have hal6:Below w6.heap.size w6 (w6.alloc (.cells #[.slice A6 m6 c6] 94)):=(Below.refl _ _).alloc (Nat.le_refl _) _
            obtain ⟨g,cap,w7,hrun,hown7,hg7,_,_⟩:=run_append_lies (P:=Tryz.prog) (w6.alloc (.cells #[.slice A6 m6 c6] 94)) 89 89 base 94 j0 _ 1 24 Tryz.underlying89 hj0 hj1 hj2 hj3 rfl (by omega) v4 ((buildP G).lists.take j).length cs4 (ho4.alloc _) ⟨w6.heap.size,0,none⟩ 1 1 [.slice A6 m6 c6] rfl (news_at w6 [.slice A6 m6 c6] 94) (by intro u hu;simp at hu;subst hu;rfl) (by omega) (by unfold maxLen;rw [HLEN4.out];omega) (by rw [HLEN4.out];omega) (by have :=HG5.out.size;have :=HB6.out.size;simp;omega) (w6.heap.size+1) (by simp)
            rw [HLEN4.out] at hown7 hrun
            have hkg6:=KeptG.of_below (b0:=w.heap.size) hal6 (by have :=HG5.out.hbase;have :=HG5.out.size;have :=HB6.out.size;omega)
            obtain ⟨hP7,hG7,hB7,hK7,hS7,hO7⟩:=((HG5.out.below HB6.out).below hal6).list (by unfold PoK;decide) (by decide) (by decide) (by rw [← HLL.out];exact hc6) (hp6.keep hkg6) (ho4.alloc _) (hg4.keep hkg6) (by rw [HLEN4.out,← HLL.out];exact hown7) hg7
            have HRUN:=Lib.hid hrun
            have F7:=Lib.hid (And.intro (four10 hP7).1.2.2.2 (four10 hP7).2.2.2.2)
            have HEND:=Lib.hid (HFIN.out w6 _ _ _ HB6.out hal6 hG7 hB7 hK7 hS7 hO7)
            clear hn6 hb6 hp6 hc6 ho4 hg4 hal6 hown7 hg7 hkg6 hP7 hG7 hB7 hK7 hS7 hO7 hrun
            rw [← HLL.out]
            go_wp2_with fail
            refine hK.out _ _ ?_ (fun hHeld=> ?_)
            · exact trivial
            clear hK K
            try simp only [Act.put,zA,zB,zC,zD,zE,zF]
            refine wpAnyH_ready (rs:=[1,5]) (by kernel_rfl) (by simp) ?_
            refine (AllReadyH.cons rfl (fun K hK=> ?_) (AllReadyH.cons rfl (fun K hK=> ?_) AllReadyH.nil))
            · try simp only [zA,zB,zC]
              have hl:=HL6.out
              go_simp
              refine hK.out _ _ ?_ (fun hHeld=> ?_)
              · exact trivial
              clear hK K
              try simp only [Act.put,zA,zB,zC,zD,zE,zF]
              refine wpAnyH_ready (rs:=[5]) (by kernel_rfl) (by simp) ?_
              refine (AllReadyH.cons rfl (fun K hK=> ?_) AllReadyH.nil)
              · try simp only [zA,zB,zC]
                go_simp
                refine hK.out _ _ ?_ (fun hHeld=> ?_)
                · exact trivial
                clear hK K
                try simp only [Act.put,zA,zB,zC,zD,zE,zF]
                refine wpAnyH_ready (rs:=[6]) (by kernel_rfl) (by simp) ?_
                refine (AllReadyH.cons rfl (fun K hK=> ?_) AllReadyH.nil)
                · try simp only [zA,zB,zC]
                  refine step_append_known (a:=⟨_,_⟩) ?_ (.tmp 52) (.tmp 56) 89 ?_ v4 (.slice (some ⟨w6.heap.size,0,none⟩) 1 1) ?_ ?_ (.slice (some ⟨g,0,none⟩) (j+1) cap) w7 ?_ ?_
                  · rfl
                  · rfl
                  · rfl
                  · rfl
                  · exact HRUN.out
                  refine hK.out _ _ ?_ (fun hHeld=> ?_)
                  · exact trivial
                  clear hK K
                  try simp only [Act.put,zD,zE,zF]
                  refine wpAnyH_take (i:=7) (v:= .pointer (some ⟨P,3,none⟩)) rfl (by kernel_rfl) (by kernel_rfl) (by kernel_rfl) (fun _ _ _ h=>h) (Or.inl ⟨by rfl,fun wx hSw=>by go_simp⟩) (by assumption) ?_
                  try simp only [Act.put,zA,zB,zC,zD,zE,zF]
                  refine wpAnyH_ready (rs:=[8]) (by kernel_rfl) (by simp) ?_
                  refine (AllReadyH.cons rfl (fun K hK=> ?_) AllReadyH.nil)
                  · try simp only [zA,zB,zC]
                    obtain ⟨f7,f8⟩:=F7.out
                    go_simp
                    refine hK.out _ _ ?_ (fun hHeld=> ?_)
                    · exact trivial
                    clear hK K
                    try simp only [Act.put,zA,zB,zC,zD,zE,zF]
                    refine wpAnyH_done (by kernel_rfl) ?_ _
                    refine NoPanic.normal ?_
                    go_wp2
                    go_roundw
                    case rel=>exact HEND.out
                    case measure=>simp [intOf];omega
            · try simp only [zA,zB,zC]
              go_simp
              refine hK.out _ _ ?_ (fun hHeld=> ?_)
              · exact trivial
              clear hK K
              try simp only [Act.put,zA,zB,zC,zD,zE,zF]
              refine wpAnyH_ready (rs:=[1]) (by kernel_rfl) (by simp) ?_
              refine (AllReadyH.cons rfl (fun K hK=> ?_) AllReadyH.nil)
              · try simp only [zA,zB,zC]
                have hl:=HL6a.out
                go_simp
                refine hK.out _ _ ?_ (fun hHeld=> ?_)
                · exact trivial
                clear hK K
                try simp only [Act.put,zA,zB,zC,zD,zE,zF]
                refine wpAnyH_ready (rs:=[6]) (by kernel_rfl) (by simp) ?_
                refine (AllReadyH.cons rfl (fun K hK=> ?_) AllReadyH.nil)
                · try simp only [zA,zB,zC]
                  refine step_append_known (a:=⟨_,_⟩) ?_ (.tmp 52) (.tmp 56) 89 ?_ v4 (.slice (some ⟨w6.heap.size,0,none⟩) 1 1) ?_ ?_ (.slice (some ⟨g,0,none⟩) (j+1) cap) w7 ?_ ?_
                  · rfl
                  · rfl
                  · rfl
                  · rfl
                  · exact HRUN.out
                  refine hK.out _ _ ?_ (fun hHeld=> ?_)
                  · exact trivial
                  clear hK K
                  try simp only [Act.put,zD,zE,zF]
                  refine wpAnyH_take (i:=7) (v:= .pointer (some ⟨P,3,none⟩)) rfl (by kernel_rfl) (by kernel_rfl) (by kernel_rfl) (fun _ _ _ h=>h) (Or.inl ⟨by rfl,fun wx hSw=>by go_simp⟩) (by assumption) ?_
                  try simp only [Act.put,zA,zB,zC,zD,zE,zF]
                  refine wpAnyH_ready (rs:=[8]) (by kernel_rfl) (by simp) ?_
                  refine (AllReadyH.cons rfl (fun K hK=> ?_) AllReadyH.nil)
                  · try simp only [zA,zB,zC]
                    obtain ⟨f7,f8⟩:=F7.out
                    go_simp
                    refine hK.out _ _ ?_ (fun hHeld=> ?_)
                    · exact trivial
                    clear hK K
                    try simp only [Act.put,zA,zB,zC,zD,zE,zF]
                    refine wpAnyH_done (by kernel_rfl) ?_ _
                    refine NoPanic.normal ?_
                    go_wp2
                    go_roundw
                    case rel=>exact HEND.out
                    case measure=>simp [intOf];omega
        · have hje:j=K:=by omega
          subst hje
          have htl:(buildP G).lists.take j=(buildP G).lists:=List.take_of_length_le (by rw [HKK.out];exact Nat.le_refl _)
          rw [htl] at hgl
          have hv4:∃ A4 c4,v4= .slice A4 (buildP G).lists.length c4:=by
            obtain ⟨cs4,hl4,_⟩:=hgl.lists
            obtain ⟨A4,c4,e,_⟩:=owned_row hl4
            exact ⟨A4,c4,e⟩
          obtain ⟨A4,c4,rfl⟩:=hv4
          have qq:=(four10 hgl.cells).1
          obtain ⟨n1,hn1⟩:∃ n,n=(buildP G).ids.length:=⟨_,rfl⟩
          obtain ⟨n2,hn2⟩:∃ n,n=(buildP G).seqs.length:=⟨_,rfl⟩
          obtain ⟨n4,hn4⟩:∃ n,n=(buildP G).lists.length:=⟨_,rfl⟩
          have hpat:PAt wr wr.heap.size A1 A2 A8 A4 (buildP G):=⟨hra.row,hrb.row,hgl.rows.1,hgl.rows.2⟩
          have HM:=Lib.hid (seg_Make A1 A2 A8 A4 n1 c1 n2 c2 _ c8 n4 c4 (buildP G) wr hn1.symm hn2.symm HK.out.symm hn4.symm hpat (build_few HG.out) (build_small HG.out) (build_may HG.out))
          have HBE:=Lib.hid hrig.bel
          rw [← hn1,← hn2,← hn4] at qq
          obtain ⟨q0,q1,q2,q3⟩:=qq
          clear hgl hra hrb hrig htl hpat hn1 hn2 hn4
          go_wp2_with (go_at_call 44;refine HM.out.mono ?_;rintro e w9 ⟨S9,rfl,hs9,hS9,hb9⟩)
          go_ret2
          exact ⟨S9,rfl,hs9,Nat.le_trans HBE.out.size hS9,HBE.out.trans (hb9.mono HBE.out.size)⟩
end Go.Proofs.YtldcadpemnpbmaaGreatDoor
set_option linter.unusedVariables false
namespace Go.Proofs.YtldcadpemnpbmaaGreatDoor
open Go Go.RowKit
theorem goodsE_at {l:List Dc} {most:Nat} {start step:Int} {i:Nat} (hi:i<(goodsE l most start step).length):((goodsE l most start step)[i]).2.2=start+step*(i:Int):=by
 simp [goodsE]
end Go.Proofs.YtldcadpemnpbmaaGreatDoor
set_option linter.unusedVariables false
namespace Go.Proofs.YtldcadpemnpbmaaGreatDoor
open Go Go.RowKit
theorem goodsE_add (l:List Dc) (most:Nat) (start step:Int) (hm:most≤100) (h0:0≤start) (h1:1≤step):AddOk (goodsE l most start step) where
 may q hq:=by
  obtain ⟨d,hd⟩:=goodsE_good l most start step q hq
  rw [hd]
  exact ⟨goodD_may d,fun f hf=>⟨Nat.le_trans (goodUp_name d _ f hf) (by omega),Nat.le_trans (goodUp_text d _ f hf) (by omega)⟩⟩
 rise:=by
  have hat:∀ (i:Nat) (h:i<((goodsE l most start step).map (·.2.2)).length),((goodsE l most start step).map (·.2.2))[i]=start+step*(i:Int):=fun i h=>by
   rw [List.getElem_map]
   exact goodsE_at (by simpa using h)
  refine rises_of ?_ ?_
  ·refine List.pairwise_iff_getElem.2 fun i j hi hj hij=> ?_
   rw [hat i hi,hat j hj]
   have :step*(i:Int)<step*(j:Int):=Int.mul_lt_mul_of_pos_left (by omega) (by omega)
   omega
  ·intro a ha
   obtain ⟨i,hi,rfl⟩:=List.getElem_of_mem ha
   rw [hat i hi]
   have :0≤step*(i:Int):=Int.mul_nonneg (by omega) (by omega)
   omega
 few:=by rw [goodsE_length];omega
theorem OwnES.small {S:Nat→Prop} {w:World} {v:Value} {l:List En} (h:OwnES S w v l):OwnES (fun k=>k<w.heap.size) w v l:=by
 obtain ⟨cs,h1,h2,h3⟩:=h
 refine ⟨cs,h1,fun k hk=>(h1.lt k hk).2,h3.imp fun A xs hr=>⟨RowP.imp hr.1 fun k hk=> ?_,hr.2⟩⟩
 obtain ⟨_,cs',fr,hh,ho⟩:=hk
 exact ⟨(Array.getElem?_eq_some_iff.1 hh).1,cs',fr,hh,ho⟩
end Go.Proofs.YtldcadpemnpbmaaGreatDoor
set_option linter.unusedVariables false
namespace Go.Proofs.YtldcadpemnpbmaaGreatDoor
open Go Go.RowKit
theorem sc_at {l:List Fo} {k:Nat} (hk:k<l.length) (d:Nat):scF (l.drop k) d=if l[k].1=d then some l[k].2 else scF (l.drop (k+1)) d:=by rw [List.drop_eq_getElem_cons hk,scF]
def AtF (l:List Fo) (d:Nat) (i:Int):Prop:=(scF l d=none∧i= -1)∨∃ k:Nat,∃ h:k<l.length,i=(k:Int)∧scF l d=some l[k].2
def AtRel (l:List Fo) (d:Nat) (w:World) (vi:Value) (wr:World):Prop:=∃ k:Nat,k≤l.length∧vi= .int .i64 (k:Int)∧scF (l.drop k) d=scF l d∧Below w.heap.size w wr
set_option maxHeartbeats 1000000 in
set_option maxRecDepth 100000 in
theorem ref13_at (A:Option Addr) (n c:Nat) (l:List Fo) (d:Nat) (w:World) (hr:FoRow w A l) (hn:l.length=n) (hm:n≤1099511627776):
  Calls Tryz.prog 58 #[.slice A n c,.int .i64 (d:Int)] w fun e w'=>(∃ i,e= .returned (.int .i64 i)∧AtF l d i)∧Below w.heap.size w w':=by
 have HR:=Lib.hid hr
 have HN:=Lib.hid hn
 have HREL:Hid (AtRel l d w (.int .i64 ((0:Nat):Int)) w):=Lib.hid ⟨0,Nat.zero_le _,rfl,rfl,Below.refl _ _⟩
 obtain ⟨dd,hdd⟩:∃ dd:Int,dd=(d:Int):=⟨_,rfl⟩
 rw [← hdd]
 have HD:=Lib.hid hdd
 clear hr hn hdd
 go_enter Tryz.func58,Tryz.ntmps58
 go_wp2
 go_loopw [5] (AtRel l d w) (fun i _=>n-(intOf i).toNat)
 case atStart=>exact HREL.out
 case round=>
  obtain ⟨k,hk,rfl,hsc,hbw⟩:=hrel
  rw [HN.out] at hk
  by_cases hlt:k<n
  ·have hkl:k<l.length:=by rw [HN.out];exact hlt
   obtain ⟨b1,o1,rfl, -,hc1, -⟩:=(HR.out.later hbw).at_ hkl
   have hs:=sc_at hkl d
   rw [hsc] at hs
   have hkn:(k:Int)<(n:Int):=by omega
   obtain ⟨x,hx⟩:∃ x,x=l[k]:=⟨_,rfl⟩
   have HK:Hid (∃ h:k<l.length,x=l[k]'h):=Lib.hid ⟨hkl,hx⟩
   rw [← hx] at hc1 hs
   obtain ⟨y,hy⟩:∃ y:Int,y=(x.1:Int):=⟨_,rfl⟩
   rw [← hy] at hc1
   by_cases he:x.1=d
   ·have e1:(y==dd)=true:=by rw [hy,he,HD.out];exact beq_self_eq_true _
    have HS:Hid (scF l d=some x.2):=Lib.hid (by rw [hs];exact if_pos he)
    clear hs hsc hy he hkl hx
    go_wp2
    go_ret
    obtain ⟨hk2,hx2⟩:=HK.out
    exact ⟨⟨_,rfl,.inr ⟨k,hk2,rfl,by rw [HS.out,hx2]⟩⟩,hbw⟩
   ·have e1:(y==dd)=false:=beq_eq_false_iff_ne.2 (by rw [HD.out];omega)
    have HS:Hid (scF l d=scF (l.drop (k+1)) d):=Lib.hid (by rw [hs];exact if_neg he)
    clear hs hsc hy he hkl hx
    go_wp2
    go_roundw
    case rel=>exact ⟨k+1,HK.out.1,by go_num,HS.out.symm,hbw⟩
    case measure=>simp [intOf];omega
  ·have hs:scF l d=none:=by rw [← hsc,List.drop_of_length_le (by rw [HN.out];omega)];rfl
   have HS:=Lib.hid hs
   clear hs hsc
   go_wp2
   go_ret
   exact ⟨⟨_,rfl,.inl ⟨HS.out,rfl⟩⟩,hbw⟩
def SameRel13 (a b:List Fo) (w:World) (r vi:Value) (wr:World):Prop:=r= .bool false∧∃ k:Nat,k≤a.length∧vi= .int .i64 (k:Int)∧(decide (a.drop k=b.drop k)=decide (a=b))∧Below w.heap.size w wr
theorem same_at {a b:List Fo} {k:Nat} (ha:k<a.length) (hb:k<b.length):decide (a.drop k=b.drop k)=(decide (a[k]=b[k])&&decide (a.drop (k+1)=b.drop (k+1))):=by
 rw [List.drop_eq_getElem_cons ha,List.drop_eq_getElem_cons hb,Bool.eq_iff_iff,Bool.and_eq_true,decide_eq_true_iff,decide_eq_true_iff,decide_eq_true_iff]
 exact List.cons_eq_cons
set_option maxHeartbeats 4000000 in
set_option maxRecDepth 100000 in
theorem ref13_Same (A A2:Option Addr) (n c n2 c2:Nat) (a b:List Fo) (w:World) (ha:FoRow w A a) (hb:FoRow w A2 b) (hn:a.length=n) (hn2:b.length=n2) (hm:n≤1099511627776) (hm2:n2≤1099511627776):
  Calls Tryz.prog 17 #[.slice A n c,.slice A2 n2 c2] w fun e w'=>e= .returned (.bool (decide (a=b)))∧Below w.heap.size w w':=by
 obtain ⟨ans,hans⟩:∃ ans,ans=decide (a=b):=⟨_,rfl⟩
 rw [← hans]
 by_cases hne:n=n2
 ·subst hne
  have e0:((n:Int) != (n:Int))=false:=by simp
  have HREL:Hid (SameRel13 a b w (.bool false) (.int .i64 ((0:Nat):Int)) w):=Lib.hid ⟨rfl,0,Nat.zero_le _,rfl,rfl,Below.refl _ _⟩
  have HRA:=Lib.hid ha
  have HRB:=Lib.hid hb
  have HN:=Lib.hid hn
  have HN2:=Lib.hid hn2
  have HA:=Lib.hid hans
  clear ha hb hn hn2 hans hm2
  go_enter Tryz.func17,Tryz.ntmps17
  go_wp2
  go_loopw [4,5] (SameRel13 a b w) (fun _ i _=>n-(intOf i).toNat)
  case atStart=>exact HREL.out
  case round=>
   obtain ⟨rfl,k,hk,rfl,hsm,hbw⟩:=hrel
   rw [HN.out] at hk
   by_cases hlt:k<n
   ·have hka:k<a.length:=by rw [HN.out];exact hlt
    have hkb:k<b.length:=by rw [HN2.out];exact hlt
    obtain ⟨b1,o1,rfl, -,p0,p1⟩:=(HRA.out.later hbw).at_ hka
    obtain ⟨b2,o2,rfl, -,q0,q1⟩:=(HRB.out.later hbw).at_ hkb
    have hs:=same_at hka hkb
    rw [hsm,← HA.out] at hs
    have hkn:(k:Int)<(n:Int):=by omega
    obtain ⟨x,hx⟩:∃ x,x=a[k]:=⟨_,rfl⟩
    obtain ⟨y,hy⟩:∃ y,y=b[k]:=⟨_,rfl⟩
    rw [← hx] at p0 p1 hs
    rw [← hy] at q0 q1 hs
    obtain ⟨xd,xs⟩:=x
    obtain ⟨yd,ys⟩:=y
    have HK:=Lib.hid hka
    simp only at p0 p1 q0 q1
    clear hx hy hka hkb hsm
    by_cases h1:xd=yd
    ·subst h1
     by_cases h2:xs=ys
     ·subst h2
      have hs':decide (a.drop (k+1)=b.drop (k+1))=ans:=by rw [hs];simp
      have HS:=Lib.hid hs'
      obtain ⟨z,hz⟩:∃ z:Int,z=(xd:Int):=⟨_,rfl⟩
      rw [← hz] at p0 q0
      clear hs hs' hz
      go_wp2
      go_quiet (fail)
      go_wp2
      go_roundw
      case rel=>exact ⟨rfl,k+1,HK.out,by go_num,by rw [HS.out,HA.out],hbw.trans ⟨rfl,rfl,rfl,Nat.le_refl _,fun _ _=>rfl⟩⟩
      case measure=>simp [intOf];omega
     ·have hv:ans=false:=by rw [hs];simp [h2]
      have e2:(xs==ys)=false:=beq_eq_false_iff_ne.2 h2
      obtain ⟨z,hz⟩:∃ z:Int,z=(xd:Int):=⟨_,rfl⟩
      rw [← hz] at p0 q0
      subst hv
      clear hs h2 hz
      go_wp2
      go_quiet (fail)
      go_wp2
      go_ret
      exact ⟨rfl,hbw.trans ⟨rfl,rfl,rfl,Nat.le_refl _,fun _ _=>rfl⟩⟩
    ·have hv:ans=false:=by rw [hs];simp [h1]
     obtain ⟨z,hz⟩:∃ z:Int,z=(xd:Int):=⟨_,rfl⟩
     obtain ⟨u,hu⟩:∃ u:Int,u=(yd:Int):=⟨_,rfl⟩
     have e1:(z==u)=false:=beq_eq_false_iff_ne.2 (by omega)
     rw [← hz] at p0
     rw [← hu] at q0
     subst hv
     clear hs h1 hz hu
     go_wp2
     go_quiet (fail)
     go_wp2
     go_ret
     exact ⟨rfl,hbw.trans ⟨rfl,rfl,rfl,Nat.le_refl _,fun _ _=>rfl⟩⟩
   ·have hv:ans=true:=by rw [HA.out,← hsm,List.drop_of_length_le (by rw [HN.out];omega),List.drop_of_length_le (by rw [HN2.out];omega)];rfl
    subst hv
    clear hsm
    go_wp2
    go_ret
    exact ⟨rfl,hbw⟩
 ·have hv:ans=false:=by rw [hans,decide_eq_false];intro e;rw [e] at hn;omega
  have e0:((n:Int) != (n2:Int))=true:=by simp;omega
  subst hv
  clear ha hb hn hn2 hans
  go_enter Tryz.func17,Tryz.ntmps17
  go_wp2
  go_ret
  exact ⟨rfl,Below.refl _ _⟩
end Go.Proofs.YtldcadpemnpbmaaGreatDoor
set_option linter.unusedVariables false
namespace Go.Proofs.YtldcadpemnpbmaaGreatDoor
open Go Go.RowKit
def NotRel (g:Nat→Option Int) (n:Nat) (w:World) (vo vi:Value) (wr:World):Prop:=∃ k:Nat,k≤n∧vi= .int .i64 (k:Int)∧OwnFo w.heap.size wr vo (tabF k g)∧Below w.heap.size w wr
set_option maxHeartbeats 4000000 in
set_option maxRecDepth 100000 in
theorem ref13_Not (va:Value) (a:List Fo) (n:Nat) (w:World) (ha:InFo w va a) (hra:RiseF a) (hfa:FewF a) (hn:n≤1048576):
  Calls Tryz.prog 23 #[va,.int .i64 (n:Int)] w (GaveFo (notF a n) w):=by
 obtain ⟨i0,hi0,hz0,hz1,hz2⟩:=info_parts info_found
 rw [not_is hra]
 obtain ⟨A,c,rfl,hac,hcm,hrow⟩:=ha
 obtain ⟨m,hm⟩:∃ m,m=a.length:=⟨_,rfl⟩
 rw [← hm]
 have hm1:m≤1099511627776:=by have :=hfa.1;omega
 have HAT:Hid (∀ d w2,Below w.heap.size w w2→Calls Tryz.prog 58 #[.slice A m c,.int .i64 ((d:Nat):Int)] w2 fun e w'=>(∃ i,e= .returned (.int .i64 i)∧AtF a d i)∧Below w2.heap.size w2 w'):=Lib.hid fun d w2 hb=>ref13_at A m c a d w2 (FoRow.later hrow hb) hm.symm hm1
 obtain ⟨g,hg⟩:∃ g:Nat→Option Int,g=fun d=>if (scF a d).isSome=true then none else some 0:=⟨_,rfl⟩
 rw [← hg]
 have HG:=Lib.hid hg
 have HREL:Hid (NotRel g n w (.slice none 0 0) (.int .i64 ((0:Nat):Int)) w):=Lib.hid ⟨0,Nat.zero_le _,rfl,OwnFo.nil,Below.refl _ _⟩
 clear hg hm hrow hra hfa hac hcm
 go_enter Tryz.func23,Tryz.ntmps23
 go_wp2
 go_loopw [5,6] (NotRel g n w) (fun _ i _=>n-(intOf i).toNat)
 case atStart=>exact HREL.out
 case round=>
  obtain ⟨k,hk,rfl,hown,hbw⟩:=hrel
  by_cases hlt:k<n
  ·have hkn:(k:Int)<(n:Int):=by omega
   have hsz:=hbw.size
   have hts:=tab_succ k g
   have htl:=tab_length g k
   have HA:=Lib.hid (HAT.out k wr hbw)
   obtain ⟨L,hL⟩:∃ L,L=tabF k g:=⟨_,rfl⟩
   rw [← hL] at hts htl
   unfold OwnFo at hown
   rw [← hL] at hown
   obtain ⟨q,hq⟩:∃ q,q=L.length:=⟨_,rfl⟩
   rw [← hq] at hown htl
   have hown0:=hown
   obtain ⟨Av,cv,rfl, -, -⟩:=owned_row hown0
   have HQ:=Lib.hid hq
   have HO:=Lib.hid hown
   have HTS:=Lib.hid hts
   have HBW:=Lib.hid hbw
   clear hL hown hown0 hq hts hbw
   go_wp2_with (go_at_call 58;refine HA.out.mono ?_)
   rintro e w2 ⟨⟨i,rfl,hat⟩,hb2⟩
   have hsz2:=hb2.size
   rcases hat with ⟨h1,rfl⟩|⟨j,hj,rfl,h1⟩
   ·have hts2:tabF (k+1) g=L++[(k,0)]:=by rw [HTS.out,show g k=some 0 by rw [HG.out];simp [h1]]
    have HT2:=Lib.hid hts2
    have HB2:=Lib.hid hb2
    have HO2:=Lib.hid (owned_below HO.out hb2)
    clear hts2 hb2 h1
    go_wp2_with (at_builtin;refine wpList_append_own _ rfl (.tmp 16) (.tmp 19) 46 rfl w.heap.size 53 i0 _ 2 16 Tryz.underlying46 hi0 hz0 hz1 hz2 rfl (by omega) _ q (foC L) rfl (HO2.out.alloc _) ⟨w2.heap.size,0,none⟩ 1 1 [.int .i64 (k:Int),.int .i64 0] rfl rfl (news_at w2 [.int .i64 (k:Int),.int .i64 0] 53) (by intro u hu;simp at hu;rcases hu with rfl|rfl<;>rfl) (by unfold maxLen;omega) (by omega) (by simp;omega) ?_)
    intro v5 w5 hown5 hg5 _
    have hb5:Below w.heap.size w2 w5:=((Below.refl _ w2).alloc (by omega) _).grown hg5 (by simp;omega) fun j hj=>(HO2.out.lt j hj).1
    have hfin:NotRel g n w v5 (.int .i64 ((k:Int)+1)) w5:=by
     refine ⟨k+1,by omega,rfl,?_,HBW.out.trans ((HB2.out.mono hsz).trans hb5)⟩
     unfold OwnFo
     rw [HT2.out,List.length_append,List.length_singleton,← HQ.out,foC_append]
     exact hown5
    have HF:=Lib.hid hfin
    clear hfin hb5 hg5 hown5
    go_wp2
    go_roundw
    case rel=>exact HF.out
    case measure=>simp [intOf];omega
   ·have hfin:NotRel g n w (.slice Av q cv) (.int .i64 ((k:Int)+1)) w2:=by
     refine ⟨k+1,by omega,rfl,?_,HBW.out.trans (hb2.mono hsz)⟩
     unfold OwnFo
     rw [HTS.out,show g k=none by rw [HG.out];simp [h1]]
     simp only [List.append_nil]
     rw [← HQ.out]
     exact owned_below HO.out hb2
    have HF:=Lib.hid hfin
    clear hfin hb2 h1 hj
    go_wp2
    go_roundw
    case rel=>exact HF.out
    case measure=>simp [intOf];omega
  ·obtain rfl:k=n:=by omega
   have HO:=Lib.hid hown
   clear hown hlt
   go_wp2
   go_ret
   exact ⟨_,rfl,HO.out,hbw⟩
end Go.Proofs.YtldcadpemnpbmaaGreatDoor
