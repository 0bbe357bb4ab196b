import Derived.Test.YtpehcaidjlemiaaGreatDoorMKZz
import Derived.Test.YtpehcaidjlemiaaGreatDoorMKQ28
import Derived.Test.YtpehcaidjlemiaaGreatDoorMKQ29
import Derived.Deep.RegionHeld3
import Derived.Deep.AppendLies
import Derived.BigQuiet
import Derived.Test.YtpehcaidjlemiaaGreatDoorMKQ13
import Derived.Test.YtpehcaidjlemiaaGreatDoorMKQ11
import Derived.Test.YtpehcaidjlemiaaGreatDoorMKQ06
import Derived.Test.YtpehcaidjlemiaaGreatDoorMKQ05
import Derived.Test.YtpehcaidjlemiaaGreatDoorMKQ14
import Derived.Test.YtpehcaidjlemiaaGreatDoorMKQ02
import Derived.RegionTactic
import Derived.BigCall
import Derived.Deep.RegionWith
import Derived.Test.YtpehcaidjlemiaaGreatDoorMKQ16
import Derived.Deep.RegionLaw
import Derived.Test.YtpehcaidjlemiaaGreatDoorMKQ25
import Derived.Test.YtpehcaidjlemiaaGreatDoorMKQ20
import Derived.Test.YtpehcaidjlemiaaGreatDoorMKQ09
import Derived.Test.YtpehcaidjlemiaaGreatDoorMKQ01
import Derived.Lib.SliceRun
import Derived.Deep.QuietTactic
set_option maxHeartbeats 8000000
set_option maxRecDepth 100000
set_option linter.unusedVariables false
namespace Go.Proofs.YtpehcaidjlemiaaGreatDoor
open Go Go.RowKit
def qpK (S:Nat->Prop) (B:Nat) (l:List En) (up:Int) (q:En) (w:World) (e:Ending) (w':World):Prop:=
 e= .returned (.int .i64 (qgy up q))/\(qgy up q≠0->Below w.heap.size w w')/\(qgy up q=0->∃ S',qcL S' w' B (l++[q]) q.2.2/\(∀ k,S' k->S k∨w.heap.size<=k)/\qbN S w w')
theorem qyM {S:Nat->Prop} {w:World} {B:Nat} {l:List En} {up:Int} (h:qcL S w B l up) (q:En) (A:Option Addr) (n cp:Nat) (hl:q.2.1.length=n) (hncp:n<=cp) (hf:qaO (fun k=>k<w.heap.size/\¬ S k) w A (flds q.2.1)) (hA:A=none∨∃ b o,A=some ⟨b,o,none⟩)
    (hn:n<=1048576) (ht:∀ f∈q.2.1,f.1.length<=1024/\f.2.length<=1024) (hlen:l.length<=1000):
    Calls Tryz.prog 30 #[.pointer (some ⟨B,0,none⟩),.agg #[.int .i64 q.1,.slice A n cp,.int .i64 q.2.2]] w (qpK S B l up q w):=by
  obtain ⟨t0,hi0,hz0,hz1,hz2⟩:=info_parts qmr;obtain ⟨v,M,c,g,hb⟩:=h;obtain ⟨id,fs,seq⟩:=q;simp only at hl hf ht ⊢;have hBlt:=lt_of_block hb.cells;obtain ⟨w1,hw1⟩:∃ w1,w1=w.alloc (.cells #[.int .i64 id,.slice A n cp,.int .i64 seq] 61):=⟨_,rfl⟩;have hb1:Below w.heap.size w w1:=by rw [hw1];exact (Below.refl _ _).alloc (Nat.le_refl _) _
  have hfr:qaD w w.heap.size A fs:=hf.imp fun k hk=>hk.1
  have hat1:qbu S B M c (id,fs,seq) A cp v l (qdb l) up g w w1:=by
    refine ⟨(hb1.block _ hBlt).trans hb.cells,(hb.own.keeps fun k _ hk=>hb1.block k hk).imp fun k hk=> .inl hk,(hb.map.keep fun k _ hk=>hb1.block k hk).imp fun k hk=> .inl hk,qbN.of_below hb1,?_,hb.mine,hfr.below hb1,fun e=> ?_⟩
    · rw [hw1,hl]
      exact heap_alloc_new w _
    · obtain ⟨cs,r1,_⟩:=hb.own
      exact absurd (r1.lt _ e).2 (Nat.lt_irrefl _)
  have HM:Hid (∀ w',Below w1.heap.size w1 w'->Calls Tryz.prog 62 #[qcZ id A n cp] w' fun e w''=>e= .returned (.int .i64 (qbh fs))/\Below w'.heap.size w' w''):=qH fun w' h=>qyK id A n cp fs w' hl ((hfr.later hb1).later h) (by omega) hncp fun f hf=>by have :=ht f hf;omega
  have HG:Hid (∀ e w',qpK S B l up (id,fs,seq) w e w'↔(e= .returned (.int .i64 (if qbh fs≠0 then qbh fs else if seq<0∨seq<=up then 12 else 0))/\((if qbh fs≠0 then qbh fs else if seq<0∨seq<=up then 12 else 0)≠0->Below w.heap.size w w')/\((if qbh fs≠0 then qbh fs else if seq<0∨seq<=up then 12 else 0)=0->∃ S',qcL S' w' B (l++[(id,fs,seq)]) seq/\(∀ k,S' k->S k∨w.heap.size<=k)/\qbN S w w'))):=qH fun e w'=>Iff.rfl
  have hGF:qbh fs=0->qdu fs:=fun h=>qiN h fun f hf=>(ht f hf).2
  have hup:=hb.up1;have HGF:=qH hGF;have HAT:=qH hat1;have HBI:=qH hb;have HF:=qH hf;have HL:=qH hl;have HB1:=qH hb1;obtain ⟨q0,q1,q2⟩:=qeQ hat1.ent;simp only [hl] at q0 q1 q2;have HW1:=qH hw1;clear hGF hat1 hb hf hl hb1 ht hfr hw1;obtain ⟨E,hE⟩:∃ E,E=qbh fs:=⟨_,rfl⟩;rw [<- hE] at HM HG HGF;clear hE
  go_enter Tryz.func30,Tryz.ntmps30
  rw [HW1.out] at q0 q1 q2
  go_upto_region 2 with (first
    | (go_at_call 62; rw [show w.alloc _ = w1 from HW1.out.symm]; (with_reducible refine (HM.out _ (Below.refl _ _)).mono ?_); rintro e w2 ⟨rfl, hb2⟩
       have HAT2:=qH (HAT.out.below hb2);have HB2:=qH (HB1.out.trans (hb2.mono HB1.out.size));clear hb2))
  by_cases hE0:E=0
  · subst hE0
    clear q0 q1 q2;obtain ⟨q0,q1,q2⟩:=qeQ HAT2.out.ent;obtain ⟨c0,c1,c2,c3,f0,f1,f2,f3⟩:=qcg HAT2.out.cells;simp only [HL.out] at q0 q1 q2;by_cases hs:seq<=up
    · have hz:(if (0:Int)≠0 then 0 else if seq<0∨seq<=up then (12:Int) else 0)=12:=by rw [if_neg (by decide),if_pos (.inr hs)]
      have HZ:=qH hz;clear hz
      go_upto_region 4 with fail
      go_quiet (fail)
      go_wp2;go_ret;rw [HZ.out] at HG;exact (HG.out _ _).2 ⟨rfl,fun _=>HB2.out.trans ((qhH _ _).mono HB2.out.size),fun h=>absurd h (by decide)⟩
    · have hs1:up<seq:=by omega
      have hz:(if (0:Int)≠0 then 0 else if seq<0∨seq<=up then (12:Int) else 0)=0:=by rw [if_neg (by decide),if_neg (by omega)]
      rw [hz] at HG;have hgf:=HGF.out rfl;have HGOOD:=qH hgf;obtain ⟨Av,cv,hv,hcv,_⟩:=HAT2.out.own.nest;subst hv;clear hs hz hgf
      go_upto_region 4 with fail
      go_quiet (fail)
      generalize hw:World.drewN _ nq=w3;have hb3:Below w2.heap.size w2 w3:=by rw [<- hw];exact qhH _ _
      have HAT3:=qH (HAT2.out.below hb3);clear hw hb3 q0 q1 q2 c0 c1 c2 c3 f0 f1 f2 f3;have HAT3D:Hid (qbu S B M c (id,fs,seq) A cp (.slice Av l.length cv) l (qdb l) up g w w3.drew):=qH (HAT3.out.below (Below.refl _ w3).drew);have HT:Hid (Calls Tryz.prog 63 #[.pointer (some ⟨B,0,none⟩),qcZ id A n cp,.int .i64 (l.length:Int)] w3.drew (qkE (fun k=>S k∨qbC w.heap.size w3.drew k) M c l.length fs g w3.drew)):=qH (qyu _ B M c g _ _ _ id A n cp fs l.length w3.drew HAT3D.out.cells HAT3D.out.map HGOOD.out HL.out HAT3D.out.row hlen fun key=>by
        rw [HBI.out.stand.posts key];have h1:=qpJ (l:=l) (i:=0) (key:=key) (M:=4000) fun q hq=>qjR (HBI.out.good q hq)
        have h2:l.length*4000<=1000*4000:=Nat.mul_le_mul_right _ hlen;omega)
      obtain ⟨q0,q1,q2⟩:=qeQ HAT3.out.ent;obtain ⟨c0,c1,c2,c3,f0,f1,f2,f3⟩:=qcg HAT3.out.cells;simp only [HL.out] at q0 q1 q2
      go_upto_region 6 with fail
      go_region_held3 (fun w'=>w'.cell? ⟨w.heap.size,0,none⟩=some (.int .i64 id)/\w'.cell? ⟨w.heap.size,1,none⟩=some (.slice A n cp)/\w'.cell? ⟨w.heap.size,2,none⟩=some (.int .i64 seq)/\w'.cell? ⟨B,0,none⟩=some (.slice Av l.length cv))
        (first|exact ⟨q0,q1,q2,c0⟩|exact HS4.out)
        (first
          | (go_at_call 63; (with_reducible refine HT.out.mono ?_); rintro e w4 ⟨rfl, hm4, ho4⟩
             have hat4:=HAT3D.out.turned HF.out hm4 ho4;have HAT4:=qH hat4;have HS4:Hid (w4.cell? ⟨w.heap.size,0,none⟩=some (.int .i64 id)/\w4.cell? ⟨w.heap.size,1,none⟩=some (.slice A n cp)/\w4.cell? ⟨w.heap.size,2,none⟩=some (.int .i64 seq)/\w4.cell? ⟨B,0,none⟩=some (.slice Av l.length cv)):=qH (by
               obtain ⟨q0,q1,q2⟩:=qeQ hat4.ent;simp only [HL.out] at q0 q1 q2;exact ⟨q0,q1,q2,(qcg hat4.cells).1⟩)
             clear hm4 ho4 hat4))
      clear q0 q1 q2 c0 c1 c2 c3 f0 f1 f2 f3;have hs4:=HAT4.out.only.size;obtain ⟨GG,hGG⟩:∃ GG,GG=qb1 l.length fs g (qaz fs):=⟨_,rfl⟩;rw [<- hGG] at HAT4;have HGG:=qH hGG;clear hGG;have t4:=(qcg HAT4.out.cells).1;have HS4':Hid (w4.cell? ⟨w.heap.size,0,none⟩=some (.int .i64 id)/\w4.cell? ⟨w.heap.size,1,none⟩=some (.slice A n cp)/\w4.cell? ⟨w.heap.size,2,none⟩=some (.int .i64 seq)):=qH ⟨HS4.out.1,HS4.out.2.1,HS4.out.2.2.1⟩;clear HS4;have HS4:=HS4';clear HS4';have HCL:Hid (Calls Tryz.prog 64 #[.agg #[.int .i64 id,.slice A n cp,.int .i64 seq]] w4.drew (qpI id fs seq w4.drew)):=qH (qyB id A n cp fs seq w4.drew HL.out HAT4.out.row hA hn);have HAFT:Hid (∀ (w5:World) (A5:Option Addr) (c5:Nat),fs.length<=c5/\c5<=maxLen->qaH w4.drew.heap.size w5 (.slice A5 fs.length c5) fs->Below w4.drew.heap.size w4.drew w5->
          w5.cell? ⟨B,0,none⟩=some (.slice Av l.length cv)/\(∀ o,(w5.alloc o).cell? ⟨B,0,none⟩=some (.slice Av l.length cv))/\(w5.cell? ⟨w.heap.size,0,none⟩=some (.int .i64 id)/\w5.cell? ⟨w.heap.size,1,none⟩=some (.slice A n cp)/\w5.cell? ⟨w.heap.size,2,none⟩=some (.int .i64 seq))/\(∀ o,((w5.alloc o).cell? ⟨w.heap.size,0,none⟩=some (.int .i64 id)/\(w5.alloc o).cell? ⟨w.heap.size,1,none⟩=some (.slice A n cp)/\(w5.alloc o).cell? ⟨w.heap.size,2,none⟩=some (.int .i64 seq)))/\
          (∃ cs,w5.ownsRow 0 61 3 (.slice Av l.length cv) l.length cs/\∀ (gg cap:Nat) (w7:World),w7.ownsRow 0 61 3 (.slice (some ⟨gg,0,none⟩) (l.length+1) cap) (l.length+1) (cs++[.int .i64 id,.slice A5 fs.length c5,.int .i64 seq])->
            (w5.alloc (.cells #[.int .i64 id,.slice A5 fs.length c5,.int .i64 seq] 61)).grownBy w7 (Value.slice Av l.length cv).ownBlock->((Value.slice Av l.length cv).ownBlock=some gg∨gg=w5.heap.size+1)->gg<w7.heap.size->
            w7.heap[B]?=some (.cells #[.slice Av l.length cv,.map (some M),.int .i64 (qdb l:Int),.int .i64 up] 126 (0,0))/\(w7.cell? ⟨w.heap.size,0,none⟩=some (.int .i64 id)/\w7.cell? ⟨w.heap.size,1,none⟩=some (.slice A n cp)/\w7.cell? ⟨w.heap.size,2,none⟩=some (.int .i64 seq))/\((w7.setCell ⟨B,0,none⟩ (.slice (some ⟨gg,0,none⟩) (l.length+1) cap)).cell? ⟨w.heap.size,0,none⟩=some (.int .i64 id)/\(w7.setCell ⟨B,0,none⟩ (.slice (some ⟨gg,0,none⟩) (l.length+1) cap)).cell? ⟨w.heap.size,1,none⟩=some (.slice A n cp)/\(w7.setCell ⟨B,0,none⟩ (.slice (some ⟨gg,0,none⟩) (l.length+1) cap)).cell? ⟨w.heap.size,2,none⟩=some (.int .i64 seq))/\
            qbu S B M c (id,fs,seq) A cp (.slice (some ⟨gg,0,none⟩) (l.length+1) cap) (l++[(id,fs,seq)]) (qdb l) up GG w (w7.setCell ⟨B,0,none⟩ (.slice (some ⟨gg,0,none⟩) (l.length+1) cap)))/\True):=qH fun w5 A5 c5 hc5 ho5 hb5=>by
        have hat5:=HAT4.out.below ((Below.refl _ w4).drew.trans hb5);have hcell:∀ {wx:World},wx.heap[w.heap.size]?=some (.cells #[.int .i64 id,.slice A fs.length cp,.int .i64 seq] 61 (0,0))->(wx.cell? ⟨w.heap.size,0,none⟩=some (.int .i64 id)/\wx.cell? ⟨w.heap.size,1,none⟩=some (.slice A n cp)/\wx.cell? ⟨w.heap.size,2,none⟩=some (.int .i64 seq)):=fun {wx} h=>by
          have :=qeQ h;rw [HL.out] at this;exact this
        have hal:∀ o,Below w5.heap.size w5 (w5.alloc o):=fun o=>(Below.refl _ _).alloc (Nat.le_refl _) o
        obtain ⟨cs,hown5,hpush⟩:=hat5.push HF.out hBlt (ho5.low hs4) hc5;refine ⟨(qcg hat5.cells).1,fun o=>(qcg (hat5.below (hal o)).cells).1,hcell hat5.ent,fun o=>hcell (hat5.below (hal o)).ent,⟨cs,hown5,fun gg cap w7 h1 h2 h3 h4=> ?_⟩,trivial⟩;obtain ⟨k1,k2,k3⟩:=hpush gg cap w7 h1 h2 h3 h4;exact ⟨k1,hcell k2,hcell k3.ent,k3⟩
      go_upto_region 7 with fail
      go_cut [] from 28 to 38 (fun wx=>∃ (V:Value),qbu S B M c (id,fs,seq) A cp V (l++[(id,fs,seq)]) (qdb l) up GG w wx)
      case first=>
        refine wp_region_held_drew (S:=(fun w'=>w'.cell? ⟨w.heap.size,0,none⟩=some (.int .i64 id)/\w'.cell? ⟨w.heap.size,1,none⟩=some (.slice A n cp)/\w'.cell? ⟨w.heap.size,2,none⟩=some (.int .i64 seq))) (by kernel_rfl) HS4.out (fun hHeld0=> ?_)
        refine wpAnyH_take (i:=0) (v:= .pointer (some ⟨B,0,none⟩)) rfl (by kernel_rfl) (by kernel_rfl) (by kernel_rfl) (fun _ _ _ h=>h) (Or.inl ⟨by rfl,fun wx hSw=>by obtain ⟨s1,s2,s3⟩:=hSw;go_simp⟩) (by assumption) ?_
        try simp only [Act.put,zA,zB,zD,zE,zF]
        refine wpAnyH_take (i:=1) (v:= .pointer (some ⟨B,0,none⟩)) rfl (by kernel_rfl) (by kernel_rfl) (by kernel_rfl) (fun _ _ _ h=>h) (Or.inl ⟨by rfl,fun wx hSw=>by obtain ⟨s1,s2,s3⟩:=hSw;go_simp⟩) (by assumption) ?_
        try simp only [Act.put,zA,zB,zC,zD,zE,zF]
        refine wpAnyH_take (i:=2) (v:= .pointer (some ⟨B,0,none⟩)) rfl (by kernel_rfl) (by kernel_rfl) (by kernel_rfl) (fun _ _ _ h=>h) (Or.inl ⟨by rfl,fun wx hSw=>by obtain ⟨s1,s2,s3⟩:=hSw;go_simp⟩) (by assumption) ?_
        try simp only [Act.put,zA,zB,zC,zD,zE,zF]
        refine wpAnyH_take (i:=3) (v:= .pointer (some ⟨B,0,none⟩)) rfl (by kernel_rfl) (by kernel_rfl) (by kernel_rfl) (fun _ _ _ h=>h) (Or.inl ⟨by rfl,fun wx hSw=>by obtain ⟨s1,s2,s3⟩:=hSw;go_simp⟩) (by assumption) ?_
        try simp only [Act.put,zA,zB,zC,zD,zE,zF]
        refine wpAnyH_take (i:=5) (v:= .agg #[.int .i64 id,.slice A n cp,.int .i64 seq]) rfl (by kernel_rfl) (by kernel_rfl) (by kernel_rfl) (fun _ _ _ h=>h) (Or.inl ⟨by rfl,fun wx hSw=>by obtain ⟨s1,s2,s3⟩:=hSw;go_simp⟩) (by assumption) ?_
        try simp only [Act.put,zA,zB,zC,zD,zE,zF]
        refine wpAnyH_ready (rs:=[4,6]) (by kernel_rfl) (by simp) ?_;refine AllReadyH.cons rfl (fun K hK=> ?_) (AllReadyH.cons rfl (fun K hK=> ?_) AllReadyH.nil)
        · try simp only [zA,zB,zC]
          go_simp;refine hK.out _ _ ?_ (fun hHeld1=> ?_)
          · exact HS4.out
          clear hK K
          try simp only [Act.put,zA,zB,zC,zD,zE,zF]
          refine wpAnyH_ready (rs:=[6]) (by kernel_rfl) (by simp) ?_;refine AllReadyH.cons rfl (fun K hK=> ?_) AllReadyH.nil
          try simp only [zA,zB,zC]
          go_simp
          go_at_call 64
          (with_reducible refine HCL.out.mono ?_)
          rintro e w5 ⟨A5,c5,rfl,hc5,ho5,hb5⟩;obtain ⟨h50,h51,h52,h53,h54,h55⟩:=HAFT.out w5 A5 c5 hc5 ho5 hb5;have t5:=h50;have t6:=h51;have HS5:=qH h52;have HS6:=qH h53;have HOW5:=qH h54;have HPU:=qH h55;clear h50 h51 h52 h53 h54 h55 ho5 hb5
          go_wp2_with fail
          refine hK.out _ _ ?_ (fun hHeld2=> ?_)
          · exact HS5.out
          clear hK K
          try simp only [Act.put,zA,zB,zC,zD,zE,zF]
          refine wpAnyH_ready (rs:=[7]) (by kernel_rfl) (by simp) ?_;refine AllReadyH.cons rfl (fun K hK=> ?_) AllReadyH.nil
          try simp only [zA,zB,zC]
          go_simp;refine hK.out _ _ ?_ (fun hHeld3=> ?_)
          · exact HS6.out _
          clear hK K
          try simp only [Act.put,zA,zB,zC,zD,zE,zF]
          refine wpAnyH_ready (rs:=[8]) (by kernel_rfl) (by simp) ?_;refine AllReadyH.cons rfl (fun K hK=> ?_) AllReadyH.nil
          try simp only [zA,zB,zC]
          obtain ⟨cs,hown5,hpush⟩:=HOW5.out;have HPUS:=qH hpush;clear hpush;refine step_append_lies (a:=⟨_,_⟩) _ ?_ (.tmp 32) (.tmp 35) 27 ?_ 0 61 t0 _ 3 40 Tryz.underlying27 hi0 hz0 hz1 hz2 rfl (by omega) (.slice Av l.length cv) l.length cs ?_ (hown5.alloc _)
            ⟨w5.heap.size,0,none⟩ 1 1 [.int .i64 id,.slice A5 fs.length c5,.int .i64 seq] ?_ (by rfl) (World.news_of_block (cs:=#[.int .i64 id,.slice A5 fs.length c5,.int .i64 seq]) (t:=61) (fr:=(0,0)) (heap_alloc_new w5 _)) (by intro u hu;simp at hu;rcases hu with hu|hu|hu<;>(subst hu;rfl))
            (by omega) (by unfold maxLen;omega) (by omega) (by simp) (w5.heap.size+1) (by simp) ?_
          · rfl
          · rfl
          · rfl
          · rfl
          intro gg cap w7 hown7 hg7 hat7 hlt7;obtain ⟨hB7,hS7,hS8,hat8⟩:=HPUS.out gg cap w7 hown7 hg7 hat7 hlt7;have s3:=(qcg hB7).1;have s4:=(qcg hB7).2.2.2.2.1;have HAT8:=qH hat8;clear hown7 hg7 hat7 hB7 hat8;refine hK.out _ _ ?_ (fun hHeld4=> ?_)
          · exact hS7
          clear hK K
          try simp only [Act.put,zD,zE,zF]
          refine wpAnyH_take (i:=9) (v:= .pointer (some ⟨B,0,none⟩)) rfl (by kernel_rfl) (by kernel_rfl) (by kernel_rfl) (fun _ _ _ h=>h) (Or.inl ⟨by rfl,fun wx hSw=>by obtain ⟨s1,s2,s3⟩:=hSw;go_simp⟩) (by assumption) ?_
          try simp only [Act.put,zA,zB,zC,zD,zE,zF]
          refine wpAnyH_take (i:=10) (v:= .pointer (some ⟨B,0,none⟩)) rfl (by kernel_rfl) (by kernel_rfl) (by kernel_rfl) (fun _ _ _ h=>h) (Or.inl ⟨by rfl,fun wx hSw=>by obtain ⟨s1,s2,s3⟩:=hSw;go_simp⟩) (by assumption) ?_
          try simp only [Act.put,zA,zB,zC,zD,zE,zF]
          refine wpAnyH_ready (rs:=[11]) (by kernel_rfl) (by simp) ?_;refine AllReadyH.cons rfl (fun K hK=> ?_) AllReadyH.nil
          try simp only [zA,zB,zC]
          go_simp;refine hK.out _ _ ?_ (fun hHeld5=> ?_)
          · exact hS8
          clear hK K
          try simp only [Act.put,zA,zB,zC,zD,zE,zF]
          refine wpAnyH_done (by kernel_rfl) ?_ _;clear hS7 hS8 s3 s4
          go_wp2_with fail
          go_meet;exact ⟨_,HAT8.out⟩
        · try simp only [zA,zB,zC]
          go_simp
          go_at_call 64
          (with_reducible refine HCL.out.mono ?_)
          rintro e w5 ⟨A5,c5,rfl,hc5,ho5,hb5⟩;obtain ⟨h50,h51,h52,h53,h54,h55⟩:=HAFT.out w5 A5 c5 hc5 ho5 hb5;have t5:=h50;have t6:=h51;have HS5:=qH h52;have HS6:=qH h53;have HOW5:=qH h54;have HPU:=qH h55;clear h50 h51 h52 h53 h54 h55 ho5 hb5
          go_wp2_with fail
          refine hK.out _ _ ?_ (fun hHeld1=> ?_)
          · exact HS5.out
          clear hK K
          try simp only [Act.put,zA,zB,zC,zD,zE,zF]
          refine wpAnyH_ready (rs:=[4,7]) (by kernel_rfl) (by simp) ?_;refine AllReadyH.cons rfl (fun K hK=> ?_) (AllReadyH.cons rfl (fun K hK=> ?_) AllReadyH.nil)
          · try simp only [zA,zB,zC]
            go_simp;refine hK.out _ _ ?_ (fun hHeld2=> ?_)
            · exact HS5.out
            clear hK K
            try simp only [Act.put,zA,zB,zC,zD,zE,zF]
            refine wpAnyH_ready (rs:=[7]) (by kernel_rfl) (by simp) ?_;refine AllReadyH.cons rfl (fun K hK=> ?_) AllReadyH.nil
            try simp only [zA,zB,zC]
            go_simp;refine hK.out _ _ ?_ (fun hHeld3=> ?_)
            · exact HS6.out _
            clear hK K
            try simp only [Act.put,zA,zB,zC,zD,zE,zF]
            refine wpAnyH_ready (rs:=[8]) (by kernel_rfl) (by simp) ?_;refine AllReadyH.cons rfl (fun K hK=> ?_) AllReadyH.nil
            try simp only [zA,zB,zC]
            obtain ⟨cs,hown5,hpush⟩:=HOW5.out;have HPUS:=qH hpush;clear hpush;refine step_append_lies (a:=⟨_,_⟩) _ ?_ (.tmp 32) (.tmp 35) 27 ?_ 0 61 t0 _ 3 40 Tryz.underlying27 hi0 hz0 hz1 hz2 rfl (by omega) (.slice Av l.length cv) l.length cs ?_ (hown5.alloc _)
              ⟨w5.heap.size,0,none⟩ 1 1 [.int .i64 id,.slice A5 fs.length c5,.int .i64 seq] ?_ (by rfl) (World.news_of_block (cs:=#[.int .i64 id,.slice A5 fs.length c5,.int .i64 seq]) (t:=61) (fr:=(0,0)) (heap_alloc_new w5 _)) (by intro u hu;simp at hu;rcases hu with hu|hu|hu<;>(subst hu;rfl))
              (by omega) (by unfold maxLen;omega) (by omega) (by simp) (w5.heap.size+1) (by simp) ?_
            · rfl
            · rfl
            · rfl
            · rfl
            intro gg cap w7 hown7 hg7 hat7 hlt7;obtain ⟨hB7,hS7,hS8,hat8⟩:=HPUS.out gg cap w7 hown7 hg7 hat7 hlt7;have s3:=(qcg hB7).1;have s4:=(qcg hB7).2.2.2.2.1;have HAT8:=qH hat8;clear hown7 hg7 hat7 hB7 hat8;refine hK.out _ _ ?_ (fun hHeld4=> ?_)
            · exact hS7
            clear hK K
            try simp only [Act.put,zD,zE,zF]
            refine wpAnyH_take (i:=9) (v:= .pointer (some ⟨B,0,none⟩)) rfl (by kernel_rfl) (by kernel_rfl) (by kernel_rfl) (fun _ _ _ h=>h) (Or.inl ⟨by rfl,fun wx hSw=>by obtain ⟨s1,s2,s3⟩:=hSw;go_simp⟩) (by assumption) ?_
            try simp only [Act.put,zA,zB,zC,zD,zE,zF]
            refine wpAnyH_take (i:=10) (v:= .pointer (some ⟨B,0,none⟩)) rfl (by kernel_rfl) (by kernel_rfl) (by kernel_rfl) (fun _ _ _ h=>h) (Or.inl ⟨by rfl,fun wx hSw=>by obtain ⟨s1,s2,s3⟩:=hSw;go_simp⟩) (by assumption) ?_
            try simp only [Act.put,zA,zB,zC,zD,zE,zF]
            refine wpAnyH_ready (rs:=[11]) (by kernel_rfl) (by simp) ?_;refine AllReadyH.cons rfl (fun K hK=> ?_) AllReadyH.nil
            try simp only [zA,zB,zC]
            go_simp;refine hK.out _ _ ?_ (fun hHeld5=> ?_)
            · exact hS8
            clear hK K
            try simp only [Act.put,zA,zB,zC,zD,zE,zF]
            refine wpAnyH_done (by kernel_rfl) ?_ _;clear hS7 hS8 s3 s4
            go_wp2_with fail
            go_meet;exact ⟨_,HAT8.out⟩
          · try simp only [zA,zB,zC]
            go_simp;refine hK.out _ _ ?_ (fun hHeld2=> ?_)
            · exact HS6.out _
            clear hK K
            try simp only [Act.put,zA,zB,zC,zD,zE,zF]
            refine wpAnyH_ready (rs:=[4]) (by kernel_rfl) (by simp) ?_;refine AllReadyH.cons rfl (fun K hK=> ?_) AllReadyH.nil
            try simp only [zA,zB,zC]
            go_simp;refine hK.out _ _ ?_ (fun hHeld3=> ?_)
            · exact HS6.out _
            clear hK K
            try simp only [Act.put,zA,zB,zC,zD,zE,zF]
            refine wpAnyH_ready (rs:=[8]) (by kernel_rfl) (by simp) ?_;refine AllReadyH.cons rfl (fun K hK=> ?_) AllReadyH.nil
            try simp only [zA,zB,zC]
            obtain ⟨cs,hown5,hpush⟩:=HOW5.out;have HPUS:=qH hpush;clear hpush;refine step_append_lies (a:=⟨_,_⟩) _ ?_ (.tmp 32) (.tmp 35) 27 ?_ 0 61 t0 _ 3 40 Tryz.underlying27 hi0 hz0 hz1 hz2 rfl (by omega) (.slice Av l.length cv) l.length cs ?_ (hown5.alloc _)
              ⟨w5.heap.size,0,none⟩ 1 1 [.int .i64 id,.slice A5 fs.length c5,.int .i64 seq] ?_ (by rfl) (World.news_of_block (cs:=#[.int .i64 id,.slice A5 fs.length c5,.int .i64 seq]) (t:=61) (fr:=(0,0)) (heap_alloc_new w5 _)) (by intro u hu;simp at hu;rcases hu with hu|hu|hu<;>(subst hu;rfl))
              (by omega) (by unfold maxLen;omega) (by omega) (by simp) (w5.heap.size+1) (by simp) ?_
            · rfl
            · rfl
            · rfl
            · rfl
            intro gg cap w7 hown7 hg7 hat7 hlt7;obtain ⟨hB7,hS7,hS8,hat8⟩:=HPUS.out gg cap w7 hown7 hg7 hat7 hlt7;have s3:=(qcg hB7).1;have s4:=(qcg hB7).2.2.2.2.1;have HAT8:=qH hat8;clear hown7 hg7 hat7 hB7 hat8;refine hK.out _ _ ?_ (fun hHeld4=> ?_)
            · exact hS7
            clear hK K
            try simp only [Act.put,zD,zE,zF]
            refine wpAnyH_take (i:=9) (v:= .pointer (some ⟨B,0,none⟩)) rfl (by kernel_rfl) (by kernel_rfl) (by kernel_rfl) (fun _ _ _ h=>h) (Or.inl ⟨by rfl,fun wx hSw=>by obtain ⟨s1,s2,s3⟩:=hSw;go_simp⟩) (by assumption) ?_
            try simp only [Act.put,zA,zB,zC,zD,zE,zF]
            refine wpAnyH_take (i:=10) (v:= .pointer (some ⟨B,0,none⟩)) rfl (by kernel_rfl) (by kernel_rfl) (by kernel_rfl) (fun _ _ _ h=>h) (Or.inl ⟨by rfl,fun wx hSw=>by obtain ⟨s1,s2,s3⟩:=hSw;go_simp⟩) (by assumption) ?_
            try simp only [Act.put,zA,zB,zC,zD,zE,zF]
            refine wpAnyH_ready (rs:=[11]) (by kernel_rfl) (by simp) ?_;refine AllReadyH.cons rfl (fun K hK=> ?_) AllReadyH.nil
            try simp only [zA,zB,zC]
            go_simp;refine hK.out _ _ ?_ (fun hHeld5=> ?_)
            · exact hS8
            clear hK K
            try simp only [Act.put,zA,zB,zC,zD,zE,zF]
            refine wpAnyH_done (by kernel_rfl) ?_ _;clear hS7 hS8 s3 s4
            go_wp2_with fail
            go_meet;exact ⟨_,HAT8.out⟩
      case rest=>
        obtain ⟨wz,rfl⟩:∃ wz,wz=wc:=⟨_,rfl⟩;obtain ⟨V8,hat8⟩:=hcut;have hcell:∀ {wx:World},wx.heap[w.heap.size]?=some (.cells #[.int .i64 id,.slice A fs.length cp,.int .i64 seq] 61 (0,0))->(wx.cell? ⟨w.heap.size,0,none⟩=some (.int .i64 id)/\wx.cell? ⟨w.heap.size,1,none⟩=some (.slice A n cp)/\wx.cell? ⟨w.heap.size,2,none⟩=some (.int .i64 seq)):=fun {wx} h=>by
          have :=qeQ h;rw [HL.out] at this;exact this
        have hwb:=qsC HBI.out.good;have hwd:=HGOOD.out.weight;have HWT:=qH (qyr (id:=id) (c:=cp) (w:=wz.drew) HGOOD.out HL.out hat8.row);have hsum:qdb (l++[(id,fs,seq)])=qdb l+qeB fs:=by unfold qdb;simp
        obtain ⟨T,hT⟩:∃ T,T=qdb l:=⟨_,rfl⟩;obtain ⟨D,hD⟩:∃ D,D=qeB fs:=⟨_,rfl⟩;rw [<- hT] at hwb hat8 hsum;rw [<- hD] at hwd HWT hsum;have hT5:T<=500000:=by omega
        have HSUM:=qH hsum;have hwr:IntKind.i64.wrap ((T:Int)+(D:Int))=(T:Int)+(D:Int):=IntWalk.i64_in _ (by omega);have HS8:Hid (wz.cell? ⟨w.heap.size,0,none⟩=some (.int .i64 id)/\wz.cell? ⟨w.heap.size,1,none⟩=some (.slice A n cp)/\wz.cell? ⟨w.heap.size,2,none⟩=some (.int .i64 seq)):=qH (hcell hat8.ent);have t8:=(qcg hat8.cells).2.2.1;have HAFT9:Hid (∀ w9,Below wz.drew.heap.size wz.drew w9->w9.cell? ⟨B,2,none⟩=some (.int .i64 (T:Int))/\w9.frozen? ⟨B,2,none⟩=false/\(w9.cell? ⟨w.heap.size,0,none⟩=some (.int .i64 id)/\w9.cell? ⟨w.heap.size,1,none⟩=some (.slice A n cp)/\w9.cell? ⟨w.heap.size,2,none⟩=some (.int .i64 seq))/\qbu S B M c (id,fs,seq) A cp V8 (l++[(id,fs,seq)]) ((T:Int)+(D:Int)) up GG w (w9.setCell ⟨B,2,none⟩ (.int .i64 ((T:Int)+(D:Int))))/\((w9.setCell ⟨B,2,none⟩ (.int .i64 ((T:Int)+(D:Int)))).cell? ⟨w.heap.size,0,none⟩=some (.int .i64 id)/\(w9.setCell ⟨B,2,none⟩ (.int .i64 ((T:Int)+(D:Int)))).cell? ⟨w.heap.size,1,none⟩=some (.slice A n cp)/\(w9.setCell ⟨B,2,none⟩ (.int .i64 ((T:Int)+(D:Int)))).cell? ⟨w.heap.size,2,none⟩=some (.int .i64 seq))):=qH fun w9 hb9=>by
          have hat9:=hat8.below ((Below.refl _ wz).drew.trans hb9);have h10:=hat9.stored (w':=w9.setCell ⟨B,2,none⟩ (.int .i64 ((T:Int)+(D:Int)))) HF.out hBlt ((T:Int)+(D:Int)) up (by rw [qcV hat9.cells];rfl) (fun k hk=>qdI (Ne.symm hk)) (by simp) rfl rfl rfl;exact ⟨(qcg hat9.cells).2.2.1,(qcg hat9.cells).2.2.2.2.2.2.1,hcell hat9.ent,h10,hcell h10.ent⟩
        clear hwb hT hD hsum hat8 t4 HS4 HCL HAFT
        go_upto_region 8 with fail
        go_cut [] from 39 to 48 (fun wx=>qbu S B M c (id,fs,seq) A cp V8 (l++[(id,fs,seq)]) ((T:Int)+(D:Int)) up GG w wx)
        case first=>
          refine wp_region_held_drew (S:=(fun w'=>w'.cell? ⟨w.heap.size,0,none⟩=some (.int .i64 id)/\w'.cell? ⟨w.heap.size,1,none⟩=some (.slice A n cp)/\w'.cell? ⟨w.heap.size,2,none⟩=some (.int .i64 seq))) (by kernel_rfl) HS8.out (fun hHeld0=> ?_)
          refine wpAnyH_take (i:=0) (v:= .pointer (some ⟨B,0,none⟩)) rfl (by kernel_rfl) (by kernel_rfl) (by kernel_rfl) (fun _ _ _ h=>h) (Or.inl ⟨by rfl,fun wx hSw=>by obtain ⟨s1,s2,s3⟩:=hSw;go_simp⟩) (by assumption) ?_
          try simp only [Act.put,zA,zB,zD,zE,zF]
          refine wpAnyH_take (i:=1) (v:= .pointer (some ⟨B,0,none⟩)) rfl (by kernel_rfl) (by kernel_rfl) (by kernel_rfl) (fun _ _ _ h=>h) (Or.inl ⟨by rfl,fun wx hSw=>by obtain ⟨s1,s2,s3⟩:=hSw;go_simp⟩) (by assumption) ?_
          try simp only [Act.put,zA,zB,zC,zD,zE,zF]
          refine wpAnyH_take (i:=2) (v:= .pointer (some ⟨B,2,none⟩)) rfl (by kernel_rfl) (by kernel_rfl) (by kernel_rfl) (fun _ _ _ h=>h) (Or.inl ⟨by rfl,fun wx hSw=>by obtain ⟨s1,s2,s3⟩:=hSw;go_simp⟩) (by assumption) ?_
          try simp only [Act.put,zA,zB,zC,zD,zE,zF]
          refine wpAnyH_take (i:=4) (v:= .pointer (some ⟨w.heap.size,0,none⟩)) rfl (by kernel_rfl) (by kernel_rfl) (by kernel_rfl) (fun _ _ _ h=>h) (Or.inl ⟨by rfl,fun wx hSw=>by obtain ⟨s1,s2,s3⟩:=hSw;go_simp⟩) (by assumption) ?_
          try simp only [Act.put,zA,zB,zC,zD,zE,zF]
          refine wpAnyH_take (i:=5) (v:= .agg #[.int .i64 id,.slice A n cp]) rfl (by kernel_rfl) (by kernel_rfl) (by kernel_rfl) (fun _ _ _ h=>h) (Or.inl ⟨by rfl,fun wx hSw=>by obtain ⟨s1,s2,s3⟩:=hSw;go_simp⟩) (by assumption) ?_
          try simp only [Act.put,zA,zB,zC,zD,zE,zF]
          refine wpAnyH_ready (rs:=[3,6]) (by kernel_rfl) (by simp) ?_;refine AllReadyH.cons rfl (fun K hK=> ?_) (AllReadyH.cons rfl (fun K hK=> ?_) AllReadyH.nil)
          · try simp only [zA,zB,zC]
            go_simp;refine hK.out _ _ ?_ (fun hHeld1=> ?_)
            · exact HS8.out
            clear hK K
            try simp only [Act.put,zA,zB,zC,zD,zE,zF]
            refine wpAnyH_ready (rs:=[6]) (by kernel_rfl) (by simp) ?_;refine AllReadyH.cons rfl (fun K hK=> ?_) AllReadyH.nil
            try simp only [zA,zB,zC]
            go_simp
            go_at_call 65
            (with_reducible refine HWT.out.mono ?_)
            rintro e w9 ⟨rfl,hb9⟩;obtain ⟨h90,h91,h92,h93,h94⟩:=HAFT9.out w9 hb9;have t9:=h90;have u9:=h91;have HS9:=qH h92;have HAT9:=qH h93;have HSE:=qH h94;clear h90 h91 h92 h93 h94 hb9
            go_wp2_with fail
            refine hK.out _ _ ?_ (fun hHeld2=> ?_)
            · exact HS9.out
            clear hK K
            try simp only [Act.put,zA,zB,zC,zD,zE,zF]
            refine wpAnyH_take (i:=7) (v:= .int .i64 ((T:Int)+(D:Int))) rfl (by kernel_rfl) (by kernel_rfl) (by kernel_rfl) (fun _ _ _ h=>h) (Or.inl ⟨by rfl,fun wx hSw=>by obtain ⟨s1,s2,s3⟩:=hSw;go_simp⟩) (by assumption) ?_
            try simp only [Act.put,zA,zB,zC,zD,zE,zF]
            refine wpAnyH_take (i:=8) (v:= .pointer (some ⟨B,0,none⟩)) rfl (by kernel_rfl) (by kernel_rfl) (by kernel_rfl) (fun _ _ _ h=>h) (Or.inl ⟨by rfl,fun wx hSw=>by obtain ⟨s1,s2,s3⟩:=hSw;go_simp⟩) (by assumption) ?_
            try simp only [Act.put,zA,zB,zC,zD,zE,zF]
            refine wpAnyH_take (i:=9) (v:= .pointer (some ⟨B,2,none⟩)) rfl (by kernel_rfl) (by kernel_rfl) (by kernel_rfl) (fun _ _ _ h=>h) (Or.inl ⟨by rfl,fun wx hSw=>by obtain ⟨s1,s2,s3⟩:=hSw;go_simp⟩) (by assumption) ?_
            try simp only [Act.put,zA,zB,zC,zD,zE,zF]
            refine wpAnyH_ready (rs:=[10]) (by kernel_rfl) (by simp) ?_;refine AllReadyH.cons rfl (fun K hK=> ?_) AllReadyH.nil
            try simp only [zA,zB,zC]
            go_simp;refine hK.out _ _ ?_ (fun hHeld3=> ?_)
            · exact HSE.out
            clear hK K
            try simp only [Act.put,zA,zB,zC,zD,zE,zF]
            refine wpAnyH_done (by kernel_rfl) ?_ _
            go_wp2_with fail
            go_meet;exact HAT9.out
          · try simp only [zA,zB,zC]
            go_simp
            go_at_call 65
            (with_reducible refine HWT.out.mono ?_)
            rintro e w9 ⟨rfl,hb9⟩;obtain ⟨h90,h91,h92,h93,h94⟩:=HAFT9.out w9 hb9;have t9:=h90;have u9:=h91;have HS9:=qH h92;have HAT9:=qH h93;have HSE:=qH h94;clear h90 h91 h92 h93 h94 hb9
            go_wp2_with fail
            refine hK.out _ _ ?_ (fun hHeld1=> ?_)
            · exact HS9.out
            clear hK K
            try simp only [Act.put,zA,zB,zC,zD,zE,zF]
            refine wpAnyH_ready (rs:=[3]) (by kernel_rfl) (by simp) ?_;refine AllReadyH.cons rfl (fun K hK=> ?_) AllReadyH.nil
            try simp only [zA,zB,zC]
            go_simp;refine hK.out _ _ ?_ (fun hHeld2=> ?_)
            · exact HS9.out
            clear hK K
            try simp only [Act.put,zA,zB,zC,zD,zE,zF]
            refine wpAnyH_take (i:=7) (v:= .int .i64 ((T:Int)+(D:Int))) rfl (by kernel_rfl) (by kernel_rfl) (by kernel_rfl) (fun _ _ _ h=>h) (Or.inl ⟨by rfl,fun wx hSw=>by obtain ⟨s1,s2,s3⟩:=hSw;go_simp⟩) (by assumption) ?_
            try simp only [Act.put,zA,zB,zC,zD,zE,zF]
            refine wpAnyH_take (i:=8) (v:= .pointer (some ⟨B,0,none⟩)) rfl (by kernel_rfl) (by kernel_rfl) (by kernel_rfl) (fun _ _ _ h=>h) (Or.inl ⟨by rfl,fun wx hSw=>by obtain ⟨s1,s2,s3⟩:=hSw;go_simp⟩) (by assumption) ?_
            try simp only [Act.put,zA,zB,zC,zD,zE,zF]
            refine wpAnyH_take (i:=9) (v:= .pointer (some ⟨B,2,none⟩)) rfl (by kernel_rfl) (by kernel_rfl) (by kernel_rfl) (fun _ _ _ h=>h) (Or.inl ⟨by rfl,fun wx hSw=>by obtain ⟨s1,s2,s3⟩:=hSw;go_simp⟩) (by assumption) ?_
            try simp only [Act.put,zA,zB,zC,zD,zE,zF]
            refine wpAnyH_ready (rs:=[10]) (by kernel_rfl) (by simp) ?_;refine AllReadyH.cons rfl (fun K hK=> ?_) AllReadyH.nil
            try simp only [zA,zB,zC]
            go_simp;refine hK.out _ _ ?_ (fun hHeld3=> ?_)
            · exact HSE.out
            clear hK K
            try simp only [Act.put,zA,zB,zC,zD,zE,zF]
            refine wpAnyH_done (by kernel_rfl) ?_ _
            go_wp2_with fail
            go_meet;exact HAT9.out
        case rest=>
          obtain ⟨wy,rfl⟩:∃ wy,wy=wc:=⟨_,rfl⟩;have q2:=(hcell hcut.ent).2.2;obtain ⟨c0,c1,c2,c3,f0,f1,f2,f3⟩:=qcg hcut.cells;have hend:=hcut.stored (w':=wy.setCell ⟨B,3,none⟩ (.int .i64 seq)) HF.out hBlt ((T:Int)+(D:Int)) seq (by rw [qcV hcut.cells];rfl) (fun k hk=>qdI (Ne.symm hk)) (by simp) rfl rfl rfl;rw [show (T:Int)+(D:Int)=((qdb (l++[(id,fs,seq)]):Nat):Int) by rw [HSUM.out];push_cast;rfl,HGG.out] at hend;have hbuf:=qbu.done hend HBI.out.lt HBI.out.stand HBI.out.good HGOOD.out (show (0:Int)<=seq by omega);have HBUF:=qH hbuf;have HONLY:=qH hend.only;clear hcut hend hbuf;go_wp2;go_ret;exact (HG.out _ _).2 ⟨rfl,fun h=>absurd rfl h,fun _=>⟨_,HBUF.out,fun k hk=>hk.imp (fun h=>h) fun hk=>hk.1,HONLY.out⟩⟩
  · have hM1:(E != 0)=true:=by simpa using hE0
    go_wp2;go_ret;refine (HG.out _ _).2 ⟨by rw [if_pos hE0];rfl,fun _=>HB2.out,fun h=>absurd h (by rw [if_pos hE0];exact hE0)⟩
theorem qyN {l:List Dc} {most:Nat} {start step:Int} {i:Nat} (hi:i<(qco l most start step).length):((qco l most start step)[i]).2.2=start+step*(i:Int):=by
 simp [qco]
theorem qyO (l:List Dc) (most:Nat) (start step:Int) (hm:most<=100) (h0:0<=start) (h1:1<=step):qch (qco l most start step) where
 may q hq:=by
  obtain ⟨d,hd⟩:=qsJ l most start step q hq;rw [hd];exact ⟨qso d,fun f hf=>⟨Nat.le_trans (qh5 d _ f hf) (by omega),Nat.le_trans (qha d _ f hf) (by omega)⟩⟩
 rise:=by
  have hat:∀ (i:Nat) (h:i<((qco l most start step).map (·.2.2)).length),((qco l most start step).map (·.2.2))[i]=start+step*(i:Int):=fun i h=>by
   rw [List.getElem_map];exact qyN (by simpa using h)
  refine qfX ?_ ?_
  ·refine List.pairwise_iff_getElem.2 fun i j hi hj hij=> ?_
   rw [hat i hi,hat j hj];have :step*(i:Int)<step*(j:Int):=Int.mul_lt_mul_of_pos_left (by omega) (by omega);omega
  ·intro a ha
   obtain ⟨i,hi,rfl⟩:=List.getElem_of_mem ha;rw [hat i hi];have :0<=step*(i:Int):=Int.mul_nonneg (by omega) (by omega);omega
 few:=by rw [qiO];omega
theorem qa0.small {S:Nat->Prop} {w:World} {v:Value} {l:List En} (h:qa0 S w v l):qa0 (fun k=>k<w.heap.size) w v l:=by
 obtain ⟨cs,h1,h2,h3⟩:=h;refine ⟨cs,h1,fun k hk=>(h1.lt k hk).2,h3.imp fun A xs hr=>⟨qaO.imp hr.1 fun k hk=> ?_,hr.2⟩⟩;obtain ⟨_,cs',fr,hh,ho⟩:=hk;exact ⟨(Array.getElem?_eq_some_iff.1 hh).1,cs',fr,hh,ho⟩
theorem qa0.later {S:Nat->Prop} {w w':World} {v:Value} {l:List En} (h:qa0 S w v l) (hb:Below w.heap.size w w'):qa0 S w' v l:=h.keeps fun k _ hk=>hb.block k hk
open Plain (Rep WS hasB mayB turnB qh7 ones qh8 qh9)
theorem qyP (n:Nat):Rep (List.replicate n false) []:=by
 refine ⟨⟨List.Pairwise.nil,(fun p hp=>absurd hp List.not_mem_nil),(fun p hp=>absurd hp List.not_mem_nil),(fun p hp=>absurd hp List.not_mem_nil)⟩,fun i=> ?_⟩;have :Plain.getW [] (i/64)=0:=rfl;unfold Plain.memW;rw [this,Nat.zero_testBit,List.getD_eq_getElem?_getD,List.getElem?_replicate];split<;>rfl
theorem qyQ (w:World) (n:Nat):qaU (w.alloc (.cells #[.int .i64 n,.slice none 0 0] 101)) w.heap.size w.heap.size (List.replicate n false):=
 ⟨[],⟨Nat.le_refl _,.slice none 0 0,by rw [List.length_replicate];exact heap_alloc_new w _,World.ownsRow_nil _ _ _ _⟩,qyP n⟩
def qyR (n:Nat) (w:World) (e:Ending) (w':World):Prop:=e= .returned (.pointer (some ⟨w.heap.size,0,none⟩))/\qaU w' w.heap.size w.heap.size (List.replicate n false)/\Below w.heap.size w w'
theorem qyS (n:Int) (w:World) (hn:n<9223372036854775808):
  Calls Tryz.prog 22 #[.int .i64 n] w (qyR n.toNat w):=by
 have hmx:∀ (w:World) (ts:Array TypeId) (t:TypeId),(Builtin.max_ ts t #[.int .i64 n,.int .i64 0]).run Tryz.prog w= .ok (.int .i64 (n.toNat:Int)) w:=fun w ts t=>by rw [run_max_int2];congr 2;split<;>omega
 have HG:=qH (qyQ w n.toNat);obtain ⟨m,hm⟩:∃ m,m=n.toNat:=⟨_,rfl⟩;rw [<- hm] at hmx HG ⊢;clear hm hn
 go_enter Tryz.func22,Tryz.ntmps22
 go_wp2;go_ret;exact ⟨rfl,HG.out,(Below.refl _ _).alloc (Nat.le_refl _) _⟩
theorem qpL {G:List En} (h:qch G):qdG G:=by
 have h1:(G.map (·.2.2)).Pairwise (· <·):=List.pairwise_iff_getElem.2 fun i j hi hj hij=>(qgA h.rise j hj).2 i hi hij
 exact List.pairwise_map.1 h1
theorem qyT {G:List En} (h:qch G):∀ q∈G,0<=q.2.2:=fun q hq=>by
 obtain ⟨i,hi,e⟩:=List.getElem_of_mem (List.mem_map.2 ⟨q,hq,rfl⟩:q.2.2∈G.map (·.2.2));have :=(qgA h.rise i hi).1;rw [e] at this;omega
theorem qyU {Ls:List (List En)} (h:∀ L∈Ls,qch L) (hf:Ls.flatten.length<=100):qhS Ls:=
 ⟨fun L hL=>⟨(h L hL).good,qpL (h L hL),by have :=(h L hL).few;omega⟩,fun L hL q hq=>⟨(h L hL).may q hq,qyT (h L hL) q hq⟩,hf⟩
theorem qpM:∀ {Ls:List (List En)},(∀ L∈Ls,qch L)->(Ls.map qag).flatten.length<=4000*Ls.flatten.length
 |[],_=>by simp
 |L::Ls,h=>by
  have h1:=qhf (l:=L) (a:=[]) (M:=4000) fun q hq=>qjR ((h L (List.mem_cons_self ..)).good q hq)
  have h2:(qag L).length<=L.length*4000+([]:List Nm).length:=h1;have h3:=qpM (Ls:=Ls) fun K hK=>h K (List.mem_cons_of_mem _ hK)
  simp only [List.map_cons,List.flatten_cons,List.length_append,List.length_nil] at h2 ⊢;omega
theorem qyV {Ls:List (List En)} {rs:List (List Bool)} (hf:qbm Ls rs) (h:(qaj Ls.flatten).Nodup):¬ qdQ ((qaB Ls rs).map qaj):=by
 have :=qtl hf h;rwa [qjb hf] at this
theorem qyW {Ls:List (List En)} {rs:List (List Bool)} {w w':World} {e:Ending} {g:List En} (h:qku Ls rs w e w') (hf:qbm Ls rs) (hn:¬ qdQ ((qaB Ls rs).map qaj)) (hg:qdG g) (hm:∀ x,x∈g↔∃ L∈qaB Ls rs,x∈L):qeu (qad g) w e w':=by
 rcases h with ⟨h,_⟩|⟨_,h,_⟩|⟨_,o,ho,h⟩
 ·exact absurd hf h
 ·exact absurd h hn
 ·rw [qoK hf ho,qtg ho hg hm] at h
  exact h
theorem qpN {w:World} {b:Nat} {l:List Value} {t:TypeId} {fr:Nat × Nat} (hb:w.heap[b]?=some (.cells l.toArray t fr)):Row w w.heap.size (some ⟨b,0,none⟩) l:=
 .inr ⟨b,0,rfl,(Array.getElem?_eq_some_iff.1 hb).1,fun j u hu=>by simpa [World.cell?,hb] using hu⟩
theorem qyX {w:World} {A:Option Addr} {Ss:List Nat} {Ls:List (List En)} (hr:Row w w.heap.size A (qb3 Ss)) (hl:Ss.length=Ls.length) (hs:∀ i (h:i<Ls.length),qb6 w (Ss.getD i 0) (qad Ls[i])):qdH w A Ls:=⟨Ss,hl,hr,hs⟩
theorem qyY {w:World} {b S:Nat} {t:TypeId} {fr:Nat × Nat} {L:List En} (hb:w.heap[b]?=some (.cells #[.pointer (some ⟨S,0,none⟩)] t fr)) (hs:qb6 w S (qad L)):qdH w (some ⟨b,0,none⟩) [L]:=
 qyX (Ss:=[S]) (qpN (l:=qb3 [S]) hb) rfl fun i hi=>by
  obtain rfl:i=0:=by simpa using hi
  exact hs
theorem qyZ {w:World} {b base B:Nat} {t:TypeId} {fr:Nat × Nat} {r:List Bool} (hb:w.heap[b]?=some (.cells #[.pointer (some ⟨B,0,none⟩)] t fr)) (hs:qaU w base B r):qem w (some ⟨b,0,none⟩) [r]:=
  ⟨[B], rfl, qpN (l := qb3 [B]) hb, fun i hi => by
    obtain rfl:i=0:=by simpa using hi
    exact ⟨base,hs⟩⟩
def qge (l:List Int) (w:World) (e:Ending) (w':World):Prop:=∃ A c,e= .returned (.slice A l.length c)/\l.length<=c/\w'.ownsRow w.heap.size 3 1 (.slice A l.length c) l.length (qab l)/\Below w.heap.size w w'
theorem qh6 (A:Option Addr) (m c:Nat) (ps:List Int) (w:World) (hn:ps.length=m) (hr:Row w w.heap.size A (qab ps)) (hl:m<=2147483648):
  Calls Tryz.prog 53 #[.slice A m c] w (qge ps w):=by
 obtain ⟨i0,hi0,hz0,hz1,hz2⟩:=info_parts qc7;have qe:∀ (w:World) (a:Option Addr) (n c n' c':Nat),(binOp .eql 23 (.slice a n c) (.slice none n' c')).run Tryz.prog w= .ok (.bool a.isNone) w:=fun w a n c n' c'=>Lib.run_eql_slice_nil w _ _ a n c n' c' Tryz.underlying23
 subst hn;cases A with
 |none=>
  obtain rfl:ps=[]:=by
   rcases Nat.eq_zero_or_pos ps.length with h0|h0
   ·exact List.eq_nil_of_length_eq_zero h0
   ·obtain ⟨_,_,e,_⟩:=hr.at_ (by simpa [qab] using h0)
    cases e
  clear hr
  go_enter Tryz.func53,Tryz.ntmps53
  go_wp2;go_ret;exact ⟨none,0,rfl,Nat.zero_le _,World.ownsRow_nil _ _ _ _,Below.refl _ _⟩
 |some ad=>
  have HR:=qH hr;have hwl:(qab ps).length=ps.length:=by simp [qab]
  have HWL:=qH hwl;clear hr hwl;have hlit:(w.alloc (.cells #[] 3)).ownsRow w.heap.size 3 1 (.slice (some ⟨w.heap.size,0,none⟩) 0 0) 0 []:=World.ownsRow_made w #[] 0 (Nat.le_refl _) (Nat.zero_le _) rfl;obtain ⟨m,hm⟩:∃ m,m=ps.length:=⟨_,rfl⟩;rw [<- hm] at HWL hl;rw [<- hm];have HM:=qH hm;clear hm
  go_enter Tryz.func53,Tryz.ntmps53
  go_wp2_with (at_builtin;(refine qfM _ rfl (.tmp 5) (.tmp 6) 23 rfl w.heap.size 3 i0 _ 1 8 Tryz.underlying23 hi0 hz0 hz1 hz2 rfl (by decide) _ 0 [] rfl hlit _ _ m c (qab ps) rfl (by rw [HWL.out];omega) ((HR.out.below ((Below.refl _ w).alloc (Nat.le_refl _) (.cells #[] 3))).more (B':=(w.alloc (.cells #[] 3)).heap.size) (by simp)) (qtL _) (by unfold maxLen;omega) (by omega) (by simp) ?_))
  intro v' w' hown hgrow;obtain ⟨A',c',rfl,hc',_⟩:=qaR hown;go_wp2;go_ret;refine ⟨A',c',by rw [<- HM.out];rfl,by rw [<- HM.out];exact hc',by rw [<- HM.out];simpa using hown,((Below.refl _ _).alloc (Nat.le_refl _) _).grown hgrow (by simp) (fun k hk=>by cases hk;exact Nat.le_refl _)⟩
end Go.Proofs.YtpehcaidjlemiaaGreatDoor
