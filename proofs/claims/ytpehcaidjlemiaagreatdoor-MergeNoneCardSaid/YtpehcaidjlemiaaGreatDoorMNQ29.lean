import Derived.Test.YtpehcaidjlemiaaGreatDoorMNZz
import Derived.Test.YtpehcaidjlemiaaGreatDoorMNQ27
import Derived.Test.YtpehcaidjlemiaaGreatDoorMNQ28
import Derived.Deep.RegionHeld3
import Derived.Deep.AppendLies
import Derived.BigQuiet
import Derived.Test.YtpehcaidjlemiaaGreatDoorMNQ12
import Derived.Test.YtpehcaidjlemiaaGreatDoorMNQ11
import Derived.Test.YtpehcaidjlemiaaGreatDoorMNQ06
import Derived.Test.YtpehcaidjlemiaaGreatDoorMNQ05
import Derived.Test.YtpehcaidjlemiaaGreatDoorMNQ13
import Derived.Test.YtpehcaidjlemiaaGreatDoorMNQ02
import Derived.RegionTactic
import Derived.BigCall
import Derived.Deep.RegionWith
import Derived.Test.YtpehcaidjlemiaaGreatDoorMNQ15
import Derived.Deep.RegionLaw
set_option maxHeartbeats 8000000
set_option maxRecDepth 100000
set_option linter.unusedVariables false
namespace Go.Proofs.YtpehcaidjlemiaaGreatDoor
open Go Go.RowKit
def qpy (S:Nat->Prop) (B:Nat) (l:List En) (up:Int) (q:En) (w:World) (e:Ending) (w':World):Prop:=
 e= .returned (.int .i64 (qgi up q))/\(qgi up q≠0->Below w.heap.size w w')/\(qgi up q=0->∃ S',qcH S' w' B (l++[q]) q.2.2/\(∀ k,S' k->S k∨w.heap.size<=k)/\qbM S w w')
theorem qyp {S:Nat->Prop} {w:World} {B:Nat} {l:List En} {up:Int} (h:qcH S w B l up) (q:En) (A:Option Addr) (n cp:Nat) (hl:q.2.1.length=n) (hncp:n<=cp) (hf:qaM (fun k=>k<w.heap.size/\¬ S k) w A (flds q.2.1)) (hA:A=none∨∃ b o,A=some ⟨b,o,none⟩)
    (hn:n<=1048576) (ht:∀ f∈q.2.1,f.1.length<=1024/\f.2.length<=1024) (hlen:l.length<=1000):
    Calls Tryz.prog 30 #[.pointer (some ⟨B,0,none⟩),.agg #[.int .i64 q.1,.slice A n cp,.int .i64 q.2.2]] w (qpy S B l up q w):=by
  obtain ⟨t0,hi0,hz0,hz1,hz2⟩:=info_parts qmc;obtain ⟨v,M,c,g,hb⟩:=h;obtain ⟨id,fs,seq⟩:=q;simp only at hl hf ht ⊢;have hBlt:=lt_of_block hb.cells;obtain ⟨w1,hw1⟩:∃ w1,w1=w.alloc (.cells #[.int .i64 id,.slice A n cp,.int .i64 seq] 61):=⟨_,rfl⟩;have hb1:Below w.heap.size w w1:=by rw [hw1];exact (Below.refl _ _).alloc (Nat.le_refl _) _
  have hfr:qaB w w.heap.size A fs:=hf.imp fun k hk=>hk.1
  have hat1:qbp S B M c (id,fs,seq) A cp v l (qc5 l) up g w w1:=by
    refine ⟨(hb1.block _ hBlt).trans hb.cells,(hb.own.keeps fun k _ hk=>hb1.block k hk).imp fun k hk=> .inl hk,(hb.map.keep fun k _ hk=>hb1.block k hk).imp fun k hk=> .inl hk,qbM.of_below hb1,?_,hb.mine,hfr.below hb1,fun e=> ?_⟩
    · rw [hw1,hl]
      exact heap_alloc_new w _
    · obtain ⟨cs,r1,_⟩:=hb.own
      exact absurd (r1.lt _ e).2 (Nat.lt_irrefl _)
  have HM:Hid (∀ w',Below w1.heap.size w1 w'->Calls Tryz.prog 62 #[qcU id A n cp] w' fun e w''=>e= .returned (.int .i64 (qbd fs))/\Below w'.heap.size w' w''):=qH fun w' h=>qyn id A n cp fs w' hl ((hfr.later hb1).later h) (by omega) hncp fun f hf=>by have :=ht f hf;omega
  have HG:Hid (∀ e w',qpy S B l up (id,fs,seq) w e w'↔(e= .returned (.int .i64 (if qbd fs≠0 then qbd fs else if seq<0∨seq<=up then 12 else 0))/\((if qbd fs≠0 then qbd fs else if seq<0∨seq<=up then 12 else 0)≠0->Below w.heap.size w w')/\((if qbd fs≠0 then qbd fs else if seq<0∨seq<=up then 12 else 0)=0->∃ S',qcH S' w' B (l++[(id,fs,seq)]) seq/\(∀ k,S' k->S k∨w.heap.size<=k)/\qbM S w w'))):=qH fun e w'=>Iff.rfl
  have hGF:qbd fs=0->qdo fs:=fun h=>qiE h fun f hf=>(ht f hf).2
  have hup:=hb.up1;have HGF:=qH hGF;have HAT:=qH hat1;have HBI:=qH hb;have HF:=qH hf;have HL:=qH hl;have HB1:=qH hb1;obtain ⟨q0,q1,q2⟩:=qeH hat1.ent;simp only [hl] at q0 q1 q2;have HW1:=qH hw1;clear hGF hat1 hb hf hl hb1 ht hfr hw1;obtain ⟨E,hE⟩:∃ E,E=qbd fs:=⟨_,rfl⟩;rw [<- hE] at HM HG HGF;clear hE
  go_enter Tryz.func30,Tryz.ntmps30
  rw [HW1.out] at q0 q1 q2
  go_upto_region 2 with (first
    | (go_at_call 62; rw [show w.alloc _ = w1 from HW1.out.symm]; (with_reducible refine (HM.out _ (Below.refl _ _)).mono ?_); rintro e w2 ⟨rfl, hb2⟩
       have HAT2:=qH (HAT.out.below hb2);have HB2:=qH (HB1.out.trans (hb2.mono HB1.out.size));clear hb2))
  by_cases hE0:E=0
  · subst hE0
    clear q0 q1 q2;obtain ⟨q0,q1,q2⟩:=qeH HAT2.out.ent;obtain ⟨c0,c1,c2,c3,f0,f1,f2,f3⟩:=qce HAT2.out.cells;simp only [HL.out] at q0 q1 q2;by_cases hs:seq<=up
    · have hz:(if (0:Int)≠0 then 0 else if seq<0∨seq<=up then (12:Int) else 0)=12:=by rw [if_neg (by decide),if_pos (.inr hs)]
      have HZ:=qH hz;clear hz
      go_upto_region 4 with fail
      go_quiet (fail)
      go_wp2;go_ret;rw [HZ.out] at HG;exact (HG.out _ _).2 ⟨rfl,fun _=>HB2.out.trans ((qhA _ _).mono HB2.out.size),fun h=>absurd h (by decide)⟩
    · have hs1:up<seq:=by omega
      have hz:(if (0:Int)≠0 then 0 else if seq<0∨seq<=up then (12:Int) else 0)=0:=by rw [if_neg (by decide),if_neg (by omega)]
      rw [hz] at HG;have hgf:=HGF.out rfl;have HGOOD:=qH hgf;obtain ⟨Av,cv,hv,hcv,_⟩:=HAT2.out.own.nest;subst hv;clear hs hz hgf
      go_upto_region 4 with fail
      go_quiet (fail)
      generalize hw:World.drewN _ nq=w3;have hb3:Below w2.heap.size w2 w3:=by rw [<- hw];exact qhA _ _
      have HAT3:=qH (HAT2.out.below hb3);clear hw hb3 q0 q1 q2 c0 c1 c2 c3 f0 f1 f2 f3;have HAT3D:Hid (qbp S B M c (id,fs,seq) A cp (.slice Av l.length cv) l (qc5 l) up g w w3.drew):=qH (HAT3.out.below (Below.refl _ w3).drew);have HT:Hid (Calls Tryz.prog 63 #[.pointer (some ⟨B,0,none⟩),qcU id A n cp,.int .i64 (l.length:Int)] w3.drew (qks (fun k=>S k∨qby w.heap.size w3.drew k) M c l.length fs g w3.drew)):=qH (qx7 _ B M c g _ _ _ id A n cp fs l.length w3.drew HAT3D.out.cells HAT3D.out.map HGOOD.out HL.out HAT3D.out.row hlen fun key=>by
        rw [HBI.out.stand.posts key];have h1:=qpx (l:=l) (i:=0) (key:=key) (M:=4000) fun q hq=>qjI (HBI.out.good q hq)
        have h2:l.length*4000<=1000*4000:=Nat.mul_le_mul_right _ hlen;omega)
      obtain ⟨q0,q1,q2⟩:=qeH HAT3.out.ent;obtain ⟨c0,c1,c2,c3,f0,f1,f2,f3⟩:=qce HAT3.out.cells;simp only [HL.out] at q0 q1 q2
      go_upto_region 6 with fail
      go_region_held3 (fun w'=>w'.cell? ⟨w.heap.size,0,none⟩=some (.int .i64 id)/\w'.cell? ⟨w.heap.size,1,none⟩=some (.slice A n cp)/\w'.cell? ⟨w.heap.size,2,none⟩=some (.int .i64 seq)/\w'.cell? ⟨B,0,none⟩=some (.slice Av l.length cv))
        (first|exact ⟨q0,q1,q2,c0⟩|exact HS4.out)
        (first
          | (go_at_call 63; (with_reducible refine HT.out.mono ?_); rintro e w4 ⟨rfl, hm4, ho4⟩
             have hat4:=HAT3D.out.turned HF.out hm4 ho4;have HAT4:=qH hat4;have HS4:Hid (w4.cell? ⟨w.heap.size,0,none⟩=some (.int .i64 id)/\w4.cell? ⟨w.heap.size,1,none⟩=some (.slice A n cp)/\w4.cell? ⟨w.heap.size,2,none⟩=some (.int .i64 seq)/\w4.cell? ⟨B,0,none⟩=some (.slice Av l.length cv)):=qH (by
               obtain ⟨q0,q1,q2⟩:=qeH hat4.ent;simp only [HL.out] at q0 q1 q2;exact ⟨q0,q1,q2,(qce hat4.cells).1⟩)
             clear hm4 ho4 hat4))
      clear q0 q1 q2 c0 c1 c2 c3 f0 f1 f2 f3;have hs4:=HAT4.out.only.size;obtain ⟨GG,hGG⟩:∃ GG,GG=qb0 l.length fs g (qax fs):=⟨_,rfl⟩;rw [<- hGG] at HAT4;have HGG:=qH hGG;clear hGG;have t4:=(qce HAT4.out.cells).1;have HS4':Hid (w4.cell? ⟨w.heap.size,0,none⟩=some (.int .i64 id)/\w4.cell? ⟨w.heap.size,1,none⟩=some (.slice A n cp)/\w4.cell? ⟨w.heap.size,2,none⟩=some (.int .i64 seq)):=qH ⟨HS4.out.1,HS4.out.2.1,HS4.out.2.2.1⟩;clear HS4;have HS4:=HS4';clear HS4';have HCL:Hid (Calls Tryz.prog 64 #[.agg #[.int .i64 id,.slice A n cp,.int .i64 seq]] w4.drew (qpw id fs seq w4.drew)):=qH (qye id A n cp fs seq w4.drew HL.out HAT4.out.row hA hn);have HAFT:Hid (∀ (w5:World) (A5:Option Addr) (c5:Nat),fs.length<=c5/\c5<=maxLen->qaG w4.drew.heap.size w5 (.slice A5 fs.length c5) fs->Below w4.drew.heap.size w4.drew w5->
          w5.cell? ⟨B,0,none⟩=some (.slice Av l.length cv)/\(∀ o,(w5.alloc o).cell? ⟨B,0,none⟩=some (.slice Av l.length cv))/\(w5.cell? ⟨w.heap.size,0,none⟩=some (.int .i64 id)/\w5.cell? ⟨w.heap.size,1,none⟩=some (.slice A n cp)/\w5.cell? ⟨w.heap.size,2,none⟩=some (.int .i64 seq))/\(∀ o,((w5.alloc o).cell? ⟨w.heap.size,0,none⟩=some (.int .i64 id)/\(w5.alloc o).cell? ⟨w.heap.size,1,none⟩=some (.slice A n cp)/\(w5.alloc o).cell? ⟨w.heap.size,2,none⟩=some (.int .i64 seq)))/\
          (∃ cs,w5.ownsRow 0 61 3 (.slice Av l.length cv) l.length cs/\∀ (gg cap:Nat) (w7:World),w7.ownsRow 0 61 3 (.slice (some ⟨gg,0,none⟩) (l.length+1) cap) (l.length+1) (cs++[.int .i64 id,.slice A5 fs.length c5,.int .i64 seq])->
            (w5.alloc (.cells #[.int .i64 id,.slice A5 fs.length c5,.int .i64 seq] 61)).grownBy w7 (Value.slice Av l.length cv).ownBlock->((Value.slice Av l.length cv).ownBlock=some gg∨gg=w5.heap.size+1)->gg<w7.heap.size->
            w7.heap[B]?=some (.cells #[.slice Av l.length cv,.map (some M),.int .i64 (qc5 l:Int),.int .i64 up] 126 (0,0))/\(w7.cell? ⟨w.heap.size,0,none⟩=some (.int .i64 id)/\w7.cell? ⟨w.heap.size,1,none⟩=some (.slice A n cp)/\w7.cell? ⟨w.heap.size,2,none⟩=some (.int .i64 seq))/\((w7.setCell ⟨B,0,none⟩ (.slice (some ⟨gg,0,none⟩) (l.length+1) cap)).cell? ⟨w.heap.size,0,none⟩=some (.int .i64 id)/\(w7.setCell ⟨B,0,none⟩ (.slice (some ⟨gg,0,none⟩) (l.length+1) cap)).cell? ⟨w.heap.size,1,none⟩=some (.slice A n cp)/\(w7.setCell ⟨B,0,none⟩ (.slice (some ⟨gg,0,none⟩) (l.length+1) cap)).cell? ⟨w.heap.size,2,none⟩=some (.int .i64 seq))/\
            qbp S B M c (id,fs,seq) A cp (.slice (some ⟨gg,0,none⟩) (l.length+1) cap) (l++[(id,fs,seq)]) (qc5 l) up GG w (w7.setCell ⟨B,0,none⟩ (.slice (some ⟨gg,0,none⟩) (l.length+1) cap)))/\True):=qH fun w5 A5 c5 hc5 ho5 hb5=>by
        have hat5:=HAT4.out.below ((Below.refl _ w4).drew.trans hb5);have hcell:∀ {wx:World},wx.heap[w.heap.size]?=some (.cells #[.int .i64 id,.slice A fs.length cp,.int .i64 seq] 61 (0,0))->(wx.cell? ⟨w.heap.size,0,none⟩=some (.int .i64 id)/\wx.cell? ⟨w.heap.size,1,none⟩=some (.slice A n cp)/\wx.cell? ⟨w.heap.size,2,none⟩=some (.int .i64 seq)):=fun {wx} h=>by
          have :=qeH h;rw [HL.out] at this;exact this
        have hal:∀ o,Below w5.heap.size w5 (w5.alloc o):=fun o=>(Below.refl _ _).alloc (Nat.le_refl _) o
        obtain ⟨cs,hown5,hpush⟩:=hat5.push HF.out hBlt (ho5.low hs4) hc5;refine ⟨(qce hat5.cells).1,fun o=>(qce (hat5.below (hal o)).cells).1,hcell hat5.ent,fun o=>hcell (hat5.below (hal o)).ent,⟨cs,hown5,fun gg cap w7 h1 h2 h3 h4=> ?_⟩,trivial⟩;obtain ⟨k1,k2,k3⟩:=hpush gg cap w7 h1 h2 h3 h4;exact ⟨k1,hcell k2,hcell k3.ent,k3⟩
      go_upto_region 7 with fail
      go_cut [] from 28 to 38 (fun wx=>∃ (V:Value),qbp S B M c (id,fs,seq) A cp V (l++[(id,fs,seq)]) (qc5 l) up GG w wx)
      case first=>
        refine wp_region_held_drew (S:=(fun w'=>w'.cell? ⟨w.heap.size,0,none⟩=some (.int .i64 id)/\w'.cell? ⟨w.heap.size,1,none⟩=some (.slice A n cp)/\w'.cell? ⟨w.heap.size,2,none⟩=some (.int .i64 seq))) (by kernel_rfl) HS4.out (fun hHeld0=> ?_)
        refine wpAnyH_take (i:=0) (v:= .pointer (some ⟨B,0,none⟩)) rfl (by kernel_rfl) (by kernel_rfl) (by kernel_rfl) (fun _ _ _ h=>h) (Or.inl ⟨by rfl,fun wx hSw=>by obtain ⟨s1,s2,s3⟩:=hSw;go_simp⟩) (by assumption) ?_
        try simp only [Act.put,zA,zB,zD,zE,zF]
        refine wpAnyH_take (i:=1) (v:= .pointer (some ⟨B,0,none⟩)) rfl (by kernel_rfl) (by kernel_rfl) (by kernel_rfl) (fun _ _ _ h=>h) (Or.inl ⟨by rfl,fun wx hSw=>by obtain ⟨s1,s2,s3⟩:=hSw;go_simp⟩) (by assumption) ?_
        try simp only [Act.put,zA,zB,zC,zD,zE,zF]
        refine wpAnyH_take (i:=2) (v:= .pointer (some ⟨B,0,none⟩)) rfl (by kernel_rfl) (by kernel_rfl) (by kernel_rfl) (fun _ _ _ h=>h) (Or.inl ⟨by rfl,fun wx hSw=>by obtain ⟨s1,s2,s3⟩:=hSw;go_simp⟩) (by assumption) ?_
        try simp only [Act.put,zA,zB,zC,zD,zE,zF]
        refine wpAnyH_take (i:=3) (v:= .pointer (some ⟨B,0,none⟩)) rfl (by kernel_rfl) (by kernel_rfl) (by kernel_rfl) (fun _ _ _ h=>h) (Or.inl ⟨by rfl,fun wx hSw=>by obtain ⟨s1,s2,s3⟩:=hSw;go_simp⟩) (by assumption) ?_
        try simp only [Act.put,zA,zB,zC,zD,zE,zF]
        refine wpAnyH_take (i:=5) (v:= .agg #[.int .i64 id,.slice A n cp,.int .i64 seq]) rfl (by kernel_rfl) (by kernel_rfl) (by kernel_rfl) (fun _ _ _ h=>h) (Or.inl ⟨by rfl,fun wx hSw=>by obtain ⟨s1,s2,s3⟩:=hSw;go_simp⟩) (by assumption) ?_
        try simp only [Act.put,zA,zB,zC,zD,zE,zF]
        refine wpAnyH_ready (rs:=[4,6]) (by kernel_rfl) (by simp) ?_;refine AllReadyH.cons rfl (fun K hK=> ?_) (AllReadyH.cons rfl (fun K hK=> ?_) AllReadyH.nil)
        · try simp only [zA,zB,zC]
          go_simp;refine hK.out _ _ ?_ (fun hHeld1=> ?_)
          · exact HS4.out
          clear hK K
          try simp only [Act.put,zA,zB,zC,zD,zE,zF]
          refine wpAnyH_ready (rs:=[6]) (by kernel_rfl) (by simp) ?_;refine AllReadyH.cons rfl (fun K hK=> ?_) AllReadyH.nil
          try simp only [zA,zB,zC]
          go_simp
          go_at_call 64
          (with_reducible refine HCL.out.mono ?_)
          rintro e w5 ⟨A5,c5,rfl,hc5,ho5,hb5⟩;obtain ⟨h50,h51,h52,h53,h54,h55⟩:=HAFT.out w5 A5 c5 hc5 ho5 hb5;have t5:=h50;have t6:=h51;have HS5:=qH h52;have HS6:=qH h53;have HOW5:=qH h54;have HPU:=qH h55;clear h50 h51 h52 h53 h54 h55 ho5 hb5
          go_wp2_with fail
          refine hK.out _ _ ?_ (fun hHeld2=> ?_)
          · exact HS5.out
          clear hK K
          try simp only [Act.put,zA,zB,zC,zD,zE,zF]
          refine wpAnyH_ready (rs:=[7]) (by kernel_rfl) (by simp) ?_;refine AllReadyH.cons rfl (fun K hK=> ?_) AllReadyH.nil
          try simp only [zA,zB,zC]
          go_simp;refine hK.out _ _ ?_ (fun hHeld3=> ?_)
          · exact HS6.out _
          clear hK K
          try simp only [Act.put,zA,zB,zC,zD,zE,zF]
          refine wpAnyH_ready (rs:=[8]) (by kernel_rfl) (by simp) ?_;refine AllReadyH.cons rfl (fun K hK=> ?_) AllReadyH.nil
          try simp only [zA,zB,zC]
          obtain ⟨cs,hown5,hpush⟩:=HOW5.out;have HPUS:=qH hpush;clear hpush;refine step_append_lies (a:=⟨_,_⟩) _ ?_ (.tmp 32) (.tmp 35) 27 ?_ 0 61 t0 _ 3 40 Tryz.underlying27 hi0 hz0 hz1 hz2 rfl (by omega) (.slice Av l.length cv) l.length cs ?_ (hown5.alloc _)
            ⟨w5.heap.size,0,none⟩ 1 1 [.int .i64 id,.slice A5 fs.length c5,.int .i64 seq] ?_ (by rfl) (World.news_of_block (cs:=#[.int .i64 id,.slice A5 fs.length c5,.int .i64 seq]) (t:=61) (fr:=(0,0)) (heap_alloc_new w5 _)) (by intro u hu;simp at hu;rcases hu with hu|hu|hu<;>(subst hu;rfl))
            (by omega) (by unfold maxLen;omega) (by omega) (by simp) (w5.heap.size+1) (by simp) ?_
          · rfl
          · rfl
          · rfl
          · rfl
          intro gg cap w7 hown7 hg7 hat7 hlt7;obtain ⟨hB7,hS7,hS8,hat8⟩:=HPUS.out gg cap w7 hown7 hg7 hat7 hlt7;have s3:=(qce hB7).1;have s4:=(qce hB7).2.2.2.2.1;have HAT8:=qH hat8;clear hown7 hg7 hat7 hB7 hat8;refine hK.out _ _ ?_ (fun hHeld4=> ?_)
          · exact hS7
          clear hK K
          try simp only [Act.put,zD,zE,zF]
          refine wpAnyH_take (i:=9) (v:= .pointer (some ⟨B,0,none⟩)) rfl (by kernel_rfl) (by kernel_rfl) (by kernel_rfl) (fun _ _ _ h=>h) (Or.inl ⟨by rfl,fun wx hSw=>by obtain ⟨s1,s2,s3⟩:=hSw;go_simp⟩) (by assumption) ?_
          try simp only [Act.put,zA,zB,zC,zD,zE,zF]
          refine wpAnyH_take (i:=10) (v:= .pointer (some ⟨B,0,none⟩)) rfl (by kernel_rfl) (by kernel_rfl) (by kernel_rfl) (fun _ _ _ h=>h) (Or.inl ⟨by rfl,fun wx hSw=>by obtain ⟨s1,s2,s3⟩:=hSw;go_simp⟩) (by assumption) ?_
          try simp only [Act.put,zA,zB,zC,zD,zE,zF]
          refine wpAnyH_ready (rs:=[11]) (by kernel_rfl) (by simp) ?_;refine AllReadyH.cons rfl (fun K hK=> ?_) AllReadyH.nil
          try simp only [zA,zB,zC]
          go_simp;refine hK.out _ _ ?_ (fun hHeld5=> ?_)
          · exact hS8
          clear hK K
          try simp only [Act.put,zA,zB,zC,zD,zE,zF]
          refine wpAnyH_done (by kernel_rfl) ?_ _;clear hS7 hS8 s3 s4
          go_wp2_with fail
          go_meet;exact ⟨_,HAT8.out⟩
        · try simp only [zA,zB,zC]
          go_simp
          go_at_call 64
          (with_reducible refine HCL.out.mono ?_)
          rintro e w5 ⟨A5,c5,rfl,hc5,ho5,hb5⟩;obtain ⟨h50,h51,h52,h53,h54,h55⟩:=HAFT.out w5 A5 c5 hc5 ho5 hb5;have t5:=h50;have t6:=h51;have HS5:=qH h52;have HS6:=qH h53;have HOW5:=qH h54;have HPU:=qH h55;clear h50 h51 h52 h53 h54 h55 ho5 hb5
          go_wp2_with fail
          refine hK.out _ _ ?_ (fun hHeld1=> ?_)
          · exact HS5.out
          clear hK K
          try simp only [Act.put,zA,zB,zC,zD,zE,zF]
          refine wpAnyH_ready (rs:=[4,7]) (by kernel_rfl) (by simp) ?_;refine AllReadyH.cons rfl (fun K hK=> ?_) (AllReadyH.cons rfl (fun K hK=> ?_) AllReadyH.nil)
          · try simp only [zA,zB,zC]
            go_simp;refine hK.out _ _ ?_ (fun hHeld2=> ?_)
            · exact HS5.out
            clear hK K
            try simp only [Act.put,zA,zB,zC,zD,zE,zF]
            refine wpAnyH_ready (rs:=[7]) (by kernel_rfl) (by simp) ?_;refine AllReadyH.cons rfl (fun K hK=> ?_) AllReadyH.nil
            try simp only [zA,zB,zC]
            go_simp;refine hK.out _ _ ?_ (fun hHeld3=> ?_)
            · exact HS6.out _
            clear hK K
            try simp only [Act.put,zA,zB,zC,zD,zE,zF]
            refine wpAnyH_ready (rs:=[8]) (by kernel_rfl) (by simp) ?_;refine AllReadyH.cons rfl (fun K hK=> ?_) AllReadyH.nil
            try simp only [zA,zB,zC]
            obtain ⟨cs,hown5,hpush⟩:=HOW5.out;have HPUS:=qH hpush;clear hpush;refine step_append_lies (a:=⟨_,_⟩) _ ?_ (.tmp 32) (.tmp 35) 27 ?_ 0 61 t0 _ 3 40 Tryz.underlying27 hi0 hz0 hz1 hz2 rfl (by omega) (.slice Av l.length cv) l.length cs ?_ (hown5.alloc _)
              ⟨w5.heap.size,0,none⟩ 1 1 [.int .i64 id,.slice A5 fs.length c5,.int .i64 seq] ?_ (by rfl) (World.news_of_block (cs:=#[.int .i64 id,.slice A5 fs.length c5,.int .i64 seq]) (t:=61) (fr:=(0,0)) (heap_alloc_new w5 _)) (by intro u hu;simp at hu;rcases hu with hu|hu|hu<;>(subst hu;rfl))
              (by omega) (by unfold maxLen;omega) (by omega) (by simp) (w5.heap.size+1) (by simp) ?_
            · rfl
            · rfl
            · rfl
            · rfl
            intro gg cap w7 hown7 hg7 hat7 hlt7;obtain ⟨hB7,hS7,hS8,hat8⟩:=HPUS.out gg cap w7 hown7 hg7 hat7 hlt7;have s3:=(qce hB7).1;have s4:=(qce hB7).2.2.2.2.1;have HAT8:=qH hat8;clear hown7 hg7 hat7 hB7 hat8;refine hK.out _ _ ?_ (fun hHeld4=> ?_)
            · exact hS7
            clear hK K
            try simp only [Act.put,zD,zE,zF]
            refine wpAnyH_take (i:=9) (v:= .pointer (some ⟨B,0,none⟩)) rfl (by kernel_rfl) (by kernel_rfl) (by kernel_rfl) (fun _ _ _ h=>h) (Or.inl ⟨by rfl,fun wx hSw=>by obtain ⟨s1,s2,s3⟩:=hSw;go_simp⟩) (by assumption) ?_
            try simp only [Act.put,zA,zB,zC,zD,zE,zF]
            refine wpAnyH_take (i:=10) (v:= .pointer (some ⟨B,0,none⟩)) rfl (by kernel_rfl) (by kernel_rfl) (by kernel_rfl) (fun _ _ _ h=>h) (Or.inl ⟨by rfl,fun wx hSw=>by obtain ⟨s1,s2,s3⟩:=hSw;go_simp⟩) (by assumption) ?_
            try simp only [Act.put,zA,zB,zC,zD,zE,zF]
            refine wpAnyH_ready (rs:=[11]) (by kernel_rfl) (by simp) ?_;refine AllReadyH.cons rfl (fun K hK=> ?_) AllReadyH.nil
            try simp only [zA,zB,zC]
            go_simp;refine hK.out _ _ ?_ (fun hHeld5=> ?_)
            · exact hS8
            clear hK K
            try simp only [Act.put,zA,zB,zC,zD,zE,zF]
            refine wpAnyH_done (by kernel_rfl) ?_ _;clear hS7 hS8 s3 s4
            go_wp2_with fail
            go_meet;exact ⟨_,HAT8.out⟩
          · try simp only [zA,zB,zC]
            go_simp;refine hK.out _ _ ?_ (fun hHeld2=> ?_)
            · exact HS6.out _
            clear hK K
            try simp only [Act.put,zA,zB,zC,zD,zE,zF]
            refine wpAnyH_ready (rs:=[4]) (by kernel_rfl) (by simp) ?_;refine AllReadyH.cons rfl (fun K hK=> ?_) AllReadyH.nil
            try simp only [zA,zB,zC]
            go_simp;refine hK.out _ _ ?_ (fun hHeld3=> ?_)
            · exact HS6.out _
            clear hK K
            try simp only [Act.put,zA,zB,zC,zD,zE,zF]
            refine wpAnyH_ready (rs:=[8]) (by kernel_rfl) (by simp) ?_;refine AllReadyH.cons rfl (fun K hK=> ?_) AllReadyH.nil
            try simp only [zA,zB,zC]
            obtain ⟨cs,hown5,hpush⟩:=HOW5.out;have HPUS:=qH hpush;clear hpush;refine step_append_lies (a:=⟨_,_⟩) _ ?_ (.tmp 32) (.tmp 35) 27 ?_ 0 61 t0 _ 3 40 Tryz.underlying27 hi0 hz0 hz1 hz2 rfl (by omega) (.slice Av l.length cv) l.length cs ?_ (hown5.alloc _)
              ⟨w5.heap.size,0,none⟩ 1 1 [.int .i64 id,.slice A5 fs.length c5,.int .i64 seq] ?_ (by rfl) (World.news_of_block (cs:=#[.int .i64 id,.slice A5 fs.length c5,.int .i64 seq]) (t:=61) (fr:=(0,0)) (heap_alloc_new w5 _)) (by intro u hu;simp at hu;rcases hu with hu|hu|hu<;>(subst hu;rfl))
              (by omega) (by unfold maxLen;omega) (by omega) (by simp) (w5.heap.size+1) (by simp) ?_
            · rfl
            · rfl
            · rfl
            · rfl
            intro gg cap w7 hown7 hg7 hat7 hlt7;obtain ⟨hB7,hS7,hS8,hat8⟩:=HPUS.out gg cap w7 hown7 hg7 hat7 hlt7;have s3:=(qce hB7).1;have s4:=(qce hB7).2.2.2.2.1;have HAT8:=qH hat8;clear hown7 hg7 hat7 hB7 hat8;refine hK.out _ _ ?_ (fun hHeld4=> ?_)
            · exact hS7
            clear hK K
            try simp only [Act.put,zD,zE,zF]
            refine wpAnyH_take (i:=9) (v:= .pointer (some ⟨B,0,none⟩)) rfl (by kernel_rfl) (by kernel_rfl) (by kernel_rfl) (fun _ _ _ h=>h) (Or.inl ⟨by rfl,fun wx hSw=>by obtain ⟨s1,s2,s3⟩:=hSw;go_simp⟩) (by assumption) ?_
            try simp only [Act.put,zA,zB,zC,zD,zE,zF]
            refine wpAnyH_take (i:=10) (v:= .pointer (some ⟨B,0,none⟩)) rfl (by kernel_rfl) (by kernel_rfl) (by kernel_rfl) (fun _ _ _ h=>h) (Or.inl ⟨by rfl,fun wx hSw=>by obtain ⟨s1,s2,s3⟩:=hSw;go_simp⟩) (by assumption) ?_
            try simp only [Act.put,zA,zB,zC,zD,zE,zF]
            refine wpAnyH_ready (rs:=[11]) (by kernel_rfl) (by simp) ?_;refine AllReadyH.cons rfl (fun K hK=> ?_) AllReadyH.nil
            try simp only [zA,zB,zC]
            go_simp;refine hK.out _ _ ?_ (fun hHeld5=> ?_)
            · exact hS8
            clear hK K
            try simp only [Act.put,zA,zB,zC,zD,zE,zF]
            refine wpAnyH_done (by kernel_rfl) ?_ _;clear hS7 hS8 s3 s4
            go_wp2_with fail
            go_meet;exact ⟨_,HAT8.out⟩
      case rest=>
        obtain ⟨wz,rfl⟩:∃ wz,wz=wc:=⟨_,rfl⟩;obtain ⟨V8,hat8⟩:=hcut;have hcell:∀ {wx:World},wx.heap[w.heap.size]?=some (.cells #[.int .i64 id,.slice A fs.length cp,.int .i64 seq] 61 (0,0))->(wx.cell? ⟨w.heap.size,0,none⟩=some (.int .i64 id)/\wx.cell? ⟨w.heap.size,1,none⟩=some (.slice A n cp)/\wx.cell? ⟨w.heap.size,2,none⟩=some (.int .i64 seq)):=fun {wx} h=>by
          have :=qeH h;rw [HL.out] at this;exact this
        have hwb:=qsk HBI.out.good;have hwd:=HGOOD.out.weight;have HWT:=qH (qx4 (id:=id) (c:=cp) (w:=wz.drew) HGOOD.out HL.out hat8.row);have hsum:qc5 (l++[(id,fs,seq)])=qc5 l+qeq fs:=by unfold qc5;simp
        obtain ⟨T,hT⟩:∃ T,T=qc5 l:=⟨_,rfl⟩;obtain ⟨D,hD⟩:∃ D,D=qeq fs:=⟨_,rfl⟩;rw [<- hT] at hwb hat8 hsum;rw [<- hD] at hwd HWT hsum;have hT5:T<=500000:=by omega
        have HSUM:=qH hsum;have hwr:IntKind.i64.wrap ((T:Int)+(D:Int))=(T:Int)+(D:Int):=IntWalk.i64_in _ (by omega);have HS8:Hid (wz.cell? ⟨w.heap.size,0,none⟩=some (.int .i64 id)/\wz.cell? ⟨w.heap.size,1,none⟩=some (.slice A n cp)/\wz.cell? ⟨w.heap.size,2,none⟩=some (.int .i64 seq)):=qH (hcell hat8.ent);have t8:=(qce hat8.cells).2.2.1;have HAFT9:Hid (∀ w9,Below wz.drew.heap.size wz.drew w9->w9.cell? ⟨B,2,none⟩=some (.int .i64 (T:Int))/\w9.frozen? ⟨B,2,none⟩=false/\(w9.cell? ⟨w.heap.size,0,none⟩=some (.int .i64 id)/\w9.cell? ⟨w.heap.size,1,none⟩=some (.slice A n cp)/\w9.cell? ⟨w.heap.size,2,none⟩=some (.int .i64 seq))/\qbp S B M c (id,fs,seq) A cp V8 (l++[(id,fs,seq)]) ((T:Int)+(D:Int)) up GG w (w9.setCell ⟨B,2,none⟩ (.int .i64 ((T:Int)+(D:Int))))/\((w9.setCell ⟨B,2,none⟩ (.int .i64 ((T:Int)+(D:Int)))).cell? ⟨w.heap.size,0,none⟩=some (.int .i64 id)/\(w9.setCell ⟨B,2,none⟩ (.int .i64 ((T:Int)+(D:Int)))).cell? ⟨w.heap.size,1,none⟩=some (.slice A n cp)/\(w9.setCell ⟨B,2,none⟩ (.int .i64 ((T:Int)+(D:Int)))).cell? ⟨w.heap.size,2,none⟩=some (.int .i64 seq))):=qH fun w9 hb9=>by
          have hat9:=hat8.below ((Below.refl _ wz).drew.trans hb9);have h10:=hat9.stored (w':=w9.setCell ⟨B,2,none⟩ (.int .i64 ((T:Int)+(D:Int)))) HF.out hBlt ((T:Int)+(D:Int)) up (by rw [qcR hat9.cells];rfl) (fun k hk=>qdC (Ne.symm hk)) (by simp) rfl rfl rfl;exact ⟨(qce hat9.cells).2.2.1,(qce hat9.cells).2.2.2.2.2.2.1,hcell hat9.ent,h10,hcell h10.ent⟩
        clear hwb hT hD hsum hat8 t4 HS4 HCL HAFT
        go_upto_region 8 with fail
        go_cut [] from 39 to 48 (fun wx=>qbp S B M c (id,fs,seq) A cp V8 (l++[(id,fs,seq)]) ((T:Int)+(D:Int)) up GG w wx)
        case first=>
          refine wp_region_held_drew (S:=(fun w'=>w'.cell? ⟨w.heap.size,0,none⟩=some (.int .i64 id)/\w'.cell? ⟨w.heap.size,1,none⟩=some (.slice A n cp)/\w'.cell? ⟨w.heap.size,2,none⟩=some (.int .i64 seq))) (by kernel_rfl) HS8.out (fun hHeld0=> ?_)
          refine wpAnyH_take (i:=0) (v:= .pointer (some ⟨B,0,none⟩)) rfl (by kernel_rfl) (by kernel_rfl) (by kernel_rfl) (fun _ _ _ h=>h) (Or.inl ⟨by rfl,fun wx hSw=>by obtain ⟨s1,s2,s3⟩:=hSw;go_simp⟩) (by assumption) ?_
          try simp only [Act.put,zA,zB,zD,zE,zF]
          refine wpAnyH_take (i:=1) (v:= .pointer (some ⟨B,0,none⟩)) rfl (by kernel_rfl) (by kernel_rfl) (by kernel_rfl) (fun _ _ _ h=>h) (Or.inl ⟨by rfl,fun wx hSw=>by obtain ⟨s1,s2,s3⟩:=hSw;go_simp⟩) (by assumption) ?_
          try simp only [Act.put,zA,zB,zC,zD,zE,zF]
          refine wpAnyH_take (i:=2) (v:= .pointer (some ⟨B,2,none⟩)) rfl (by kernel_rfl) (by kernel_rfl) (by kernel_rfl) (fun _ _ _ h=>h) (Or.inl ⟨by rfl,fun wx hSw=>by obtain ⟨s1,s2,s3⟩:=hSw;go_simp⟩) (by assumption) ?_
          try simp only [Act.put,zA,zB,zC,zD,zE,zF]
          refine wpAnyH_take (i:=4) (v:= .pointer (some ⟨w.heap.size,0,none⟩)) rfl (by kernel_rfl) (by kernel_rfl) (by kernel_rfl) (fun _ _ _ h=>h) (Or.inl ⟨by rfl,fun wx hSw=>by obtain ⟨s1,s2,s3⟩:=hSw;go_simp⟩) (by assumption) ?_
          try simp only [Act.put,zA,zB,zC,zD,zE,zF]
          refine wpAnyH_take (i:=5) (v:= .agg #[.int .i64 id,.slice A n cp]) rfl (by kernel_rfl) (by kernel_rfl) (by kernel_rfl) (fun _ _ _ h=>h) (Or.inl ⟨by rfl,fun wx hSw=>by obtain ⟨s1,s2,s3⟩:=hSw;go_simp⟩) (by assumption) ?_
          try simp only [Act.put,zA,zB,zC,zD,zE,zF]
          refine wpAnyH_ready (rs:=[3,6]) (by kernel_rfl) (by simp) ?_;refine AllReadyH.cons rfl (fun K hK=> ?_) (AllReadyH.cons rfl (fun K hK=> ?_) AllReadyH.nil)
          · try simp only [zA,zB,zC]
            go_simp;refine hK.out _ _ ?_ (fun hHeld1=> ?_)
            · exact HS8.out
            clear hK K
            try simp only [Act.put,zA,zB,zC,zD,zE,zF]
            refine wpAnyH_ready (rs:=[6]) (by kernel_rfl) (by simp) ?_;refine AllReadyH.cons rfl (fun K hK=> ?_) AllReadyH.nil
            try simp only [zA,zB,zC]
            go_simp
            go_at_call 65
            (with_reducible refine HWT.out.mono ?_)
            rintro e w9 ⟨rfl,hb9⟩;obtain ⟨h90,h91,h92,h93,h94⟩:=HAFT9.out w9 hb9;have t9:=h90;have u9:=h91;have HS9:=qH h92;have HAT9:=qH h93;have HSE:=qH h94;clear h90 h91 h92 h93 h94 hb9
            go_wp2_with fail
            refine hK.out _ _ ?_ (fun hHeld2=> ?_)
            · exact HS9.out
            clear hK K
            try simp only [Act.put,zA,zB,zC,zD,zE,zF]
            refine wpAnyH_take (i:=7) (v:= .int .i64 ((T:Int)+(D:Int))) rfl (by kernel_rfl) (by kernel_rfl) (by kernel_rfl) (fun _ _ _ h=>h) (Or.inl ⟨by rfl,fun wx hSw=>by obtain ⟨s1,s2,s3⟩:=hSw;go_simp⟩) (by assumption) ?_
            try simp only [Act.put,zA,zB,zC,zD,zE,zF]
            refine wpAnyH_take (i:=8) (v:= .pointer (some ⟨B,0,none⟩)) rfl (by kernel_rfl) (by kernel_rfl) (by kernel_rfl) (fun _ _ _ h=>h) (Or.inl ⟨by rfl,fun wx hSw=>by obtain ⟨s1,s2,s3⟩:=hSw;go_simp⟩) (by assumption) ?_
            try simp only [Act.put,zA,zB,zC,zD,zE,zF]
            refine wpAnyH_take (i:=9) (v:= .pointer (some ⟨B,2,none⟩)) rfl (by kernel_rfl) (by kernel_rfl) (by kernel_rfl) (fun _ _ _ h=>h) (Or.inl ⟨by rfl,fun wx hSw=>by obtain ⟨s1,s2,s3⟩:=hSw;go_simp⟩) (by assumption) ?_
            try simp only [Act.put,zA,zB,zC,zD,zE,zF]
            refine wpAnyH_ready (rs:=[10]) (by kernel_rfl) (by simp) ?_;refine AllReadyH.cons rfl (fun K hK=> ?_) AllReadyH.nil
            try simp only [zA,zB,zC]
            go_simp;refine hK.out _ _ ?_ (fun hHeld3=> ?_)
            · exact HSE.out
            clear hK K
            try simp only [Act.put,zA,zB,zC,zD,zE,zF]
            refine wpAnyH_done (by kernel_rfl) ?_ _
            go_wp2_with fail
            go_meet;exact HAT9.out
          · try simp only [zA,zB,zC]
            go_simp
            go_at_call 65
            (with_reducible refine HWT.out.mono ?_)
            rintro e w9 ⟨rfl,hb9⟩;obtain ⟨h90,h91,h92,h93,h94⟩:=HAFT9.out w9 hb9;have t9:=h90;have u9:=h91;have HS9:=qH h92;have HAT9:=qH h93;have HSE:=qH h94;clear h90 h91 h92 h93 h94 hb9
            go_wp2_with fail
            refine hK.out _ _ ?_ (fun hHeld1=> ?_)
            · exact HS9.out
            clear hK K
            try simp only [Act.put,zA,zB,zC,zD,zE,zF]
            refine wpAnyH_ready (rs:=[3]) (by kernel_rfl) (by simp) ?_;refine AllReadyH.cons rfl (fun K hK=> ?_) AllReadyH.nil
            try simp only [zA,zB,zC]
            go_simp;refine hK.out _ _ ?_ (fun hHeld2=> ?_)
            · exact HS9.out
            clear hK K
            try simp only [Act.put,zA,zB,zC,zD,zE,zF]
            refine wpAnyH_take (i:=7) (v:= .int .i64 ((T:Int)+(D:Int))) rfl (by kernel_rfl) (by kernel_rfl) (by kernel_rfl) (fun _ _ _ h=>h) (Or.inl ⟨by rfl,fun wx hSw=>by obtain ⟨s1,s2,s3⟩:=hSw;go_simp⟩) (by assumption) ?_
            try simp only [Act.put,zA,zB,zC,zD,zE,zF]
            refine wpAnyH_take (i:=8) (v:= .pointer (some ⟨B,0,none⟩)) rfl (by kernel_rfl) (by kernel_rfl) (by kernel_rfl) (fun _ _ _ h=>h) (Or.inl ⟨by rfl,fun wx hSw=>by obtain ⟨s1,s2,s3⟩:=hSw;go_simp⟩) (by assumption) ?_
            try simp only [Act.put,zA,zB,zC,zD,zE,zF]
            refine wpAnyH_take (i:=9) (v:= .pointer (some ⟨B,2,none⟩)) rfl (by kernel_rfl) (by kernel_rfl) (by kernel_rfl) (fun _ _ _ h=>h) (Or.inl ⟨by rfl,fun wx hSw=>by obtain ⟨s1,s2,s3⟩:=hSw;go_simp⟩) (by assumption) ?_
            try simp only [Act.put,zA,zB,zC,zD,zE,zF]
            refine wpAnyH_ready (rs:=[10]) (by kernel_rfl) (by simp) ?_;refine AllReadyH.cons rfl (fun K hK=> ?_) AllReadyH.nil
            try simp only [zA,zB,zC]
            go_simp;refine hK.out _ _ ?_ (fun hHeld3=> ?_)
            · exact HSE.out
            clear hK K
            try simp only [Act.put,zA,zB,zC,zD,zE,zF]
            refine wpAnyH_done (by kernel_rfl) ?_ _
            go_wp2_with fail
            go_meet;exact HAT9.out
        case rest=>
          obtain ⟨wy,rfl⟩:∃ wy,wy=wc:=⟨_,rfl⟩;have q2:=(hcell hcut.ent).2.2;obtain ⟨c0,c1,c2,c3,f0,f1,f2,f3⟩:=qce hcut.cells;have hend:=hcut.stored (w':=wy.setCell ⟨B,3,none⟩ (.int .i64 seq)) HF.out hBlt ((T:Int)+(D:Int)) seq (by rw [qcR hcut.cells];rfl) (fun k hk=>qdC (Ne.symm hk)) (by simp) rfl rfl rfl;rw [show (T:Int)+(D:Int)=((qc5 (l++[(id,fs,seq)]):Nat):Int) by rw [HSUM.out];push_cast;rfl,HGG.out] at hend;have hbuf:=qbp.done hend HBI.out.lt HBI.out.stand HBI.out.good HGOOD.out (show (0:Int)<=seq by omega);have HBUF:=qH hbuf;have HONLY:=qH hend.only;clear hcut hend hbuf;go_wp2;go_ret;exact (HG.out _ _).2 ⟨rfl,fun h=>absurd rfl h,fun _=>⟨_,HBUF.out,fun k hk=>hk.imp (fun h=>h) fun hk=>hk.1,HONLY.out⟩⟩
  · have hM1:(E != 0)=true:=by simpa using hE0
    go_wp2;go_ret;refine (HG.out _ _).2 ⟨by rw [if_pos hE0];rfl,fun _=>HB2.out,fun h=>absurd h (by rw [if_pos hE0];exact hE0)⟩
theorem qyq {l:List Dc} {most:Nat} {start step:Int} {i:Nat} (hi:i<(qck l most start step).length):((qck l most start step)[i]).2.2=start+step*(i:Int):=by
 simp [qck]
theorem qyr (l:List Dc) (most:Nat) (start step:Int) (hm:most<=100) (h0:0<=start) (h1:1<=step):qcf (qck l most start step) where
 may q hq:=by
  obtain ⟨d,hd⟩:=qsr l most start step q hq;rw [hd];exact ⟨qr6 d,fun f hf=>⟨Nat.le_trans (qhX d _ f hf) (by omega),Nat.le_trans (qg3 d _ f hf) (by omega)⟩⟩
 rise:=by
  have hat:∀ (i:Nat) (h:i<((qck l most start step).map (·.2.2)).length),((qck l most start step).map (·.2.2))[i]=start+step*(i:Int):=fun i h=>by
   rw [List.getElem_map];exact qyq (by simpa using h)
  refine qfH ?_ ?_
  ·refine List.pairwise_iff_getElem.2 fun i j hi hj hij=> ?_
   rw [hat i hi,hat j hj];have :step*(i:Int)<step*(j:Int):=Int.mul_lt_mul_of_pos_left (by omega) (by omega);omega
  ·intro a ha
   obtain ⟨i,hi,rfl⟩:=List.getElem_of_mem ha;rw [hat i hi];have :0<=step*(i:Int):=Int.mul_nonneg (by omega) (by omega);omega
 few:=by rw [qiF];omega
theorem qa6.small {S:Nat->Prop} {w:World} {v:Value} {l:List En} (h:qa6 S w v l):qa6 (fun k=>k<w.heap.size) w v l:=by
 obtain ⟨cs,h1,h2,h3⟩:=h;refine ⟨cs,h1,fun k hk=>(h1.lt k hk).2,h3.imp fun A xs hr=>⟨qaM.imp hr.1 fun k hk=> ?_,hr.2⟩⟩;obtain ⟨_,cs',fr,hh,ho⟩:=hk;exact ⟨(Array.getElem?_eq_some_iff.1 hh).1,cs',fr,hh,ho⟩
open Plain (Rep WS qf0 qfx qgH qgI ones qgJ qgK)
theorem qys (n:Nat):Rep (List.replicate n false) []:=by
 refine ⟨⟨List.Pairwise.nil,(fun p hp=>absurd hp List.not_mem_nil),(fun p hp=>absurd hp List.not_mem_nil),(fun p hp=>absurd hp List.not_mem_nil)⟩,fun i=> ?_⟩;have :Plain.getW [] (i/64)=0:=rfl;unfold Plain.memW;rw [this,Nat.zero_testBit,List.getD_eq_getElem?_getD,List.getElem?_replicate];split<;>rfl
theorem qyt (w:World) (n:Nat):qcq (w.alloc (.cells #[.int .i64 n,.slice none 0 0] 101)) w.heap.size w.heap.size (List.replicate n false):=
 ⟨[],⟨Nat.le_refl _,.slice none 0 0,by rw [List.length_replicate];exact heap_alloc_new w _,World.ownsRow_nil _ _ _ _⟩,qys n⟩
def qyu (n:Nat) (w:World) (e:Ending) (w':World):Prop:=e= .returned (.pointer (some ⟨w.heap.size,0,none⟩))/\qcq w' w.heap.size w.heap.size (List.replicate n false)/\Below w.heap.size w w'
theorem qpz (n:Int) (w:World) (hn:n<9223372036854775808):
  Calls Tryz.prog 22 #[.int .i64 n] w (qyu n.toNat w):=by
 have hmx:∀ (w:World) (ts:Array TypeId) (t:TypeId),(Builtin.max_ ts t #[.int .i64 n,.int .i64 0]).run Tryz.prog w= .ok (.int .i64 (n.toNat:Int)) w:=fun w ts t=>by rw [run_max_int2];congr 2;split<;>omega
 have HG:=qH (qyt w n.toNat);obtain ⟨m,hm⟩:∃ m,m=n.toNat:=⟨_,rfl⟩;rw [<- hm] at hmx HG ⊢;clear hm hn
 go_enter Tryz.func22,Tryz.ntmps22
 go_wp2;go_ret;exact ⟨rfl,HG.out,(Below.refl _ _).alloc (Nat.le_refl _) _⟩
open Plain (Wd WS Rep qf0 qfx qgH qgI ones qgJ qgK)
namespace Plain
def allW:Nat:=18446744073709551615
def fullK (k:Nat):List Wd:=(List.range k).map fun a=>(a,allW)
theorem fullK_succ (k:Nat):fullK (k+1)=fullK k++[(k,allW)]:=by unfold fullK;rw [List.range_succ,List.map_append];rfl
theorem fullK_length (k:Nat):(fullK k).length=k:=by simp [fullK]
theorem qpA (k:Nat) (p:Wd):p∈fullK k↔p.1<k/\p.2=allW:=by
 obtain ⟨a,x⟩:=p;unfold fullK;simp only [List.mem_map,List.mem_range,Prod.mk.injEq];constructor
 ·rintro ⟨b,hb,rfl,rfl⟩;exact ⟨hb,rfl⟩
 ·rintro ⟨h1,rfl⟩;exact ⟨a,h1,rfl,rfl⟩
theorem qyv (k:Nat):(fullK k).Pairwise fun p q=>p.1<q.1:=by
 unfold fullK;rw [List.pairwise_map];exact List.pairwise_lt_range
def fullW (n:Nat):List Wd:=fullK (n/64)++if 0<n%64 then [(n/64,2^(n%64)-1)] else []
theorem qfY (n:Nat) (p:Wd):p∈fullW n↔(p.1<n/64/\p.2=allW)∨(0<n%64/\p.1=n/64/\p.2=2^(n%64)-1):=by
 unfold fullW;rw [List.mem_append,qpA];obtain ⟨a,x⟩:=p;split
 ·rename_i h;simp [h]
 ·rename_i h;simp [h]
theorem qpB (j:Nat):allW.testBit j=decide (j<64):=Nat.testBit_two_pow_sub_one 64 j
theorem qyw (n:Nat):WS n (fullW n):=by
 have hp:2^(n%64)-1<18446744073709551616:=by
  have :=bit_fits (Nat.mod_lt n (show 0<64 by decide));omega
 refine ⟨?_,fun p hp=> ?_,fun p hp=> ?_,fun p hp j hj=> ?_⟩
 ·unfold fullW
  rw [List.pairwise_append];refine ⟨qyv _,?_,fun p hp q hq=> ?_⟩
  ·split
   ·exact List.pairwise_singleton _ _
   ·exact List.Pairwise.nil
  ·rw [qpA] at hp
   split at hq
   ·simp at hq;rw [hq];exact hp.1
   ·simp at hq
 ·rcases (qfY n p).1 hp with ⟨_,e⟩|⟨_,_,e⟩
  ·rw [e];decide
  ·rw [e];assumption
 ·rcases (qfY n p).1 hp with ⟨h,_⟩|⟨h,e,_⟩<;>omega
 ·rcases (qfY n p).1 hp with ⟨h,e⟩|⟨h,e1,e⟩
  ·rw [e,qpB] at hj
   simp at hj;omega
  ·rw [e,Nat.testBit_two_pow_sub_one] at hj
   simp at hj;omega
theorem fullW_rep (n:Nat):Rep (List.replicate n true) (fullW n):=by
 have hW:=qyw n;refine ⟨by rw [List.length_replicate];exact hW,fun i=> ?_⟩;have hr:(List.replicate n true).getD i false=decide (i<n):=by
  rw [List.getD_eq_getElem?_getD,List.getElem?_replicate];split
  ·rename_i h;simp [h]
  ·rename_i h;simp [h]
 rw [hr];unfold memW;by_cases h1:i/64<n/64
 ·have :=qh1 hW (p:=(i/64,allW)) ((qfY _ _).2 (.inl ⟨h1,rfl⟩))
  simp only at this;rw [this,qpB];have :i<n:=by omega
  simp [this,Nat.mod_lt]
 ·by_cases h2:i/64=n/64/\0<n%64
  ·have :=qh1 hW (p:=(n/64,2^(n%64)-1)) ((qfY _ _).2 (.inr ⟨h2.2,rfl,rfl⟩))
   simp only at this;rw [h2.1,this,Nat.testBit_two_pow_sub_one];congr 1;rw [eq_iff_iff];omega
  ·have :=qpV (ws:=fullW n) (a:=i/64) (fun p hp=>by
    rcases (qfY n p).1 hp with ⟨h,_⟩|⟨h,e,_⟩
    ·omega
    ·intro e';exact h2 ⟨by omega,h⟩)
   rw [this,Nat.zero_testBit];simp;omega
theorem fullW_full {n:Nat} (h:¬ 0<n%64):fullW n=fullK (n/64):=by unfold fullW;rw [if_neg h,List.append_nil]
theorem fullW_rest {n:Nat} (h:0<n%64):fullW n=fullK (n/64)++[(n/64,2^(n%64)-1)]:=by unfold fullW;rw [if_pos h]
end Plain
theorem qyx {P:Program} {ops:Array Oper} {o:Oper} {a:Act} {w:World} {K:Act->World->Prop} {Q:Exit->Act->World->Prop} {E:Prop} (hg:o.guard=none) (s x:Operand) (t:TypeId)
  (hop:o.op=Op.call {callee:=Callee.builtin Builtin.append,args:=#[s,x],argTypes:=#[t,t]}) (vs vx:Value) (hs:a.eval s=vs) (hx:a.eval x=vx) (v':Value) (w':World)
  (hr:(Builtin.append_ #[t,t] o.type #[vs,vx]).run P w= .ok v' w') (hK:K (a.put o.dst v') w'):if Region.wanted o (yielded ops a.tmps)=true then Oper.wp P o a w K Q else E:=by
 have hw:Region.wanted o (yielded ops a.tmps)=true:=by simp [Region.wanted,hg]
 rw [if_pos hw];exact Lib.wp_append_run w s x t t hop vs vx hs hx v' w' hr hK
def qpC (n:Nat) (w:World) (e:Ending) (w':World):Prop:=e= .returned (.pointer (some ⟨w.heap.size,0,none⟩))/\qbq w' w.heap.size w.heap.size n (Plain.fullW n)/\Below w.heap.size w w'
def qku (n B q:Nat) (w:World) (i:Value) (wr:World):Prop:=∃ k:Nat,k<=q/\i= .int .i64 k/\qbq wr B B n (Plain.fullK k)/\Below B w wr
theorem qyy (n:Int) (w:World) (hn:n<=1073741824):
  Calls Tryz.prog 19 #[.int .i64 n] w (qpC n.toNat w):=by
 obtain ⟨i0,hi0,hz0,hz1,hz2⟩:=info_parts qkO;have HN:=qH (qpz n w (by omega));have hNb:n.toNat<=1073741824:=by omega
 obtain ⟨N,hNe⟩:∃ N,N=n.toNat:=⟨_,rfl⟩;rw [<- hNe] at hNb HN ⊢;have HFW:=qH (rfl:Plain.fullW N=Plain.fullW N);have HFF:=qH (@Plain.fullW_full N);have HFR:=qH (@Plain.fullW_rest N);obtain ⟨q,hq⟩:∃ q,q=N/64:=⟨_,rfl⟩;obtain ⟨m,hm⟩:∃ m,m=N%64:=⟨_,rfl⟩;have HB:=qH (fun w=>qqa m w (by omega));have hmm:m%64=m:=by omega
 rw [hmm] at HB;rw [<- hq,<- hm] at HFF HFR;have hq2:(N:Int)/64=(q:Int):=by omega
 have hq3:(N:Int).tdiv 64=(q:Int):=by rw [Int.tdiv_eq_ediv_of_nonneg (by omega)];exact hq2
 have hm2:(N:Int).tmod 64=(m:Int):=by rw [Int.tmod_eq_emod_of_nonneg (by omega)];omega
 have hm3:(N:Int)%64=(m:Int):=by omega
 have hqb:q<=16777216:=by omega
 have hmb:m<64:=by omega
 have hpf:2^m-1<18446744073709551616:=by
  have :=Plain.bit_fits hmb;omega
 obtain ⟨y,hy⟩:∃ y,y=2^m-1:=⟨_,rfl⟩;rw [<- hy] at HB HFR hpf;clear hNe hn hq hm hmm hy
 go_enter Tryz.func19,Tryz.ntmps19
 go_wp2_with (go_at_call 22;(with_reducible refine HN.out.mono ?_))
 rintro e w1 ⟨rfl,hs1,hb1⟩;obtain ⟨ws1,hs1,_⟩:=hs1;obtain ⟨_,v1,hv1,ho1⟩:=hs1;rw [List.length_replicate] at hv1;obtain ⟨c0,c1,f0,f1⟩:=qeJ hv1;have HB1:=qH hb1;have HV1:=qH hv1;have hz1':=hb1.size;clear hb1 hv1 ho1;go_wp2
 go_quiet (fail)
 go_wp2_with (at_make;refine wpList_make_own _ rfl _ _ 99 rfl w.heap.size 104 i0 _ 2 Tryz.underlying99 hi0 hz0 hz1 _ _ _ (q+1) rfl rfl (by go_num) (by rw [hz2];omega) (by unfold maxLen;omega) hz1' ?_)
 intro w2 hown hgrow;have hgrow:w1.grownBy w2 none:=⟨hgrow.os,hgrow.tape,hgrow.output,hgrow.size,hgrow.block⟩;have hBlt:w.heap.size<w1.heap.size:=(Array.getElem?_eq_some_iff.1 HV1.out).1;have hB2:w2.heap[w.heap.size]?=some (.cells #[.int .i64 N,v1] 101 (0,0)):=by
  rw [hgrow.block _ hBlt (fun h=>by cases h)];exact HV1.out
 have hne:∀ u,((w2.setCell ⟨w.heap.size,1,none⟩ u).ownsRow w.heap.size 104 2 (.slice (some ⟨w1.heap.size,0,none⟩) 0 (q+1)) 0 []):=fun u=>
  ownsRow_setCell_other hown (qah hown hB2 (by decide)) u
 have hb2:Below w.heap.size w w2:=HB1.out.grown hgrow hz1' (fun k hk=>by cases hk);obtain ⟨_,c12,_,f12⟩:=qeJ hB2;have hset2:qbq (w2.setCell ⟨w.heap.size,1,none⟩ (.slice (some ⟨w1.heap.size,0,none⟩) 0 (q+1))) w.heap.size w.heap.size N (Plain.fullK 0):=
  ⟨Nat.le_refl _,_,qn7 hB2,hne _⟩
 have hrel0:qku N w.heap.size q w (.int .i64 ((0:Nat):Int)) (w2.setCell ⟨w.heap.size,1,none⟩ (.slice (some ⟨w1.heap.size,0,none⟩) 0 (q+1))):=
  ⟨0,Nat.zero_le _,rfl,hset2,hb2.setCell (Nat.le_refl _) _⟩
 have HREL0:=qH hrel0;clear hrel0 hset2 hb2 hne hB2 hown hgrow c0 c1 f0 f1;go_wp2;clear c12 f12
 go_loopw [26] (qku N w.heap.size q w) (fun i _=>q-(intOf i).toNat)
 case atStart=>exact HREL0.out
 case round=>
  obtain ⟨k,hk,rfl,hset,hbw⟩:=hrel;have HSET:=qH hset;have HBW:=qH hbw;have hzw:=hbw.size;obtain ⟨hBB,v,hv,ho⟩:=hset;obtain ⟨c0,c1,_,_⟩:=qeJ hv;have HV:=qH hv;have HO:=qH ho;clear hv ho hbw;by_cases hlt:k<q
  ·obtain ⟨v',w',hr,hgot⟩:=qn6 (wr.alloc (.cells #[.int .i64 k,.int .u64 (Plain.allW:Nat)] 104)) w.heap.size v (Plain.fullK k).length (Plain.fullK k) (k,Plain.allW) wr.heap.size 1 (HO.out.alloc _) rfl (by rw [Plain.fullK_length];omega) (by simp [World.cell?_alloc_at]) (by simp [World.cell?_alloc_at]) (by simp;omega)
   obtain ⟨A',c',rfl,_,_⟩:=qaR hgot.1;obtain ⟨hs4,ht4,c3,f3⟩:=qn8 hBB HV.out HO.out hgot;have HR:=qH hr;have hF:qku N w.heap.size q w (.int .i64 ((k+1:Nat):Int)) (w'.setCell ⟨w.heap.size,1,none⟩ (.slice A' _ c')):=⟨k+1,by omega,rfl,by rw [Plain.fullK_succ];exact hs4,HBW.out.trans (qgy.below HSET.out ht4)⟩;have HF:=qH hF;have hkq:(k:Int)<q:=by omega
   clear hr hgot hs4 ht4 hF
   go_wp2_with (at_builtin;refine Lib.wpList_append_run _ rfl _ _ _ _ rfl _ _ rfl rfl _ _ HR.out ?_)
   go_roundw
   case rel=>simpa using HF.out
   case measure=>simp [intOf];omega
  ·obtain rfl:k=q:=by omega
   by_cases hm0:m=0
   ·subst hm0
    go_wp2;go_ret;exact ⟨rfl,by rw [HFF.out (by omega)];exact HSET.out,HBW.out⟩
   ·obtain ⟨v',w',hr,hgot⟩:=qn6 ((wr.alloc (.cells #[.int .i64 k,.int .u64 (y:Nat)] 104)).drew) w.heap.size v (Plain.fullK k).length (Plain.fullK k) (k,y) wr.heap.size 1 ((show wr.drew.ownsRow w.heap.size 104 2 v _ _ from HO.out).alloc _) rfl (by rw [Plain.fullK_length];omega) (qeJ (B:=wr.heap.size) (heap_alloc_new wr.drew _)).1 (qeJ (B:=wr.heap.size) (heap_alloc_new wr.drew _)).2.1 (by have :=HB1.out.size;simp [World.drew];omega)
    have hgot:qhE (wr.drew.alloc (.cells #[.int .i64 k,.int .u64 (y:Nat)] 104)) w.heap.size v (Plain.fullK k++[(k,y)]) v' w':=hgot;obtain ⟨A',c',rfl,_,_⟩:=qaR hgot.1;obtain ⟨hs4,ht4,c3,f3⟩:=qn8 (w:=wr.drew) hBB HV.out HO.out hgot;have HR:=qH hr;have hF:qpC N w (.returned (.pointer (some ⟨w.heap.size,0,none⟩))) (w'.setCell ⟨w.heap.size,1,none⟩ (.slice A' _ c')):=⟨rfl,by rw [HFR.out (by omega)];exact hs4,HBW.out.trans (qor (qgy.below (w:=wr.drew) HSET.out ht4))⟩;have HF:=qH hF;have hmp:(0:Int)<m:=by omega
    have c1a:∀ o,(wr.alloc o).cell? ⟨w.heap.size,1,none⟩=some v:=fun o=>((Below.refl wr.heap.size wr).alloc (Nat.le_refl _) o).cell (p:=⟨w.heap.size,1,none⟩) (HSET.out.lt) |>.trans c1
    clear hr hgot hs4 ht4 hF hm0;go_wp2
    go_region_law? (first
     |(refine qyx rfl _ _ _ rfl _ _ (by simp [Act.eval,Act.put]) (by simp [Act.eval,Act.put]) _ _ HR.out ?_)
     |(go_simp;go_at_call 48;(with_reducible refine (HB.out _).mono ?_);rintro e w' ⟨rfl,rfl⟩))
    all_goals
     go_wp2;go_ret;simpa using HF.out
end Go.Proofs.YtpehcaidjlemiaaGreatDoor
