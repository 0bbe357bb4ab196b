import Derived.Test.YtldcadpemnpbmaaGreatDoorMLZz
import Derived.Test.YtldcadpemnpbmaaGreatDoorMLQ26
import Derived.Test.YtldcadpemnpbmaaGreatDoorMLQ27
import Derived.Deep.RegionHeld3
import Derived.Deep.AppendLies
import Derived.BigQuiet
import Derived.Test.YtldcadpemnpbmaaGreatDoorMLQ09
import Derived.Test.YtldcadpemnpbmaaGreatDoorMLQ06
import Derived.Test.YtldcadpemnpbmaaGreatDoorMLQ07
import Derived.Test.YtldcadpemnpbmaaGreatDoorMLQ11
import Derived.Test.YtldcadpemnpbmaaGreatDoorMLQ18
import Derived.Test.YtldcadpemnpbmaaGreatDoorMLQ14
import Derived.RangeFuncOwn
namespace Go.Proofs.YtldcadpemnpbmaaGreatDoor
open Go Go.RowKit
set_option linter.unusedVariables false
def GotAddB (S:Nat→Prop) (B:Nat) (l:List En) (up:Int) (q:En) (w:World) (e:Ending) (w':World):Prop:=
 e= .returned (.int .i64 (mayE up q))∧(mayE up q≠0→Below w.heap.size w w')∧(mayE up q=0→∃ S',BufAt S' w' B (l++[q]) q.2.2∧(∀ k,S' k→S k∨w.heap.size≤k)∧OnlyIn S w w')
set_option maxHeartbeats 8000000 in
set_option maxRecDepth 100000 in
theorem buf_Add {S:Nat→Prop} {w:World} {B:Nat} {l:List En} {up:Int} (h:BufAt S w B l up) (q:En) (A:Option Addr) (n cp:Nat) (hl:q.2.1.length=n) (hncp:n≤cp) (hf:RowP (fun k=>k<w.heap.size∧¬ S k) w A (flds q.2.1)) (hA:A=none∨∃ b o,A=some ⟨b,o,none⟩)
    (hn:n≤1048576) (ht:∀ f∈q.2.1,f.1.length≤1024∧f.2.length≤1024) (hlen:l.length≤1000):
    Calls Tryz.prog 41 #[.pointer (some ⟨B,0,none⟩),.agg #[.int .i64 q.1,.slice A n cp,.int .i64 q.2.2]] w (GotAddB S B l up q w):=by
  obtain ⟨t0,hi0,hz0,hz1,hz2⟩:=info_parts info_entry
  obtain ⟨v,M,c,g,hb⟩:=h
  obtain ⟨id,fs,seq⟩:=q
  simp only at hl hf ht ⊢
  have hBlt:=lt_of_block hb.cells
  obtain ⟨w1,hw1⟩:∃ w1,w1=w.alloc (.cells #[.int .i64 id,.slice A n cp,.int .i64 seq] 85):=⟨_,rfl⟩
  have hb1:Below w.heap.size w w1:=by rw [hw1];exact (Below.refl _ _).alloc (Nat.le_refl _) _
  have hfr:FRow w w.heap.size A fs:=hf.imp fun k hk=>hk.1
  have hat1:AddAt S B M c (id,fs,seq) A cp v l (weightE l) up g w w1:=by
    refine ⟨(hb1.block _ hBlt).trans hb.cells,(hb.own.keeps fun k _ hk=>hb1.block k hk).imp fun k hk=> .inl hk,(hb.map.keep fun k _ hk=>hb1.block k hk).imp fun k hk=> .inl hk,OnlyIn.of_below hb1,?_,hb.mine,hfr.below hb1,fun e=> ?_⟩
    · rw [hw1,hl]
      exact heap_alloc_new w _
    · obtain ⟨cs,r1,_⟩:=hb.own
      exact absurd (r1.lt _ e).2 (Nat.lt_irrefl _)
  have HM:Hid (∀ w',Below w1.heap.size w1 w'→Calls Tryz.prog 92 #[docV id A n cp] w' fun e w''=>e= .returned (.int .i64 (mayD fs))∧Below w'.heap.size w' w''):=Lib.hid fun w' h=>doc_May id A n cp fs w' hl ((hfr.later hb1).later h) (by omega) hncp fun f hf=>by have :=ht f hf;omega
  have HG:Hid (∀ e w',GotAddB S B l up (id,fs,seq) w e w'↔(e= .returned (.int .i64 (if mayD fs≠0 then mayD fs else if seq<0∨seq≤up then 12 else 0))∧((if mayD fs≠0 then mayD fs else if seq<0∨seq≤up then 12 else 0)≠0→Below w.heap.size w w')∧((if mayD fs≠0 then mayD fs else if seq<0∨seq≤up then 12 else 0)=0→∃ S',BufAt S' w' B (l++[(id,fs,seq)]) seq∧(∀ k,S' k→S k∨w.heap.size≤k)∧OnlyIn S w w'))):=Lib.hid fun e w'=>Iff.rfl
  have hGF:mayD fs=0→GoodF fs:=fun h=>goodF_of h fun f hf=>(ht f hf).2
  have hup:=hb.up1
  have HGF:=Lib.hid hGF
  have HAT:=Lib.hid hat1
  have HBI:=Lib.hid hb
  have HF:=Lib.hid hf
  have HL:=Lib.hid hl
  have HB1:=Lib.hid hb1
  obtain ⟨q0,q1,q2⟩:=three_cells hat1.ent
  simp only [hl] at q0 q1 q2
  have HW1:=Lib.hid hw1
  clear hGF hat1 hb hf hl hb1 ht hfr hw1
  obtain ⟨E,hE⟩:∃ E,E=mayD fs:=⟨_,rfl⟩
  rw [← hE] at HM HG HGF
  clear hE
  go_enter Tryz.func41,Tryz.ntmps41
  rw [HW1.out] at q0 q1 q2
  go_upto_region 2 with (first
    | (go_at_call 92; rw [show w.alloc _ = w1 from HW1.out.symm]; (with_reducible refine (HM.out _ (Below.refl _ _)).mono ?_); rintro e w2 ⟨rfl, hb2⟩
       have HAT2:=Lib.hid (HAT.out.below hb2)
       have HB2:=Lib.hid (HB1.out.trans (hb2.mono HB1.out.size))
       clear hb2))
  by_cases hE0:E=0
  · subst hE0
    clear q0 q1 q2
    obtain ⟨q0,q1,q2⟩:=three_cells HAT2.out.ent
    obtain ⟨c0,c1,c2,c3,f0,f1,f2,f3⟩:=four_cells HAT2.out.cells
    simp only [HL.out] at q0 q1 q2
    by_cases hs:seq≤up
    · have hz:(if (0:Int)≠0 then 0 else if seq<0∨seq≤up then (12:Int) else 0)=12:=by rw [if_neg (by decide),if_pos (.inr hs)]
      have HZ:=Lib.hid hz
      clear hz
      go_upto_region 4 with fail
      go_quiet (fail)
      go_wp2
      go_ret
      rw [HZ.out] at HG
      exact (HG.out _ _).2 ⟨rfl,fun _=>HB2.out.trans ((drewN_below _ _).mono HB2.out.size),fun h=>absurd h (by decide)⟩
    · have hs1:up<seq:=by omega
      have hz:(if (0:Int)≠0 then 0 else if seq<0∨seq≤up then (12:Int) else 0)=0:=by rw [if_neg (by decide),if_neg (by omega)]
      rw [hz] at HG
      have hgf:=HGF.out rfl
      have HGOOD:=Lib.hid hgf
      obtain ⟨Av,cv,hv,hcv,_⟩:=HAT2.out.own.nest
      subst hv
      clear hs hz hgf
      go_upto_region 4 with fail
      go_quiet (fail)
      generalize hw:World.drewN _ nq=w3
      have hb3:Below w2.heap.size w2 w3:=by rw [← hw];exact drewN_below _ _
      have HAT3:=Lib.hid (HAT2.out.below hb3)
      clear hw hb3 q0 q1 q2 c0 c1 c2 c3 f0 f1 f2 f3
      have HAT3D:Hid (AddAt S B M c (id,fs,seq) A cp (.slice Av l.length cv) l (weightE l) up g w w3.drew):=Lib.hid (HAT3.out.below (Below.refl _ w3).drew)
      have HT:Hid (Calls Tryz.prog 93 #[.pointer (some ⟨B,0,none⟩),docV id A n cp,.int .i64 (l.length:Int)] w3.drew (GotTurn (fun k=>S k∨Since w.heap.size w3.drew k) M c l.length fs g w3.drew)):=Lib.hid (buf_turn _ B M c g _ _ _ id A n cp fs l.length w3.drew HAT3D.out.cells HAT3D.out.map HGOOD.out HL.out HAT3D.out.row hlen fun key=>by
        rw [HBI.out.stand.posts key]
        have h1:=postsE_length (l:=l) (i:=0) (key:=key) (M:=4000) fun q hq=>terms_len9 (HBI.out.good q hq)
        have h2:l.length*4000≤1000*4000:=Nat.mul_le_mul_right _ hlen
        omega)
      obtain ⟨q0,q1,q2⟩:=three_cells HAT3.out.ent
      obtain ⟨c0,c1,c2,c3,f0,f1,f2,f3⟩:=four_cells HAT3.out.cells
      simp only [HL.out] at q0 q1 q2
      go_upto_region 6 with fail
      go_region_held3 (fun w'=>w'.cell? ⟨w.heap.size,0,none⟩=some (.int .i64 id)∧w'.cell? ⟨w.heap.size,1,none⟩=some (.slice A n cp)∧w'.cell? ⟨w.heap.size,2,none⟩=some (.int .i64 seq)∧w'.cell? ⟨B,0,none⟩=some (.slice Av l.length cv))
        (first|exact ⟨q0,q1,q2,c0⟩|exact HS4.out)
        (first
          | (go_at_call 93; (with_reducible refine HT.out.mono ?_); rintro e w4 ⟨rfl, hm4, ho4⟩
             have hat4:=HAT3D.out.turned HF.out hm4 ho4
             have HAT4:=Lib.hid hat4
             have HS4:Hid (w4.cell? ⟨w.heap.size,0,none⟩=some (.int .i64 id)∧w4.cell? ⟨w.heap.size,1,none⟩=some (.slice A n cp)∧w4.cell? ⟨w.heap.size,2,none⟩=some (.int .i64 seq)∧w4.cell? ⟨B,0,none⟩=some (.slice Av l.length cv)):=Lib.hid (by
               obtain ⟨q0,q1,q2⟩:=three_cells hat4.ent
               simp only [HL.out] at q0 q1 q2
               exact ⟨q0,q1,q2,(four_cells hat4.cells).1⟩)
             clear hm4 ho4 hat4))
      clear q0 q1 q2 c0 c1 c2 c3 f0 f1 f2 f3
      have hs4:=HAT4.out.only.size
      obtain ⟨GG,hGG⟩:∃ GG,GG=turnP l.length fs g (termsD fs):=⟨_,rfl⟩
      rw [← hGG] at HAT4
      have HGG:=Lib.hid hGG
      clear hGG
      have t4:=(four_cells HAT4.out.cells).1
      have HS4':Hid (w4.cell? ⟨w.heap.size,0,none⟩=some (.int .i64 id)∧w4.cell? ⟨w.heap.size,1,none⟩=some (.slice A n cp)∧w4.cell? ⟨w.heap.size,2,none⟩=some (.int .i64 seq)):=Lib.hid ⟨HS4.out.1,HS4.out.2.1,HS4.out.2.2.1⟩
      clear HS4
      have HS4:=HS4'
      clear HS4'
      have HCL:Hid (Calls Tryz.prog 94 #[.agg #[.int .i64 id,.slice A n cp,.int .i64 seq]] w4.drew (GotEn id fs seq w4.drew)):=Lib.hid (buf_clone id A n cp fs seq w4.drew HL.out HAT4.out.row hA hn)
      have HAFT:Hid (∀ (w5:World) (A5:Option Addr) (c5:Nat),fs.length≤c5∧c5≤maxLen→OwnFd w4.drew.heap.size w5 (.slice A5 fs.length c5) fs→Below w4.drew.heap.size w4.drew w5→
          w5.cell? ⟨B,0,none⟩=some (.slice Av l.length cv)∧(∀ o,(w5.alloc o).cell? ⟨B,0,none⟩=some (.slice Av l.length cv))∧(w5.cell? ⟨w.heap.size,0,none⟩=some (.int .i64 id)∧w5.cell? ⟨w.heap.size,1,none⟩=some (.slice A n cp)∧w5.cell? ⟨w.heap.size,2,none⟩=some (.int .i64 seq))∧(∀ o,((w5.alloc o).cell? ⟨w.heap.size,0,none⟩=some (.int .i64 id)∧(w5.alloc o).cell? ⟨w.heap.size,1,none⟩=some (.slice A n cp)∧(w5.alloc o).cell? ⟨w.heap.size,2,none⟩=some (.int .i64 seq)))∧
          (∃ cs,w5.ownsRow 0 85 3 (.slice Av l.length cv) l.length cs∧∀ (gg cap:Nat) (w7:World),w7.ownsRow 0 85 3 (.slice (some ⟨gg,0,none⟩) (l.length+1) cap) (l.length+1) (cs++[.int .i64 id,.slice A5 fs.length c5,.int .i64 seq])→
            (w5.alloc (.cells #[.int .i64 id,.slice A5 fs.length c5,.int .i64 seq] 85)).grownBy w7 (Value.slice Av l.length cv).ownBlock→((Value.slice Av l.length cv).ownBlock=some gg∨gg=w5.heap.size+1)→gg<w7.heap.size→
            w7.heap[B]?=some (.cells #[.slice Av l.length cv,.map (some M),.int .i64 (weightE l:Int),.int .i64 up] 143 (0,0))∧(w7.cell? ⟨w.heap.size,0,none⟩=some (.int .i64 id)∧w7.cell? ⟨w.heap.size,1,none⟩=some (.slice A n cp)∧w7.cell? ⟨w.heap.size,2,none⟩=some (.int .i64 seq))∧((w7.setCell ⟨B,0,none⟩ (.slice (some ⟨gg,0,none⟩) (l.length+1) cap)).cell? ⟨w.heap.size,0,none⟩=some (.int .i64 id)∧(w7.setCell ⟨B,0,none⟩ (.slice (some ⟨gg,0,none⟩) (l.length+1) cap)).cell? ⟨w.heap.size,1,none⟩=some (.slice A n cp)∧(w7.setCell ⟨B,0,none⟩ (.slice (some ⟨gg,0,none⟩) (l.length+1) cap)).cell? ⟨w.heap.size,2,none⟩=some (.int .i64 seq))∧
            AddAt S B M c (id,fs,seq) A cp (.slice (some ⟨gg,0,none⟩) (l.length+1) cap) (l++[(id,fs,seq)]) (weightE l) up GG w (w7.setCell ⟨B,0,none⟩ (.slice (some ⟨gg,0,none⟩) (l.length+1) cap)))∧True):=Lib.hid fun w5 A5 c5 hc5 ho5 hb5=>by
        have hat5:=HAT4.out.below ((Below.refl _ w4).drew.trans hb5)
        have hcell:∀ {wx:World},wx.heap[w.heap.size]?=some (.cells #[.int .i64 id,.slice A fs.length cp,.int .i64 seq] 85 (0,0))→(wx.cell? ⟨w.heap.size,0,none⟩=some (.int .i64 id)∧wx.cell? ⟨w.heap.size,1,none⟩=some (.slice A n cp)∧wx.cell? ⟨w.heap.size,2,none⟩=some (.int .i64 seq)):=fun {wx} h=>by
          have :=three_cells h
          rw [HL.out] at this
          exact this
        have hal:∀ o,Below w5.heap.size w5 (w5.alloc o):=fun o=>(Below.refl _ _).alloc (Nat.le_refl _) o
        obtain ⟨cs,hown5,hpush⟩:=hat5.push HF.out hBlt (ho5.low hs4) hc5
        refine ⟨(four_cells hat5.cells).1,fun o=>(four_cells (hat5.below (hal o)).cells).1,hcell hat5.ent,fun o=>hcell (hat5.below (hal o)).ent,⟨cs,hown5,fun gg cap w7 h1 h2 h3 h4=> ?_⟩,trivial⟩
        obtain ⟨k1,k2,k3⟩:=hpush gg cap w7 h1 h2 h3 h4
        exact ⟨k1,hcell k2,hcell k3.ent,k3⟩
      go_upto_region 7 with fail
      go_cut [] from 28 to 38 (fun wx=>∃ (V:Value),AddAt S B M c (id,fs,seq) A cp V (l++[(id,fs,seq)]) (weightE l) up GG w wx)
      case first=>
        refine wp_region_held_drew (S:=(fun w'=>w'.cell? ⟨w.heap.size,0,none⟩=some (.int .i64 id)∧w'.cell? ⟨w.heap.size,1,none⟩=some (.slice A n cp)∧w'.cell? ⟨w.heap.size,2,none⟩=some (.int .i64 seq))) (by kernel_rfl) HS4.out (fun hHeld0=> ?_)
        refine wpAnyH_take (i:=0) (v:= .pointer (some ⟨B,0,none⟩)) rfl (by kernel_rfl) (by kernel_rfl) (by kernel_rfl) (fun _ _ _ h=>h) (Or.inl ⟨by rfl,fun wx hSw=>by obtain ⟨s1,s2,s3⟩:=hSw;go_simp⟩) (by assumption) ?_
        try simp only [Act.put,zA,zB,zD,zE,zF]
        refine wpAnyH_take (i:=1) (v:= .pointer (some ⟨B,0,none⟩)) rfl (by kernel_rfl) (by kernel_rfl) (by kernel_rfl) (fun _ _ _ h=>h) (Or.inl ⟨by rfl,fun wx hSw=>by obtain ⟨s1,s2,s3⟩:=hSw;go_simp⟩) (by assumption) ?_
        try simp only [Act.put,zA,zB,zC,zD,zE,zF]
        refine wpAnyH_take (i:=2) (v:= .pointer (some ⟨B,0,none⟩)) rfl (by kernel_rfl) (by kernel_rfl) (by kernel_rfl) (fun _ _ _ h=>h) (Or.inl ⟨by rfl,fun wx hSw=>by obtain ⟨s1,s2,s3⟩:=hSw;go_simp⟩) (by assumption) ?_
        try simp only [Act.put,zA,zB,zC,zD,zE,zF]
        refine wpAnyH_take (i:=3) (v:= .pointer (some ⟨B,0,none⟩)) rfl (by kernel_rfl) (by kernel_rfl) (by kernel_rfl) (fun _ _ _ h=>h) (Or.inl ⟨by rfl,fun wx hSw=>by obtain ⟨s1,s2,s3⟩:=hSw;go_simp⟩) (by assumption) ?_
        try simp only [Act.put,zA,zB,zC,zD,zE,zF]
        refine wpAnyH_take (i:=5) (v:= .agg #[.int .i64 id,.slice A n cp,.int .i64 seq]) rfl (by kernel_rfl) (by kernel_rfl) (by kernel_rfl) (fun _ _ _ h=>h) (Or.inl ⟨by rfl,fun wx hSw=>by obtain ⟨s1,s2,s3⟩:=hSw;go_simp⟩) (by assumption) ?_
        try simp only [Act.put,zA,zB,zC,zD,zE,zF]
        refine wpAnyH_ready (rs:=[4,6]) (by kernel_rfl) (by simp) ?_
        refine AllReadyH.cons rfl (fun K hK=> ?_) (AllReadyH.cons rfl (fun K hK=> ?_) AllReadyH.nil)
        · try simp only [zA,zB,zC]
          go_simp
          refine hK.out _ _ ?_ (fun hHeld1=> ?_)
          · exact HS4.out
          clear hK K
          try simp only [Act.put,zA,zB,zC,zD,zE,zF]
          refine wpAnyH_ready (rs:=[6]) (by kernel_rfl) (by simp) ?_
          refine AllReadyH.cons rfl (fun K hK=> ?_) AllReadyH.nil
          try simp only [zA,zB,zC]
          go_simp
          go_at_call 94
          (with_reducible refine HCL.out.mono ?_)
          rintro e w5 ⟨A5,c5,rfl,hc5,ho5,hb5⟩
          obtain ⟨h50,h51,h52,h53,h54,h55⟩:=HAFT.out w5 A5 c5 hc5 ho5 hb5
          have t5:=h50
          have t6:=h51
          have HS5:=Lib.hid h52
          have HS6:=Lib.hid h53
          have HOW5:=Lib.hid h54
          have HPU:=Lib.hid h55
          clear h50 h51 h52 h53 h54 h55 ho5 hb5
          go_wp2_with fail
          refine hK.out _ _ ?_ (fun hHeld2=> ?_)
          · exact HS5.out
          clear hK K
          try simp only [Act.put,zA,zB,zC,zD,zE,zF]
          refine wpAnyH_ready (rs:=[7]) (by kernel_rfl) (by simp) ?_
          refine AllReadyH.cons rfl (fun K hK=> ?_) AllReadyH.nil
          try simp only [zA,zB,zC]
          go_simp
          refine hK.out _ _ ?_ (fun hHeld3=> ?_)
          · exact HS6.out _
          clear hK K
          try simp only [Act.put,zA,zB,zC,zD,zE,zF]
          refine wpAnyH_ready (rs:=[8]) (by kernel_rfl) (by simp) ?_
          refine AllReadyH.cons rfl (fun K hK=> ?_) AllReadyH.nil
          try simp only [zA,zB,zC]
          obtain ⟨cs,hown5,hpush⟩:=HOW5.out
          have HPUS:=Lib.hid hpush
          clear hpush
          refine step_append_lies (a:=⟨_,_⟩) _ ?_ (.tmp 32) (.tmp 35) 35 ?_ 0 85 t0 _ 3 40 Tryz.underlying35 hi0 hz0 hz1 hz2 rfl (by omega) (.slice Av l.length cv) l.length cs ?_ (hown5.alloc _)
            ⟨w5.heap.size,0,none⟩ 1 1 [.int .i64 id,.slice A5 fs.length c5,.int .i64 seq] ?_ (by rfl) (World.news_of_block (cs:=#[.int .i64 id,.slice A5 fs.length c5,.int .i64 seq]) (t:=85) (fr:=(0,0)) (heap_alloc_new w5 _)) (by intro u hu;simp at hu;rcases hu with hu|hu|hu<;>(subst hu;rfl))
            (by omega) (by unfold maxLen;omega) (by omega) (by simp) (w5.heap.size+1) (by simp) ?_
          · rfl
          · rfl
          · rfl
          · rfl
          intro gg cap w7 hown7 hg7 hat7 hlt7
          obtain ⟨hB7,hS7,hS8,hat8⟩:=HPUS.out gg cap w7 hown7 hg7 hat7 hlt7
          have s3:=(four_cells hB7).1
          have s4:=(four_cells hB7).2.2.2.2.1
          have HAT8:=Lib.hid hat8
          clear hown7 hg7 hat7 hB7 hat8
          refine hK.out _ _ ?_ (fun hHeld4=> ?_)
          · exact hS7
          clear hK K
          try simp only [Act.put,zD,zE,zF]
          refine wpAnyH_take (i:=9) (v:= .pointer (some ⟨B,0,none⟩)) rfl (by kernel_rfl) (by kernel_rfl) (by kernel_rfl) (fun _ _ _ h=>h) (Or.inl ⟨by rfl,fun wx hSw=>by obtain ⟨s1,s2,s3⟩:=hSw;go_simp⟩) (by assumption) ?_
          try simp only [Act.put,zA,zB,zC,zD,zE,zF]
          refine wpAnyH_take (i:=10) (v:= .pointer (some ⟨B,0,none⟩)) rfl (by kernel_rfl) (by kernel_rfl) (by kernel_rfl) (fun _ _ _ h=>h) (Or.inl ⟨by rfl,fun wx hSw=>by obtain ⟨s1,s2,s3⟩:=hSw;go_simp⟩) (by assumption) ?_
          try simp only [Act.put,zA,zB,zC,zD,zE,zF]
          refine wpAnyH_ready (rs:=[11]) (by kernel_rfl) (by simp) ?_
          refine AllReadyH.cons rfl (fun K hK=> ?_) AllReadyH.nil
          try simp only [zA,zB,zC]
          go_simp
          refine hK.out _ _ ?_ (fun hHeld5=> ?_)
          · exact hS8
          clear hK K
          try simp only [Act.put,zA,zB,zC,zD,zE,zF]
          refine wpAnyH_done (by kernel_rfl) ?_ _
          clear hS7 hS8 s3 s4
          go_wp2_with fail
          go_meet
          exact ⟨_,HAT8.out⟩
        · try simp only [zA,zB,zC]
          go_simp
          go_at_call 94
          (with_reducible refine HCL.out.mono ?_)
          rintro e w5 ⟨A5,c5,rfl,hc5,ho5,hb5⟩
          obtain ⟨h50,h51,h52,h53,h54,h55⟩:=HAFT.out w5 A5 c5 hc5 ho5 hb5
          have t5:=h50
          have t6:=h51
          have HS5:=Lib.hid h52
          have HS6:=Lib.hid h53
          have HOW5:=Lib.hid h54
          have HPU:=Lib.hid h55
          clear h50 h51 h52 h53 h54 h55 ho5 hb5
          go_wp2_with fail
          refine hK.out _ _ ?_ (fun hHeld1=> ?_)
          · exact HS5.out
          clear hK K
          try simp only [Act.put,zA,zB,zC,zD,zE,zF]
          refine wpAnyH_ready (rs:=[4,7]) (by kernel_rfl) (by simp) ?_
          refine AllReadyH.cons rfl (fun K hK=> ?_) (AllReadyH.cons rfl (fun K hK=> ?_) AllReadyH.nil)
          · try simp only [zA,zB,zC]
            go_simp
            refine hK.out _ _ ?_ (fun hHeld2=> ?_)
            · exact HS5.out
            clear hK K
            try simp only [Act.put,zA,zB,zC,zD,zE,zF]
            refine wpAnyH_ready (rs:=[7]) (by kernel_rfl) (by simp) ?_
            refine AllReadyH.cons rfl (fun K hK=> ?_) AllReadyH.nil
            try simp only [zA,zB,zC]
            go_simp
            refine hK.out _ _ ?_ (fun hHeld3=> ?_)
            · exact HS6.out _
            clear hK K
            try simp only [Act.put,zA,zB,zC,zD,zE,zF]
            refine wpAnyH_ready (rs:=[8]) (by kernel_rfl) (by simp) ?_
            refine AllReadyH.cons rfl (fun K hK=> ?_) AllReadyH.nil
            try simp only [zA,zB,zC]
            obtain ⟨cs,hown5,hpush⟩:=HOW5.out
            have HPUS:=Lib.hid hpush
            clear hpush
            refine step_append_lies (a:=⟨_,_⟩) _ ?_ (.tmp 32) (.tmp 35) 35 ?_ 0 85 t0 _ 3 40 Tryz.underlying35 hi0 hz0 hz1 hz2 rfl (by omega) (.slice Av l.length cv) l.length cs ?_ (hown5.alloc _)
              ⟨w5.heap.size,0,none⟩ 1 1 [.int .i64 id,.slice A5 fs.length c5,.int .i64 seq] ?_ (by rfl) (World.news_of_block (cs:=#[.int .i64 id,.slice A5 fs.length c5,.int .i64 seq]) (t:=85) (fr:=(0,0)) (heap_alloc_new w5 _)) (by intro u hu;simp at hu;rcases hu with hu|hu|hu<;>(subst hu;rfl))
              (by omega) (by unfold maxLen;omega) (by omega) (by simp) (w5.heap.size+1) (by simp) ?_
            · rfl
            · rfl
            · rfl
            · rfl
            intro gg cap w7 hown7 hg7 hat7 hlt7
            obtain ⟨hB7,hS7,hS8,hat8⟩:=HPUS.out gg cap w7 hown7 hg7 hat7 hlt7
            have s3:=(four_cells hB7).1
            have s4:=(four_cells hB7).2.2.2.2.1
            have HAT8:=Lib.hid hat8
            clear hown7 hg7 hat7 hB7 hat8
            refine hK.out _ _ ?_ (fun hHeld4=> ?_)
            · exact hS7
            clear hK K
            try simp only [Act.put,zD,zE,zF]
            refine wpAnyH_take (i:=9) (v:= .pointer (some ⟨B,0,none⟩)) rfl (by kernel_rfl) (by kernel_rfl) (by kernel_rfl) (fun _ _ _ h=>h) (Or.inl ⟨by rfl,fun wx hSw=>by obtain ⟨s1,s2,s3⟩:=hSw;go_simp⟩) (by assumption) ?_
            try simp only [Act.put,zA,zB,zC,zD,zE,zF]
            refine wpAnyH_take (i:=10) (v:= .pointer (some ⟨B,0,none⟩)) rfl (by kernel_rfl) (by kernel_rfl) (by kernel_rfl) (fun _ _ _ h=>h) (Or.inl ⟨by rfl,fun wx hSw=>by obtain ⟨s1,s2,s3⟩:=hSw;go_simp⟩) (by assumption) ?_
            try simp only [Act.put,zA,zB,zC,zD,zE,zF]
            refine wpAnyH_ready (rs:=[11]) (by kernel_rfl) (by simp) ?_
            refine AllReadyH.cons rfl (fun K hK=> ?_) AllReadyH.nil
            try simp only [zA,zB,zC]
            go_simp
            refine hK.out _ _ ?_ (fun hHeld5=> ?_)
            · exact hS8
            clear hK K
            try simp only [Act.put,zA,zB,zC,zD,zE,zF]
            refine wpAnyH_done (by kernel_rfl) ?_ _
            clear hS7 hS8 s3 s4
            go_wp2_with fail
            go_meet
            exact ⟨_,HAT8.out⟩
          · try simp only [zA,zB,zC]
            go_simp
            refine hK.out _ _ ?_ (fun hHeld2=> ?_)
            · exact HS6.out _
            clear hK K
            try simp only [Act.put,zA,zB,zC,zD,zE,zF]
            refine wpAnyH_ready (rs:=[4]) (by kernel_rfl) (by simp) ?_
            refine AllReadyH.cons rfl (fun K hK=> ?_) AllReadyH.nil
            try simp only [zA,zB,zC]
            go_simp
            refine hK.out _ _ ?_ (fun hHeld3=> ?_)
            · exact HS6.out _
            clear hK K
            try simp only [Act.put,zA,zB,zC,zD,zE,zF]
            refine wpAnyH_ready (rs:=[8]) (by kernel_rfl) (by simp) ?_
            refine AllReadyH.cons rfl (fun K hK=> ?_) AllReadyH.nil
            try simp only [zA,zB,zC]
            obtain ⟨cs,hown5,hpush⟩:=HOW5.out
            have HPUS:=Lib.hid hpush
            clear hpush
            refine step_append_lies (a:=⟨_,_⟩) _ ?_ (.tmp 32) (.tmp 35) 35 ?_ 0 85 t0 _ 3 40 Tryz.underlying35 hi0 hz0 hz1 hz2 rfl (by omega) (.slice Av l.length cv) l.length cs ?_ (hown5.alloc _)
              ⟨w5.heap.size,0,none⟩ 1 1 [.int .i64 id,.slice A5 fs.length c5,.int .i64 seq] ?_ (by rfl) (World.news_of_block (cs:=#[.int .i64 id,.slice A5 fs.length c5,.int .i64 seq]) (t:=85) (fr:=(0,0)) (heap_alloc_new w5 _)) (by intro u hu;simp at hu;rcases hu with hu|hu|hu<;>(subst hu;rfl))
              (by omega) (by unfold maxLen;omega) (by omega) (by simp) (w5.heap.size+1) (by simp) ?_
            · rfl
            · rfl
            · rfl
            · rfl
            intro gg cap w7 hown7 hg7 hat7 hlt7
            obtain ⟨hB7,hS7,hS8,hat8⟩:=HPUS.out gg cap w7 hown7 hg7 hat7 hlt7
            have s3:=(four_cells hB7).1
            have s4:=(four_cells hB7).2.2.2.2.1
            have HAT8:=Lib.hid hat8
            clear hown7 hg7 hat7 hB7 hat8
            refine hK.out _ _ ?_ (fun hHeld4=> ?_)
            · exact hS7
            clear hK K
            try simp only [Act.put,zD,zE,zF]
            refine wpAnyH_take (i:=9) (v:= .pointer (some ⟨B,0,none⟩)) rfl (by kernel_rfl) (by kernel_rfl) (by kernel_rfl) (fun _ _ _ h=>h) (Or.inl ⟨by rfl,fun wx hSw=>by obtain ⟨s1,s2,s3⟩:=hSw;go_simp⟩) (by assumption) ?_
            try simp only [Act.put,zA,zB,zC,zD,zE,zF]
            refine wpAnyH_take (i:=10) (v:= .pointer (some ⟨B,0,none⟩)) rfl (by kernel_rfl) (by kernel_rfl) (by kernel_rfl) (fun _ _ _ h=>h) (Or.inl ⟨by rfl,fun wx hSw=>by obtain ⟨s1,s2,s3⟩:=hSw;go_simp⟩) (by assumption) ?_
            try simp only [Act.put,zA,zB,zC,zD,zE,zF]
            refine wpAnyH_ready (rs:=[11]) (by kernel_rfl) (by simp) ?_
            refine AllReadyH.cons rfl (fun K hK=> ?_) AllReadyH.nil
            try simp only [zA,zB,zC]
            go_simp
            refine hK.out _ _ ?_ (fun hHeld5=> ?_)
            · exact hS8
            clear hK K
            try simp only [Act.put,zA,zB,zC,zD,zE,zF]
            refine wpAnyH_done (by kernel_rfl) ?_ _
            clear hS7 hS8 s3 s4
            go_wp2_with fail
            go_meet
            exact ⟨_,HAT8.out⟩
      case rest=>
        obtain ⟨wz,rfl⟩:∃ wz,wz=wc:=⟨_,rfl⟩
        obtain ⟨V8,hat8⟩:=hcut
        have hcell:∀ {wx:World},wx.heap[w.heap.size]?=some (.cells #[.int .i64 id,.slice A fs.length cp,.int .i64 seq] 85 (0,0))→(wx.cell? ⟨w.heap.size,0,none⟩=some (.int .i64 id)∧wx.cell? ⟨w.heap.size,1,none⟩=some (.slice A n cp)∧wx.cell? ⟨w.heap.size,2,none⟩=some (.int .i64 seq)):=fun {wx} h=>by
          have :=three_cells h
          rw [HL.out] at this
          exact this
        have hwb:=weightE_le HBI.out.good
        have hwd:=HGOOD.out.weight
        have HWT:=Lib.hid (good_weight9 (id:=id) (c:=cp) (w:=wz.drew) HGOOD.out HL.out hat8.row)
        have hsum:weightE (l++[(id,fs,seq)])=weightE l+weightD fs:=by unfold weightE;simp
        obtain ⟨T,hT⟩:∃ T,T=weightE l:=⟨_,rfl⟩
        obtain ⟨D,hD⟩:∃ D,D=weightD fs:=⟨_,rfl⟩
        rw [← hT] at hwb hat8 hsum
        rw [← hD] at hwd HWT hsum
        have hT5:T≤500000:=by omega
        have HSUM:=Lib.hid hsum
        have hwr:IntKind.i64.wrap ((T:Int)+(D:Int))=(T:Int)+(D:Int):=IntWalk.i64_in _ (by omega)
        have HS8:Hid (wz.cell? ⟨w.heap.size,0,none⟩=some (.int .i64 id)∧wz.cell? ⟨w.heap.size,1,none⟩=some (.slice A n cp)∧wz.cell? ⟨w.heap.size,2,none⟩=some (.int .i64 seq)):=Lib.hid (hcell hat8.ent)
        have t8:=(four_cells hat8.cells).2.2.1
        have HAFT9:Hid (∀ w9,Below wz.drew.heap.size wz.drew w9→w9.cell? ⟨B,2,none⟩=some (.int .i64 (T:Int))∧w9.frozen? ⟨B,2,none⟩=false∧(w9.cell? ⟨w.heap.size,0,none⟩=some (.int .i64 id)∧w9.cell? ⟨w.heap.size,1,none⟩=some (.slice A n cp)∧w9.cell? ⟨w.heap.size,2,none⟩=some (.int .i64 seq))∧AddAt S B M c (id,fs,seq) A cp V8 (l++[(id,fs,seq)]) ((T:Int)+(D:Int)) up GG w (w9.setCell ⟨B,2,none⟩ (.int .i64 ((T:Int)+(D:Int))))∧((w9.setCell ⟨B,2,none⟩ (.int .i64 ((T:Int)+(D:Int)))).cell? ⟨w.heap.size,0,none⟩=some (.int .i64 id)∧(w9.setCell ⟨B,2,none⟩ (.int .i64 ((T:Int)+(D:Int)))).cell? ⟨w.heap.size,1,none⟩=some (.slice A n cp)∧(w9.setCell ⟨B,2,none⟩ (.int .i64 ((T:Int)+(D:Int)))).cell? ⟨w.heap.size,2,none⟩=some (.int .i64 seq))):=Lib.hid fun w9 hb9=>by
          have hat9:=hat8.below ((Below.refl _ wz).drew.trans hb9)
          have h10:=hat9.stored (w':=w9.setCell ⟨B,2,none⟩ (.int .i64 ((T:Int)+(D:Int)))) HF.out hBlt ((T:Int)+(D:Int)) up (by rw [set_at hat9.cells];rfl) (fun k hk=>set_ne (Ne.symm hk)) (by simp) rfl rfl rfl
          exact ⟨(four_cells hat9.cells).2.2.1,(four_cells hat9.cells).2.2.2.2.2.2.1,hcell hat9.ent,h10,hcell h10.ent⟩
        clear hwb hT hD hsum hat8 t4 HS4 HCL HAFT
        go_upto_region 8 with fail
        go_cut [] from 39 to 48 (fun wx=>AddAt S B M c (id,fs,seq) A cp V8 (l++[(id,fs,seq)]) ((T:Int)+(D:Int)) up GG w wx)
        case first=>
          refine wp_region_held_drew (S:=(fun w'=>w'.cell? ⟨w.heap.size,0,none⟩=some (.int .i64 id)∧w'.cell? ⟨w.heap.size,1,none⟩=some (.slice A n cp)∧w'.cell? ⟨w.heap.size,2,none⟩=some (.int .i64 seq))) (by kernel_rfl) HS8.out (fun hHeld0=> ?_)
          refine wpAnyH_take (i:=0) (v:= .pointer (some ⟨B,0,none⟩)) rfl (by kernel_rfl) (by kernel_rfl) (by kernel_rfl) (fun _ _ _ h=>h) (Or.inl ⟨by rfl,fun wx hSw=>by obtain ⟨s1,s2,s3⟩:=hSw;go_simp⟩) (by assumption) ?_
          try simp only [Act.put,zA,zB,zD,zE,zF]
          refine wpAnyH_take (i:=1) (v:= .pointer (some ⟨B,0,none⟩)) rfl (by kernel_rfl) (by kernel_rfl) (by kernel_rfl) (fun _ _ _ h=>h) (Or.inl ⟨by rfl,fun wx hSw=>by obtain ⟨s1,s2,s3⟩:=hSw;go_simp⟩) (by assumption) ?_
          try simp only [Act.put,zA,zB,zC,zD,zE,zF]
          refine wpAnyH_take (i:=2) (v:= .pointer (some ⟨B,2,none⟩)) rfl (by kernel_rfl) (by kernel_rfl) (by kernel_rfl) (fun _ _ _ h=>h) (Or.inl ⟨by rfl,fun wx hSw=>by obtain ⟨s1,s2,s3⟩:=hSw;go_simp⟩) (by assumption) ?_
          try simp only [Act.put,zA,zB,zC,zD,zE,zF]
          refine wpAnyH_take (i:=4) (v:= .pointer (some ⟨w.heap.size,0,none⟩)) rfl (by kernel_rfl) (by kernel_rfl) (by kernel_rfl) (fun _ _ _ h=>h) (Or.inl ⟨by rfl,fun wx hSw=>by obtain ⟨s1,s2,s3⟩:=hSw;go_simp⟩) (by assumption) ?_
          try simp only [Act.put,zA,zB,zC,zD,zE,zF]
          refine wpAnyH_take (i:=5) (v:= .agg #[.int .i64 id,.slice A n cp]) rfl (by kernel_rfl) (by kernel_rfl) (by kernel_rfl) (fun _ _ _ h=>h) (Or.inl ⟨by rfl,fun wx hSw=>by obtain ⟨s1,s2,s3⟩:=hSw;go_simp⟩) (by assumption) ?_
          try simp only [Act.put,zA,zB,zC,zD,zE,zF]
          refine wpAnyH_ready (rs:=[3,6]) (by kernel_rfl) (by simp) ?_
          refine AllReadyH.cons rfl (fun K hK=> ?_) (AllReadyH.cons rfl (fun K hK=> ?_) AllReadyH.nil)
          · try simp only [zA,zB,zC]
            go_simp
            refine hK.out _ _ ?_ (fun hHeld1=> ?_)
            · exact HS8.out
            clear hK K
            try simp only [Act.put,zA,zB,zC,zD,zE,zF]
            refine wpAnyH_ready (rs:=[6]) (by kernel_rfl) (by simp) ?_
            refine AllReadyH.cons rfl (fun K hK=> ?_) AllReadyH.nil
            try simp only [zA,zB,zC]
            go_simp
            go_at_call 95
            (with_reducible refine HWT.out.mono ?_)
            rintro e w9 ⟨rfl,hb9⟩
            obtain ⟨h90,h91,h92,h93,h94⟩:=HAFT9.out w9 hb9
            have t9:=h90
            have u9:=h91
            have HS9:=Lib.hid h92
            have HAT9:=Lib.hid h93
            have HSE:=Lib.hid h94
            clear h90 h91 h92 h93 h94 hb9
            go_wp2_with fail
            refine hK.out _ _ ?_ (fun hHeld2=> ?_)
            · exact HS9.out
            clear hK K
            try simp only [Act.put,zA,zB,zC,zD,zE,zF]
            refine wpAnyH_take (i:=7) (v:= .int .i64 ((T:Int)+(D:Int))) rfl (by kernel_rfl) (by kernel_rfl) (by kernel_rfl) (fun _ _ _ h=>h) (Or.inl ⟨by rfl,fun wx hSw=>by obtain ⟨s1,s2,s3⟩:=hSw;go_simp⟩) (by assumption) ?_
            try simp only [Act.put,zA,zB,zC,zD,zE,zF]
            refine wpAnyH_take (i:=8) (v:= .pointer (some ⟨B,0,none⟩)) rfl (by kernel_rfl) (by kernel_rfl) (by kernel_rfl) (fun _ _ _ h=>h) (Or.inl ⟨by rfl,fun wx hSw=>by obtain ⟨s1,s2,s3⟩:=hSw;go_simp⟩) (by assumption) ?_
            try simp only [Act.put,zA,zB,zC,zD,zE,zF]
            refine wpAnyH_take (i:=9) (v:= .pointer (some ⟨B,2,none⟩)) rfl (by kernel_rfl) (by kernel_rfl) (by kernel_rfl) (fun _ _ _ h=>h) (Or.inl ⟨by rfl,fun wx hSw=>by obtain ⟨s1,s2,s3⟩:=hSw;go_simp⟩) (by assumption) ?_
            try simp only [Act.put,zA,zB,zC,zD,zE,zF]
            refine wpAnyH_ready (rs:=[10]) (by kernel_rfl) (by simp) ?_
            refine AllReadyH.cons rfl (fun K hK=> ?_) AllReadyH.nil
            try simp only [zA,zB,zC]
            go_simp
            refine hK.out _ _ ?_ (fun hHeld3=> ?_)
            · exact HSE.out
            clear hK K
            try simp only [Act.put,zA,zB,zC,zD,zE,zF]
            refine wpAnyH_done (by kernel_rfl) ?_ _
            go_wp2_with fail
            go_meet
            exact HAT9.out
          · try simp only [zA,zB,zC]
            go_simp
            go_at_call 95
            (with_reducible refine HWT.out.mono ?_)
            rintro e w9 ⟨rfl,hb9⟩
            obtain ⟨h90,h91,h92,h93,h94⟩:=HAFT9.out w9 hb9
            have t9:=h90
            have u9:=h91
            have HS9:=Lib.hid h92
            have HAT9:=Lib.hid h93
            have HSE:=Lib.hid h94
            clear h90 h91 h92 h93 h94 hb9
            go_wp2_with fail
            refine hK.out _ _ ?_ (fun hHeld1=> ?_)
            · exact HS9.out
            clear hK K
            try simp only [Act.put,zA,zB,zC,zD,zE,zF]
            refine wpAnyH_ready (rs:=[3]) (by kernel_rfl) (by simp) ?_
            refine AllReadyH.cons rfl (fun K hK=> ?_) AllReadyH.nil
            try simp only [zA,zB,zC]
            go_simp
            refine hK.out _ _ ?_ (fun hHeld2=> ?_)
            · exact HS9.out
            clear hK K
            try simp only [Act.put,zA,zB,zC,zD,zE,zF]
            refine wpAnyH_take (i:=7) (v:= .int .i64 ((T:Int)+(D:Int))) rfl (by kernel_rfl) (by kernel_rfl) (by kernel_rfl) (fun _ _ _ h=>h) (Or.inl ⟨by rfl,fun wx hSw=>by obtain ⟨s1,s2,s3⟩:=hSw;go_simp⟩) (by assumption) ?_
            try simp only [Act.put,zA,zB,zC,zD,zE,zF]
            refine wpAnyH_take (i:=8) (v:= .pointer (some ⟨B,0,none⟩)) rfl (by kernel_rfl) (by kernel_rfl) (by kernel_rfl) (fun _ _ _ h=>h) (Or.inl ⟨by rfl,fun wx hSw=>by obtain ⟨s1,s2,s3⟩:=hSw;go_simp⟩) (by assumption) ?_
            try simp only [Act.put,zA,zB,zC,zD,zE,zF]
            refine wpAnyH_take (i:=9) (v:= .pointer (some ⟨B,2,none⟩)) rfl (by kernel_rfl) (by kernel_rfl) (by kernel_rfl) (fun _ _ _ h=>h) (Or.inl ⟨by rfl,fun wx hSw=>by obtain ⟨s1,s2,s3⟩:=hSw;go_simp⟩) (by assumption) ?_
            try simp only [Act.put,zA,zB,zC,zD,zE,zF]
            refine wpAnyH_ready (rs:=[10]) (by kernel_rfl) (by simp) ?_
            refine AllReadyH.cons rfl (fun K hK=> ?_) AllReadyH.nil
            try simp only [zA,zB,zC]
            go_simp
            refine hK.out _ _ ?_ (fun hHeld3=> ?_)
            · exact HSE.out
            clear hK K
            try simp only [Act.put,zA,zB,zC,zD,zE,zF]
            refine wpAnyH_done (by kernel_rfl) ?_ _
            go_wp2_with fail
            go_meet
            exact HAT9.out
        case rest=>
          obtain ⟨wy,rfl⟩:∃ wy,wy=wc:=⟨_,rfl⟩
          have q2:=(hcell hcut.ent).2.2
          obtain ⟨c0,c1,c2,c3,f0,f1,f2,f3⟩:=four_cells hcut.cells
          have hend:=hcut.stored (w':=wy.setCell ⟨B,3,none⟩ (.int .i64 seq)) HF.out hBlt ((T:Int)+(D:Int)) seq (by rw [set_at hcut.cells];rfl) (fun k hk=>set_ne (Ne.symm hk)) (by simp) rfl rfl rfl
          rw [show (T:Int)+(D:Int)=((weightE (l++[(id,fs,seq)]):Nat):Int) by rw [HSUM.out];push_cast;rfl,HGG.out] at hend
          have hbuf:=AddAt.done hend HBI.out.lt HBI.out.stand HBI.out.good HGOOD.out (show (0:Int)≤seq by omega)
          have HBUF:=Lib.hid hbuf
          have HONLY:=Lib.hid hend.only
          clear hcut hend hbuf
          go_wp2
          go_ret
          exact (HG.out _ _).2 ⟨rfl,fun h=>absurd rfl h,fun _=>⟨_,HBUF.out,fun k hk=>hk.imp (fun h=>h) fun hk=>hk.1,HONLY.out⟩⟩
  · have hM1:(E != 0)=true:=by simpa using hE0
    go_wp2
    go_ret
    refine (HG.out _ _).2 ⟨by rw [if_pos hE0];rfl,fun _=>HB2.out,fun h=>absurd h (by rw [if_pos hE0];exact hE0)⟩
end Go.Proofs.YtldcadpemnpbmaaGreatDoor
set_option linter.unusedVariables false
namespace Go.Proofs.YtldcadpemnpbmaaGreatDoor
open Go Go.RowKit
structure BRig (S:Nat→Prop) (B:Nat) (L:List En) (up:Int) (V:Value) (G:List En) (w wr:World):Prop where
 buf:BufAt S wr B L up
 ge:∀ k,S k→w.heap.size≤k
 own:OwnES (fun k=>k<w.heap.size) wr V G
 bel:Below w.heap.size w wr
section
variable {S:Nat→Prop} {B:Nat} {L:List En} {up:Int} {V:Value} {G:List En} {w wr w':World}
theorem BRig.keep (h:BRig S B L up V G w wr) (hk:∀ k,S k→w'.heap[k]?=wr.heap[k]?) (hb:Below w.heap.size wr w'):BRig S B L up V G w w':=
 ⟨h.buf.keep hk hb.size,h.ge,h.own.keeps fun k hk _=>hb.block k hk,h.bel.trans hb⟩
theorem BRig.below (h:BRig S B L up V G w wr) (hb:Below wr.heap.size wr w'):BRig S B L up V G w w':=h.keep (fun k hk=>hb.block k (h.buf.lt k hk)) (hb.mono h.bel.size)
theorem BRig.add (h:BRig S B L up V G w wr) (hm:AddOk G) (hlen:L.length≤1000) {i:Nat} (hi:i<G.length) (h0:0≤G[i].2.2) (hup:up<G[i].2.2):
  ∃ b c0 A c,V= .slice (some ⟨b,0,none⟩) G.length c0∧b<wr.heap.size∧wr.cell? ⟨b,i*3,none⟩=some (.int .i64 G[i].1)∧wr.cell? ⟨b,i*3+1,none⟩=some (.slice A G[i].2.1.length c)∧wr.cell? ⟨b,i*3+2,none⟩=some (.int .i64 G[i].2.2)∧
   ∀ w1,Below wr.heap.size wr w1→Calls Tryz.prog 41 #[.pointer (some ⟨B,0,none⟩),.agg #[.int .i64 G[i].1,.slice A G[i].2.1.length c,.int .i64 G[i].2.2]] w1 fun e w'=>e= .returned (.int .i64 0)∧∃ S',BRig S' B (L++[G[i]]) G[i].2.2 V G w w'∧(∀ k,S' k→S k∨w1.heap.size≤k)∧OnlyIn S w1 w':=by
 obtain ⟨b,c0,A,c,hv,_,hb,e0,e1,e2,hc,hcx,hr⟩:=h.own.at_ hi
 refine ⟨b,c0,A,c,hv,hb,e0,e1,e2,fun w1 hb1=> ?_⟩
 have h1:=h.below hb1
 obtain ⟨m1,m2⟩:=hm.may _ (List.getElem_mem hi)
 have hgf:GoodF G[i].2.1:=goodF_of m1 fun f hf=>(m2 f hf).2
 have hsz:=h.bel.size
 have hrow:RowP (fun k=>k<w1.heap.size∧¬ S k) w1 A (flds G[i].2.1):=by
  have h2:=RowP.keep (w':=w1) hr.1 fun k hk=>hb1.block k hk.lt
  exact h2.imp fun k hk=>⟨by have :=hk.lt;have :=hb1.size;omega,fun hs=>by have :=h.ge k hs;have :=hk.1;omega⟩
 refine (buf_Add h1.buf G[i] A _ c rfl hc hrow hr.2 (by have :=hgf.len;omega) m2 hlen).mono ?_
 rintro e w' ⟨rfl,_,h2⟩
 have hme:mayE up G[i]=0:=by unfold mayE;rw [if_neg (by rw [m1];decide),if_neg (by omega)]
 rw [hme] at h2 ⊢
 obtain ⟨S',hb',hS,ho⟩:=h2 rfl
 have hbw:=ho.below h1.ge h1.bel.size
 exact ⟨rfl,S',⟨hb',fun k hk=>(hS k hk).elim (h1.ge k) fun hk=>by have :=h1.bel.size;omega,h1.own.keeps fun k hk _=>hbw.block k hk,h1.bel.trans hbw⟩,hS,ho⟩
end
theorem rises_seq:∀ {l:List Int} {x:Int} {i:Nat},risesZ x l=true→(hi:i<l.length)→x<l[i]∧∀ j (hj:j<l.length),j<i→l[j]<l[i]
 |[],_,_,_,hi=>by simp at hi
 |y::l,x,i,h,hi=>by
  rw [risesZ,Bool.and_eq_true,decide_eq_true_iff] at h
  cases i with
  |zero=>exact ⟨h.1,fun j _ hj=>by omega⟩
  |succ i=>
   have ih:=rises_seq (i:=i) h.2 (by simpa using hi)
   refine ⟨by have :=ih.1;simp only [zC];omega,fun j hj hji=> ?_⟩
   cases j with
   |zero=>exact ih.1
   |succ j=>exact ih.2 j (by simpa using hj) (by omega)
theorem AddOk.next {G:List En} (h:AddOk G) {i:Nat} (hi:i<G.length):0≤G[i].2.2∧lastE (G.take i)<G[i].2.2:=by
 have hl:i<(G.map (·.2.2)).length:=by simpa using hi
 obtain ⟨h1,h2⟩:=rises_seq h.rise hl
 simp only [List.getElem_map] at h1 h2
 refine ⟨by omega,?_⟩
 rcases Nat.eq_zero_or_pos i with rfl|hp
 ·simp [lastE_nil];omega
 ·have hlt:0<(G.take i).length:=by rw [List.length_take];omega
  rw [lastE_at hlt]
  have hlen:(G.take i).length=i:=by rw [List.length_take];omega
  simp only [hlen,List.getElem_take]
  exact h2 (i-1) (by simp;omega) (by omega)
end Go.Proofs.YtldcadpemnpbmaaGreatDoor
set_option linter.unusedVariables false
namespace Go.Proofs.YtldcadpemnpbmaaGreatDoor
open Go Go.RowKit
def PoK (t:TypeId):Prop:=t=153∨t=3
structure KeptG (b0:Nat) (w w':World):Prop where
 size:w.heap.size≤w'.heap.size
 low:∀ k,k<b0→w'.heap[k]?=w.heap[k]?
 kinds:∀ (k:Nat) (cs:Array Value) (t:TypeId) (fr:Nat × Nat),w.heap[k]?=some (.cells cs t fr)→PoK t→w'.heap[k]?=some (.cells cs t fr)
section
variable {b0 base:Nat} {w w' w'':World} {A:Option Addr} {xs:List Value} {t:TypeId}
theorem KeptG.trans (h:KeptG b0 w w') (k:KeptG b0 w' w''):KeptG b0 w w'':=⟨Nat.le_trans h.size k.size,fun i hi=>(k.low i hi).trans (h.low i hi),fun i cs t fr hi ht=>k.kinds i cs t fr (h.kinds i cs t fr hi ht) ht⟩
theorem KeptG.of_below (hb:Below w.heap.size w w') (h0:b0≤w.heap.size):KeptG b0 w w':=⟨hb.size,fun k hk=>hb.block k (by omega),fun k cs t fr hk _=>(hb.block k (Array.getElem?_eq_some_iff.1 hk).1).trans hk⟩
theorem KeptG.setCell {P o:Nat} {cs:Array Value} {fr:Nat × Nat} (hP:w.heap[P]?=some (.cells cs t fr)) (h0:b0≤P) (ht:¬ PoK t) (v:Value):KeptG b0 w (w.setCell ⟨P,o,none⟩ v):=
 ⟨by simp,fun k hk=>Below.heap_setCell _ _ _ _ (by show k≠P;omega),fun k cs' t' fr' hk ht'=>(Below.heap_setCell _ _ _ _ (by rintro rfl;rw [hP] at hk;injection hk with hk;injection hk with _ e _;subst e;exact ht ht')).trans hk⟩
theorem KeptG.grown {E:TypeId} {size n:Nat} {v:Value} (hv:w.ownsRow base E size v n xs) (h0:b0≤base) (hE:¬ PoK E) (hg:w.grownBy w' v.ownBlock) (hs:base≤w.heap.size):KeptG b0 w w':=
 ⟨hg.size,fun k hk=>hg.block k (by omega) (fun e=>by have :=(hv.lt k e.symm).1;omega),fun k cs t fr hk ht=>(hg.block k (Array.getElem?_eq_some_iff.1 hk).1 (fun e=>owned_apart hv hk (fun e=>hE (e▸ht)) e.symm)).trans hk⟩
def RowG (b0:Nat) (t:TypeId) (w:World) (A:Option Addr) (xs:List Value):Prop:=xs=[]∨∃ b off,A=some ⟨b,off,none⟩∧b<w.heap.size∧(b<b0∨∃ cs fr,w.heap[b]?=some (.cells cs t fr))∧∀ j u,xs[j]?=some u→w.cell? ⟨b,off+j,none⟩=some u
theorem RowG.keep (h:RowG b0 t w A xs) (ht:PoK t) (hk:KeptG b0 w w'):RowG b0 t w' A xs:=by
 rcases h with h|⟨b,off,e,hb,hc,hx⟩
 ·exact .inl h
 ·have hblk:w'.heap[b]?=w.heap[b]?:=by
   rcases hc with hc|⟨cs,fr,hc⟩
   ·exact hk.low b hc
   ·rw [hk.kinds b cs t fr hc ht,hc]
  exact .inr ⟨b,off,e,Nat.lt_of_lt_of_le hb hk.size,hc.imp id fun ⟨cs,fr,hc⟩=>⟨cs,fr,by rw [hblk,hc]⟩,fun j u hu=>by rw [World.cell?_of_block (a:=⟨b,off+j,none⟩) hblk];exact hx j u hu⟩
theorem RowG.row (h:RowG b0 t w A xs):Row w w.heap.size A xs:=by
 rcases h with h|⟨b,off,e,hb,_,hx⟩
 ·exact .inl h
 ·exact .inr ⟨b,off,e,hb,hx⟩
theorem RowG.of_own {size n c:Nat} (h:w.ownsRow base t size (.slice A n c) n xs):RowG b0 t w A xs:=by
 rcases h.2 with ⟨hv,hn⟩|⟨g,cap,cur,hv,hg,hh,_⟩
 ·exact .inl (List.eq_nil_of_length_eq_zero (by rw [h.1,hn];simp))
 ·injection hv with h1 h2 h3
  subst h1
  rcases owned_row_of h with h0|⟨b,off,e,hb,hc⟩
  ·exact .inl h0
  ·injection e with e
   injection e with e1 e2
   subst e1 e2
   exact .inr ⟨g,0,rfl,hb,.inr ⟨_,_,hh⟩,hc⟩
def PostsG (b0:Nat) (w:World) (A:Option Addr) (l:List Pn):Prop:=∃ cs,PoCells (RowG b0 3 w) l cs∧RowG b0 153 w A cs
theorem PostsG.keep {l:List Pn} (h:PostsG b0 w A l) (hk:KeptG b0 w w'):PostsG b0 w' A l:=by
 obtain ⟨cs,h1,h2⟩:=h
 exact ⟨cs,h1.imp fun _ _ h=>h.keep (.inr rfl) hk,h2.keep (.inl rfl) hk⟩
theorem PostsG.posts {l:List Pn} (h:PostsG b0 w A l):Posts w w.heap.size A l:=by
 obtain ⟨cs,h1,h2⟩:=h
 exact ⟨cs,h1.imp fun _ _ h=>h.row,h2.row⟩
def LG (b0:Nat) (w:World) (ls:List (List Pn)) (cs:List Value):Prop:=cs.length=ls.length∧∀ i (h:i<ls.length),∃ A c,cs[i]?=some (.slice A ls[i].length c)∧(ls[i].length≤c∧c≤maxLen)∧PostsG b0 w A ls[i]
theorem LG.nil:LG b0 w [] []:=⟨rfl,fun i h=>by simp at h⟩
theorem LG.keep {ls:List (List Pn)} {cs:List Value} (h:LG b0 w ls cs) (hk:KeptG b0 w w'):LG b0 w' ls cs:=⟨h.1,fun i hi=>by obtain ⟨A,c,h1,h2,h3⟩:=h.2 i hi;exact ⟨A,c,h1,h2,h3.keep hk⟩⟩
theorem LG.cells {ls:List (List Pn)} {cs:List Value} (h:LG b0 w ls cs):LCells w w.heap.size ls cs:=⟨h.1,fun i hi=>by obtain ⟨A,c,h1,h2,h3⟩:=h.2 i hi;exact ⟨A,c,h1,h2,h3.posts⟩⟩
theorem LG.snoc {ls:List (List Pn)} {cs:List Value} (h:LG b0 w ls cs) {l:List Pn} {A:Option Addr} {c:Nat} (hc:l.length≤c∧c≤maxLen) (hp:PostsG b0 w A l):LG b0 w (ls++[l]) (cs++[.slice A l.length c]):=by
 refine ⟨by simp [h.1],fun i hi=> ?_⟩
 by_cases hlt:i<ls.length
 ·obtain ⟨A',c',h1,h2,h3⟩:=h.2 i hlt
  rw [List.getElem_append_left hlt,List.getElem?_append_left (by rw [h.1];exact hlt)]
  exact ⟨A',c',h1,h2,h3⟩
 ·have hi':i<ls.length+1:=by simpa using hi
  have e:i=ls.length:=by omega
  subst e
  have e1:(ls++[l])[ls.length]'(by simp)=l:=by simp
  have e2:(cs++[Value.slice A l.length c])[ls.length]?=some (.slice A l.length c):=by rw [← h.1];simp
  rw [e1]
  exact ⟨A,c,e2,hc,hp⟩
theorem owned_beside {b1 b2:Nat} {E1 E2:TypeId} {s1 s2 n1 n2:Nat} {v1 v2:Value} {xs1 xs2:List Value} (h1:w.ownsRow b1 E1 s1 v1 n1 xs1) (h2:w.ownsRow b2 E2 s2 v2 n2 xs2) (hE:E2≠E1) (hg:w.grownBy w' v2.ownBlock):w'.ownsRow b1 E1 s1 v1 n1 xs1:=
 owned_keep h1 fun g hu=>hg.block g (h1.lt g hu).2 fun e=>owned_apart2 h2 h1 hE hu e.symm
end
theorem info_lists:(Tryz.prog.info? 94).map (fun i=>(i.zero,i.size,i.bytes))=some (some (.slice none 0 0),1,24):=by kernel_rfl
section
variable {T:TypeId} {b0 base P:Nat} {v1 v2 v3 v4:Value} {ks:List Nm} {ls:List (List Pn)} {w w':World}
theorem four10 {x y z u:Value} {t:TypeId} {b:Nat} (h:w.heap[b]?=some (.cells #[x,y,z,u] t (0,0))):
  (w.cell? ⟨b,0,none⟩=some x∧w.cell? ⟨b,1,none⟩=some y∧w.cell? ⟨b,2,none⟩=some z∧w.cell? ⟨b,3,none⟩=some u)∧
   w.frozen? ⟨b,0,none⟩=false∧w.frozen? ⟨b,1,none⟩=false∧w.frozen? ⟨b,2,none⟩=false∧w.frozen? ⟨b,3,none⟩=false:=by
 simp [World.cell?,World.frozen?,h]
end
end Go.Proofs.YtldcadpemnpbmaaGreatDoor
