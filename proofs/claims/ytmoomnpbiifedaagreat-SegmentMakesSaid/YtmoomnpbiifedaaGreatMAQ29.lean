import Derived.Test.YtmoomnpbiifedaaGreatMAZz
import Derived.Test.YtmoomnpbiifedaaGreatMAQ27
import Derived.Test.YtmoomnpbiifedaaGreatMAQ28
import Derived.Test.YtmoomnpbiifedaaGreatMAQ07
import Derived.Deep.RegionHeld3
import Derived.Deep.AppendLies
import Derived.BigQuiet
import Derived.Test.YtmoomnpbiifedaaGreatMAQ12
import Derived.Test.YtmoomnpbiifedaaGreatMAQ17
import Derived.Test.YtmoomnpbiifedaaGreatMAQ22
import Derived.Test.YtmoomnpbiifedaaGreatMAQ10
import Derived.Carry
namespace Go.Proofs.YtmoomnpbiifedaaGreat
open Go Go.RowKit
set_option linter.unusedVariables false
def GotAddB (S:Nat→Prop) (B:Nat) (l:List En) (up:Int) (q:En) (w:World) (e:Ending) (w':World):Prop:=
 e= .returned (.int .i64 (mayE up q))∧(mayE up q≠0→Below w.heap.size w w')∧(mayE up q=0→∃ S',BufAt S' w' B (l++[q]) q.2.2∧(∀ k,S' k→S k∨w.heap.size≤k)∧OnlyIn S w w')
set_option maxHeartbeats 8000000 in
set_option maxRecDepth 100000 in
theorem buf_Add {S:Nat→Prop} {w:World} {B:Nat} {l:List En} {up:Int} (h:BufAt S w B l up) (q:En) (A:Option Addr) (n cp:Nat) (hl:q.2.1.length=n) (hncp:n≤cp) (hf:RowP (fun k=>k<w.heap.size∧¬ S k) w A (flds q.2.1)) (hA:A=none∨∃ b o,A=some ⟨b,o,none⟩)
    (hn:n≤1048576) (ht:∀ f∈q.2.1,f.1.length≤1024∧f.2.length≤1024) (hlen:l.length≤1000):
    Calls Tryz.prog 50 #[.pointer (some ⟨B,0,none⟩),.agg #[.int .i64 q.1,.slice A n cp,.int .i64 q.2.2]] w (GotAddB S B l up q w):=by
  obtain ⟨t0,hi0,hz0,hz1,hz2⟩:=info_parts info_entry
  obtain ⟨v,M,c,g,hb⟩:=h
  obtain ⟨id,fs,seq⟩:=q
  simp only at hl hf ht ⊢
  have hBlt:=lt_of_block hb.cells
  obtain ⟨w1,hw1⟩:∃ w1,w1=w.alloc (.cells #[.int .i64 id,.slice A n cp,.int .i64 seq] 55):=⟨_,rfl⟩
  have hb1:Below w.heap.size w w1:=by rw [hw1];exact (Below.refl _ _).alloc (Nat.le_refl _) _
  have hfr:FRow w w.heap.size A fs:=hf.imp fun k hk=>hk.1
  have hat1:AddAt S B M c (id,fs,seq) A cp v l (weightE l) up g w w1:=by
    refine ⟨(hb1.block _ hBlt).trans hb.cells,(hb.own.keeps fun k _ hk=>hb1.block k hk).imp fun k hk=> .inl hk,(hb.map.keep fun k _ hk=>hb1.block k hk).imp fun k hk=> .inl hk,OnlyIn.of_below hb1,?_,hb.mine,hfr.below hb1,fun e=> ?_⟩
    · rw [hw1,hl]
      exact heap_alloc_new w _
    · obtain ⟨cs,r1,_⟩:=hb.own
      exact absurd (r1.lt _ e).2 (Nat.lt_irrefl _)
  have HM:Hid (∀ w',Below w1.heap.size w1 w'→Calls Tryz.prog 85 #[docV id A n cp] w' fun e w''=>e= .returned (.int .i64 (mayD fs))∧Below w'.heap.size w' w''):=Lib.hid fun w' h=>doc_May id A n cp fs w' hl ((hfr.later hb1).later h) (by omega) hncp fun f hf=>by have :=ht f hf;omega
  have HG:Hid (∀ e w',GotAddB S B l up (id,fs,seq) w e w'↔(e= .returned (.int .i64 (if mayD fs≠0 then mayD fs else if seq<0∨seq≤up then 12 else 0))∧((if mayD fs≠0 then mayD fs else if seq<0∨seq≤up then 12 else 0)≠0→Below w.heap.size w w')∧((if mayD fs≠0 then mayD fs else if seq<0∨seq≤up then 12 else 0)=0→∃ S',BufAt S' w' B (l++[(id,fs,seq)]) seq∧(∀ k,S' k→S k∨w.heap.size≤k)∧OnlyIn S w w'))):=Lib.hid fun e w'=>Iff.rfl
  have hGF:mayD fs=0→GoodF fs:=fun h=>goodF_of h fun f hf=>(ht f hf).2
  have hup:=hb.up1
  have HGF:=Lib.hid hGF
  have HAT:=Lib.hid hat1
  have HBI:=Lib.hid hb
  have HF:=Lib.hid hf
  have HL:=Lib.hid hl
  have HB1:=Lib.hid hb1
  obtain ⟨q0,q1,q2⟩:=three_cells hat1.ent
  simp only [hl] at q0 q1 q2
  have HW1:=Lib.hid hw1
  clear hGF hat1 hb hf hl hb1 ht hfr hw1
  obtain ⟨E,hE⟩:∃ E,E=mayD fs:=⟨_,rfl⟩
  rw [← hE] at HM HG HGF
  clear hE
  go_enter Tryz.func50,Tryz.ntmps50
  rw [HW1.out] at q0 q1 q2
  go_upto_region 2 with (first
    | (go_at_call 85; rw [show w.alloc _ = w1 from HW1.out.symm]; (with_reducible refine (HM.out _ (Below.refl _ _)).mono ?_); rintro e w2 ⟨rfl, hb2⟩
       have HAT2:=Lib.hid (HAT.out.below hb2)
       have HB2:=Lib.hid (HB1.out.trans (hb2.mono HB1.out.size))
       clear hb2))
  by_cases hE0:E=0
  · subst hE0
    clear q0 q1 q2
    obtain ⟨q0,q1,q2⟩:=three_cells HAT2.out.ent
    obtain ⟨c0,c1,c2,c3,f0,f1,f2,f3⟩:=four_cells HAT2.out.cells
    simp only [HL.out] at q0 q1 q2
    by_cases hs:seq≤up
    · have hz:(if (0:Int)≠0 then 0 else if seq<0∨seq≤up then (12:Int) else 0)=12:=by rw [if_neg (by decide),if_pos (.inr hs)]
      have HZ:=Lib.hid hz
      clear hz
      go_upto_region 4 with fail
      go_quiet (fail)
      go_wp2
      go_ret
      rw [HZ.out] at HG
      exact (HG.out _ _).2 ⟨rfl,fun _=>HB2.out.trans ((drewN_below _ _).mono HB2.out.size),fun h=>absurd h (by decide)⟩
    · have hs1:up<seq:=by omega
      have hz:(if (0:Int)≠0 then 0 else if seq<0∨seq≤up then (12:Int) else 0)=0:=by rw [if_neg (by decide),if_neg (by omega)]
      rw [hz] at HG
      have hgf:=HGF.out rfl
      have HGOOD:=Lib.hid hgf
      obtain ⟨Av,cv,hv,hcv,_⟩:=HAT2.out.own.nest
      subst hv
      clear hs hz hgf
      go_upto_region 4 with fail
      go_quiet (fail)
      generalize hw:World.drewN _ nq=w3
      have hb3:Below w2.heap.size w2 w3:=by rw [← hw];exact drewN_below _ _
      have HAT3:=Lib.hid (HAT2.out.below hb3)
      clear hw hb3 q0 q1 q2 c0 c1 c2 c3 f0 f1 f2 f3
      have HAT3D:Hid (AddAt S B M c (id,fs,seq) A cp (.slice Av l.length cv) l (weightE l) up g w w3.drew):=Lib.hid (HAT3.out.below (Below.refl _ w3).drew)
      have HT:Hid (Calls Tryz.prog 86 #[.pointer (some ⟨B,0,none⟩),docV id A n cp,.int .i64 (l.length:Int)] w3.drew (GotTurn (fun k=>S k∨Since w.heap.size w3.drew k) M c l.length fs g w3.drew)):=Lib.hid (buf_turn _ B M c g _ _ _ id A n cp fs l.length w3.drew HAT3D.out.cells HAT3D.out.map HGOOD.out HL.out HAT3D.out.row hlen fun key=>by
        rw [HBI.out.stand.posts key]
        have h1:=postsE_length (l:=l) (i:=0) (key:=key) (M:=4000) fun q hq=>terms_len9 (HBI.out.good q hq)
        have h2:l.length*4000≤1000*4000:=Nat.mul_le_mul_right _ hlen
        omega)
      obtain ⟨q0,q1,q2⟩:=three_cells HAT3.out.ent
      obtain ⟨c0,c1,c2,c3,f0,f1,f2,f3⟩:=four_cells HAT3.out.cells
      simp only [HL.out] at q0 q1 q2
      go_upto_region 6 with fail
      go_region_held3 (fun w'=>w'.cell? ⟨w.heap.size,0,none⟩=some (.int .i64 id)∧w'.cell? ⟨w.heap.size,1,none⟩=some (.slice A n cp)∧w'.cell? ⟨w.heap.size,2,none⟩=some (.int .i64 seq)∧w'.cell? ⟨B,0,none⟩=some (.slice Av l.length cv))
        (first|exact ⟨q0,q1,q2,c0⟩|exact HS4.out)
        (first
          | (go_at_call 86; (with_reducible refine HT.out.mono ?_); rintro e w4 ⟨rfl, hm4, ho4⟩
             have hat4:=HAT3D.out.turned HF.out hm4 ho4
             have HAT4:=Lib.hid hat4
             have HS4:Hid (w4.cell? ⟨w.heap.size,0,none⟩=some (.int .i64 id)∧w4.cell? ⟨w.heap.size,1,none⟩=some (.slice A n cp)∧w4.cell? ⟨w.heap.size,2,none⟩=some (.int .i64 seq)∧w4.cell? ⟨B,0,none⟩=some (.slice Av l.length cv)):=Lib.hid (by
               obtain ⟨q0,q1,q2⟩:=three_cells hat4.ent
               simp only [HL.out] at q0 q1 q2
               exact ⟨q0,q1,q2,(four_cells hat4.cells).1⟩)
             clear hm4 ho4 hat4))
      clear q0 q1 q2 c0 c1 c2 c3 f0 f1 f2 f3
      have hs4:=HAT4.out.only.size
      obtain ⟨GG,hGG⟩:∃ GG,GG=turnP l.length fs g (termsD fs):=⟨_,rfl⟩
      rw [← hGG] at HAT4
      have HGG:=Lib.hid hGG
      clear hGG
      have t4:=(four_cells HAT4.out.cells).1
      have HS4':Hid (w4.cell? ⟨w.heap.size,0,none⟩=some (.int .i64 id)∧w4.cell? ⟨w.heap.size,1,none⟩=some (.slice A n cp)∧w4.cell? ⟨w.heap.size,2,none⟩=some (.int .i64 seq)):=Lib.hid ⟨HS4.out.1,HS4.out.2.1,HS4.out.2.2.1⟩
      clear HS4
      have HS4:=HS4'
      clear HS4'
      have HCL:Hid (Calls Tryz.prog 87 #[.agg #[.int .i64 id,.slice A n cp,.int .i64 seq]] w4.drew (GotEn id fs seq w4.drew)):=Lib.hid (buf_clone id A n cp fs seq w4.drew HL.out HAT4.out.row hA hn)
      have HAFT:Hid (∀ (w5:World) (A5:Option Addr) (c5:Nat),fs.length≤c5∧c5≤maxLen→OwnFd w4.drew.heap.size w5 (.slice A5 fs.length c5) fs→Below w4.drew.heap.size w4.drew w5→
          w5.cell? ⟨B,0,none⟩=some (.slice Av l.length cv)∧(∀ o,(w5.alloc o).cell? ⟨B,0,none⟩=some (.slice Av l.length cv))∧(w5.cell? ⟨w.heap.size,0,none⟩=some (.int .i64 id)∧w5.cell? ⟨w.heap.size,1,none⟩=some (.slice A n cp)∧w5.cell? ⟨w.heap.size,2,none⟩=some (.int .i64 seq))∧(∀ o,((w5.alloc o).cell? ⟨w.heap.size,0,none⟩=some (.int .i64 id)∧(w5.alloc o).cell? ⟨w.heap.size,1,none⟩=some (.slice A n cp)∧(w5.alloc o).cell? ⟨w.heap.size,2,none⟩=some (.int .i64 seq)))∧
          (∃ cs,w5.ownsRow 0 55 3 (.slice Av l.length cv) l.length cs∧∀ (gg cap:Nat) (w7:World),w7.ownsRow 0 55 3 (.slice (some ⟨gg,0,none⟩) (l.length+1) cap) (l.length+1) (cs++[.int .i64 id,.slice A5 fs.length c5,.int .i64 seq])→
            (w5.alloc (.cells #[.int .i64 id,.slice A5 fs.length c5,.int .i64 seq] 55)).grownBy w7 (Value.slice Av l.length cv).ownBlock→((Value.slice Av l.length cv).ownBlock=some gg∨gg=w5.heap.size+1)→gg<w7.heap.size→
            w7.heap[B]?=some (.cells #[.slice Av l.length cv,.map (some M),.int .i64 (weightE l:Int),.int .i64 up] 144 (0,0))∧(w7.cell? ⟨w.heap.size,0,none⟩=some (.int .i64 id)∧w7.cell? ⟨w.heap.size,1,none⟩=some (.slice A n cp)∧w7.cell? ⟨w.heap.size,2,none⟩=some (.int .i64 seq))∧((w7.setCell ⟨B,0,none⟩ (.slice (some ⟨gg,0,none⟩) (l.length+1) cap)).cell? ⟨w.heap.size,0,none⟩=some (.int .i64 id)∧(w7.setCell ⟨B,0,none⟩ (.slice (some ⟨gg,0,none⟩) (l.length+1) cap)).cell? ⟨w.heap.size,1,none⟩=some (.slice A n cp)∧(w7.setCell ⟨B,0,none⟩ (.slice (some ⟨gg,0,none⟩) (l.length+1) cap)).cell? ⟨w.heap.size,2,none⟩=some (.int .i64 seq))∧
            AddAt S B M c (id,fs,seq) A cp (.slice (some ⟨gg,0,none⟩) (l.length+1) cap) (l++[(id,fs,seq)]) (weightE l) up GG w (w7.setCell ⟨B,0,none⟩ (.slice (some ⟨gg,0,none⟩) (l.length+1) cap)))∧True):=Lib.hid fun w5 A5 c5 hc5 ho5 hb5=>by
        have hat5:=HAT4.out.below ((Below.refl _ w4).drew.trans hb5)
        have hcell:∀ {wx:World},wx.heap[w.heap.size]?=some (.cells #[.int .i64 id,.slice A fs.length cp,.int .i64 seq] 55 (0,0))→(wx.cell? ⟨w.heap.size,0,none⟩=some (.int .i64 id)∧wx.cell? ⟨w.heap.size,1,none⟩=some (.slice A n cp)∧wx.cell? ⟨w.heap.size,2,none⟩=some (.int .i64 seq)):=fun {wx} h=>by
          have :=three_cells h
          rw [HL.out] at this
          exact this
        have hal:∀ o,Below w5.heap.size w5 (w5.alloc o):=fun o=>(Below.refl _ _).alloc (Nat.le_refl _) o
        obtain ⟨cs,hown5,hpush⟩:=hat5.push HF.out hBlt (ho5.low hs4) hc5
        refine ⟨(four_cells hat5.cells).1,fun o=>(four_cells (hat5.below (hal o)).cells).1,hcell hat5.ent,fun o=>hcell (hat5.below (hal o)).ent,⟨cs,hown5,fun gg cap w7 h1 h2 h3 h4=> ?_⟩,trivial⟩
        obtain ⟨k1,k2,k3⟩:=hpush gg cap w7 h1 h2 h3 h4
        exact ⟨k1,hcell k2,hcell k3.ent,k3⟩
      go_upto_region 7 with fail
      go_cut [] from 28 to 38 (fun wx=>∃ (V:Value),AddAt S B M c (id,fs,seq) A cp V (l++[(id,fs,seq)]) (weightE l) up GG w wx)
      case first=>
        refine wp_region_held_drew (S:=(fun w'=>w'.cell? ⟨w.heap.size,0,none⟩=some (.int .i64 id)∧w'.cell? ⟨w.heap.size,1,none⟩=some (.slice A n cp)∧w'.cell? ⟨w.heap.size,2,none⟩=some (.int .i64 seq))) (by kernel_rfl) HS4.out (fun hHeld0=> ?_)
        refine wpAnyH_take (i:=0) (v:= .pointer (some ⟨B,0,none⟩)) rfl (by kernel_rfl) (by kernel_rfl) (by kernel_rfl) (fun _ _ _ h=>h) (Or.inl ⟨by rfl,fun wx hSw=>by obtain ⟨s1,s2,s3⟩:=hSw;go_simp⟩) (by assumption) ?_
        try simp only [Act.put,zA,zB,zD,zE,zF]
        refine wpAnyH_take (i:=1) (v:= .pointer (some ⟨B,0,none⟩)) rfl (by kernel_rfl) (by kernel_rfl) (by kernel_rfl) (fun _ _ _ h=>h) (Or.inl ⟨by rfl,fun wx hSw=>by obtain ⟨s1,s2,s3⟩:=hSw;go_simp⟩) (by assumption) ?_
        try simp only [Act.put,zA,zB,zC,zD,zE,zF]
        refine wpAnyH_take (i:=2) (v:= .pointer (some ⟨B,0,none⟩)) rfl (by kernel_rfl) (by kernel_rfl) (by kernel_rfl) (fun _ _ _ h=>h) (Or.inl ⟨by rfl,fun wx hSw=>by obtain ⟨s1,s2,s3⟩:=hSw;go_simp⟩) (by assumption) ?_
        try simp only [Act.put,zA,zB,zC,zD,zE,zF]
        refine wpAnyH_take (i:=3) (v:= .pointer (some ⟨B,0,none⟩)) rfl (by kernel_rfl) (by kernel_rfl) (by kernel_rfl) (fun _ _ _ h=>h) (Or.inl ⟨by rfl,fun wx hSw=>by obtain ⟨s1,s2,s3⟩:=hSw;go_simp⟩) (by assumption) ?_
        try simp only [Act.put,zA,zB,zC,zD,zE,zF]
        refine wpAnyH_take (i:=5) (v:= .agg #[.int .i64 id,.slice A n cp,.int .i64 seq]) rfl (by kernel_rfl) (by kernel_rfl) (by kernel_rfl) (fun _ _ _ h=>h) (Or.inl ⟨by rfl,fun wx hSw=>by obtain ⟨s1,s2,s3⟩:=hSw;go_simp⟩) (by assumption) ?_
        try simp only [Act.put,zA,zB,zC,zD,zE,zF]
        refine wpAnyH_ready (rs:=[4,6]) (by kernel_rfl) (by simp) ?_
        refine AllReadyH.cons rfl (fun K hK=> ?_) (AllReadyH.cons rfl (fun K hK=> ?_) AllReadyH.nil)
        · try simp only [zA,zB,zC]
          go_simp
          refine hK.out _ _ ?_ (fun hHeld1=> ?_)
          · exact HS4.out
          clear hK K
          try simp only [Act.put,zA,zB,zC,zD,zE,zF]
          refine wpAnyH_ready (rs:=[6]) (by kernel_rfl) (by simp) ?_
          refine AllReadyH.cons rfl (fun K hK=> ?_) AllReadyH.nil
          try simp only [zA,zB,zC]
          go_simp
          go_at_call 87
          (with_reducible refine HCL.out.mono ?_)
          rintro e w5 ⟨A5,c5,rfl,hc5,ho5,hb5⟩
          obtain ⟨h50,h51,h52,h53,h54,h55⟩:=HAFT.out w5 A5 c5 hc5 ho5 hb5
          have t5:=h50
          have t6:=h51
          have HS5:=Lib.hid h52
          have HS6:=Lib.hid h53
          have HOW5:=Lib.hid h54
          have HPU:=Lib.hid h55
          clear h50 h51 h52 h53 h54 h55 ho5 hb5
          go_wp2_with fail
          refine hK.out _ _ ?_ (fun hHeld2=> ?_)
          · exact HS5.out
          clear hK K
          try simp only [Act.put,zA,zB,zC,zD,zE,zF]
          refine wpAnyH_ready (rs:=[7]) (by kernel_rfl) (by simp) ?_
          refine AllReadyH.cons rfl (fun K hK=> ?_) AllReadyH.nil
          try simp only [zA,zB,zC]
          go_simp
          refine hK.out _ _ ?_ (fun hHeld3=> ?_)
          · exact HS6.out _
          clear hK K
          try simp only [Act.put,zA,zB,zC,zD,zE,zF]
          refine wpAnyH_ready (rs:=[8]) (by kernel_rfl) (by simp) ?_
          refine AllReadyH.cons rfl (fun K hK=> ?_) AllReadyH.nil
          try simp only [zA,zB,zC]
          obtain ⟨cs,hown5,hpush⟩:=HOW5.out
          have HPUS:=Lib.hid hpush
          clear hpush
          refine step_append_lies (a:=⟨_,_⟩) _ ?_ (.tmp 32) (.tmp 35) 41 ?_ 0 55 t0 _ 3 40 Tryz.underlying41 hi0 hz0 hz1 hz2 rfl (by omega) (.slice Av l.length cv) l.length cs ?_ (hown5.alloc _)
            ⟨w5.heap.size,0,none⟩ 1 1 [.int .i64 id,.slice A5 fs.length c5,.int .i64 seq] ?_ (by rfl) (World.news_of_block (cs:=#[.int .i64 id,.slice A5 fs.length c5,.int .i64 seq]) (t:=55) (fr:=(0,0)) (heap_alloc_new w5 _)) (by intro u hu;simp at hu;rcases hu with hu|hu|hu<;>(subst hu;rfl))
            (by omega) (by unfold maxLen;omega) (by omega) (by simp) (w5.heap.size+1) (by simp) ?_
          · rfl
          · rfl
          · rfl
          · rfl
          intro gg cap w7 hown7 hg7 hat7 hlt7
          obtain ⟨hB7,hS7,hS8,hat8⟩:=HPUS.out gg cap w7 hown7 hg7 hat7 hlt7
          have s3:=(four_cells hB7).1
          have s4:=(four_cells hB7).2.2.2.2.1
          have HAT8:=Lib.hid hat8
          clear hown7 hg7 hat7 hB7 hat8
          refine hK.out _ _ ?_ (fun hHeld4=> ?_)
          · exact hS7
          clear hK K
          try simp only [Act.put,zD,zE,zF]
          refine wpAnyH_take (i:=9) (v:= .pointer (some ⟨B,0,none⟩)) rfl (by kernel_rfl) (by kernel_rfl) (by kernel_rfl) (fun _ _ _ h=>h) (Or.inl ⟨by rfl,fun wx hSw=>by obtain ⟨s1,s2,s3⟩:=hSw;go_simp⟩) (by assumption) ?_
          try simp only [Act.put,zA,zB,zC,zD,zE,zF]
          refine wpAnyH_take (i:=10) (v:= .pointer (some ⟨B,0,none⟩)) rfl (by kernel_rfl) (by kernel_rfl) (by kernel_rfl) (fun _ _ _ h=>h) (Or.inl ⟨by rfl,fun wx hSw=>by obtain ⟨s1,s2,s3⟩:=hSw;go_simp⟩) (by assumption) ?_
          try simp only [Act.put,zA,zB,zC,zD,zE,zF]
          refine wpAnyH_ready (rs:=[11]) (by kernel_rfl) (by simp) ?_
          refine AllReadyH.cons rfl (fun K hK=> ?_) AllReadyH.nil
          try simp only [zA,zB,zC]
          go_simp
          refine hK.out _ _ ?_ (fun hHeld5=> ?_)
          · exact hS8
          clear hK K
          try simp only [Act.put,zA,zB,zC,zD,zE,zF]
          refine wpAnyH_done (by kernel_rfl) ?_ _
          clear hS7 hS8 s3 s4
          go_wp2_with fail
          go_meet
          exact ⟨_,HAT8.out⟩
        · try simp only [zA,zB,zC]
          go_simp
          go_at_call 87
          (with_reducible refine HCL.out.mono ?_)
          rintro e w5 ⟨A5,c5,rfl,hc5,ho5,hb5⟩
          obtain ⟨h50,h51,h52,h53,h54,h55⟩:=HAFT.out w5 A5 c5 hc5 ho5 hb5
          have t5:=h50
          have t6:=h51
          have HS5:=Lib.hid h52
          have HS6:=Lib.hid h53
          have HOW5:=Lib.hid h54
          have HPU:=Lib.hid h55
          clear h50 h51 h52 h53 h54 h55 ho5 hb5
          go_wp2_with fail
          refine hK.out _ _ ?_ (fun hHeld1=> ?_)
          · exact HS5.out
          clear hK K
          try simp only [Act.put,zA,zB,zC,zD,zE,zF]
          refine wpAnyH_ready (rs:=[4,7]) (by kernel_rfl) (by simp) ?_
          refine AllReadyH.cons rfl (fun K hK=> ?_) (AllReadyH.cons rfl (fun K hK=> ?_) AllReadyH.nil)
          · try simp only [zA,zB,zC]
            go_simp
            refine hK.out _ _ ?_ (fun hHeld2=> ?_)
            · exact HS5.out
            clear hK K
            try simp only [Act.put,zA,zB,zC,zD,zE,zF]
            refine wpAnyH_ready (rs:=[7]) (by kernel_rfl) (by simp) ?_
            refine AllReadyH.cons rfl (fun K hK=> ?_) AllReadyH.nil
            try simp only [zA,zB,zC]
            go_simp
            refine hK.out _ _ ?_ (fun hHeld3=> ?_)
            · exact HS6.out _
            clear hK K
            try simp only [Act.put,zA,zB,zC,zD,zE,zF]
            refine wpAnyH_ready (rs:=[8]) (by kernel_rfl) (by simp) ?_
            refine AllReadyH.cons rfl (fun K hK=> ?_) AllReadyH.nil
            try simp only [zA,zB,zC]
            obtain ⟨cs,hown5,hpush⟩:=HOW5.out
            have HPUS:=Lib.hid hpush
            clear hpush
            refine step_append_lies (a:=⟨_,_⟩) _ ?_ (.tmp 32) (.tmp 35) 41 ?_ 0 55 t0 _ 3 40 Tryz.underlying41 hi0 hz0 hz1 hz2 rfl (by omega) (.slice Av l.length cv) l.length cs ?_ (hown5.alloc _)
              ⟨w5.heap.size,0,none⟩ 1 1 [.int .i64 id,.slice A5 fs.length c5,.int .i64 seq] ?_ (by rfl) (World.news_of_block (cs:=#[.int .i64 id,.slice A5 fs.length c5,.int .i64 seq]) (t:=55) (fr:=(0,0)) (heap_alloc_new w5 _)) (by intro u hu;simp at hu;rcases hu with hu|hu|hu<;>(subst hu;rfl))
              (by omega) (by unfold maxLen;omega) (by omega) (by simp) (w5.heap.size+1) (by simp) ?_
            · rfl
            · rfl
            · rfl
            · rfl
            intro gg cap w7 hown7 hg7 hat7 hlt7
            obtain ⟨hB7,hS7,hS8,hat8⟩:=HPUS.out gg cap w7 hown7 hg7 hat7 hlt7
            have s3:=(four_cells hB7).1
            have s4:=(four_cells hB7).2.2.2.2.1
            have HAT8:=Lib.hid hat8
            clear hown7 hg7 hat7 hB7 hat8
            refine hK.out _ _ ?_ (fun hHeld4=> ?_)
            · exact hS7
            clear hK K
            try simp only [Act.put,zD,zE,zF]
            refine wpAnyH_take (i:=9) (v:= .pointer (some ⟨B,0,none⟩)) rfl (by kernel_rfl) (by kernel_rfl) (by kernel_rfl) (fun _ _ _ h=>h) (Or.inl ⟨by rfl,fun wx hSw=>by obtain ⟨s1,s2,s3⟩:=hSw;go_simp⟩) (by assumption) ?_
            try simp only [Act.put,zA,zB,zC,zD,zE,zF]
            refine wpAnyH_take (i:=10) (v:= .pointer (some ⟨B,0,none⟩)) rfl (by kernel_rfl) (by kernel_rfl) (by kernel_rfl) (fun _ _ _ h=>h) (Or.inl ⟨by rfl,fun wx hSw=>by obtain ⟨s1,s2,s3⟩:=hSw;go_simp⟩) (by assumption) ?_
            try simp only [Act.put,zA,zB,zC,zD,zE,zF]
            refine wpAnyH_ready (rs:=[11]) (by kernel_rfl) (by simp) ?_
            refine AllReadyH.cons rfl (fun K hK=> ?_) AllReadyH.nil
            try simp only [zA,zB,zC]
            go_simp
            refine hK.out _ _ ?_ (fun hHeld5=> ?_)
            · exact hS8
            clear hK K
            try simp only [Act.put,zA,zB,zC,zD,zE,zF]
            refine wpAnyH_done (by kernel_rfl) ?_ _
            clear hS7 hS8 s3 s4
            go_wp2_with fail
            go_meet
            exact ⟨_,HAT8.out⟩
          · try simp only [zA,zB,zC]
            go_simp
            refine hK.out _ _ ?_ (fun hHeld2=> ?_)
            · exact HS6.out _
            clear hK K
            try simp only [Act.put,zA,zB,zC,zD,zE,zF]
            refine wpAnyH_ready (rs:=[4]) (by kernel_rfl) (by simp) ?_
            refine AllReadyH.cons rfl (fun K hK=> ?_) AllReadyH.nil
            try simp only [zA,zB,zC]
            go_simp
            refine hK.out _ _ ?_ (fun hHeld3=> ?_)
            · exact HS6.out _
            clear hK K
            try simp only [Act.put,zA,zB,zC,zD,zE,zF]
            refine wpAnyH_ready (rs:=[8]) (by kernel_rfl) (by simp) ?_
            refine AllReadyH.cons rfl (fun K hK=> ?_) AllReadyH.nil
            try simp only [zA,zB,zC]
            obtain ⟨cs,hown5,hpush⟩:=HOW5.out
            have HPUS:=Lib.hid hpush
            clear hpush
            refine step_append_lies (a:=⟨_,_⟩) _ ?_ (.tmp 32) (.tmp 35) 41 ?_ 0 55 t0 _ 3 40 Tryz.underlying41 hi0 hz0 hz1 hz2 rfl (by omega) (.slice Av l.length cv) l.length cs ?_ (hown5.alloc _)
              ⟨w5.heap.size,0,none⟩ 1 1 [.int .i64 id,.slice A5 fs.length c5,.int .i64 seq] ?_ (by rfl) (World.news_of_block (cs:=#[.int .i64 id,.slice A5 fs.length c5,.int .i64 seq]) (t:=55) (fr:=(0,0)) (heap_alloc_new w5 _)) (by intro u hu;simp at hu;rcases hu with hu|hu|hu<;>(subst hu;rfl))
              (by omega) (by unfold maxLen;omega) (by omega) (by simp) (w5.heap.size+1) (by simp) ?_
            · rfl
            · rfl
            · rfl
            · rfl
            intro gg cap w7 hown7 hg7 hat7 hlt7
            obtain ⟨hB7,hS7,hS8,hat8⟩:=HPUS.out gg cap w7 hown7 hg7 hat7 hlt7
            have s3:=(four_cells hB7).1
            have s4:=(four_cells hB7).2.2.2.2.1
            have HAT8:=Lib.hid hat8
            clear hown7 hg7 hat7 hB7 hat8
            refine hK.out _ _ ?_ (fun hHeld4=> ?_)
            · exact hS7
            clear hK K
            try simp only [Act.put,zD,zE,zF]
            refine wpAnyH_take (i:=9) (v:= .pointer (some ⟨B,0,none⟩)) rfl (by kernel_rfl) (by kernel_rfl) (by kernel_rfl) (fun _ _ _ h=>h) (Or.inl ⟨by rfl,fun wx hSw=>by obtain ⟨s1,s2,s3⟩:=hSw;go_simp⟩) (by assumption) ?_
            try simp only [Act.put,zA,zB,zC,zD,zE,zF]
            refine wpAnyH_take (i:=10) (v:= .pointer (some ⟨B,0,none⟩)) rfl (by kernel_rfl) (by kernel_rfl) (by kernel_rfl) (fun _ _ _ h=>h) (Or.inl ⟨by rfl,fun wx hSw=>by obtain ⟨s1,s2,s3⟩:=hSw;go_simp⟩) (by assumption) ?_
            try simp only [Act.put,zA,zB,zC,zD,zE,zF]
            refine wpAnyH_ready (rs:=[11]) (by kernel_rfl) (by simp) ?_
            refine AllReadyH.cons rfl (fun K hK=> ?_) AllReadyH.nil
            try simp only [zA,zB,zC]
            go_simp
            refine hK.out _ _ ?_ (fun hHeld5=> ?_)
            · exact hS8
            clear hK K
            try simp only [Act.put,zA,zB,zC,zD,zE,zF]
            refine wpAnyH_done (by kernel_rfl) ?_ _
            clear hS7 hS8 s3 s4
            go_wp2_with fail
            go_meet
            exact ⟨_,HAT8.out⟩
      case rest=>
        obtain ⟨wz,rfl⟩:∃ wz,wz=wc:=⟨_,rfl⟩
        obtain ⟨V8,hat8⟩:=hcut
        have hcell:∀ {wx:World},wx.heap[w.heap.size]?=some (.cells #[.int .i64 id,.slice A fs.length cp,.int .i64 seq] 55 (0,0))→(wx.cell? ⟨w.heap.size,0,none⟩=some (.int .i64 id)∧wx.cell? ⟨w.heap.size,1,none⟩=some (.slice A n cp)∧wx.cell? ⟨w.heap.size,2,none⟩=some (.int .i64 seq)):=fun {wx} h=>by
          have :=three_cells h
          rw [HL.out] at this
          exact this
        have hwb:=weightE_le HBI.out.good
        have hwd:=HGOOD.out.weight
        have HWT:=Lib.hid (good_weight9 (id:=id) (c:=cp) (w:=wz.drew) HGOOD.out HL.out hat8.row)
        have hsum:weightE (l++[(id,fs,seq)])=weightE l+weightD fs:=by unfold weightE;simp
        obtain ⟨T,hT⟩:∃ T,T=weightE l:=⟨_,rfl⟩
        obtain ⟨D,hD⟩:∃ D,D=weightD fs:=⟨_,rfl⟩
        rw [← hT] at hwb hat8 hsum
        rw [← hD] at hwd HWT hsum
        have hT5:T≤500000:=by omega
        have HSUM:=Lib.hid hsum
        have hwr:IntKind.i64.wrap ((T:Int)+(D:Int))=(T:Int)+(D:Int):=IntWalk.i64_in _ (by omega)
        have HS8:Hid (wz.cell? ⟨w.heap.size,0,none⟩=some (.int .i64 id)∧wz.cell? ⟨w.heap.size,1,none⟩=some (.slice A n cp)∧wz.cell? ⟨w.heap.size,2,none⟩=some (.int .i64 seq)):=Lib.hid (hcell hat8.ent)
        have t8:=(four_cells hat8.cells).2.2.1
        have HAFT9:Hid (∀ w9,Below wz.drew.heap.size wz.drew w9→w9.cell? ⟨B,2,none⟩=some (.int .i64 (T:Int))∧w9.frozen? ⟨B,2,none⟩=false∧(w9.cell? ⟨w.heap.size,0,none⟩=some (.int .i64 id)∧w9.cell? ⟨w.heap.size,1,none⟩=some (.slice A n cp)∧w9.cell? ⟨w.heap.size,2,none⟩=some (.int .i64 seq))∧AddAt S B M c (id,fs,seq) A cp V8 (l++[(id,fs,seq)]) ((T:Int)+(D:Int)) up GG w (w9.setCell ⟨B,2,none⟩ (.int .i64 ((T:Int)+(D:Int))))∧((w9.setCell ⟨B,2,none⟩ (.int .i64 ((T:Int)+(D:Int)))).cell? ⟨w.heap.size,0,none⟩=some (.int .i64 id)∧(w9.setCell ⟨B,2,none⟩ (.int .i64 ((T:Int)+(D:Int)))).cell? ⟨w.heap.size,1,none⟩=some (.slice A n cp)∧(w9.setCell ⟨B,2,none⟩ (.int .i64 ((T:Int)+(D:Int)))).cell? ⟨w.heap.size,2,none⟩=some (.int .i64 seq))):=Lib.hid fun w9 hb9=>by
          have hat9:=hat8.below ((Below.refl _ wz).drew.trans hb9)
          have h10:=hat9.stored (w':=w9.setCell ⟨B,2,none⟩ (.int .i64 ((T:Int)+(D:Int)))) HF.out hBlt ((T:Int)+(D:Int)) up (by rw [set_at hat9.cells];rfl) (fun k hk=>set_ne (Ne.symm hk)) (by simp) rfl rfl rfl
          exact ⟨(four_cells hat9.cells).2.2.1,(four_cells hat9.cells).2.2.2.2.2.2.1,hcell hat9.ent,h10,hcell h10.ent⟩
        clear hwb hT hD hsum hat8 t4 HS4 HCL HAFT
        go_upto_region 8 with fail
        go_cut [] from 39 to 48 (fun wx=>AddAt S B M c (id,fs,seq) A cp V8 (l++[(id,fs,seq)]) ((T:Int)+(D:Int)) up GG w wx)
        case first=>
          refine wp_region_held_drew (S:=(fun w'=>w'.cell? ⟨w.heap.size,0,none⟩=some (.int .i64 id)∧w'.cell? ⟨w.heap.size,1,none⟩=some (.slice A n cp)∧w'.cell? ⟨w.heap.size,2,none⟩=some (.int .i64 seq))) (by kernel_rfl) HS8.out (fun hHeld0=> ?_)
          refine wpAnyH_take (i:=0) (v:= .pointer (some ⟨B,0,none⟩)) rfl (by kernel_rfl) (by kernel_rfl) (by kernel_rfl) (fun _ _ _ h=>h) (Or.inl ⟨by rfl,fun wx hSw=>by obtain ⟨s1,s2,s3⟩:=hSw;go_simp⟩) (by assumption) ?_
          try simp only [Act.put,zA,zB,zD,zE,zF]
          refine wpAnyH_take (i:=1) (v:= .pointer (some ⟨B,0,none⟩)) rfl (by kernel_rfl) (by kernel_rfl) (by kernel_rfl) (fun _ _ _ h=>h) (Or.inl ⟨by rfl,fun wx hSw=>by obtain ⟨s1,s2,s3⟩:=hSw;go_simp⟩) (by assumption) ?_
          try simp only [Act.put,zA,zB,zC,zD,zE,zF]
          refine wpAnyH_take (i:=2) (v:= .pointer (some ⟨B,2,none⟩)) rfl (by kernel_rfl) (by kernel_rfl) (by kernel_rfl) (fun _ _ _ h=>h) (Or.inl ⟨by rfl,fun wx hSw=>by obtain ⟨s1,s2,s3⟩:=hSw;go_simp⟩) (by assumption) ?_
          try simp only [Act.put,zA,zB,zC,zD,zE,zF]
          refine wpAnyH_take (i:=4) (v:= .pointer (some ⟨w.heap.size,0,none⟩)) rfl (by kernel_rfl) (by kernel_rfl) (by kernel_rfl) (fun _ _ _ h=>h) (Or.inl ⟨by rfl,fun wx hSw=>by obtain ⟨s1,s2,s3⟩:=hSw;go_simp⟩) (by assumption) ?_
          try simp only [Act.put,zA,zB,zC,zD,zE,zF]
          refine wpAnyH_take (i:=5) (v:= .agg #[.int .i64 id,.slice A n cp]) rfl (by kernel_rfl) (by kernel_rfl) (by kernel_rfl) (fun _ _ _ h=>h) (Or.inl ⟨by rfl,fun wx hSw=>by obtain ⟨s1,s2,s3⟩:=hSw;go_simp⟩) (by assumption) ?_
          try simp only [Act.put,zA,zB,zC,zD,zE,zF]
          refine wpAnyH_ready (rs:=[3,6]) (by kernel_rfl) (by simp) ?_
          refine AllReadyH.cons rfl (fun K hK=> ?_) (AllReadyH.cons rfl (fun K hK=> ?_) AllReadyH.nil)
          · try simp only [zA,zB,zC]
            go_simp
            refine hK.out _ _ ?_ (fun hHeld1=> ?_)
            · exact HS8.out
            clear hK K
            try simp only [Act.put,zA,zB,zC,zD,zE,zF]
            refine wpAnyH_ready (rs:=[6]) (by kernel_rfl) (by simp) ?_
            refine AllReadyH.cons rfl (fun K hK=> ?_) AllReadyH.nil
            try simp only [zA,zB,zC]
            go_simp
            go_at_call 88
            (with_reducible refine HWT.out.mono ?_)
            rintro e w9 ⟨rfl,hb9⟩
            obtain ⟨h90,h91,h92,h93,h94⟩:=HAFT9.out w9 hb9
            have t9:=h90
            have u9:=h91
            have HS9:=Lib.hid h92
            have HAT9:=Lib.hid h93
            have HSE:=Lib.hid h94
            clear h90 h91 h92 h93 h94 hb9
            go_wp2_with fail
            refine hK.out _ _ ?_ (fun hHeld2=> ?_)
            · exact HS9.out
            clear hK K
            try simp only [Act.put,zA,zB,zC,zD,zE,zF]
            refine wpAnyH_take (i:=7) (v:= .int .i64 ((T:Int)+(D:Int))) rfl (by kernel_rfl) (by kernel_rfl) (by kernel_rfl) (fun _ _ _ h=>h) (Or.inl ⟨by rfl,fun wx hSw=>by obtain ⟨s1,s2,s3⟩:=hSw;go_simp⟩) (by assumption) ?_
            try simp only [Act.put,zA,zB,zC,zD,zE,zF]
            refine wpAnyH_take (i:=8) (v:= .pointer (some ⟨B,0,none⟩)) rfl (by kernel_rfl) (by kernel_rfl) (by kernel_rfl) (fun _ _ _ h=>h) (Or.inl ⟨by rfl,fun wx hSw=>by obtain ⟨s1,s2,s3⟩:=hSw;go_simp⟩) (by assumption) ?_
            try simp only [Act.put,zA,zB,zC,zD,zE,zF]
            refine wpAnyH_take (i:=9) (v:= .pointer (some ⟨B,2,none⟩)) rfl (by kernel_rfl) (by kernel_rfl) (by kernel_rfl) (fun _ _ _ h=>h) (Or.inl ⟨by rfl,fun wx hSw=>by obtain ⟨s1,s2,s3⟩:=hSw;go_simp⟩) (by assumption) ?_
            try simp only [Act.put,zA,zB,zC,zD,zE,zF]
            refine wpAnyH_ready (rs:=[10]) (by kernel_rfl) (by simp) ?_
            refine AllReadyH.cons rfl (fun K hK=> ?_) AllReadyH.nil
            try simp only [zA,zB,zC]
            go_simp
            refine hK.out _ _ ?_ (fun hHeld3=> ?_)
            · exact HSE.out
            clear hK K
            try simp only [Act.put,zA,zB,zC,zD,zE,zF]
            refine wpAnyH_done (by kernel_rfl) ?_ _
            go_wp2_with fail
            go_meet
            exact HAT9.out
          · try simp only [zA,zB,zC]
            go_simp
            go_at_call 88
            (with_reducible refine HWT.out.mono ?_)
            rintro e w9 ⟨rfl,hb9⟩
            obtain ⟨h90,h91,h92,h93,h94⟩:=HAFT9.out w9 hb9
            have t9:=h90
            have u9:=h91
            have HS9:=Lib.hid h92
            have HAT9:=Lib.hid h93
            have HSE:=Lib.hid h94
            clear h90 h91 h92 h93 h94 hb9
            go_wp2_with fail
            refine hK.out _ _ ?_ (fun hHeld1=> ?_)
            · exact HS9.out
            clear hK K
            try simp only [Act.put,zA,zB,zC,zD,zE,zF]
            refine wpAnyH_ready (rs:=[3]) (by kernel_rfl) (by simp) ?_
            refine AllReadyH.cons rfl (fun K hK=> ?_) AllReadyH.nil
            try simp only [zA,zB,zC]
            go_simp
            refine hK.out _ _ ?_ (fun hHeld2=> ?_)
            · exact HS9.out
            clear hK K
            try simp only [Act.put,zA,zB,zC,zD,zE,zF]
            refine wpAnyH_take (i:=7) (v:= .int .i64 ((T:Int)+(D:Int))) rfl (by kernel_rfl) (by kernel_rfl) (by kernel_rfl) (fun _ _ _ h=>h) (Or.inl ⟨by rfl,fun wx hSw=>by obtain ⟨s1,s2,s3⟩:=hSw;go_simp⟩) (by assumption) ?_
            try simp only [Act.put,zA,zB,zC,zD,zE,zF]
            refine wpAnyH_take (i:=8) (v:= .pointer (some ⟨B,0,none⟩)) rfl (by kernel_rfl) (by kernel_rfl) (by kernel_rfl) (fun _ _ _ h=>h) (Or.inl ⟨by rfl,fun wx hSw=>by obtain ⟨s1,s2,s3⟩:=hSw;go_simp⟩) (by assumption) ?_
            try simp only [Act.put,zA,zB,zC,zD,zE,zF]
            refine wpAnyH_take (i:=9) (v:= .pointer (some ⟨B,2,none⟩)) rfl (by kernel_rfl) (by kernel_rfl) (by kernel_rfl) (fun _ _ _ h=>h) (Or.inl ⟨by rfl,fun wx hSw=>by obtain ⟨s1,s2,s3⟩:=hSw;go_simp⟩) (by assumption) ?_
            try simp only [Act.put,zA,zB,zC,zD,zE,zF]
            refine wpAnyH_ready (rs:=[10]) (by kernel_rfl) (by simp) ?_
            refine AllReadyH.cons rfl (fun K hK=> ?_) AllReadyH.nil
            try simp only [zA,zB,zC]
            go_simp
            refine hK.out _ _ ?_ (fun hHeld3=> ?_)
            · exact HSE.out
            clear hK K
            try simp only [Act.put,zA,zB,zC,zD,zE,zF]
            refine wpAnyH_done (by kernel_rfl) ?_ _
            go_wp2_with fail
            go_meet
            exact HAT9.out
        case rest=>
          obtain ⟨wy,rfl⟩:∃ wy,wy=wc:=⟨_,rfl⟩
          have q2:=(hcell hcut.ent).2.2
          obtain ⟨c0,c1,c2,c3,f0,f1,f2,f3⟩:=four_cells hcut.cells
          have hend:=hcut.stored (w':=wy.setCell ⟨B,3,none⟩ (.int .i64 seq)) HF.out hBlt ((T:Int)+(D:Int)) seq (by rw [set_at hcut.cells];rfl) (fun k hk=>set_ne (Ne.symm hk)) (by simp) rfl rfl rfl
          rw [show (T:Int)+(D:Int)=((weightE (l++[(id,fs,seq)]):Nat):Int) by rw [HSUM.out];push_cast;rfl,HGG.out] at hend
          have hbuf:=AddAt.done hend HBI.out.lt HBI.out.stand HBI.out.good HGOOD.out (show (0:Int)≤seq by omega)
          have HBUF:=Lib.hid hbuf
          have HONLY:=Lib.hid hend.only
          clear hcut hend hbuf
          go_wp2
          go_ret
          exact (HG.out _ _).2 ⟨rfl,fun h=>absurd rfl h,fun _=>⟨_,HBUF.out,fun k hk=>hk.imp (fun h=>h) fun hk=>hk.1,HONLY.out⟩⟩
  · have hM1:(E != 0)=true:=by simpa using hE0
    go_wp2
    go_ret
    refine (HG.out _ _).2 ⟨by rw [if_pos hE0];rfl,fun _=>HB2.out,fun h=>absurd h (by rw [if_pos hE0];exact hE0)⟩
end Go.Proofs.YtmoomnpbiifedaaGreat
set_option linter.unusedVariables false
namespace Go.Proofs.YtmoomnpbiifedaaGreat
open Go Go.RowKit
structure BRig (S:Nat→Prop) (B:Nat) (L:List En) (up:Int) (V:Value) (G:List En) (w wr:World):Prop where
 buf:BufAt S wr B L up
 ge:∀ k,S k→w.heap.size≤k
 own:OwnES (fun k=>k<w.heap.size) wr V G
 bel:Below w.heap.size w wr
section
variable {S:Nat→Prop} {B:Nat} {L:List En} {up:Int} {V:Value} {G:List En} {w wr w':World}
theorem BRig.keep (h:BRig S B L up V G w wr) (hk:∀ k,S k→w'.heap[k]?=wr.heap[k]?) (hb:Below w.heap.size wr w'):BRig S B L up V G w w':=
 ⟨h.buf.keep hk hb.size,h.ge,h.own.keeps fun k hk _=>hb.block k hk,h.bel.trans hb⟩
theorem BRig.below (h:BRig S B L up V G w wr) (hb:Below wr.heap.size wr w'):BRig S B L up V G w w':=h.keep (fun k hk=>hb.block k (h.buf.lt k hk)) (hb.mono h.bel.size)
theorem BRig.add (h:BRig S B L up V G w wr) (hm:AddOk G) (hlen:L.length≤1000) {i:Nat} (hi:i<G.length) (h0:0≤G[i].2.2) (hup:up<G[i].2.2):
  ∃ b c0 A c,V= .slice (some ⟨b,0,none⟩) G.length c0∧b<wr.heap.size∧wr.cell? ⟨b,i*3,none⟩=some (.int .i64 G[i].1)∧wr.cell? ⟨b,i*3+1,none⟩=some (.slice A G[i].2.1.length c)∧wr.cell? ⟨b,i*3+2,none⟩=some (.int .i64 G[i].2.2)∧
   ∀ w1,Below wr.heap.size wr w1→Calls Tryz.prog 50 #[.pointer (some ⟨B,0,none⟩),.agg #[.int .i64 G[i].1,.slice A G[i].2.1.length c,.int .i64 G[i].2.2]] w1 fun e w'=>e= .returned (.int .i64 0)∧∃ S',BRig S' B (L++[G[i]]) G[i].2.2 V G w w'∧(∀ k,S' k→S k∨w1.heap.size≤k)∧OnlyIn S w1 w':=by
 obtain ⟨b,c0,A,c,hv,_,hb,e0,e1,e2,hc,hcx,hr⟩:=h.own.at_ hi
 refine ⟨b,c0,A,c,hv,hb,e0,e1,e2,fun w1 hb1=> ?_⟩
 have h1:=h.below hb1
 obtain ⟨m1,m2⟩:=hm.may _ (List.getElem_mem hi)
 have hgf:GoodF G[i].2.1:=goodF_of m1 fun f hf=>(m2 f hf).2
 have hsz:=h.bel.size
 have hrow:RowP (fun k=>k<w1.heap.size∧¬ S k) w1 A (flds G[i].2.1):=by
  have h2:=RowP.keep (w':=w1) hr.1 fun k hk=>hb1.block k hk.lt
  exact h2.imp fun k hk=>⟨by have :=hk.lt;have :=hb1.size;omega,fun hs=>by have :=h.ge k hs;have :=hk.1;omega⟩
 refine (buf_Add h1.buf G[i] A _ c rfl hc hrow hr.2 (by have :=hgf.len;omega) m2 hlen).mono ?_
 rintro e w' ⟨rfl,_,h2⟩
 have hme:mayE up G[i]=0:=by unfold mayE;rw [if_neg (by rw [m1];decide),if_neg (by omega)]
 rw [hme] at h2 ⊢
 obtain ⟨S',hb',hS,ho⟩:=h2 rfl
 have hbw:=ho.below h1.ge h1.bel.size
 exact ⟨rfl,S',⟨hb',fun k hk=>(hS k hk).elim (h1.ge k) fun hk=>by have :=h1.bel.size;omega,h1.own.keeps fun k hk _=>hbw.block k hk,h1.bel.trans hbw⟩,hS,ho⟩
end
theorem rises_seq:∀ {l:List Int} {x:Int} {i:Nat},risesZ x l=true→(hi:i<l.length)→x<l[i]∧∀ j (hj:j<l.length),j<i→l[j]<l[i]
 |[],_,_,_,hi=>by simp at hi
 |y::l,x,i,h,hi=>by
  rw [risesZ,Bool.and_eq_true,decide_eq_true_iff] at h
  cases i with
  |zero=>exact ⟨h.1,fun j _ hj=>by omega⟩
  |succ i=>
   have ih:=rises_seq (i:=i) h.2 (by simpa using hi)
   refine ⟨by have :=ih.1;simp only [zC];omega,fun j hj hji=> ?_⟩
   cases j with
   |zero=>exact ih.1
   |succ j=>exact ih.2 j (by simpa using hj) (by omega)
theorem AddOk.next {G:List En} (h:AddOk G) {i:Nat} (hi:i<G.length):0≤G[i].2.2∧lastE (G.take i)<G[i].2.2:=by
 have hl:i<(G.map (·.2.2)).length:=by simpa using hi
 obtain ⟨h1,h2⟩:=rises_seq h.rise hl
 simp only [List.getElem_map] at h1 h2
 refine ⟨by omega,?_⟩
 rcases Nat.eq_zero_or_pos i with rfl|hp
 ·simp [lastE_nil];omega
 ·have hlt:0<(G.take i).length:=by rw [List.length_take];omega
  rw [lastE_at hlt]
  have hlen:(G.take i).length=i:=by rw [List.length_take];omega
  simp only [hlen,List.getElem_take]
  exact h2 (i-1) (by simp;omega) (by omega)
end Go.Proofs.YtmoomnpbiifedaaGreat
set_option linter.unusedVariables false
namespace Go.Proofs.YtmoomnpbiifedaaGreat
open Go Go.RowKit
theorem seg_made {w w6:World} {x:PartsP} {A1 A2 A3:Option Addr} {n1 n2 n3 c1 c2 c3:Nat} {bl:List Nat} (e1:x.ids.length=n1) (e2:x.seqs.length=n2) (e3:x.keys.length=n3) (hb:Below w.heap.size w w6) (h1:Row w6 w6.heap.size A1 (ints x.ids)) (hc1:n1≤c1) (h2:Row w6 w6.heap.size A2 (ints x.seqs)) (hc2:n2≤c2)
  (h3:Row w6 w6.heap.size A3 (entP x.keys bl)) (hbl:bl.length=x.keys.length) (hc3:n3≤c3) (hx3:c3≤maxLen) (hA3:A3=none∧x.keys=[]∧c3=0∨∃ g,A3=some ⟨g,0,none⟩)
  (hl:∀ i (h:i<x.lists.length),LAt w6 0 (bl.getD i 0) (bytesP (-1) x.lists[i]) x.lists[i]) (hm:mayPs x=true) (hs:PSmall x):
  MadeSeg x w (.returned (.tuple #[.pointer (some ⟨w6.heap.size,0,none⟩),.int .i64 0])) (w6.alloc (.cells #[.slice A1 n1 c1,.slice A2 n2 c2,.slice A3 n3 c3] 76)):=by
 subst e1 e2 e3
 have hal:Below w6.heap.size w6 (w6.alloc (.cells #[.slice A1 x.ids.length c1,.slice A2 x.seqs.length c2,.slice A3 x.keys.length c3] 76)):=(Below.refl _ _).alloc (Nat.le_refl _) _
 have hblk:=heap_alloc_new w6 (.cells #[.slice A1 x.ids.length c1,.slice A2 x.seqs.length c2,.slice A3 x.keys.length c3] 76)
 refine ⟨_,rfl,⟨⟨A1,c1,A2,c2,A3,c3,hblk,hc1,hc2,Row.later h1 hal,Row.later h2 hal⟩,⟨bl,⟨by simp,hbl,A3,c3,(cells3 hblk).2.2,hc3,hx3,Row.later h3 hal,hA3⟩,fun i hi=>⟨0,(hl i hi).below hal⟩⟩,hm,hs⟩,hb.size,hb.trans (hal.mono hb.size)⟩
set_option maxHeartbeats 8000000 in
set_option maxRecDepth 100000 in
theorem seg_Make (A1 A2 A3 A4:Option Addr) (n1 c1 n2 c2 n3 c3 n4 c4:Nat) (x:PartsP) (w:World)
    (hx1:x.ids.length=n1) (hx2:x.seqs.length=n2) (hx3:x.keys.length=n3) (hx4:x.lists.length=n4) (hx:PAt w w.heap.size A1 A2 A3 A4 x) (fx:PFew x) (hs:PSmall x) (hm:mayPs x=true):
    Calls Tryz.prog 9 #[.agg #[.slice A1 n1 c1,.slice A2 n2 c2,.slice A3 n3 c3,.slice A4 n4 c4]] w (MadeSeg x w):=by
  obtain ⟨i0,hi0,hz0,hz1,hz2⟩:=info_parts info_listp
  obtain ⟨m12,m34,_,mk,ml⟩:=mayPs_iff.1 hm
  have hk:n3≤1048576:=hx3▸hs.keys
  have h43:n4=n3:=by omega
  have h21:n2=n1:=by omega
  subst h43 h21
  obtain ⟨V,hV⟩:∃ V:Array Value,V=#[.slice A1 n2 c1,.slice A2 n2 c2,.slice A3 n4 c3,.slice A4 n4 c4]:=⟨_,rfl⟩
  obtain ⟨w1,hw1⟩:∃ w1,w1=w.alloc (.cells #[.slice A1 n2 c1,.slice A2 n2 c2,.slice A3 n4 c3,.slice A4 n4 c4] 34):=⟨_,rfl⟩
  have hb1:Below w.heap.size w w1:=by rw [hw1];exact (Below.refl _ w).alloc (Nat.le_refl _) _
  have hM:=seg_May A1 A2 A3 A4 n2 c1 n2 c2 n4 c3 n4 c4 x w1 hx1 hx2 hx3 hx4 (hx.later hb1) fx hk
  rw [hm] at hM
  have HM:=Lib.hid hM
  have HB1:Hid (SBox w w.heap.size V w1):=Lib.hid (by rw [hw1,hV];exact sBox_start w _)
  have HW1:=Lib.hid hw1
  have HX:=Lib.hid hx
  have HV:=Lib.hid hV
  have H1:=Lib.hid hx1
  have H2:=Lib.hid hx2
  have H3:=Lib.hid hx3
  have H4:=Lib.hid hx4
  have HML:=Lib.hid ml
  have HMK:=Lib.hid mk
  have HMM:=Lib.hid hm
  have HS:=Lib.hid hs
  have hn2:n2≤1048576:=hx1▸hs.ids
  clear hM hw1 hb1 hx fx hx1 hx2 hx3 hx4 hm mk ml m12 m34 hV hs
  have QS:Hid (∀ wr,SBox w w.heap.size V wr→wr.cell? ⟨w.heap.size,0,none⟩=some (.slice A1 n2 c1)∧wr.cell? ⟨w.heap.size,1,none⟩=some (.slice A2 n2 c2)∧wr.cell? ⟨w.heap.size,2,none⟩=some (.slice A3 n4 c3)∧wr.cell? ⟨w.heap.size,3,none⟩=some (.slice A4 n4 c4)):=Lib.hid fun wr h=>by
    obtain ⟨_,_,h2⟩:=h
    rw [HV.out] at h2
    exact cells4 h2
  go_enter Tryz.func9,Tryz.ntmps9
  go_wp2_with (go_at_call 11; rw [show w.alloc _ = w1 from HW1.out.symm]; refine HM.out.mono ?_; rintro e w2 ⟨rfl, hb2⟩
               have HB2:Hid (SBox w w.heap.size V w2):=Lib.hid (HB1.out.below hb2)
               clear hb2
               obtain ⟨q0,q1,q2,q3⟩:=QS.out _ HB2.out
               obtain ⟨w3,hrun,hown3,hgrow3⟩:=run_make_own (P:=Tryz.prog) w2 w.heap.size 64 65 i0 _ 1 Tryz.underlying64 hi0 hz0 hz1 .i64 .i64 n4 (by rw [hz2];omega) (by unfold maxLen;omega) HB2.out.1.size
               have hb3:Below w2.heap.size w2 w3:=(Below.refl _ w2).grown hgrow3 (Nat.le_refl _) (fun k hk=>by cases hk)
               have HB3:Hid (SBox w w.heap.size V w3):=Lib.hid (HB2.out.below hb3)
               have HOWN3:=Lib.hid hown3
               clear hown3 hgrow3 hb3
               obtain ⟨p0,p1,p2,p3⟩:=QS.out _ HB3.out)
  clear hrun q0 q1 q2 q3
  go_loopw [4,21] (fun vl i wr=>MkRel w V x.lists vl i wr) (fun _ i _=>n4-(intOf i).toNat)
  case atStart=>exact ⟨0,[],Nat.zero_le _,rfl,rfl,HOWN3.out,fun j _ hj=>by omega,HB3.out⟩
  case round=>
    obtain ⟨k,bl,hk',rfl,hmk⟩:=hrel
    rw [H4.out] at hk'
    have hsz:=hmk.box.1.size
    by_cases hlt:k<n4
    · have hkl:k<x.lists.length:=by rw [H4.out];exact hlt
      obtain ⟨b1,o1,A',c',rfl,hb1,hc1,hl1,hp1⟩:=(HX.out.lists.below hmk.box.1).at_ hkl
      have f1:=HS.out.lists _ (List.getElem_mem hkl)
      have hk0:(0:Int)≤k:=by omega
      have hk1:(k:Int)<n4:=by omega
      have f2:=(mayL_may (HML.out _ (List.getElem_mem hkl))).1
      obtain ⟨L,hL⟩:∃ L,L=x.lists[k]:=⟨_,rfl⟩
      rw [← hL] at hc1 hl1 hp1 f1 f2
      obtain ⟨m,hm⟩:∃ m,m=L.length:=⟨_,rfl⟩
      rw [← hm] at hc1 hl1
      have HP:=Lib.hid (posting_Make A' m c' L wr hm.symm hl1.1 hl1.2 (by omega) (hp1.more hsz) f1.2 f2)
      have HMKA:=Lib.hid hmk
      have HKL:=Lib.hid hkl
      have HL:=Lib.hid hL
      clear hm f1 f2 hl1 hp1 hmk hL
      go_wp2_with (first
        | (go_at_call 24; refine HP.out.mono ?_; rintro e w5 ⟨B, rfl, hB, hb5⟩
           have HMK5:=Lib.hid (HMKA.out.below hb5)
           have HB5:=Lib.hid (hB.low (Nat.zero_le _))
           clear hB hb5)
        |(at_builtin;refine wpList_append_own _ rfl (.tmp 30) (.tmp 32) 64 rfl w.heap.size 65 i0 _ 1 8 Tryz.underlying64 hi0 hz0 hz1 hz2 rfl (by omega) _ k (ptrs bl) rfl (HMK5.out.own.alloc _) ⟨w5.heap.size,0,none⟩ 1 1 [.pointer (some ⟨B,0,none⟩)] rfl rfl (news_at w5 [.pointer (some ⟨B,0,none⟩)] 65) (by intro u hu;simp at hu;subst hu;rfl) (by unfold maxLen;omega) (by omega) (by have :=HMK5.out.box.1.size;simp;omega) ?_))
      intro v' w6 hown6 hgrow6 hz6
      clear hz6
      have hal5:Below w5.heap.size w5 (w5.alloc (.cells #[.pointer (some ⟨B,0,none⟩)] 65)):=(Below.refl _ _).alloc (Nat.le_refl _) _
      have hmk6:=(HMK5.out.below hal5).push HKL.out (B:=B) (by have :=HB5.out.below hal5;rwa [HL.out] at this) hown6 hgrow6
      have HMK6:=Lib.hid hmk6
      clear hal5 hmk6 hown6 hgrow6
      go_wp2
      go_roundw
      case rel=>exact ⟨k+1,_,by rw [H4.out];omega,by go_num,HMK6.out⟩
      case measure=>simp [intOf];omega
    · have hkn:k=n4:=by omega
      subst hkn
      have hown:=hmk.own
      obtain ⟨Al,cl,rfl,hcl,hrl⟩:=owned_row hown
      have HMKA:=Lib.hid hmk
      have hbl:=hmk.len
      have HBLL:Hid (bl.length=k):=Lib.hid hbl
      have HD:=Lib.hid (dictP_Make A3 Al k c3 cl x.keys bl wr ((HX.out.later hmk.box.1).keys) H3.out hk hrl hbl HMK.out)
      obtain ⟨q0,q1,q2,q3⟩:=QS.out _ hmk.box
      clear hmk hown hrl hbl
      go_wp2_with (go_at_call 25; refine HD.out.mono ?_; rintro e w5 ⟨D, rfl, hd, hb5⟩
                   have HMK5:=Lib.hid (HMKA.out.below hb5)
                   have HDR:=Lib.hid hd
                   clear hd hb5)
      obtain ⟨A5,c5,hd1,hd2,hd3,hd4,hd5⟩:=HDR.out.read
      rw [H3.out] at hd1 hd2
      have HD3:=Lib.hid hd3
      have HD4:=Lib.hid hd4
      have HD5:=Lib.hid hd5
      have hDl:D<w5.heap.size:=by obtain ⟨_,_,v,h,_⟩:=HDR.out;exact lt_of_block h
      have HKD:Hid (∀ w',Below w5.heap.size w5 w'→(w'.cell? ⟨w.heap.size,0,none⟩=some (.slice A1 n2 c1)∧w'.cell? ⟨w.heap.size,1,none⟩=some (.slice A2 n2 c2))∧w'.cell? ⟨D,0,none⟩=some (.slice A5 k c5)):=Lib.hid fun w' h=>by
        have hq:=QS.out _ (HMK5.out.box.below h)
        exact ⟨⟨hq.1,hq.2.1⟩,(h.cell (p:=⟨D,0,none⟩) hDl).trans hd1⟩
      have HC1:Hid (∀ w',Below w5.heap.size w5 w'→Calls Tryz.prog 26 #[.slice A1 n2 c1] w' (GaveIs x.ids w')):=Lib.hid fun w' h=>
        clone_ints10 A1 n2 c1 x.ids w' H1.out ((HX.out.later (HMK5.out.box.below h).1).ids) (by omega)
      have HC2:Hid (∀ w',Below w5.heap.size w5 w'→Calls Tryz.prog 26 #[.slice A2 n2 c2] w' (GaveIs x.seqs w')):=Lib.hid fun w' h=>
        clone_ints10 A2 n2 c2 x.seqs w' H2.out ((HX.out.later (HMK5.out.box.below h).1).seqs) (by omega)
      have HB0:Hid (Below w5.heap.size w5 w5.drew):=Lib.hid (Below.refl _ w5).drew
      have HFIN:Hid (∀ w8,Below w5.heap.size w5 w8→∀ B1 d1 B2 d2,Row w8 w8.heap.size B1 (ints x.ids)→n2≤d1→Row w8 w8.heap.size B2 (ints x.seqs)→n2≤d2→
          MadeSeg x w (.returned (.tuple #[.pointer (some ⟨w8.heap.size,0,none⟩),.int .i64 0])) (w8.alloc (.cells #[.slice B1 n2 d1,.slice B2 n2 d2,.slice A5 k c5] 76))):=Lib.hid fun w8 h B1 d1 B2 d2 r1 r2 r3 r4=>
        seg_made (bl:=bl) H1.out H2.out H3.out (HMK5.out.box.below h).1 r1 r2 r3 r4 (Row.later HD4.out h) (by rw [HBLL.out,H3.out]) hd2 HD3.out HD5.out (fun i hi=>(HMK5.out.at_ i hi (by have :=H4.out;omega)).below h) HMM.out HS.out
      clear hd1 hd3 hd4 hd5 hDl hd2
      go_region_held3 (fun w'=>(w'.cell? ⟨w.heap.size,0,none⟩=some (.slice A1 n2 c1)∧w'.cell? ⟨w.heap.size,1,none⟩=some (.slice A2 n2 c2))∧w'.cell? ⟨D,0,none⟩=some (.slice A5 k c5))
        (first|exact HKD.out _ HB0.out|exact HKD.out _ HB6.out|exact HKD.out _ HB7.out|exact HKD.out _ (HB7.out.alloc HB7.out.size _)|exact HKD.out _ HB8.out|exact HKD.out _ HB9.out|exact HKD.out _ (HB9.out.alloc HB9.out.size _))
        (first
          | (go_at_call 26; (with_reducible refine (HC1.out _ HB0.out).mono ?_); rintro e w6 ⟨B6, d6, rfl, hd6, hr6, hb6⟩
             have HB6:Hid (Below w5.heap.size w5 w6):=Lib.hid (HB0.out.trans hb6)
             have HR6:=Lib.hid hr6
             have HD6:=Lib.hid hd6
             clear hr6 hb6 hd6
             rw [H1.out])
          | (go_at_call 26; (with_reducible refine (HC2.out _ HB6.out).mono ?_); rintro e w7 ⟨B7, d7, rfl, hd7, hr7, hb7⟩
             have HB7:Hid (Below w5.heap.size w5 w7):=Lib.hid (HB6.out.trans (hb7.mono HB6.out.size))
             have HF:=Lib.hid (HFIN.out w7 HB7.out B6 d6 B7 d7 (Row.later HR6.out hb7) (H1.out▸HD6.out) hr7 (H2.out▸hd7))
             clear hr7 hb7 hd7
             rw [H2.out])
          | (go_at_call 26; (with_reducible refine (HC2.out _ HB0.out).mono ?_); rintro e w8 ⟨B8, d8, rfl, hd8, hr8, hb8⟩
             have HB8:Hid (Below w5.heap.size w5 w8):=Lib.hid (HB0.out.trans hb8)
             have HR8:=Lib.hid hr8
             have HD8:=Lib.hid hd8
             clear hr8 hb8 hd8
             rw [H2.out])
          | (go_at_call 26; (with_reducible refine (HC1.out _ HB8.out).mono ?_); rintro e w9 ⟨B9, d9, rfl, hd9, hr9, hb9⟩
             have HB9:Hid (Below w5.heap.size w5 w9):=Lib.hid (HB8.out.trans (hb9.mono HB8.out.size))
             have HF:=Lib.hid (HFIN.out w9 HB9.out B9 d9 B8 d8 hr9 (H1.out▸hd9) (Row.later HR8.out hb9) (H2.out▸HD8.out))
             clear hr9 hb9 hd9
             rw [H1.out]))
      all_goals
        go_wp2
        go_ret2
        exact HF.out
end Go.Proofs.YtmoomnpbiifedaaGreat
set_option linter.unusedVariables false
namespace Go.Proofs.YtmoomnpbiifedaaGreat
open Go Go.RowKit
def GotBuf (w:World) (e:Ending) (w':World):Prop:=∃ S B,e= .returned (.pointer (some ⟨B,0,none⟩))∧BufAt S w' B [] (-1)∧(∀ k,S k→w.heap.size≤k)∧Below w.heap.size w w'
theorem newB (w:World):BufAt (fun k=>k=w.heap.size∨k=w.heap.size+1) ((w.alloc (.map #[] 0)).alloc (.cells #[.slice none 0 0,.map (some w.heap.size),.int .i64 0,.int .i64 (-1)] 144)) (w.heap.size+1) [] (-1):=by
 refine ⟨.slice none 0 0,w.heap.size,0,[],?_,.inr rfl,OwnES.nil,⟨[],?_,.inl rfl,rfl,fun i e p h=>(by simp at h),fun i j e f k _ h=>(by simp at h)⟩,Stand.nil,fun q h=>(by cases h),by decide,fun h=>absurd rfl h,fun k h=>by simp;omega⟩
 ·simpa [weightE] using heap_alloc_new (w.alloc (.map #[] 0)) (.cells #[.slice none 0 0,.map (some w.heap.size),.int .i64 0,.int .i64 (-1)] 144)
 ·unfold MapK
  rw [Below.heap_alloc _ _ _ (by simp)]
  exact heap_alloc_new w _
theorem buf_New (w:World):Calls Tryz.prog 49 #[] w (GotBuf w):=by
 have HF:=Lib.hid (newB w)
 have HB:Hid (Below w.heap.size w ((w.alloc (.map #[] 0)).alloc (.cells #[.slice none 0 0,.map (some w.heap.size),.int .i64 0,.int .i64 (-1)] 144))):=Lib.hid (((Below.refl _ _).alloc (Nat.le_refl _) _).alloc (by simp) _)
 have hmm:=@run_makeMap Tryz.prog
 go_enter Tryz.func49,Tryz.ntmps49
 go_wp2
 go_ret
 exact ⟨_,_,rfl,HF.out,fun k h=>by omega,HB.out⟩
end Go.Proofs.YtmoomnpbiifedaaGreat
