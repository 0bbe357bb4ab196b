import Derived.Test.YtmoomnpbiifedaaGreatMVZz
import Derived.Test.YtmoomnpbiifedaaGreatMVQ08
import Derived.Test.YtmoomnpbiifedaaGreatMVQ09
import Derived.Deep.RegionHeld3
import Derived.Deep.AppendLies
import Derived.BigQuiet
import Derived.Test.YtmoomnpbiifedaaGreatMVQ04
import Derived.Test.YtmoomnpbiifedaaGreatMVQ05
import Derived.Test.YtmoomnpbiifedaaGreatMVQ03
import Derived.Test.YtmoomnpbiifedaaGreatMVQ02
namespace Go.Proofs.YtmoomnpbiifedaaGreat
open Go Go.RowKit
set_option linter.unusedVariables false
def GotAddB (S:Nat→Prop) (B:Nat) (l:List En) (up:Int) (q:En) (w:World) (e:Ending) (w':World):Prop:=
 e= .returned (.int .i64 (mayE up q))∧(mayE up q≠0→Below w.heap.size w w')∧(mayE up q=0→∃ S',BufAt S' w' B (l++[q]) q.2.2∧(∀ k,S' k→S k∨w.heap.size≤k)∧OnlyIn S w w')
set_option maxHeartbeats 8000000 in
set_option maxRecDepth 100000 in
theorem buf_Add {S:Nat→Prop} {w:World} {B:Nat} {l:List En} {up:Int} (h:BufAt S w B l up) (q:En) (A:Option Addr) (n cp:Nat) (hl:q.2.1.length=n) (hncp:n≤cp) (hf:RowP (fun k=>k<w.heap.size∧¬ S k) w A (flds q.2.1)) (hA:A=none∨∃ b o,A=some ⟨b,o,none⟩)
    (hn:n≤1048576) (ht:∀ f∈q.2.1,f.1.length≤1024∧f.2.length≤1024) (hlen:l.length≤1000):
    Calls Tryz.prog 50 #[.pointer (some ⟨B,0,none⟩),.agg #[.int .i64 q.1,.slice A n cp,.int .i64 q.2.2]] w (GotAddB S B l up q w):=by
  obtain ⟨t0,hi0,hz0,hz1,hz2⟩:=info_parts info_entry
  obtain ⟨v,M,c,g,hb⟩:=h
  obtain ⟨id,fs,seq⟩:=q
  simp only at hl hf ht ⊢
  have hBlt:=lt_of_block hb.cells
  obtain ⟨w1,hw1⟩:∃ w1,w1=w.alloc (.cells #[.int .i64 id,.slice A n cp,.int .i64 seq] 55):=⟨_,rfl⟩
  have hb1:Below w.heap.size w w1:=by rw [hw1];exact (Below.refl _ _).alloc (Nat.le_refl _) _
  have hfr:FRow w w.heap.size A fs:=hf.imp fun k hk=>hk.1
  have hat1:AddAt S B M c (id,fs,seq) A cp v l (weightE l) up g w w1:=by
    refine ⟨(hb1.block _ hBlt).trans hb.cells,(hb.own.keeps fun k _ hk=>hb1.block k hk).imp fun k hk=> .inl hk,(hb.map.keep fun k _ hk=>hb1.block k hk).imp fun k hk=> .inl hk,OnlyIn.of_below hb1,?_,hb.mine,hfr.below hb1,fun e=> ?_⟩
    · rw [hw1,hl]
      exact heap_alloc_new w _
    · obtain ⟨cs,r1,_⟩:=hb.own
      exact absurd (r1.lt _ e).2 (Nat.lt_irrefl _)
  have HM:Hid (∀ w',Below w1.heap.size w1 w'→Calls Tryz.prog 85 #[docV id A n cp] w' fun e w''=>e= .returned (.int .i64 (mayD fs))∧Below w'.heap.size w' w''):=Lib.hid fun w' h=>doc_May id A n cp fs w' hl ((hfr.later hb1).later h) (by omega) hncp fun f hf=>by have :=ht f hf;omega
  have HG:Hid (∀ e w',GotAddB S B l up (id,fs,seq) w e w'↔(e= .returned (.int .i64 (if mayD fs≠0 then mayD fs else if seq<0∨seq≤up then 12 else 0))∧((if mayD fs≠0 then mayD fs else if seq<0∨seq≤up then 12 else 0)≠0→Below w.heap.size w w')∧((if mayD fs≠0 then mayD fs else if seq<0∨seq≤up then 12 else 0)=0→∃ S',BufAt S' w' B (l++[(id,fs,seq)]) seq∧(∀ k,S' k→S k∨w.heap.size≤k)∧OnlyIn S w w'))):=Lib.hid fun e w'=>Iff.rfl
  have hGF:mayD fs=0→GoodF fs:=fun h=>goodF_of h fun f hf=>(ht f hf).2
  have hup:=hb.up1
  have HGF:=Lib.hid hGF
  have HAT:=Lib.hid hat1
  have HBI:=Lib.hid hb
  have HF:=Lib.hid hf
  have HL:=Lib.hid hl
  have HB1:=Lib.hid hb1
  obtain ⟨q0,q1,q2⟩:=three_cells hat1.ent
  simp only [hl] at q0 q1 q2
  have HW1:=Lib.hid hw1
  clear hGF hat1 hb hf hl hb1 ht hfr hw1
  obtain ⟨E,hE⟩:∃ E,E=mayD fs:=⟨_,rfl⟩
  rw [← hE] at HM HG HGF
  clear hE
  go_enter Tryz.func50,Tryz.ntmps50
  rw [HW1.out] at q0 q1 q2
  go_upto_region 2 with (first
    | (go_at_call 85; rw [show w.alloc _ = w1 from HW1.out.symm]; (with_reducible refine (HM.out _ (Below.refl _ _)).mono ?_); rintro e w2 ⟨rfl, hb2⟩
       have HAT2:=Lib.hid (HAT.out.below hb2)
       have HB2:=Lib.hid (HB1.out.trans (hb2.mono HB1.out.size))
       clear hb2))
  by_cases hE0:E=0
  · subst hE0
    clear q0 q1 q2
    obtain ⟨q0,q1,q2⟩:=three_cells HAT2.out.ent
    obtain ⟨c0,c1,c2,c3,f0,f1,f2,f3⟩:=four_cells HAT2.out.cells
    simp only [HL.out] at q0 q1 q2
    by_cases hs:seq≤up
    · have hz:(if (0:Int)≠0 then 0 else if seq<0∨seq≤up then (12:Int) else 0)=12:=by rw [if_neg (by decide),if_pos (.inr hs)]
      have HZ:=Lib.hid hz
      clear hz
      go_upto_region 4 with fail
      go_quiet (fail)
      go_wp2
      go_ret
      rw [HZ.out] at HG
      exact (HG.out _ _).2 ⟨rfl,fun _=>HB2.out.trans ((drewN_below _ _).mono HB2.out.size),fun h=>absurd h (by decide)⟩
    · have hs1:up<seq:=by omega
      have hz:(if (0:Int)≠0 then 0 else if seq<0∨seq≤up then (12:Int) else 0)=0:=by rw [if_neg (by decide),if_neg (by omega)]
      rw [hz] at HG
      have hgf:=HGF.out rfl
      have HGOOD:=Lib.hid hgf
      obtain ⟨Av,cv,hv,hcv,_⟩:=HAT2.out.own.nest
      subst hv
      clear hs hz hgf
      go_upto_region 4 with fail
      go_quiet (fail)
      generalize hw:World.drewN _ nq=w3
      have hb3:Below w2.heap.size w2 w3:=by rw [← hw];exact drewN_below _ _
      have HAT3:=Lib.hid (HAT2.out.below hb3)
      clear hw hb3 q0 q1 q2 c0 c1 c2 c3 f0 f1 f2 f3
      have HAT3D:Hid (AddAt S B M c (id,fs,seq) A cp (.slice Av l.length cv) l (weightE l) up g w w3.drew):=Lib.hid (HAT3.out.below (Below.refl _ w3).drew)
      have HT:Hid (Calls Tryz.prog 86 #[.pointer (some ⟨B,0,none⟩),docV id A n cp,.int .i64 (l.length:Int)] w3.drew (GotTurn (fun k=>S k∨Since w.heap.size w3.drew k) M c l.length fs g w3.drew)):=Lib.hid (buf_turn _ B M c g _ _ _ id A n cp fs l.length w3.drew HAT3D.out.cells HAT3D.out.map HGOOD.out HL.out HAT3D.out.row hlen fun key=>by
        rw [HBI.out.stand.posts key]
        have h1:=postsE_length (l:=l) (i:=0) (key:=key) (M:=4000) fun q hq=>terms_len9 (HBI.out.good q hq)
        have h2:l.length*4000≤1000*4000:=Nat.mul_le_mul_right _ hlen
        omega)
      obtain ⟨q0,q1,q2⟩:=three_cells HAT3.out.ent
      obtain ⟨c0,c1,c2,c3,f0,f1,f2,f3⟩:=four_cells HAT3.out.cells
      simp only [HL.out] at q0 q1 q2
      go_upto_region 6 with fail
      go_region_held3 (fun w'=>w'.cell? ⟨w.heap.size,0,none⟩=some (.int .i64 id)∧w'.cell? ⟨w.heap.size,1,none⟩=some (.slice A n cp)∧w'.cell? ⟨w.heap.size,2,none⟩=some (.int .i64 seq)∧w'.cell? ⟨B,0,none⟩=some (.slice Av l.length cv))
        (first|exact ⟨q0,q1,q2,c0⟩|exact HS4.out)
        (first
          | (go_at_call 86; (with_reducible refine HT.out.mono ?_); rintro e w4 ⟨rfl, hm4, ho4⟩
             have hat4:=HAT3D.out.turned HF.out hm4 ho4
             have HAT4:=Lib.hid hat4
             have HS4:Hid (w4.cell? ⟨w.heap.size,0,none⟩=some (.int .i64 id)∧w4.cell? ⟨w.heap.size,1,none⟩=some (.slice A n cp)∧w4.cell? ⟨w.heap.size,2,none⟩=some (.int .i64 seq)∧w4.cell? ⟨B,0,none⟩=some (.slice Av l.length cv)):=Lib.hid (by
               obtain ⟨q0,q1,q2⟩:=three_cells hat4.ent
               simp only [HL.out] at q0 q1 q2
               exact ⟨q0,q1,q2,(four_cells hat4.cells).1⟩)
             clear hm4 ho4 hat4))
      clear q0 q1 q2 c0 c1 c2 c3 f0 f1 f2 f3
      have hs4:=HAT4.out.only.size
      obtain ⟨GG,hGG⟩:∃ GG,GG=turnP l.length fs g (termsD fs):=⟨_,rfl⟩
      rw [← hGG] at HAT4
      have HGG:=Lib.hid hGG
      clear hGG
      have t4:=(four_cells HAT4.out.cells).1
      have HS4':Hid (w4.cell? ⟨w.heap.size,0,none⟩=some (.int .i64 id)∧w4.cell? ⟨w.heap.size,1,none⟩=some (.slice A n cp)∧w4.cell? ⟨w.heap.size,2,none⟩=some (.int .i64 seq)):=Lib.hid ⟨HS4.out.1,HS4.out.2.1,HS4.out.2.2.1⟩
      clear HS4
      have HS4:=HS4'
      clear HS4'
      have HCL:Hid (Calls Tryz.prog 87 #[.agg #[.int .i64 id,.slice A n cp,.int .i64 seq]] w4.drew (GotEn id fs seq w4.drew)):=Lib.hid (buf_clone id A n cp fs seq w4.drew HL.out HAT4.out.row hA hn)
      have HAFT:Hid (∀ (w5:World) (A5:Option Addr) (c5:Nat),fs.length≤c5∧c5≤maxLen→OwnFd w4.drew.heap.size w5 (.slice A5 fs.length c5) fs→Below w4.drew.heap.size w4.drew w5→
          w5.cell? ⟨B,0,none⟩=some (.slice Av l.length cv)∧(∀ o,(w5.alloc o).cell? ⟨B,0,none⟩=some (.slice Av l.length cv))∧(w5.cell? ⟨w.heap.size,0,none⟩=some (.int .i64 id)∧w5.cell? ⟨w.heap.size,1,none⟩=some (.slice A n cp)∧w5.cell? ⟨w.heap.size,2,none⟩=some (.int .i64 seq))∧(∀ o,((w5.alloc o).cell? ⟨w.heap.size,0,none⟩=some (.int .i64 id)∧(w5.alloc o).cell? ⟨w.heap.size,1,none⟩=some (.slice A n cp)∧(w5.alloc o).cell? ⟨w.heap.size,2,none⟩=some (.int .i64 seq)))∧
          (∃ cs,w5.ownsRow 0 55 3 (.slice Av l.length cv) l.length cs∧∀ (gg cap:Nat) (w7:World),w7.ownsRow 0 55 3 (.slice (some ⟨gg,0,none⟩) (l.length+1) cap) (l.length+1) (cs++[.int .i64 id,.slice A5 fs.length c5,.int .i64 seq])→
            (w5.alloc (.cells #[.int .i64 id,.slice A5 fs.length c5,.int .i64 seq] 55)).grownBy w7 (Value.slice Av l.length cv).ownBlock→((Value.slice Av l.length cv).ownBlock=some gg∨gg=w5.heap.size+1)→gg<w7.heap.size→
            w7.heap[B]?=some (.cells #[.slice Av l.length cv,.map (some M),.int .i64 (weightE l:Int),.int .i64 up] 144 (0,0))∧(w7.cell? ⟨w.heap.size,0,none⟩=some (.int .i64 id)∧w7.cell? ⟨w.heap.size,1,none⟩=some (.slice A n cp)∧w7.cell? ⟨w.heap.size,2,none⟩=some (.int .i64 seq))∧((w7.setCell ⟨B,0,none⟩ (.slice (some ⟨gg,0,none⟩) (l.length+1) cap)).cell? ⟨w.heap.size,0,none⟩=some (.int .i64 id)∧(w7.setCell ⟨B,0,none⟩ (.slice (some ⟨gg,0,none⟩) (l.length+1) cap)).cell? ⟨w.heap.size,1,none⟩=some (.slice A n cp)∧(w7.setCell ⟨B,0,none⟩ (.slice (some ⟨gg,0,none⟩) (l.length+1) cap)).cell? ⟨w.heap.size,2,none⟩=some (.int .i64 seq))∧
            AddAt S B M c (id,fs,seq) A cp (.slice (some ⟨gg,0,none⟩) (l.length+1) cap) (l++[(id,fs,seq)]) (weightE l) up GG w (w7.setCell ⟨B,0,none⟩ (.slice (some ⟨gg,0,none⟩) (l.length+1) cap)))∧True):=Lib.hid fun w5 A5 c5 hc5 ho5 hb5=>by
        have hat5:=HAT4.out.below ((Below.refl _ w4).drew.trans hb5)
        have hcell:∀ {wx:World},wx.heap[w.heap.size]?=some (.cells #[.int .i64 id,.slice A fs.length cp,.int .i64 seq] 55 (0,0))→(wx.cell? ⟨w.heap.size,0,none⟩=some (.int .i64 id)∧wx.cell? ⟨w.heap.size,1,none⟩=some (.slice A n cp)∧wx.cell? ⟨w.heap.size,2,none⟩=some (.int .i64 seq)):=fun {wx} h=>by
          have :=three_cells h
          rw [HL.out] at this
          exact this
        have hal:∀ o,Below w5.heap.size w5 (w5.alloc o):=fun o=>(Below.refl _ _).alloc (Nat.le_refl _) o
        obtain ⟨cs,hown5,hpush⟩:=hat5.push HF.out hBlt (ho5.low hs4) hc5
        refine ⟨(four_cells hat5.cells).1,fun o=>(four_cells (hat5.below (hal o)).cells).1,hcell hat5.ent,fun o=>hcell (hat5.below (hal o)).ent,⟨cs,hown5,fun gg cap w7 h1 h2 h3 h4=> ?_⟩,trivial⟩
        obtain ⟨k1,k2,k3⟩:=hpush gg cap w7 h1 h2 h3 h4
        exact ⟨k1,hcell k2,hcell k3.ent,k3⟩
      go_upto_region 7 with fail
      go_cut [] from 28 to 38 (fun wx=>∃ (V:Value),AddAt S B M c (id,fs,seq) A cp V (l++[(id,fs,seq)]) (weightE l) up GG w wx)
      case first=>
        refine wp_region_held_drew (S:=(fun w'=>w'.cell? ⟨w.heap.size,0,none⟩=some (.int .i64 id)∧w'.cell? ⟨w.heap.size,1,none⟩=some (.slice A n cp)∧w'.cell? ⟨w.heap.size,2,none⟩=some (.int .i64 seq))) (by kernel_rfl) HS4.out (fun hHeld0=> ?_)
        refine wpAnyH_take (i:=0) (v:= .pointer (some ⟨B,0,none⟩)) rfl (by kernel_rfl) (by kernel_rfl) (by kernel_rfl) (fun _ _ _ h=>h) (Or.inl ⟨by rfl,fun wx hSw=>by obtain ⟨s1,s2,s3⟩:=hSw;go_simp⟩) (by assumption) ?_
        try simp only [Act.put,zA,zB,zD,zE,zF]
        refine wpAnyH_take (i:=1) (v:= .pointer (some ⟨B,0,none⟩)) rfl (by kernel_rfl) (by kernel_rfl) (by kernel_rfl) (fun _ _ _ h=>h) (Or.inl ⟨by rfl,fun wx hSw=>by obtain ⟨s1,s2,s3⟩:=hSw;go_simp⟩) (by assumption) ?_
        try simp only [Act.put,zA,zB,zC,zD,zE,zF]
        refine wpAnyH_take (i:=2) (v:= .pointer (some ⟨B,0,none⟩)) rfl (by kernel_rfl) (by kernel_rfl) (by kernel_rfl) (fun _ _ _ h=>h) (Or.inl ⟨by rfl,fun wx hSw=>by obtain ⟨s1,s2,s3⟩:=hSw;go_simp⟩) (by assumption) ?_
        try simp only [Act.put,zA,zB,zC,zD,zE,zF]
        refine wpAnyH_take (i:=3) (v:= .pointer (some ⟨B,0,none⟩)) rfl (by kernel_rfl) (by kernel_rfl) (by kernel_rfl) (fun _ _ _ h=>h) (Or.inl ⟨by rfl,fun wx hSw=>by obtain ⟨s1,s2,s3⟩:=hSw;go_simp⟩) (by assumption) ?_
        try simp only [Act.put,zA,zB,zC,zD,zE,zF]
        refine wpAnyH_take (i:=5) (v:= .agg #[.int .i64 id,.slice A n cp,.int .i64 seq]) rfl (by kernel_rfl) (by kernel_rfl) (by kernel_rfl) (fun _ _ _ h=>h) (Or.inl ⟨by rfl,fun wx hSw=>by obtain ⟨s1,s2,s3⟩:=hSw;go_simp⟩) (by assumption) ?_
        try simp only [Act.put,zA,zB,zC,zD,zE,zF]
        refine wpAnyH_ready (rs:=[4,6]) (by kernel_rfl) (by simp) ?_
        refine AllReadyH.cons rfl (fun K hK=> ?_) (AllReadyH.cons rfl (fun K hK=> ?_) AllReadyH.nil)
        · try simp only [zA,zB,zC]
          go_simp
          refine hK.out _ _ ?_ (fun hHeld1=> ?_)
          · exact HS4.out
          clear hK K
          try simp only [Act.put,zA,zB,zC,zD,zE,zF]
          refine wpAnyH_ready (rs:=[6]) (by kernel_rfl) (by simp) ?_
          refine AllReadyH.cons rfl (fun K hK=> ?_) AllReadyH.nil
          try simp only [zA,zB,zC]
          go_simp
          go_at_call 87
          (with_reducible refine HCL.out.mono ?_)
          rintro e w5 ⟨A5,c5,rfl,hc5,ho5,hb5⟩
          obtain ⟨h50,h51,h52,h53,h54,h55⟩:=HAFT.out w5 A5 c5 hc5 ho5 hb5
          have t5:=h50
          have t6:=h51
          have HS5:=Lib.hid h52
          have HS6:=Lib.hid h53
          have HOW5:=Lib.hid h54
          have HPU:=Lib.hid h55
          clear h50 h51 h52 h53 h54 h55 ho5 hb5
          go_wp2_with fail
          refine hK.out _ _ ?_ (fun hHeld2=> ?_)
          · exact HS5.out
          clear hK K
          try simp only [Act.put,zA,zB,zC,zD,zE,zF]
          refine wpAnyH_ready (rs:=[7]) (by kernel_rfl) (by simp) ?_
          refine AllReadyH.cons rfl (fun K hK=> ?_) AllReadyH.nil
          try simp only [zA,zB,zC]
          go_simp
          refine hK.out _ _ ?_ (fun hHeld3=> ?_)
          · exact HS6.out _
          clear hK K
          try simp only [Act.put,zA,zB,zC,zD,zE,zF]
          refine wpAnyH_ready (rs:=[8]) (by kernel_rfl) (by simp) ?_
          refine AllReadyH.cons rfl (fun K hK=> ?_) AllReadyH.nil
          try simp only [zA,zB,zC]
          obtain ⟨cs,hown5,hpush⟩:=HOW5.out
          have HPUS:=Lib.hid hpush
          clear hpush
          refine step_append_lies (a:=⟨_,_⟩) _ ?_ (.tmp 32) (.tmp 35) 41 ?_ 0 55 t0 _ 3 40 Tryz.underlying41 hi0 hz0 hz1 hz2 rfl (by omega) (.slice Av l.length cv) l.length cs ?_ (hown5.alloc _)
            ⟨w5.heap.size,0,none⟩ 1 1 [.int .i64 id,.slice A5 fs.length c5,.int .i64 seq] ?_ (by rfl) (World.news_of_block (cs:=#[.int .i64 id,.slice A5 fs.length c5,.int .i64 seq]) (t:=55) (fr:=(0,0)) (heap_alloc_new w5 _)) (by intro u hu;simp at hu;rcases hu with hu|hu|hu<;>(subst hu;rfl))
            (by omega) (by unfold maxLen;omega) (by omega) (by simp) (w5.heap.size+1) (by simp) ?_
          · rfl
          · rfl
          · rfl
          · rfl
          intro gg cap w7 hown7 hg7 hat7 hlt7
          obtain ⟨hB7,hS7,hS8,hat8⟩:=HPUS.out gg cap w7 hown7 hg7 hat7 hlt7
          have s3:=(four_cells hB7).1
          have s4:=(four_cells hB7).2.2.2.2.1
          have HAT8:=Lib.hid hat8
          clear hown7 hg7 hat7 hB7 hat8
          refine hK.out _ _ ?_ (fun hHeld4=> ?_)
          · exact hS7
          clear hK K
          try simp only [Act.put,zD,zE,zF]
          refine wpAnyH_take (i:=9) (v:= .pointer (some ⟨B,0,none⟩)) rfl (by kernel_rfl) (by kernel_rfl) (by kernel_rfl) (fun _ _ _ h=>h) (Or.inl ⟨by rfl,fun wx hSw=>by obtain ⟨s1,s2,s3⟩:=hSw;go_simp⟩) (by assumption) ?_
          try simp only [Act.put,zA,zB,zC,zD,zE,zF]
          refine wpAnyH_take (i:=10) (v:= .pointer (some ⟨B,0,none⟩)) rfl (by kernel_rfl) (by kernel_rfl) (by kernel_rfl) (fun _ _ _ h=>h) (Or.inl ⟨by rfl,fun wx hSw=>by obtain ⟨s1,s2,s3⟩:=hSw;go_simp⟩) (by assumption) ?_
          try simp only [Act.put,zA,zB,zC,zD,zE,zF]
          refine wpAnyH_ready (rs:=[11]) (by kernel_rfl) (by simp) ?_
          refine AllReadyH.cons rfl (fun K hK=> ?_) AllReadyH.nil
          try simp only [zA,zB,zC]
          go_simp
          refine hK.out _ _ ?_ (fun hHeld5=> ?_)
          · exact hS8
          clear hK K
          try simp only [Act.put,zA,zB,zC,zD,zE,zF]
          refine wpAnyH_done (by kernel_rfl) ?_ _
          clear hS7 hS8 s3 s4
          go_wp2_with fail
          go_meet
          exact ⟨_,HAT8.out⟩
        · try simp only [zA,zB,zC]
          go_simp
          go_at_call 87
          (with_reducible refine HCL.out.mono ?_)
          rintro e w5 ⟨A5,c5,rfl,hc5,ho5,hb5⟩
          obtain ⟨h50,h51,h52,h53,h54,h55⟩:=HAFT.out w5 A5 c5 hc5 ho5 hb5
          have t5:=h50
          have t6:=h51
          have HS5:=Lib.hid h52
          have HS6:=Lib.hid h53
          have HOW5:=Lib.hid h54
          have HPU:=Lib.hid h55
          clear h50 h51 h52 h53 h54 h55 ho5 hb5
          go_wp2_with fail
          refine hK.out _ _ ?_ (fun hHeld1=> ?_)
          · exact HS5.out
          clear hK K
          try simp only [Act.put,zA,zB,zC,zD,zE,zF]
          refine wpAnyH_ready (rs:=[4,7]) (by kernel_rfl) (by simp) ?_
          refine AllReadyH.cons rfl (fun K hK=> ?_) (AllReadyH.cons rfl (fun K hK=> ?_) AllReadyH.nil)
          · try simp only [zA,zB,zC]
            go_simp
            refine hK.out _ _ ?_ (fun hHeld2=> ?_)
            · exact HS5.out
            clear hK K
            try simp only [Act.put,zA,zB,zC,zD,zE,zF]
            refine wpAnyH_ready (rs:=[7]) (by kernel_rfl) (by simp) ?_
            refine AllReadyH.cons rfl (fun K hK=> ?_) AllReadyH.nil
            try simp only [zA,zB,zC]
            go_simp
            refine hK.out _ _ ?_ (fun hHeld3=> ?_)
            · exact HS6.out _
            clear hK K
            try simp only [Act.put,zA,zB,zC,zD,zE,zF]
            refine wpAnyH_ready (rs:=[8]) (by kernel_rfl) (by simp) ?_
            refine AllReadyH.cons rfl (fun K hK=> ?_) AllReadyH.nil
            try simp only [zA,zB,zC]
            obtain ⟨cs,hown5,hpush⟩:=HOW5.out
            have HPUS:=Lib.hid hpush
            clear hpush
            refine step_append_lies (a:=⟨_,_⟩) _ ?_ (.tmp 32) (.tmp 35) 41 ?_ 0 55 t0 _ 3 40 Tryz.underlying41 hi0 hz0 hz1 hz2 rfl (by omega) (.slice Av l.length cv) l.length cs ?_ (hown5.alloc _)
              ⟨w5.heap.size,0,none⟩ 1 1 [.int .i64 id,.slice A5 fs.length c5,.int .i64 seq] ?_ (by rfl) (World.news_of_block (cs:=#[.int .i64 id,.slice A5 fs.length c5,.int .i64 seq]) (t:=55) (fr:=(0,0)) (heap_alloc_new w5 _)) (by intro u hu;simp at hu;rcases hu with hu|hu|hu<;>(subst hu;rfl))
              (by omega) (by unfold maxLen;omega) (by omega) (by simp) (w5.heap.size+1) (by simp) ?_
            · rfl
            · rfl
            · rfl
            · rfl
            intro gg cap w7 hown7 hg7 hat7 hlt7
            obtain ⟨hB7,hS7,hS8,hat8⟩:=HPUS.out gg cap w7 hown7 hg7 hat7 hlt7
            have s3:=(four_cells hB7).1
            have s4:=(four_cells hB7).2.2.2.2.1
            have HAT8:=Lib.hid hat8
            clear hown7 hg7 hat7 hB7 hat8
            refine hK.out _ _ ?_ (fun hHeld4=> ?_)
            · exact hS7
            clear hK K
            try simp only [Act.put,zD,zE,zF]
            refine wpAnyH_take (i:=9) (v:= .pointer (some ⟨B,0,none⟩)) rfl (by kernel_rfl) (by kernel_rfl) (by kernel_rfl) (fun _ _ _ h=>h) (Or.inl ⟨by rfl,fun wx hSw=>by obtain ⟨s1,s2,s3⟩:=hSw;go_simp⟩) (by assumption) ?_
            try simp only [Act.put,zA,zB,zC,zD,zE,zF]
            refine wpAnyH_take (i:=10) (v:= .pointer (some ⟨B,0,none⟩)) rfl (by kernel_rfl) (by kernel_rfl) (by kernel_rfl) (fun _ _ _ h=>h) (Or.inl ⟨by rfl,fun wx hSw=>by obtain ⟨s1,s2,s3⟩:=hSw;go_simp⟩) (by assumption) ?_
            try simp only [Act.put,zA,zB,zC,zD,zE,zF]
            refine wpAnyH_ready (rs:=[11]) (by kernel_rfl) (by simp) ?_
            refine AllReadyH.cons rfl (fun K hK=> ?_) AllReadyH.nil
            try simp only [zA,zB,zC]
            go_simp
            refine hK.out _ _ ?_ (fun hHeld5=> ?_)
            · exact hS8
            clear hK K
            try simp only [Act.put,zA,zB,zC,zD,zE,zF]
            refine wpAnyH_done (by kernel_rfl) ?_ _
            clear hS7 hS8 s3 s4
            go_wp2_with fail
            go_meet
            exact ⟨_,HAT8.out⟩
          · try simp only [zA,zB,zC]
            go_simp
            refine hK.out _ _ ?_ (fun hHeld2=> ?_)
            · exact HS6.out _
            clear hK K
            try simp only [Act.put,zA,zB,zC,zD,zE,zF]
            refine wpAnyH_ready (rs:=[4]) (by kernel_rfl) (by simp) ?_
            refine AllReadyH.cons rfl (fun K hK=> ?_) AllReadyH.nil
            try simp only [zA,zB,zC]
            go_simp
            refine hK.out _ _ ?_ (fun hHeld3=> ?_)
            · exact HS6.out _
            clear hK K
            try simp only [Act.put,zA,zB,zC,zD,zE,zF]
            refine wpAnyH_ready (rs:=[8]) (by kernel_rfl) (by simp) ?_
            refine AllReadyH.cons rfl (fun K hK=> ?_) AllReadyH.nil
            try simp only [zA,zB,zC]
            obtain ⟨cs,hown5,hpush⟩:=HOW5.out
            have HPUS:=Lib.hid hpush
            clear hpush
            refine step_append_lies (a:=⟨_,_⟩) _ ?_ (.tmp 32) (.tmp 35) 41 ?_ 0 55 t0 _ 3 40 Tryz.underlying41 hi0 hz0 hz1 hz2 rfl (by omega) (.slice Av l.length cv) l.length cs ?_ (hown5.alloc _)
              ⟨w5.heap.size,0,none⟩ 1 1 [.int .i64 id,.slice A5 fs.length c5,.int .i64 seq] ?_ (by rfl) (World.news_of_block (cs:=#[.int .i64 id,.slice A5 fs.length c5,.int .i64 seq]) (t:=55) (fr:=(0,0)) (heap_alloc_new w5 _)) (by intro u hu;simp at hu;rcases hu with hu|hu|hu<;>(subst hu;rfl))
              (by omega) (by unfold maxLen;omega) (by omega) (by simp) (w5.heap.size+1) (by simp) ?_
            · rfl
            · rfl
            · rfl
            · rfl
            intro gg cap w7 hown7 hg7 hat7 hlt7
            obtain ⟨hB7,hS7,hS8,hat8⟩:=HPUS.out gg cap w7 hown7 hg7 hat7 hlt7
            have s3:=(four_cells hB7).1
            have s4:=(four_cells hB7).2.2.2.2.1
            have HAT8:=Lib.hid hat8
            clear hown7 hg7 hat7 hB7 hat8
            refine hK.out _ _ ?_ (fun hHeld4=> ?_)
            · exact hS7
            clear hK K
            try simp only [Act.put,zD,zE,zF]
            refine wpAnyH_take (i:=9) (v:= .pointer (some ⟨B,0,none⟩)) rfl (by kernel_rfl) (by kernel_rfl) (by kernel_rfl) (fun _ _ _ h=>h) (Or.inl ⟨by rfl,fun wx hSw=>by obtain ⟨s1,s2,s3⟩:=hSw;go_simp⟩) (by assumption) ?_
            try simp only [Act.put,zA,zB,zC,zD,zE,zF]
            refine wpAnyH_take (i:=10) (v:= .pointer (some ⟨B,0,none⟩)) rfl (by kernel_rfl) (by kernel_rfl) (by kernel_rfl) (fun _ _ _ h=>h) (Or.inl ⟨by rfl,fun wx hSw=>by obtain ⟨s1,s2,s3⟩:=hSw;go_simp⟩) (by assumption) ?_
            try simp only [Act.put,zA,zB,zC,zD,zE,zF]
            refine wpAnyH_ready (rs:=[11]) (by kernel_rfl) (by simp) ?_
            refine AllReadyH.cons rfl (fun K hK=> ?_) AllReadyH.nil
            try simp only [zA,zB,zC]
            go_simp
            refine hK.out _ _ ?_ (fun hHeld5=> ?_)
            · exact hS8
            clear hK K
            try simp only [Act.put,zA,zB,zC,zD,zE,zF]
            refine wpAnyH_done (by kernel_rfl) ?_ _
            clear hS7 hS8 s3 s4
            go_wp2_with fail
            go_meet
            exact ⟨_,HAT8.out⟩
      case rest=>
        obtain ⟨wz,rfl⟩:∃ wz,wz=wc:=⟨_,rfl⟩
        obtain ⟨V8,hat8⟩:=hcut
        have hcell:∀ {wx:World},wx.heap[w.heap.size]?=some (.cells #[.int .i64 id,.slice A fs.length cp,.int .i64 seq] 55 (0,0))→(wx.cell? ⟨w.heap.size,0,none⟩=some (.int .i64 id)∧wx.cell? ⟨w.heap.size,1,none⟩=some (.slice A n cp)∧wx.cell? ⟨w.heap.size,2,none⟩=some (.int .i64 seq)):=fun {wx} h=>by
          have :=three_cells h
          rw [HL.out] at this
          exact this
        have hwb:=weightE_le HBI.out.good
        have hwd:=HGOOD.out.weight
        have HWT:=Lib.hid (good_weight9 (id:=id) (c:=cp) (w:=wz.drew) HGOOD.out HL.out hat8.row)
        have hsum:weightE (l++[(id,fs,seq)])=weightE l+weightD fs:=by unfold weightE;simp
        obtain ⟨T,hT⟩:∃ T,T=weightE l:=⟨_,rfl⟩
        obtain ⟨D,hD⟩:∃ D,D=weightD fs:=⟨_,rfl⟩
        rw [← hT] at hwb hat8 hsum
        rw [← hD] at hwd HWT hsum
        have hT5:T≤500000:=by omega
        have HSUM:=Lib.hid hsum
        have hwr:IntKind.i64.wrap ((T:Int)+(D:Int))=(T:Int)+(D:Int):=IntWalk.i64_in _ (by omega)
        have HS8:Hid (wz.cell? ⟨w.heap.size,0,none⟩=some (.int .i64 id)∧wz.cell? ⟨w.heap.size,1,none⟩=some (.slice A n cp)∧wz.cell? ⟨w.heap.size,2,none⟩=some (.int .i64 seq)):=Lib.hid (hcell hat8.ent)
        have t8:=(four_cells hat8.cells).2.2.1
        have HAFT9:Hid (∀ w9,Below wz.drew.heap.size wz.drew w9→w9.cell? ⟨B,2,none⟩=some (.int .i64 (T:Int))∧w9.frozen? ⟨B,2,none⟩=false∧(w9.cell? ⟨w.heap.size,0,none⟩=some (.int .i64 id)∧w9.cell? ⟨w.heap.size,1,none⟩=some (.slice A n cp)∧w9.cell? ⟨w.heap.size,2,none⟩=some (.int .i64 seq))∧AddAt S B M c (id,fs,seq) A cp V8 (l++[(id,fs,seq)]) ((T:Int)+(D:Int)) up GG w (w9.setCell ⟨B,2,none⟩ (.int .i64 ((T:Int)+(D:Int))))∧((w9.setCell ⟨B,2,none⟩ (.int .i64 ((T:Int)+(D:Int)))).cell? ⟨w.heap.size,0,none⟩=some (.int .i64 id)∧(w9.setCell ⟨B,2,none⟩ (.int .i64 ((T:Int)+(D:Int)))).cell? ⟨w.heap.size,1,none⟩=some (.slice A n cp)∧(w9.setCell ⟨B,2,none⟩ (.int .i64 ((T:Int)+(D:Int)))).cell? ⟨w.heap.size,2,none⟩=some (.int .i64 seq))):=Lib.hid fun w9 hb9=>by
          have hat9:=hat8.below ((Below.refl _ wz).drew.trans hb9)
          have h10:=hat9.stored (w':=w9.setCell ⟨B,2,none⟩ (.int .i64 ((T:Int)+(D:Int)))) HF.out hBlt ((T:Int)+(D:Int)) up (by rw [set_at hat9.cells];rfl) (fun k hk=>set_ne (Ne.symm hk)) (by simp) rfl rfl rfl
          exact ⟨(four_cells hat9.cells).2.2.1,(four_cells hat9.cells).2.2.2.2.2.2.1,hcell hat9.ent,h10,hcell h10.ent⟩
        clear hwb hT hD hsum hat8 t4 HS4 HCL HAFT
        go_upto_region 8 with fail
        go_cut [] from 39 to 48 (fun wx=>AddAt S B M c (id,fs,seq) A cp V8 (l++[(id,fs,seq)]) ((T:Int)+(D:Int)) up GG w wx)
        case first=>
          refine wp_region_held_drew (S:=(fun w'=>w'.cell? ⟨w.heap.size,0,none⟩=some (.int .i64 id)∧w'.cell? ⟨w.heap.size,1,none⟩=some (.slice A n cp)∧w'.cell? ⟨w.heap.size,2,none⟩=some (.int .i64 seq))) (by kernel_rfl) HS8.out (fun hHeld0=> ?_)
          refine wpAnyH_take (i:=0) (v:= .pointer (some ⟨B,0,none⟩)) rfl (by kernel_rfl) (by kernel_rfl) (by kernel_rfl) (fun _ _ _ h=>h) (Or.inl ⟨by rfl,fun wx hSw=>by obtain ⟨s1,s2,s3⟩:=hSw;go_simp⟩) (by assumption) ?_
          try simp only [Act.put,zA,zB,zD,zE,zF]
          refine wpAnyH_take (i:=1) (v:= .pointer (some ⟨B,0,none⟩)) rfl (by kernel_rfl) (by kernel_rfl) (by kernel_rfl) (fun _ _ _ h=>h) (Or.inl ⟨by rfl,fun wx hSw=>by obtain ⟨s1,s2,s3⟩:=hSw;go_simp⟩) (by assumption) ?_
          try simp only [Act.put,zA,zB,zC,zD,zE,zF]
          refine wpAnyH_take (i:=2) (v:= .pointer (some ⟨B,2,none⟩)) rfl (by kernel_rfl) (by kernel_rfl) (by kernel_rfl) (fun _ _ _ h=>h) (Or.inl ⟨by rfl,fun wx hSw=>by obtain ⟨s1,s2,s3⟩:=hSw;go_simp⟩) (by assumption) ?_
          try simp only [Act.put,zA,zB,zC,zD,zE,zF]
          refine wpAnyH_take (i:=4) (v:= .pointer (some ⟨w.heap.size,0,none⟩)) rfl (by kernel_rfl) (by kernel_rfl) (by kernel_rfl) (fun _ _ _ h=>h) (Or.inl ⟨by rfl,fun wx hSw=>by obtain ⟨s1,s2,s3⟩:=hSw;go_simp⟩) (by assumption) ?_
          try simp only [Act.put,zA,zB,zC,zD,zE,zF]
          refine wpAnyH_take (i:=5) (v:= .agg #[.int .i64 id,.slice A n cp]) rfl (by kernel_rfl) (by kernel_rfl) (by kernel_rfl) (fun _ _ _ h=>h) (Or.inl ⟨by rfl,fun wx hSw=>by obtain ⟨s1,s2,s3⟩:=hSw;go_simp⟩) (by assumption) ?_
          try simp only [Act.put,zA,zB,zC,zD,zE,zF]
          refine wpAnyH_ready (rs:=[3,6]) (by kernel_rfl) (by simp) ?_
          refine AllReadyH.cons rfl (fun K hK=> ?_) (AllReadyH.cons rfl (fun K hK=> ?_) AllReadyH.nil)
          · try simp only [zA,zB,zC]
            go_simp
            refine hK.out _ _ ?_ (fun hHeld1=> ?_)
            · exact HS8.out
            clear hK K
            try simp only [Act.put,zA,zB,zC,zD,zE,zF]
            refine wpAnyH_ready (rs:=[6]) (by kernel_rfl) (by simp) ?_
            refine AllReadyH.cons rfl (fun K hK=> ?_) AllReadyH.nil
            try simp only [zA,zB,zC]
            go_simp
            go_at_call 88
            (with_reducible refine HWT.out.mono ?_)
            rintro e w9 ⟨rfl,hb9⟩
            obtain ⟨h90,h91,h92,h93,h94⟩:=HAFT9.out w9 hb9
            have t9:=h90
            have u9:=h91
            have HS9:=Lib.hid h92
            have HAT9:=Lib.hid h93
            have HSE:=Lib.hid h94
            clear h90 h91 h92 h93 h94 hb9
            go_wp2_with fail
            refine hK.out _ _ ?_ (fun hHeld2=> ?_)
            · exact HS9.out
            clear hK K
            try simp only [Act.put,zA,zB,zC,zD,zE,zF]
            refine wpAnyH_take (i:=7) (v:= .int .i64 ((T:Int)+(D:Int))) rfl (by kernel_rfl) (by kernel_rfl) (by kernel_rfl) (fun _ _ _ h=>h) (Or.inl ⟨by rfl,fun wx hSw=>by obtain ⟨s1,s2,s3⟩:=hSw;go_simp⟩) (by assumption) ?_
            try simp only [Act.put,zA,zB,zC,zD,zE,zF]
            refine wpAnyH_take (i:=8) (v:= .pointer (some ⟨B,0,none⟩)) rfl (by kernel_rfl) (by kernel_rfl) (by kernel_rfl) (fun _ _ _ h=>h) (Or.inl ⟨by rfl,fun wx hSw=>by obtain ⟨s1,s2,s3⟩:=hSw;go_simp⟩) (by assumption) ?_
            try simp only [Act.put,zA,zB,zC,zD,zE,zF]
            refine wpAnyH_take (i:=9) (v:= .pointer (some ⟨B,2,none⟩)) rfl (by kernel_rfl) (by kernel_rfl) (by kernel_rfl) (fun _ _ _ h=>h) (Or.inl ⟨by rfl,fun wx hSw=>by obtain ⟨s1,s2,s3⟩:=hSw;go_simp⟩) (by assumption) ?_
            try simp only [Act.put,zA,zB,zC,zD,zE,zF]
            refine wpAnyH_ready (rs:=[10]) (by kernel_rfl) (by simp) ?_
            refine AllReadyH.cons rfl (fun K hK=> ?_) AllReadyH.nil
            try simp only [zA,zB,zC]
            go_simp
            refine hK.out _ _ ?_ (fun hHeld3=> ?_)
            · exact HSE.out
            clear hK K
            try simp only [Act.put,zA,zB,zC,zD,zE,zF]
            refine wpAnyH_done (by kernel_rfl) ?_ _
            go_wp2_with fail
            go_meet
            exact HAT9.out
          · try simp only [zA,zB,zC]
            go_simp
            go_at_call 88
            (with_reducible refine HWT.out.mono ?_)
            rintro e w9 ⟨rfl,hb9⟩
            obtain ⟨h90,h91,h92,h93,h94⟩:=HAFT9.out w9 hb9
            have t9:=h90
            have u9:=h91
            have HS9:=Lib.hid h92
            have HAT9:=Lib.hid h93
            have HSE:=Lib.hid h94
            clear h90 h91 h92 h93 h94 hb9
            go_wp2_with fail
            refine hK.out _ _ ?_ (fun hHeld1=> ?_)
            · exact HS9.out
            clear hK K
            try simp only [Act.put,zA,zB,zC,zD,zE,zF]
            refine wpAnyH_ready (rs:=[3]) (by kernel_rfl) (by simp) ?_
            refine AllReadyH.cons rfl (fun K hK=> ?_) AllReadyH.nil
            try simp only [zA,zB,zC]
            go_simp
            refine hK.out _ _ ?_ (fun hHeld2=> ?_)
            · exact HS9.out
            clear hK K
            try simp only [Act.put,zA,zB,zC,zD,zE,zF]
            refine wpAnyH_take (i:=7) (v:= .int .i64 ((T:Int)+(D:Int))) rfl (by kernel_rfl) (by kernel_rfl) (by kernel_rfl) (fun _ _ _ h=>h) (Or.inl ⟨by rfl,fun wx hSw=>by obtain ⟨s1,s2,s3⟩:=hSw;go_simp⟩) (by assumption) ?_
            try simp only [Act.put,zA,zB,zC,zD,zE,zF]
            refine wpAnyH_take (i:=8) (v:= .pointer (some ⟨B,0,none⟩)) rfl (by kernel_rfl) (by kernel_rfl) (by kernel_rfl) (fun _ _ _ h=>h) (Or.inl ⟨by rfl,fun wx hSw=>by obtain ⟨s1,s2,s3⟩:=hSw;go_simp⟩) (by assumption) ?_
            try simp only [Act.put,zA,zB,zC,zD,zE,zF]
            refine wpAnyH_take (i:=9) (v:= .pointer (some ⟨B,2,none⟩)) rfl (by kernel_rfl) (by kernel_rfl) (by kernel_rfl) (fun _ _ _ h=>h) (Or.inl ⟨by rfl,fun wx hSw=>by obtain ⟨s1,s2,s3⟩:=hSw;go_simp⟩) (by assumption) ?_
            try simp only [Act.put,zA,zB,zC,zD,zE,zF]
            refine wpAnyH_ready (rs:=[10]) (by kernel_rfl) (by simp) ?_
            refine AllReadyH.cons rfl (fun K hK=> ?_) AllReadyH.nil
            try simp only [zA,zB,zC]
            go_simp
            refine hK.out _ _ ?_ (fun hHeld3=> ?_)
            · exact HSE.out
            clear hK K
            try simp only [Act.put,zA,zB,zC,zD,zE,zF]
            refine wpAnyH_done (by kernel_rfl) ?_ _
            go_wp2_with fail
            go_meet
            exact HAT9.out
        case rest=>
          obtain ⟨wy,rfl⟩:∃ wy,wy=wc:=⟨_,rfl⟩
          have q2:=(hcell hcut.ent).2.2
          obtain ⟨c0,c1,c2,c3,f0,f1,f2,f3⟩:=four_cells hcut.cells
          have hend:=hcut.stored (w':=wy.setCell ⟨B,3,none⟩ (.int .i64 seq)) HF.out hBlt ((T:Int)+(D:Int)) seq (by rw [set_at hcut.cells];rfl) (fun k hk=>set_ne (Ne.symm hk)) (by simp) rfl rfl rfl
          rw [show (T:Int)+(D:Int)=((weightE (l++[(id,fs,seq)]):Nat):Int) by rw [HSUM.out];push_cast;rfl,HGG.out] at hend
          have hbuf:=AddAt.done hend HBI.out.lt HBI.out.stand HBI.out.good HGOOD.out (show (0:Int)≤seq by omega)
          have HBUF:=Lib.hid hbuf
          have HONLY:=Lib.hid hend.only
          clear hcut hend hbuf
          go_wp2
          go_ret
          exact (HG.out _ _).2 ⟨rfl,fun h=>absurd rfl h,fun _=>⟨_,HBUF.out,fun k hk=>hk.imp (fun h=>h) fun hk=>hk.1,HONLY.out⟩⟩
  · have hM1:(E != 0)=true:=by simpa using hE0
    go_wp2
    go_ret
    refine (HG.out _ _).2 ⟨by rw [if_pos hE0];rfl,fun _=>HB2.out,fun h=>absurd h (by rw [if_pos hE0];exact hE0)⟩
end Go.Proofs.YtmoomnpbiifedaaGreat
set_option linter.unusedVariables false
namespace Go.Proofs.YtmoomnpbiifedaaGreat
open Go
theorem places_tell {d:List Fd} (h:ApartF d) (t:Tm):(placesD d t).length=((tellD d).filter fun p=>decide (p.1=t)).length:=by
 rw [← placesS_D h t]
 simp [placesS]
theorem places_pos {d:List Fd} (h:GoodF d) {t:Tm} (ht:t∈termsD d):0<(placesD d t).length:=by
 obtain ⟨p,hp,e⟩:=List.mem_map.1 ((termsD_mem h.apart t).1 ht)
 rw [places_tell h.apart]
 exact List.length_pos_of_mem (List.mem_filter.2 ⟨hp,by simpa using e⟩)
theorem places_len {d:List Fd} (h:GoodF d) (t:Tm):(placesD d t).length≤500:=Nat.le_trans (placesW_length _ _ _) (h.wordsS _)
theorem posts_there {key:Nm}:∀ {l:List En} {i:Nat},(∃ q∈l,∃ t∈termsD q.2.1,keyT t=key)→0<(postsE i l key).length
 |[],i,⟨q,hq,_⟩=>by cases hq
 |q::l,i,⟨x,hx,t,ht,e⟩=>by
  rw [postsE,List.length_append]
  rcases List.mem_cons.1 hx with rfl|hx
  ·have :0<(postIn i x.2.1 (termsD x.2.1) key).length:=by
    unfold postIn
    rw [List.length_map]
    exact List.length_pos_of_mem (List.mem_filter.2 ⟨ht,by simpa using e⟩)
   omega
  ·have :=posts_there (i:=i+1) ⟨x,hx,t,ht,e⟩
   omega
theorem posts_mem {key:Nm} {p:Pn}:∀ {l:List En} {i:Nat},p∈postsE i l key→∃ q∈l,∃ t∈termsD q.2.1,p.2=placesD q.2.1 t
 |[],i,h=>by cases h
 |q::l,i,h=>by
  rw [postsE] at h
  rcases List.mem_append.1 h with h|h
  ·unfold postIn at h
   obtain ⟨t,ht,rfl⟩:=List.mem_map.1 h
   exact ⟨q,List.mem_cons_self ..,t,(List.mem_filter.1 ht).1,rfl⟩
  ·obtain ⟨x,hx,t,ht,e⟩:=posts_mem h
   exact ⟨x,List.mem_cons_of_mem _ hx,t,ht,e⟩
theorem posts_good {l:List En} (hg:GoodE l) {key:Nm}:∀ p∈postsE 0 l key,0<p.2.length∧p.2.length≤500:=fun p hp=>by
 obtain ⟨q,hq,t,ht,e⟩:=posts_mem hp
 rw [e]
 exact ⟨places_pos (hg q hq) ht,places_len (hg q hq) t⟩
theorem postIn_one {i:Nat} {d:List Fd} (h:NoZero d) (key:Nm):postIn i d (termsD d) key=[]∨∃ t∈termsD d,postIn i d (termsD d) key=[((i:Int),placesD d t)]:=by
 have h1:=termsD_rise h
 unfold RiseT Rise at h1
 rw [List.pairwise_map] at h1
 have h2:=h1.filter (fun t=>decide (keyT t=key))
 unfold postIn
 match hs:(termsD d).filter fun t=>decide (keyT t=key) with
 |[]=>exact .inl rfl
 |[t]=>exact .inr ⟨t,(List.mem_filter.1 (hs▸List.mem_singleton_self t)).1,rfl⟩
 |t::u::s=>
  rw [hs] at h2
  have h3:=(List.pairwise_cons.1 h2).1 u (List.mem_cons_self ..)
  have mt:t∈(termsD d).filter fun t=>decide (keyT t=key):=by rw [hs];exact List.mem_cons_self ..
  have mu:u∈(termsD d).filter fun t=>decide (keyT t=key):=by rw [hs];exact List.mem_cons_of_mem _ (List.mem_cons_self ..)
  have ht:keyT t=key:=by simpa using (List.mem_filter.1 mt).2
  have hu:keyT u=key:=by simpa using (List.mem_filter.1 mu).2
  rw [ht,hu] at h3
  exact absurd h3 (List.lt_irrefl _)
theorem posts_len {l:List En} (hg:GoodE l) {key:Nm}:∀ (m:List En) (i:Nat),(∀ q∈m,q∈l)→(postsE i m key).length≤m.length
 |[],i,_=>by simp [postsE]
 |q::m,i,h=>by
  have ih:=posts_len hg (key:=key) m (i+1) fun x hx=>h x (List.mem_cons_of_mem _ hx)
  rw [postsE,List.length_append,List.length_cons]
  rcases postIn_one (i:=i) (hg q (h q (List.mem_cons_self ..))).zero key with e|⟨t,_,e⟩<;>rw [e]<;>simp <;>omega
theorem rises_of:∀ {ps:List Int} {x:Int},ps.Pairwise (· <·)→(∀ a∈ps,x<a)→risesZ x ps=true
 |[],x,_,_=>rfl
 |p::ps,x,h,hx=>by
  rw [List.pairwise_cons] at h
  rw [risesZ,rises_of h.2 h.1,Bool.and_true]
  exact decide_eq_true (hx p (List.mem_cons_self ..))
theorem places_may {d:List Fd} (h:GoodF d) {t:Tm} (ht:t∈termsD d):placesB (placesD d t)=true:=by
 have h0:=places_pos h ht
 have hne:placesD d t≠[]:=fun e=>by rw [e] at h0;cases h0
 rw [placesB_iff]
 refine ⟨rises_of (placesW_rise _ _ _) fun a ha=> ?_,hne,?_⟩
 ·have :=placesW_ge _ _ _ a ha
  omega
 ·have hm:(placesD d t).getLastD 0∈placesD d t:=by
   rw [List.getLastD_eq_getLast?,List.getLast?_eq_some_getLast hne]
   exact List.getLast_mem hne
  obtain ⟨k,hk,hk2⟩:=(placesW_mem _ _ _ _).1 hm
  have hl:=(List.getElem?_eq_some_iff.1 hk2).1
  have :=h.wordsS t.1
  rw [hk]
  omega
theorem posts_may {key:Nm}:∀ {l:List En} {i:Nat} {last:Int},GoodE l→last<i→i+l.length≤2147483648→mayB' last (postsE i l key)=true
 |[],i,last,_,_,_=>rfl
 |q::l,i,last,hg,hl,hi=>by
  have hq:=hg q (List.mem_cons_self ..)
  rw [List.length_cons] at hi
  have ih:=fun (last:Int) (h:last<((i+1:Nat):Int))=>posts_may (key:=key) (l:=l) (i:=i+1) (last:=last) (fun x hx=>hg x (List.mem_cons_of_mem _ hx)) h (by omega)
  rw [postsE]
  rcases postIn_one (i:=i) hq.zero key with e|⟨t,ht,e⟩
  ·rw [e,List.nil_append]
   exact ih last (by push_cast;omega)
  ·rw [e,List.singleton_append,mayB'_cons]
   exact ⟨hl,by show (i:Int)<2147483648;omega,places_may hq ht,ih _ (by push_cast;omega)⟩
end Go.Proofs.YtmoomnpbiifedaaGreat
set_option linter.unusedVariables false
namespace Go.Proofs.YtmoomnpbiifedaaGreat
open Go
structure PartsP where
 ids:List Int
 seqs:List Int
 keys:List Nm
 lists:List (List Pn)
deriving DecidableEq
def mayL (n:Nat) (l:List Pn):Bool:=mayB' (-1) l&&(decide (l.length≠0)&&decide (∀ p,l.getLast?=some p→p.1<(n:Int)))
def mayPs (x:PartsP):Bool:=decide (x.ids.length=x.seqs.length)&&(decide (x.keys.length=x.lists.length)&&(risesZ (-1) x.seqs&&(risesN x.keys&&x.lists.all (mayL x.ids.length))))
def buildP (l:List En):PartsP:=⟨l.map (·.1),l.map (·.2.2),keysE l,(keysE l).map fun k=>postsE 0 l k⟩
def atP:List Nm→List (List Pn)→Nm→List Pn
 |k::ks,l::ls,key=>if k=key then l else atP ks ls key
 |_,_,_=>[]
theorem atP_none {key:Nm}:∀ {ks:List Nm} {ls:List (List Pn)},(∀ k∈ks,k≠key)→atP ks ls key=[]
 |[],_,_=>by simp [atP]
 |k::ks,[],_=>by simp [atP]
 |k::ks,l::ls,h=>by rw [atP,if_neg (h k (List.mem_cons_self ..)),atP_none fun x hx=>h x (List.mem_cons_of_mem _ hx)]
theorem atP_at {key:Nm}:∀ {ks:List Nm} {ls:List (List Pn)} {i:Nat} (hi:i<ks.length) (hl:i<ls.length),ks[i]=key→(∀ j (hj:j<ks.length),j<i→ks[j]≠key)→atP ks ls key=ls[i]
 |[],_,i,hi,_,_,_=>by simp at hi
 |k::ks,[],i,_,hl,_,_=>by simp at hl
 |k::ks,l::ls,0,_,_,h,_=>by simp at h;simp [atP,h]
 |k::ks,l::ls,i+1,hi,hl,h,hn=>by
  have h0:=hn 0 (by simp) (by omega)
  simp at h0
  rw [atP,if_neg h0]
  simpa using atP_at (ks:=ks) (ls:=ls) (i:=i) (by simpa using hi) (by simpa using hl) (by simpa using h) fun j hj hji=>by
   have :=hn (j+1) (by simpa using hj) (by omega)
   rw [zC] at this
   exact this
def postsPs (x:PartsP) (key:Nm):List Pn:=atP x.keys x.lists key
end Go.Proofs.YtmoomnpbiifedaaGreat
set_option linter.unusedVariables false
namespace Go.Proofs.YtmoomnpbiifedaaGreat
open Go Go.RowKit
def LCells (w:World) (B:Nat) (ls:List (List Pn)) (cs:List Value):Prop:=cs.length=ls.length∧∀ i (h:i<ls.length),∃ A c,cs[i]?=some (.slice A ls[i].length c)∧(ls[i].length≤c∧c≤maxLen)∧Posts w B A ls[i]
def LPosts (w:World) (B:Nat) (A:Option Addr) (ls:List (List Pn)):Prop:=∃ cs,LCells w B ls cs∧Row w B A cs
section
variable {w w':World} {B B':Nat} {A:Option Addr} {ls:List (List Pn)} {cs:List Value}
theorem LCells.below (h:LCells w B ls cs) (hb:Below B w w'):LCells w' B ls cs:=⟨h.1,fun i hi=>by obtain ⟨A,c,h1,h2,h3⟩:=h.2 i hi;exact ⟨A,c,h1,h2,h3.below hb⟩⟩
theorem LCells.more (h:LCells w B ls cs) (hB:B≤B'):LCells w B' ls cs:=⟨h.1,fun i hi=>by obtain ⟨A,c,h1,h2,h3⟩:=h.2 i hi;exact ⟨A,c,h1,h2,h3.more hB⟩⟩
theorem LPosts.below (h:LPosts w B A ls) (hb:Below B w w'):LPosts w' B A ls:=by obtain ⟨cs,h1,h2⟩:=h;exact ⟨cs,h1.below hb,h2.below hb⟩
theorem LPosts.more (h:LPosts w B A ls) (hB:B≤B'):LPosts w B' A ls:=by obtain ⟨cs,h1,h2⟩:=h;exact ⟨cs,h1.more hB,h2.more hB⟩
theorem LPosts.later (h:LPosts w w.heap.size A ls) (hb:Below w.heap.size w w'):LPosts w' w'.heap.size A ls:=(h.below hb).more hb.size
theorem LPosts.at_ (h:LPosts w B A ls) {i:Nat} (hi:i<ls.length):∃ b off A' c',A=some ⟨b,off,none⟩∧b<B∧w.cell? ⟨b,off+i,none⟩=some (.slice A' ls[i].length c')∧(ls[i].length≤c'∧c'≤maxLen)∧Posts w B A' ls[i]:=by
 obtain ⟨cs,h1,h2⟩:=h
 obtain ⟨A',c',g1,g2,g3⟩:=h1.2 i hi
 obtain ⟨b,off,rfl,hb,hc⟩:=Row.at_ h2 (by rw [h1.1];omega)
 exact ⟨b,off,A',c',rfl,hb,hc _ _ g1,g2,g3⟩
end
end Go.Proofs.YtmoomnpbiifedaaGreat
set_option linter.unusedVariables false
namespace Go.Proofs.YtmoomnpbiifedaaGreat
open Go Go.RowKit
def entP:List Nm→List Nat→List Value
 |x::l,v::vs=> .string ⟨x.toArray⟩:: .pointer (some ⟨v,0,none⟩)::entP l vs
 |_,_=>[]
theorem entP_nil (vs:List Nat):entP [] vs=[]:=by cases vs<;>rfl
theorem entP_length:∀ {l:List Nm} {vs:List Nat},vs.length=l.length→(entP l vs).length=l.length*2
 |[],vs,_=>by rw [entP_nil];rfl
 |x::l,[],h=>by simp at h
 |x::l,v::vs,h=>by
  have :=entP_length (l:=l) (vs:=vs) (by simpa using h)
  simp only [entP,List.length_cons,this]
  omega
theorem entP_at:∀ {l:List Nm} {vs:List Nat} {k:Nat} (hv:vs.length=l.length) (hk:k<l.length),(entP l vs)[k*2]?=some (.string ⟨l[k].toArray⟩)∧(entP l vs)[k*2+1]?=some (.pointer (some ⟨vs.getD k 0,0,none⟩))
 |[],_,_,_,h=>by simp at h
 |x::l,[],_,h,_=>by simp at h
 |x::l,v::vs,0,_,_=>⟨rfl,rfl⟩
 |x::l,v::vs,k+1,h,hk=>by
  have :=entP_at (l:=l) (vs:=vs) (k:=k) (by simpa using h) (by simpa using hk)
  rw [show (k+1)*2=k*2+1+1 by omega]
  simpa [entP] using this
theorem entP_snoc:∀ {l:List Nm} {vs:List Nat} {x:Nm} {v:Nat},vs.length=l.length→entP (l++[x]) (vs++[v])=entP l vs++[.string ⟨x.toArray⟩,.pointer (some ⟨v,0,none⟩)]
 |[],[],x,v,_=>rfl
 |[],_::_,_,_,h=>by simp at h
 |_::_,[],_,_,h=>by simp at h
 |y::l,u::vs,x,v,h=>by
  have :=entP_snoc (l:=l) (vs:=vs) (x:=x) (v:=v) (by simpa using h)
  simp only [List.cons_append,entP,this]
theorem entP_drop:∀ {l:List Nm} {vs:List Nat} (k:Nat),vs.length=l.length→(entP l vs).drop (k*2)=entP (l.drop k) (vs.drop k)
 |l,vs,0,_=>by simp
 |[],vs,k+1,_=>by simp [entP_nil]
 |x::l,[],k+1,h=>by simp at h
 |x::l,v::vs,k+1,h=>by
  rw [show (k+1)*2=k*2+1+1 by omega,List.drop_succ_cons,List.drop_succ_cons,entP,List.drop_succ_cons,List.drop_succ_cons]
  exact entP_drop k (by simpa using h)
theorem info_entryP:(Tryz.prog.info? 123).map (fun i=>(i.zero,i.size,i.bytes))=some (some (.agg #[.string ByteArray.empty,.pointer none]),2,24):=by kernel_rfl
def DictR (w:World) (B o:Nat) (l:List Nm) (vs:List Nat):Prop:=
 B<w.heap.size∧vs.length=l.length∧∃ A c,w.cell? ⟨B,o,none⟩=some (.slice A l.length c)∧l.length≤c∧c≤maxLen∧Row w w.heap.size A (entP l vs)∧(A=none∧l=[]∧c=0∨∃ g,A=some ⟨g,0,none⟩)
theorem DictR.below {w w':World} {B o:Nat} {l:List Nm} {vs:List Nat} (h:DictR w B o l vs) (hb:Below w.heap.size w w'):DictR w' B o l vs:=by
 obtain ⟨h1,h2,A,c,h3,h4,h5,h6,h7⟩:=h
 exact ⟨Nat.lt_of_lt_of_le h1 hb.size,h2,A,c,(hb.cell (p:=⟨B,o,none⟩) h1).trans h3,h4,h5,Row.later h6 hb,h7⟩
theorem DictR.lt {w:World} {B o:Nat} {l:List Nm} {vs:List Nat} (h:DictR w B o l vs):B<w.heap.size:=h.1
theorem DictR.read {w:World} {B o:Nat} {l:List Nm} {vs:List Nat} (h:DictR w B o l vs):
  ∃ A c,w.cell? ⟨B,o,none⟩=some (.slice A l.length c)∧l.length≤c∧c≤maxLen∧Row w w.heap.size A (entP l vs)∧(A=none∧l=[]∧c=0∨∃ g,A=some ⟨g,0,none⟩):=h.2.2
theorem DictR.ent {w:World} {B o:Nat} {l:List Nm} {vs:List Nat} (h:DictR w B o l vs) {k:Nat} (hk:k<l.length):
  ∃ b off c,w.cell? ⟨B,o,none⟩=some (.slice (some ⟨b,off,none⟩) l.length c)∧l.length≤c∧c≤maxLen∧b<w.heap.size∧w.cell? ⟨b,off+k*2,none⟩=some (.string ⟨l[k].toArray⟩)∧w.cell? ⟨b,off+k*2+1,none⟩=some (.pointer (some ⟨vs.getD k 0,0,none⟩)):=by
 obtain ⟨_,hv,A,c,h1,h2,h3,h4,_⟩:=h
 obtain ⟨b,off,rfl,hb,hc⟩:=h4.at_ (by rw [entP_length hv];omega)
 obtain ⟨g1,g2⟩:=entP_at hv hk
 exact ⟨b,off,c,h1,h2,h3,hb,hc _ _ g1,by have :=hc _ _ g2;rwa [← Nat.add_assoc] at this⟩
set_option maxHeartbeats 1000000 in
theorem dictP_Len (B o:Nat) (l:List Nm) (vs:List Nat) (w:World) (h:DictR w B o l vs):
  Calls Tryz.prog 92 #[.pointer (some ⟨B,o,none⟩)] w fun e w'=>e= .returned (.int .i64 (l.length:Int))∧w=w':=by
 obtain ⟨_,_,A,c,hc,_⟩:=h
 go_enter Tryz.func92,Tryz.ntmps92
 go_wp2
 go_ret
 exact ⟨rfl,rfl⟩
end Go.Proofs.YtmoomnpbiifedaaGreat
set_option linter.unusedVariables false
namespace Go.Proofs.YtmoomnpbiifedaaGreat
def placesOn:Int→List Int→Bool
 |_,[]=>true
 |last,n::r=>decide (last<n)&&decide (n<2147483648)&&placesOn n r
theorem placesOn_eq:∀ (ps:List Int) (last:Int),ps≠[]→placesOn last ps=(risesZ last ps&&decide (ps.getLastD 0<2147483648))
 |[],_,h=>absurd rfl h
 |[n],last,_=>by simp [placesOn,risesZ]
 |n::m::r,last,_=>by
  have ih:=placesOn_eq (m::r) n (by simp)
  have e:(n::m::r).getLastD 0=(m::r).getLastD 0:=by simp [List.getLastD]
  rw [placesOn,risesZ,ih,e]
  rcases h1:risesZ n (m::r) with _|_
  ·simp
  ·by_cases h2:(m::r).getLastD 0<2147483648
   ·have :=(rises_le_last h1 ((m::r).getLastD 0) (lastD_mem (by simp))).1
    have h3:n<2147483648:=by omega
    simp [h3]
   ·rw [decide_eq_false h2]
    simp
theorem placesB_on (ps:List Int):placesB ps=(placesOn (-1) ps&&decide (0<ps.length)):=by
 by_cases h:ps=[]
 ·subst h;rfl
 ·unfold placesB
  rw [placesOn_eq ps (-1) h]
  have hl:0<ps.length:=List.length_pos_iff.2 h
  have he:ps.isEmpty=false:=by simpa using h
  rw [he]
  simp [hl]
theorem placesOn_cut {last:Int} {ps:List Int} {k:Nat} (hk:k<ps.length):placesOn last (ps.drop k)=(decide (last<ps.getD k 0)&&decide (ps.getD k 0<2147483648)&&placesOn (ps.getD k 0) (ps.drop (k+1))):=by
 rw [List.drop_eq_getElem_cons hk,placesOn,List.getD_eq_getElem?_getD,List.getElem?_eq_getElem hk]
 rfl
def endsC (l:List Po):Nat→List (Int × Nat)
 |0=>[]
 |k+1=>endsC l k++[(docOf (-1) (l.take (8*(k+1))),(bytesP (-1) (l.take (8*(k+1)))).length)]
theorem endsC_length (l:List Po):∀ n,(endsC l n).length=n
 |0=>rfl
 |k+1=>by rw [endsC,List.length_append,endsC_length l k];rfl
theorem endsC_at (l:List Po):∀ (n k:Nat),k<n→(endsC l n)[k]?=some (docOf (-1) (l.take (8*(k+1))),(bytesP (-1) (l.take (8*(k+1)))).length)
 |0,_,h=>by omega
 |n+1,k,h=>by
  rw [endsC]
  by_cases e:k=n
  ·subst e
   rw [List.getElem?_append_right (by rw [endsC_length];exact Nat.le_refl _),endsC_length,Nat.sub_self]
   rfl
  ·rw [List.getElem?_append_left (by rw [endsC_length];omega)]
   exact endsC_at l n k (by omega)
theorem endsC_append {l b:List Po}:∀ {n:Nat},8*n≤l.length→endsC (l++b) n=endsC l n
 |0,_=>rfl
 |k+1,h=>by
  rw [endsC,endsC,endsC_append (by omega),List.take_append_of_le_length h]
theorem blocksP_push {l b:List Po} {n:Nat} (hl:l.length=8*n) (h0:0<b.length) (h8:b.length≤8):blocksP l.length=n∧blocksP (l++b).length=n+1:=by
 unfold blocksP
 rw [List.length_append]
 omega
theorem endsC_push {l b:List Po} {n:Nat} (hl:l.length=8*n) (h0:0<b.length) (h8:b.length≤8):endsC (l++b) (n+1)=endsC l n++[(docOf (-1) (l++b),(bytesP (-1) (l++b)).length)]:=by
 rw [endsC,endsC_append (by omega),List.take_of_length_le (by rw [List.length_append];omega)]
theorem totalP_append:∀ (a b:List Po),totalP (a++b)=totalP a+totalP b
 |[],b=>by simp [totalP]
 |p::r,b=>by simp [totalP,totalP_append r b,Nat.add_assoc]
end Go.Proofs.YtmoomnpbiifedaaGreat
