import Derived.Test.YtmoomnpbiifedaaGreatMAZz
import Derived.Test.YtmoomnpbiifedaaGreatMAQ21
import Derived.Test.YtmoomnpbiifedaaGreatMAQ03
import Derived.Test.YtmoomnpbiifedaaGreatMAQ17
import Derived.Test.YtmoomnpbiifedaaGreatMAQ18
import Derived.Test.YtmoomnpbiifedaaGreatMAQ20
import Derived.Test.YtmoomnpbiifedaaGreatMAQ07
import Derived.Test.YtmoomnpbiifedaaGreatMAQ08
import Derived.Test.YtmoomnpbiifedaaGreatMAQ15
import Derived.Lib.SliceRun
import Derived.Test.YtmoomnpbiifedaaGreatMAQ12
import Derived.Test.YtmoomnpbiifedaaGreatMAQ06
import Derived.Test.YtmoomnpbiifedaaGreatMAQ01
import Derived.Test.YtmoomnpbiifedaaGreatMAQ02
import Derived.BigQuiet
import Derived.Deep.QuietTactic
set_option linter.unusedVariables false
namespace Go.Proofs.YtmoomnpbiifedaaGreat
open Go Go.RowKit
def restLen (C:Nat) (w:World):Nat:=match w.cell? ⟨C,4,none⟩ with|some (.slice _ n _)=>n|_=>0
theorem Pos.next {g:List Po} {i:Int} {nx:Nat} {bh:Bool} {p:Po} {r:List Po} {doc:Int} (h:Pos g i nx bh (p::r)) (hlt:p.1<doc) (hle:doc≤lastP g ((nx:Int)-1)):
  Pos g (i+1) nx bh r∧r≠[]∧advC g doc i=advC g doc (i+1):=by
 have ht:=(h.tells).2.2.2 p r rfl
 rcases h with ⟨_,_,_,h⟩|⟨_,_,_,h⟩|⟨k,j,hj,rfl,rfl,rfl,hr⟩
 ·cases h
 ·cases h
 ·obtain ⟨h1,h2,h3⟩:=block_at hj
  rw [h3] at hr
  injection hr with hp hr
  rw [show ((k+1:Nat):Int)-1=(k:Int) by omega,lastP_doc h1] at hle
  have hj2:j+1<(blockP g (k:Int)).length:=by
   rcases Nat.lt_or_ge (j+1) (blockP g (k:Int)).length with h|h
   ·exact h
   ·have e:8*k+(blockP g (k:Int)).length-1=8*k+j:=by omega
    rw [e,ht.2.1] at hle
    omega
  refine ⟨.inr (.inr ⟨k,j+1,hj2,by omega,rfl,rfl,hr⟩),?_,?_⟩
  ·intro e
   rw [e] at hr
   have :=List.length_drop (i:=j+1) (l:=blockP g (k:Int))
   rw [← hr] at this
   simp at this
   omega
  ·exact advC_step ⟨by rw [ht.2.1];exact hlt,by omega⟩
theorem next_adv {g:List Po} (h:mayB' (-1) g=true) {i:Int} (h0: -1≤i) (h1:i≤(g.length:Int)):advC g (docC g i+1) i=nextC g i:=by
 unfold nextC
 by_cases hi:i<(g.length:Int)
 ·rw [if_pos hi,advC_step ⟨by omega,hi⟩]
  refine advC_stay ?_
  rintro ⟨h2,h3⟩
  obtain ⟨k,hk⟩:=Int.eq_ofNat_of_zero_le (show 0≤i+1 by omega)
  rw [hk] at h2 h3
  rcases Nat.eq_zero_or_pos k with rfl|hp
  ·have :=docC_lt h (k:=0) (by omega)
   rw [docC_ahead (i:=i) (by omega)] at h2
   omega
  ·obtain ⟨j,rfl⟩:∃ j,k=j+1:=⟨k-1,by omega⟩
   have hij:i=(j:Int):=by omega
   rw [hij,docC_at (by omega),docC_at (by omega)] at h2
   have :=doc_mono h (i:=j) (j:=j+1) (by omega) (by omega)
   omega
 ·rw [if_neg hi]
  exact advC_stay (by omega)
set_option maxHeartbeats 4000000 in
set_option maxRecDepth 100000 in
theorem cur_Advance {fu:Prop × Nat} (C:Nat) (g:List Po) (i doc:Int) (w:World) (h:CAt fu C g i w):
  Calls Tryz.prog 76 #[.pointer (some ⟨C,0,none⟩),.int .i64 doc] w fun e w'=>e= .returned (.int .i64 (docC g (advC g doc i)))∧CAt fu C g (advC g doc i) w'∧OnlyAt C w w':=by
 obtain ⟨vb,ve,A,c,nx,bh,rd,rest,hblk,hl,hp,hc,hcx,hpo,hg⟩:=h
 have hnb:=hp.bd.2.2
 have hb1000:blocksP g.length≤1000:=by have :=hg.len;unfold blocksP;omega
 have hsub:IntKind.i64.wrap ((nx:Int)-1)=(nx:Int)-1:=IntWalk.i64_in _ (by omega)
 obtain ⟨⟨_,_,_,_,_,c5,_⟩,_⟩:=cell_eight hblk
 have HLA:Hid (∀ n,Calls Tryz.prog 106 #[.pointer (some ⟨C,0,none⟩),.int .i64 ((nx:Int)-1)] (w.drewN n) fun e w'=>e= .returned (.int .i64 (lastP g ((nx:Int)-1)))∧w'=w.drewN n):=Lib.hid fun n=>
  (in_Last C _ g (w.drewN n) ((hblk.lin hl).below ⟨rfl,rfl,rfl,Nat.le_refl _,fun _ _=>rfl⟩) (by have :=hg.len;omega) ((nx:Int)-1) (by omega)).mono fun e w' h=>⟨h.1,h.2.symm⟩
 have hdw:∀ n,Below w.heap.size w (w.drewN n):=fun n=>⟨rfl,rfl,rfl,Nat.le_refl _,fun _ _=>rfl⟩
 have HTU:Hid (lastP g ((nx:Int)-1)<doc→∀ n,Calls Tryz.prog 107 #[.pointer (some ⟨C,0,none⟩),.int .i64 doc] (w.drewN n) fun e w'=>(∃ v,e= .returned v)∧Turned06 fu C g doc i w w'):=Lib.hid fun hlt n=>
  (cur_turn C nx vb ve g A c bh rd rest doc i (w.drewN n) (hblk.only (OnlyIn.of_below (S:=fun _=>False) (hdw n)) (fun h=>h)) (hl.only (OnlyIn.of_below (S:=fun _=>False) (hdw n)) (fun D hD=>hD.elim)) hp hg hlt (Nat.le_trans hpo.1 (hdw n).size)).mono fun e w' h=>by
   obtain ⟨h1,i',vb,ve,A,c,nx,bh,rd,rest,k1,k2,k3,k4,k5,k6,k7,k8,k9,k10⟩:=h
   exact ⟨h1,i',vb,ve,A,c,nx,bh,rd,rest,k1,k2,k3,k4,k5,k6,k7,k8,k9,(OnlyIn.of_below (hdw n)).trans k10⟩
 have HSTAY:Hid (doc≤lastP g ((nx:Int)-1)→∀ n,Turned06 fu C g doc i w (w.drewN n)):=Lib.hid fun hlt n=>
  ⟨i,vb,ve,A,c,nx,bh,rd,rest,hblk.only (OnlyIn.of_below (S:=fun _=>False) (hdw n)) (fun h=>h),hl.only (OnlyIn.of_below (S:=fun _=>False) (hdw n)) (fun D hD=>hD.elim),hp,hc,hcx,
   hpo.only (OnlyIn.of_below (S:=fun _=>False) (hdw n)) (fun D hD=>hD.elim),rfl,(fun _=>by omega),(fun hr=>hp.stays (by omega) hr),OnlyIn.of_below (hdw n)⟩
 have HG:=Lib.hid hg
 obtain ⟨x,hx⟩:∃ x,x=lastP g ((nx:Int)-1):=⟨_,rfl⟩
 rw [← hx] at HLA HTU HSTAY
 clear hblk hl hp hc hcx hpo hg hdw hx
 go_enter Tryz.func76,Tryz.ntmps76
 go_wp2
 go_quiet ((go_at_call 106;exact Calls.quiet_of_same (HLA.out _)))
 clear c5
 go_upto_if 15 with fail
 go_cut [] from 15 to 18 (fun wx=>Turned06 fu C g doc i w wx)
 case first=>
  by_cases hlt:x<doc
  ·have hd:decide (x<doc)=true:=decide_eq_true hlt
   rw [hd]
   have HT:=Lib.hid (HTU.out hlt nq)
   clear hlt
   go_wp2_with (go_at_call 107;(with_reducible refine HT.out.mono ?_);rintro e w5 ⟨⟨v,rfl⟩,ht⟩)
   go_meet
   exact ht
  ·have hd:decide (x<doc)=false:=decide_eq_false hlt
   rw [hd]
   have HT:=Lib.hid (HSTAY.out (by omega) nq)
   clear hlt
   go_wp2_with fail
   go_meet
   exact HT.out
 case rest=>
  have HCU:=Lib.hid hcut
  clear hcut HTU HSTAY HLA
  go_wp2_with fail
  go_loopw [] (fun wr=>Turned06 fu C g doc i w wr) (fun wr=>restLen C wr)
  case atStart=>exact HCU.out
  case round=>
   obtain ⟨i',vb,ve,A,c,nx,bh,rd,rest,k1,k2,k3,k4,k5,k6,k7,k8,k9,k10⟩:=hrel
   obtain ⟨⟨_,_,_,_,d4,_⟩,e4,_⟩:=cell_eight k1
   cases rest with
   |nil=>
    have HD:=Lib.hid (cur_Doc C g i' wr ⟨vb,ve,A,c,nx,bh,rd,[],k1,k2,k3,k4,k5,k6,HG.out⟩)
    have HAT:Hid (CAt fu C g i' wr):=Lib.hid ⟨vb,ve,A,c,nx,bh,rd,[],k1,k2,k3,k4,k5,k6,HG.out⟩
    have HAD:=Lib.hid (k7.trans (k9 rfl))
    have HON:=Lib.hid k10
    simp only [List.length_nil] at d4
    clear k1 k2 k3 k4 k5 k6 k7 k8 k9 k10 e4
    go_wp2_with (go_at_call 77;(with_reducible refine HD.out.mono ?_);rintro e w5 ⟨rfl,rfl⟩)
    go_ret
    rw [HAD.out]
    exact ⟨rfl,HAT.out,HON.out⟩
   |cons p r=>
    obtain ⟨b,off,A2,c2,rfl,h1,_⟩:=k6.head
    have htl:=(k3.tells).2.2.2 p r rfl
    obtain ⟨y,hy⟩:∃ y,y=p.1:=⟨_,rfl⟩
    rw [← hy] at h1
    simp only [List.length_cons] at d4
    obtain ⟨n,hn⟩:∃ n,n=r.length:=⟨_,rfl⟩
    rw [← hn] at d4
    have hz:(0:Int)<(n:Int)+1:=by omega
    by_cases hlt:y<doc
    ·have hdl:decide (y<doc)=true:=decide_eq_true hlt
     have hnx:=k3.next (doc:=doc) (by rw [← hy];exact hlt) (k8 (by simp))
     have hr0:0<n:=by
      rw [hn]
      rcases Nat.eq_zero_or_pos r.length with h|h
      ·exact absurd (List.eq_nil_of_length_eq_zero h) hnx.2.1
      ·exact h
     simp only [List.length_cons] at k4
     have hc1:¬ c=1:=by omega
     have hz2:=k1.setRest (some ⟨b,off+2,none⟩) n (c-1)
     have ho2:OnlyAt C wr (wr.setCell ⟨C,4,none⟩ (.slice (some ⟨b,off+2,none⟩) n (c-1))):=(OnlyIn.of_below (Below.refl _ wr)).setCell _
     have hrl:restLen C wr=n+1:=by unfold restLen;rw [d4]
     have hrl2:restLen C (wr.setCell ⟨C,4,none⟩ (.slice (some ⟨b,off+2,none⟩) n (c-1)))=n:=by unfold restLen;rw [(cell_eight hz2).1.2.2.2.2.1]
     have HREL:Hid (Turned06 fu C g doc i w (wr.setCell ⟨C,4,none⟩ (.slice (some ⟨b,off+2,none⟩) n (c-1)))):=Lib.hid
      ⟨i'+1,vb,ve,some ⟨b,off+2,none⟩,c-1,nx,bh,rd,r,(by rw [← hn];exact hz2),k2.only ho2 k1.curs,hnx.1,by omega,by omega,k6.tail.only ho2 k1.curs,k7.trans hnx.2.2,(fun _=>k8 (by simp)),(fun h=>absurd h hnx.2.1),k10.trans ho2⟩
     have HRL:=Lib.hid hrl
     have HRL2:=Lib.hid hrl2
     have hnc:n+1≤c:=by omega
     clear k1 k2 k3 k4 k6 k7 k8 k9 k10 hlt hn hy htl hnx hz2 ho2 hrl hrl2
     go_wp2
     exact ⟨HREL.out,by rw [HRL.out,HRL2.out];omega⟩
    ·have hdl:decide (y<doc)=false:=decide_eq_false hlt
     have HD:=Lib.hid (cur_Doc C g i' wr ⟨vb,ve,_,c,nx,bh,rd,p::r,k1,k2,k3,k4,k5,k6,HG.out⟩)
     have HAT:Hid (CAt fu C g i' wr):=Lib.hid ⟨vb,ve,_,c,nx,bh,rd,p::r,k1,k2,k3,k4,k5,k6,HG.out⟩
     have HAD:Hid (advC g doc i=i'):=Lib.hid (k7.trans (advC_stay (by rw [htl.2.1,← hy];omega)))
     have HON:=Lib.hid k10
     clear k1 k2 k3 k4 k5 k6 k7 k8 k9 k10 e4 hlt hn hy htl
     go_wp2_with (go_at_call 77;(with_reducible refine HD.out.mono ?_);rintro e w5 ⟨rfl,rfl⟩)
     go_ret
     rw [HAD.out]
     exact ⟨rfl,HAT.out,HON.out⟩
set_option maxHeartbeats 1000000 in
set_option maxRecDepth 100000 in
theorem cur_Next {fu:Prop × Nat} (C:Nat) (g:List Po) (i:Int) (w:World) (h:CAt fu C g i w):
  Calls Tryz.prog 43 #[.pointer (some ⟨C,0,none⟩)] w fun e w'=>e= .returned (.int .i64 (docC g (nextC g i)))∧CAt fu C g (nextC g i) w'∧OnlyAt C w w':=by
 have hbd:=h.bd
 have hg:GoodG g:=by obtain ⟨vb,ve,A,c,nx,bh,rd,rest,_,_,_,_,_,_,hg⟩:=h;exact hg
 have hD:=Lib.hid (cur_Doc C g i w h)
 have hA:=cur_Advance C g i (docC g i+1) w h
 rw [next_adv hg.may hbd.1 hbd.2] at hA
 have HA:=Lib.hid hA
 have hdx: -1≤docC g i∧docC g i≤2147483648:=by
  rcases Int.lt_or_le i 0 with h0|h0
  ·rw [docC_ahead h0];omega
  ·obtain ⟨k,rfl⟩:=Int.eq_ofNat_of_zero_le h0
   rcases Nat.lt_or_ge k g.length with h1|h1
   ·have :=docC_lt hg.may h1;omega
   ·rw [docC_behind (by omega) (by omega)];omega
 obtain ⟨x,hx⟩:∃ x,x=docC g i:=⟨_,rfl⟩
 rw [← hx] at hD HA hdx
 obtain ⟨y,hy⟩:∃ y,y=docC g (nextC g i):=⟨_,rfl⟩
 rw [← hy] at HA
 rw [← hy]
 have hw:IntKind.i64.wrap (x+1)=x+1:=IntWalk.i64_in _ (by omega)
 clear hx hy hA h hbd hg
 go_enter Tryz.func43,Tryz.ntmps43
 go_wp2_with (first
  |(go_at_call 77;(with_reducible refine hD.out.mono ?_);rintro e w' ⟨rfl,rfl⟩)
  |(go_at_call 76;(with_reducible refine HA.out.mono ?_);rintro e w' ⟨rfl,h1,h2⟩))
 go_ret
 exact ⟨rfl,h1,h2⟩
end Go.Proofs.YtmoomnpbiifedaaGreat
namespace Go.Proofs.YtmoomnpbiifedaaGreat
open Go Go.RowKit
set_option linter.unusedVariables false
set_option maxHeartbeats 1000000 in
theorem word_Key10 (f g:ByteArray) (w:World) (hf:f.size≤140737488355328) (hg:g.size≤140737488355328):
  Calls Tryz.prog 75 #[.agg #[.string f,.string g]] w fun e w'=>e= .returned (.string (keyB f g))∧Below w.heap.size w w':=by
 go_enter Tryz.func75,Tryz.ntmps75
 go_wp2
 go_ret
 exact ⟨rfl,(Below.refl _ _).alloc (Nat.le_refl _) _⟩
end Go.Proofs.YtmoomnpbiifedaaGreat
set_option linter.unusedVariables false
namespace Go.Proofs.YtmoomnpbiifedaaGreat
open Go Go.RowKit
theorem bytes_small {l:List Pn} (hm:mayB' (-1) l=true) (h1:l.length≤1000) (h2:totalP l≤40000000000):(bytesP (-1) l).length≤400000000000:=by
 have :=bytesP_length l (-1) (by omega) hm (fun p hp=>by have :=may_len hm p hp;omega)
 omega
theorem PSmall.at_ {x:PartsP} (h:PSmall x) (key:Nm):(postsPs x key).length≤1000∧totalP (postsPs x key)≤40000000000:=by
 have key':∀ (ks:List Nm) (ls:List (List Pn)),(∀ l∈ls,l.length≤1000∧totalP l≤40000000000)→(atP ks ls key).length≤1000∧totalP (atP ks ls key)≤40000000000:=by
  intro ks
  induction ks with
  |nil=>intro ls _;simp [atP,totalP]
  |cons k ks ih=>
   intro ls hl
   cases ls with
   |nil=>simp [atP,totalP]
   |cons l ls=>
    rw [atP]
    split
    ·exact hl l (List.mem_cons_self ..)
    ·exact ih ls fun m hm=>hl m (List.mem_cons_of_mem _ hm)
 exact key' _ _ h.lists
theorem may_at {x:PartsP} (h:mayPs x=true) (key:Nm):mayB' (-1) (postsPs x key)=true:=by
 have key':∀ (ks:List Nm) (ls:List (List Pn)),(∀ l∈ls,mayB' (-1) l=true)→mayB' (-1) (atP ks ls key)=true:=by
  intro ks
  induction ks with
  |nil=>intro ls _;rfl
  |cons k ks ih=>
   intro ls hl
   cases ls with
   |nil=>rfl
   |cons l ls=>
    rw [atP]
    split
    ·exact hl l (List.mem_cons_self ..)
    ·exact ih ls fun m hm=>hl m (List.mem_cons_of_mem _ hm)
 exact key' _ _ fun l hl=>(mayL_may ((mayPs_iff.1 h).2.2.2.2 l hl)).1
theorem posts_at {x:PartsP} (h:mayPs x=true) {i:Nat} (hi:i<x.keys.length) (hl:i<x.lists.length):postsPs x x.keys[i]=x.lists[i]:=
 atP_at hi hl rfl fun j hj hji e=>by
  have :=rise_at (risesN_iff.1 (mayPs_iff.1 h).2.2.2.1) hi hji
  rw [e] at this
  exact nm_irrefl _ this
theorem posts_no {x:PartsP} {key:Nm} (hr:Rise x.keys) (h:isN x.keys key=false):postsPs x key=[]:=atP_none fun k hk e=>by
 subst e
 have :isN x.keys k=true:=by
  obtain ⟨i,hi,rfl⟩:=List.mem_iff_getElem.1 hk
  exact (isN_own hr hi).2
 rw [h] at this
 cases this
section
variable {w:World} {S:Nat} {x:PartsP}
set_option maxHeartbeats 1000000 in
theorem seg_Keys (h:SegAt w S x):Calls Tryz.prog 33 #[.pointer (some ⟨S,0,none⟩)] w (GaveNm x.keys w):=by
 obtain ⟨bl,hd,_⟩:=h.dict
 have C1:=Lib.hid (dictP_Names S 2 x.keys bl w hd h.small.keys)
 clear h hd
 go_enter Tryz.func33,Tryz.ntmps33
 go_wp2_with (go_at_call 69;refine C1.out.mono ?_;rintro e w' ⟨v,rfl,ho,hb⟩)
 go_ret
 exact ⟨_,rfl,ho,hb⟩
def GotList (l:List Pn) (w:World) (e:Ending) (w':World):Prop:=∃ B,e= .returned (.pointer (some ⟨B,0,none⟩))∧LAt w' 0 B (bytesP (-1) l) l∧Below w.heap.size w w'
set_option maxHeartbeats 2000000 in
set_option maxRecDepth 100000 in
theorem seg_list (h:SegAt w S x) (key:ByteArray):Calls Tryz.prog 73 #[.pointer (some ⟨S,0,none⟩),.string key] w (GotList (postsPs x key.data.toList) w):=by
 obtain ⟨bl,hd,hl⟩:=h.dict
 have hr:=risesN_iff.1 (mayPs_iff.1 h.may).2.2.2.1
 have c1:=dictP_Find S 2 x.keys bl key w hd hr (by have :=h.small.keys;omega)
 have hkl:=h.keys
 cases hf:isN x.keys key.data.toList with
 |true=>
  rw [hf,if_pos rfl] at c1
  obtain ⟨hp,hpe⟩:=isN_found hf
  obtain ⟨p,hpp⟩:∃ p,p=placeN x.keys key.data.toList:=⟨_,rfl⟩
  simp only [← hpp] at c1 hp hpe
  obtain ⟨base,hla⟩:=hl p (by omega)
  have hpo:postsPs x key.data.toList=x.lists[p]'(by omega):=by rw [← hpe];exact posts_at h.may hp (by omega)
  rw [hpo]
  have HLA:=Lib.hid (hla.low (Nat.zero_le _))
  obtain ⟨L,hL⟩:∃ L,L=x.lists[p]'(by omega):=⟨_,rfl⟩
  rw [← hL] at HLA ⊢
  have C1:=Lib.hid c1
  obtain ⟨B,hB⟩:∃ B,B=bl.getD p 0:=⟨_,rfl⟩
  rw [← hB] at C1 HLA
  clear c1 hd hl hr h hkl hf hp hpe hpp hla hpo hL hB
  go_enter Tryz.func73,Tryz.ntmps73
  go_wp2_with (go_at_call 105;refine C1.out.mono ?_;rintro e w' ⟨rfl,hb⟩)
  go_ret
  exact ⟨B,rfl,HLA.out.below hb,hb⟩
 |false=>
  rw [hf,if_neg (by decide)] at c1
  rw [posts_no hr hf]
  have C1:=Lib.hid c1
  have HM:Hid (∀ w1,Calls Tryz.prog 24 #[.slice none 0 0] w1 (MadeList [] w1)):=Lib.hid fun w1=>posting_Make none 0 0 [] w1 rfl (Nat.le_refl _) (Nat.zero_le _) (by omega) Posts.nil (by simp [totalP]) rfl
  clear c1 hd hl hr h hkl hf
  go_enter Tryz.func73,Tryz.ntmps73
  go_wp2_with (first
   |(go_at_call 105;refine C1.out.mono ?_;rintro e w1 ⟨rfl,hb⟩)
   |(go_at_call 24;refine (HM.out w1).mono ?_;rintro e w2 ⟨B,rfl,hla,hb2⟩))
  go_ret
  exact ⟨B,rfl,hla.low (Nat.zero_le _),hb.trans (hb2.mono hb.size)⟩
set_option maxHeartbeats 2000000 in
set_option maxRecDepth 100000 in
theorem seg_Postings (h:SegAt w S x) (key:ByteArray):Calls Tryz.prog 39 #[.pointer (some ⟨S,0,none⟩),.string key] w (GaveNew (postsPs x key.data.toList) w):=by
 have C1:=Lib.hid (seg_list h key)
 have hs:=h.small.at_ key.data.toList
 have hm:=may_at h.may key.data.toList
 obtain ⟨L,hL⟩:∃ L,L=postsPs x key.data.toList:=⟨_,rfl⟩
 rw [← hL] at hs hm C1 ⊢
 have C2:Hid (∀ w1 B,LAt w1 0 B (bytesP (-1) L) L→Calls Tryz.prog 54 #[.pointer (some ⟨B,0,none⟩)] w1 (GaveNew L w1)):=Lib.hid fun w1 B h=>list_All 0 B L w1 h hm (bytes_small hm hs.1 hs.2) (by omega)
 clear h hs hm hL
 go_enter Tryz.func39,Tryz.ntmps39
 go_wp2_with (first
  |(go_at_call 73;refine C1.out.mono ?_;rintro e w1 ⟨B,rfl,hla,hb⟩)
  |(go_at_call 54;refine (C2.out w1 B hla).mono ?_;rintro e w2 ⟨v,rfl,hn,hb2⟩))
 go_ret
 exact ⟨v,rfl,hn.low hb.size,hb.trans (hb2.mono hb.size)⟩
set_option maxHeartbeats 2000000 in
set_option maxRecDepth 100000 in
theorem seg_Count (h:SegAt w S x) (f g:ByteArray) (hf:f.size≤140737488355328) (hg:g.size≤140737488355328):Calls Tryz.prog 45 #[.pointer (some ⟨S,0,none⟩),.agg #[.string f,.string g]] w fun e w'=>e= .returned (.int .i64 ((postsPs x (keyL f.data.toList g.data.toList)).length:Int))∧Below w.heap.size w w':=by
 obtain ⟨w1,hw1⟩:∃ w1,w1=w.alloc (.cells #[.string f,.string g] 39):=⟨_,rfl⟩
 have hb1:Below w.heap.size w w1:=by rw [hw1];exact (Below.refl _ w).alloc (Nat.le_refl _) _
 have C0:=Lib.hid (word_Key10 f g w1 hf hg)
 have C1:Hid (∀ w2,Below w1.heap.size w1 w2→Calls Tryz.prog 73 #[.pointer (some ⟨S,0,none⟩),.string (keyB f g)] w2 (GotList (postsPs x (keyL f.data.toList g.data.toList)) w2)):=Lib.hid fun w2 hb=>by
  have :=seg_list ((h.below hb1).below hb) (keyB f g)
  rwa [keyB_list] at this
 obtain ⟨L,hL⟩:∃ L,L=postsPs x (keyL f.data.toList g.data.toList):=⟨_,rfl⟩
 rw [← hL] at C1 ⊢
 obtain ⟨K,hK⟩:∃ K,K=keyB f g:=⟨_,rfl⟩
 rw [← hK] at C0 C1
 have HB1:=Lib.hid hb1
 have HW1:=Lib.hid hw1
 clear h hL hK hb1 hw1 hf hg
 go_enter Tryz.func45,Tryz.ntmps45
 go_wp2_with (first
  |(go_at_call 75;rw [show w.alloc _=w1 from HW1.out.symm];refine C0.out.mono ?_;rintro e w2 ⟨rfl,hb2⟩)
  |(go_at_call 73;refine (C1.out w2 hb2).mono ?_;rintro e w3 ⟨B,rfl,hla,hb3⟩)
  |(go_at_call 79;refine (list_Len 0 B _ L w3 hla).mono ?_;rintro e w4 ⟨rfl,rfl⟩))
 go_ret
 exact ⟨rfl,HB1.out.trans ((hb2.trans (hb3.mono hb2.size)).mono HB1.out.size)⟩
set_option maxHeartbeats 2000000 in
set_option maxRecDepth 100000 in
theorem seg_Cursor (h:SegAt w S x) (f g:ByteArray) (hf:f.size≤140737488355328) (hg:g.size≤140737488355328):Calls Tryz.prog 42 #[.pointer (some ⟨S,0,none⟩),.agg #[.string f,.string g]] w fun e w'=>∃ C,e= .returned (.pointer (some ⟨C,0,none⟩))∧w.heap.size≤C∧CAt (False,0) C (postsPs x (keyL f.data.toList g.data.toList)) (-1) w'∧Below w.heap.size w w':=by
 obtain ⟨w1,hw1⟩:∃ w1,w1=w.alloc (.cells #[.string f,.string g] 39):=⟨_,rfl⟩
 have hb1:Below w.heap.size w w1:=by rw [hw1];exact (Below.refl _ w).alloc (Nat.le_refl _) _
 have C0:=Lib.hid (word_Key10 f g w1 hf hg)
 have hs:=h.small.at_ (keyL f.data.toList g.data.toList)
 have hm:=may_at h.may (keyL f.data.toList g.data.toList)
 have C1:Hid (∀ w2,Below w1.heap.size w1 w2→Calls Tryz.prog 73 #[.pointer (some ⟨S,0,none⟩),.string (keyB f g)] w2 (GotList (postsPs x (keyL f.data.toList g.data.toList)) w2)):=Lib.hid fun w2 hb=>by
  have :=seg_list ((h.below hb1).below hb) (keyB f g)
  rwa [keyB_list] at this
 obtain ⟨L,hL⟩:∃ L,L=postsPs x (keyL f.data.toList g.data.toList):=⟨_,rfl⟩
 rw [← hL] at C1 hs hm ⊢
 obtain ⟨K,hK⟩:∃ K,K=keyB f g:=⟨_,rfl⟩
 rw [← hK] at C0 C1
 have HG:Hid (GoodG L):=Lib.hid ⟨hm,hs.1,bytes_small hm hs.1 hs.2⟩
 have HB1:=Lib.hid hb1
 have HW1:=Lib.hid hw1
 clear h hL hK hb1 hw1 hf hg hs hm
 go_enter Tryz.func42,Tryz.ntmps42
 go_wp2_with (first
  |(go_at_call 75;rw [show w.alloc _=w1 from HW1.out.symm];refine C0.out.mono ?_;rintro e w2 ⟨rfl,hb2⟩)
  |(go_at_call 73;refine (C1.out w2 hb2).mono ?_;rintro e w3 ⟨B,rfl,hla,hb3⟩)
  |(go_at_call 74;refine (cur_New (fu:=(False,0)) 0 B L w3 hla HG.out (Nat.zero_le _)).mono ?_;rintro e w4 ⟨C,rfl,hC,hat,hb4⟩))
 go_ret
 have hb3':=HB1.out.trans ((hb2.trans (hb3.mono hb2.size)).mono HB1.out.size)
 exact ⟨C,rfl,Nat.le_trans hb3'.size hC,hat,hb3'.trans (hb4.mono hb3'.size)⟩
end
end Go.Proofs.YtmoomnpbiifedaaGreat
set_option linter.unusedVariables false
namespace Go.Proofs.YtmoomnpbiifedaaGreat
open Go Go.RowKit
set_option maxHeartbeats 2000000 in
set_option maxRecDepth 100000 in
theorem clone_bytes (A:Option Addr) (m c:Nat) (bs:List UInt8) (w:World) (hn:bs.length=m) (hr:Row w w.heap.size A (Lib.byteCells bs)) (hl:m≤400000000000):
  Calls Tryz.prog 108 #[.slice A m c] w (GaveOwn w.heap.size bs w):=by
 obtain ⟨i0,hi0,hz0,hz1,hz2⟩:=info_parts info_byte
 have qe:∀ (w:World) (a:Option Addr) (n c n' c':Nat),(binOp .eql 86 (.slice a n c) (.slice none n' c')).run Tryz.prog w= .ok (.bool a.isNone) w:=fun w a n c n' c'=>Lib.run_eql_slice_nil w _ _ a n c n' c' Tryz.underlying86
 subst hn
 cases A with
 |none=>
  obtain rfl:bs=[]:=by
   rcases Nat.eq_zero_or_pos bs.length with h0|h0
   ·exact List.eq_nil_of_length_eq_zero h0
   ·obtain ⟨_,_,e,_⟩:=hr.at_ (by rw [Lib.byteCells_length];exact h0)
    cases e
  clear hr
  go_enter Tryz.func108,Tryz.ntmps108
  go_wp2
  go_ret
  exact ⟨_,rfl,World.ownsRow_nil w w.heap.size _ 1,Below.refl _ _⟩
 |some ad=>
  have HR:=Lib.hid hr
  have hwl:=Lib.byteCells_length bs
  have HWL:=Lib.hid hwl
  clear hr hwl
  have hlit:(w.alloc (.cells #[] 5)).ownsRow w.heap.size 5 1 (.slice (some ⟨w.heap.size,0,none⟩) 0 0) 0 []:=World.ownsRow_made w #[] 0 (Nat.le_refl _) (Nat.zero_le _) rfl
  obtain ⟨m,hm⟩:∃ m,m=bs.length:=⟨_,rfl⟩
  rw [← hm] at HWL hl
  rw [← hm]
  have HM:=Lib.hid hm
  clear hm
  go_enter Tryz.func108,Tryz.ntmps108
  go_wp2_with (at_builtin;(refine wpList_append_row _ rfl (.tmp 5) (.tmp 6) 86 rfl w.heap.size 5 i0 _ 1 1 Tryz.underlying86 hi0 hz0 hz1 hz2 rfl (by decide) _ 0 [] rfl hlit _ _ m c (Lib.byteCells bs) rfl (by rw [HWL.out];omega) ((HR.out.below ((Below.refl _ w).alloc (Nat.le_refl _) (.cells #[] 5))).more (B':=(w.alloc (.cells #[] 5)).heap.size) (by simp)) (byteCells_oneCell _) (by unfold maxLen;omega) (by omega) (by simp) ?_))
  intro v' w' hown hgrow
  go_wp2
  go_ret
  exact ⟨_,rfl,by unfold Own;rw [← HM.out];simpa using hown,((Below.refl _ _).alloc (Nat.le_refl _) _).grown hgrow (by simp) (fun k hk=>by cases hk;exact Nat.le_refl _)⟩
set_option maxHeartbeats 1000000 in
set_option maxRecDepth 100000 in
theorem list_Bytes (base B:Nat) (bs:List UInt8) (l:List Po) (w:World) (h:LAt w base B bs l) (hl:bs.length≤400000000000):
  Calls Tryz.prog 78 #[.pointer (some ⟨B,0,none⟩)] w (GaveOwn w.heap.size bs w):=by
 obtain ⟨Ab,cb,Ae,ce,⟨c0,c1,c2,c3⟩,_,_,_,hrb,_,_⟩:=h.read
 have HC:=Lib.hid (clone_bytes Ab bs.length cb bs w rfl hrb hl)
 clear h c1 c2 c3 hrb
 go_enter Tryz.func78,Tryz.ntmps78
 go_wp2_with (go_at_call 108;refine HC.out.mono ?_;rintro e w' ⟨v,rfl,hown,hb⟩)
 go_ret
 exact ⟨_,rfl,hown,hb⟩
end Go.Proofs.YtmoomnpbiifedaaGreat
set_option linter.unusedVariables false
namespace Go.Proofs.YtmoomnpbiifedaaGreat
open Go Go.RowKit
attribute [local go_sem] Oper.semAt_some
def sumB (ls:List (List Pn)):Nat:=(ls.map fun l=>(bytesP (-1) l).length).sum
theorem sumB_take {ls:List (List Pn)} {k:Nat} (hk:k<ls.length):sumB (ls.take (k+1))=sumB (ls.take k)+(bytesP (-1) ls[k]).length:=by
 unfold sumB
 rw [List.take_succ_eq_append_getElem hk,List.map_append,List.sum_append]
 simp
theorem sumB_le {ls:List (List Pn)} {M:Nat} (h:∀ l∈ls,(bytesP (-1) l).length≤M):∀ k,sumB (ls.take k)≤k*M:=by
 induction ls with
 |nil=>intro k;simp [sumB]
 |cons l ls ih=>
  intro k
  cases k with
  |zero=>simp [sumB]
  |succ k=>
   have h1:=h l (List.mem_cons_self ..)
   have h2:=ih (fun m hm=>h m (List.mem_cons_of_mem _ hm)) k
   have e:sumB ((l::ls).take (k+1))=(bytesP (-1) l).length+sumB (ls.take k):=by simp [sumB]
   rw [e,Nat.add_mul,Nat.one_mul]
   omega
def BytesIn (ls:List (List Pn)) (w:World) (Bn:Nat) (pre:List (Nm × Nat)) (W:World):Prop:=W.heap[Bn]?=some (.cells #[.int .i64 (sumB (ls.take pre.length):Int)] 3 (0,0))∧Below w.heap.size w W
set_option maxHeartbeats 8000000 in
set_option maxRecDepth 100000 in
theorem seg_Bytes {w:World} {S:Nat} {x:PartsP} (h:SegAt w S x):Calls Tryz.prog 44 #[.pointer (some ⟨S,0,none⟩)] w fun e w'=>e= .returned (.int .i64 (sumB x.lists:Int))∧Below w.heap.size w w':=by
 obtain ⟨bl,hd,hl⟩:=h.dict
 have hkl:=h.keys
 have hml:∀ l∈x.lists,mayB' (-1) l=true∧(bytesP (-1) l).length≤400000000000:=fun l hl=>by
  have h1:=(mayL_may ((mayPs_iff.1 h.may).2.2.2.2 l hl)).1
  have h2:=h.small.lists l hl
  exact ⟨h1,bytes_small h1 h2.1 h2.2⟩
 have hks:=h.small.keys
 refine (callsIn_wide (n:=6)).1 ?_
 obtain ⟨w2,hw2⟩:∃ w2,w2=(w.alloc (.cells #[.int .i64 0] 3)):=⟨_,rfl⟩
 have hb2:Below w.heap.size w w2:=by rw [hw2];exact (Below.refl _ w).alloc (Nat.le_refl _) _
 have hn2:w2.heap[w.heap.size]?=some (.cells #[.int .i64 0] 3 (0,0)):=by rw [hw2];exact heap_alloc_new w _
 have HF:=Lib.hid (dictP_From S 2 0 x.keys bl w w2 hd hb2 hks (by omega))
 obtain ⟨Bn,hBn⟩:∃ Bn,Bn=w.heap.size:=⟨_,rfl⟩
 rw [← hBn] at hn2
 have HB2:=Lib.hid hb2
 have HW2:=Lib.hid hw2
 have HN2:=Lib.hid hn2
 have HBN:=Lib.hid hBn
 have HL:=Lib.hid hl
 have HML:=Lib.hid hml
 have HKL:=Lib.hid hkl
 clear h hd hl hml hw2 hb2 hn2 hBn hkl
 refine callsIn_of_wp_marks Tryz.func44 rfl trivial ?_ rfl
 simp only [Tryz.ntmps44,List.size_toArray,List.length_cons,List.length_nil,Nat.reduceAdd,Nat.reduceSub,Array.replicate_succ,Array.replicate_zero,List.push_toArray,List.append_toArray,List.nil_append,List.cons_append]
 gi_wp2_with (first
  |(refine ⟨trivial,?_⟩;gi_at_call 53;rw [← HW2.out];refine (callsIn_wide.2 HF.out).mono ?_)
  |(gi_at_call 53;rw [← HW2.out];refine (callsIn_wide.2 HF.out).mono ?_))
 rintro e w3 ⟨D,rfl,hD,hrest,hb3,hz3⟩
 rw [Int.toNat_zero,List.drop_zero,List.drop_zero] at hrest
 have hB3:=HB2.out.trans (hb3.mono HB2.out.size)
 have hn3:=(hb3.block Bn (lt_of_block HN2.out)).trans HN2.out
 have hsz3:w.heap.size≤w3.heap.size:=hB3.size
 have HT:=Lib.hid (fromP_told 5 w.heap.size D x.keys bl w3 (by omega) hsz3 hrest hks)
 have HB3:=Lib.hid hB3
 have HN3:=Lib.hid hn3
 have HBL3:Hid (Bn<w3.heap.size):=Lib.hid (lt_of_block hn3)
 clear hrest hb3 hB3 hn3 hz3
 gi_wp2
 rw [← HBN.out]
 refine wpIn_range_tells (by omega) (gf:=93) (lb:=#[.pointer (some ⟨D,0,none⟩)]) rfl (enters_of Tryz.func93 (by kernel_rfl) rfl)
  HT.out (fun hb=>hb) (fun {A B k o} hk hmv ho hnc=>(hmv.block k (Array.getElem?_eq_some_iff.1 ho).1).trans ho)
  (fun h k=>h.trans k) (fun W lp o o' hlp ho hc=>Firm.belowW (N:=w3.heap.size) (w0:=W) (by omega) W lp o o' hlp ho hc (Below.refl _ _)) (fun _=>rfl)
  (BytesIn x.lists w Bn) (fun _ _ _=>False)
  (fun s A' B' h hmv=>⟨(hmv.block Bn (lt_of_block h.1)).trans h.1,h.2.trans (hmv.mono (by have :=h.2.size;omega))⟩)
  (fun s=>(Firm.block HBL3.out _).and (Firm.belowW hsz3))
  (fun c s W l o o' _ _ _ h=>h)
  (fun s x=>Firm.okP _ _ _ _ _) ⟨by simpa [sumB] using HN3.out,HB3.out⟩
  (fun z=>{tmps:=#[.pointer (some ⟨S,0,none⟩),undef,.int .i64 0,.pointer (some ⟨Bn,0,none⟩),undef,.pointer (some ⟨z.2,0,none⟩),.pointer (some ⟨S,0,none⟩),.pointer (some ⟨S,0,none⟩),.pointer (some ⟨S,2,none⟩),.func (.func 93) #[] #[.pointer (some ⟨D,0,none⟩)],.string ⟨z.1.toArray⟩,.pointer (some ⟨z.2,0,none⟩),undef,undef,undef,undef,undef,undef],defers:=[]}) ?assign ?body ?done ?stop
 case assign=>
  intro lp x W K' hK'
  unfold encP
  gi_wp2
  exact hK'
 case body=>
  rintro lp pre ⟨x1,y⟩ W ⟨hnn,hbw⟩ ⟨hlt,hx,hy⟩
  simp only at hx hy ⊢
  have hkl:pre.length<x.lists.length:=by rw [← HKL.out];exact hlt
  obtain ⟨base,hla⟩:=HL.out pre.length hkl
  rw [← hy] at hla
  have hm1:=HML.out _ (List.getElem_mem hkl)
  have hst:=sumB_take hkl
  have hsl:=sumB_le (fun l hl=>(HML.out l hl).2) pre.length
  obtain ⟨t,ht⟩:∃ t,t=sumB (x.lists.take pre.length):=⟨_,rfl⟩
  rw [← ht] at hst hnn hsl
  obtain ⟨bs,hbs⟩:∃ bs,bs=bytesP (-1) x.lists[pre.length]:=⟨_,rfl⟩
  have hpl:pre.length≤1048576:=by omega
  have HLB:Hid (∀ W1,Below W.heap.size W W1→Calls Tryz.prog 78 #[.pointer (some ⟨y,0,none⟩)] W1 (GaveOwn W1.heap.size bs W1)):=Lib.hid fun W1 hb=>by
   have hla1:LAt W1 base y (bytesP (-1) x.lists[pre.length]) x.lists[pre.length]:=hla.below (hbw.trans (hb.mono hbw.size))
   rw [← hbs] at hla1
   exact list_Bytes base y bs _ W1 hla1 (by rw [hbs];exact hm1.2)
  rw [← hbs] at hst hm1
  obtain ⟨M,hM⟩:∃ M,M=bs.length:=⟨_,rfl⟩
  rw [← hM] at hst hm1
  have hM9:=hm1.2
  have HMM:=Lib.hid hM
  have hwr:IntKind.i64.wrap ((t:Int)+(M:Int))=(t:Int)+(M:Int):=IntWalk.i64_in _ (by omega)
  have hlen1:(pre++[(x1,y)]).length=pre.length+1:=by simp
  have HB0:Hid (Below W.heap.size W W.drew):=Lib.hid (Below.refl _ W).drew
  have HNF:Hid (∀ W1,Below W.heap.size W W1→W1.cell? ⟨Bn,0,none⟩=some (.int .i64 (t:Int))∧W1.frozen? ⟨Bn,0,none⟩=false):=Lib.hid fun W1 hb=>by
   have h1:=(hb.block Bn (lt_of_block hnn)).trans hnn
   exact ⟨cell_of_one h1,free_of_one h1⟩
  have HN0:=Lib.hid (HNF.out _ HB0.out)
  have hbn:w.heap.size≤Bn:=by rw [HBN.out];exact Nat.le_refl _
  have HEND:Hid (∀ w5,Below W.heap.size W w5→KeepsOthers W (w5.setCell ⟨Bn,0,none⟩ (.int .i64 ((t:Int)+(M:Int))))∧Below w.heap.size W (w5.setCell ⟨Bn,0,none⟩ (.int .i64 ((t:Int)+(M:Int))))∧BytesIn x.lists w Bn (pre++[(x1,y)]) (w5.setCell ⟨Bn,0,none⟩ (.int .i64 ((t:Int)+(M:Int))))):=Lib.hid fun w5 hb=>by
   have h1:=(hb.block Bn (lt_of_block hnn)).trans hnn
   have hbb:Below w.heap.size W (w5.setCell ⟨Bn,0,none⟩ (.int .i64 ((t:Int)+(M:Int)))):=(hb.mono hbw.size).setCell (p:=⟨Bn,0,none⟩) hbn _
   refine ⟨(show KeepsOthers W w5 from ⟨hb.size,fun k o hk _=>(hb.block k (Array.getElem?_eq_some_iff.1 hk).1).trans hk⟩).trans (KeepsOthers.setCell _ _ _),hbb,?_,hbw.trans hbb⟩
   rw [hlen1,hst,Int.natCast_add]
   simpa using one_setCell h1
  clear hnn hla hy hx hst ht hbs hM hm1 hlen1 hsl hkl
  gi_wp2
  refine region_in_round (S:=fun _=>True) (by kernel_rfl) (by kernel_rfl) trivial (fun hHeld0=> ?_)
  refine wpAnyH_take (i:=1) (v:= .pointer (some ⟨y,0,none⟩)) rfl (by kernel_rfl) (by kernel_rfl) (by kernel_rfl) (fun _ _ _ h=>h) (Or.inl ⟨by rfl,fun wx hSw=>by go_simp⟩) (by assumption) ?_
  try simp only [Act.put,zA,zB,zC,zD,zE,zF]
  refine wpAnyH_ready (rs:=[0,2]) (by kernel_rfl) (by simp) ?_
  refine (AllReadyH.cons rfl (fun K hK=> ?_) (AllReadyH.cons rfl (fun K hK=> ?_) AllReadyH.nil))
  ·try simp only [zA,zB]
   obtain ⟨n1,n2⟩:=HN0.out
   go_simp
   refine hK.out _ _ ?_ (fun hHeld=> ?_)
   ·exact trivial
   clear hK K
   try simp only [Act.put,zA,zB,zC,zD,zE,zF]
   refine wpAnyH_ready (rs:=[2]) (by kernel_rfl) (by simp) ?_
   refine (AllReadyH.cons rfl (fun K hK=> ?_) AllReadyH.nil)
   ·try simp only [zA,zB,zC]
    go_simp
    go_at_call 78
    (with_reducible refine (HLB.out _ HB0.out).mono ?_)
    rintro e w5 ⟨v5,rfl,ho5,hb5⟩
    obtain ⟨A5,c5,rfl,hc5,hr5⟩:=ho5.row
    rw [← HMM.out]
    have HB5:Hid (Below W.heap.size W w5):=Lib.hid (HB0.out.trans hb5)
    have HN5:Hid (w5.cell? ⟨Bn,0,none⟩=some (.int .i64 (t:Int))∧w5.frozen? ⟨Bn,0,none⟩=false):=Lib.hid (HNF.out _ HB5.out)
    clear ho5 hr5 hb5 hc5
    go_wp2_with fail
    refine hK.out _ _ ?_ (fun hHeld=> ?_)
    ·exact trivial
    clear hK K
    try simp only [Act.put,zA,zB,zC,zD,zE,zF]
    refine wpAnyH_take (i:=3) (v:= .int .i64 (M:Int)) rfl (by kernel_rfl) (by kernel_rfl) (by kernel_rfl) (fun _ _ _ h=>h) (Or.inl ⟨by rfl,fun wx hSw=>by go_simp⟩) (by assumption) ?_
    try simp only [Act.put,zA,zB,zC,zD,zE,zF]
    refine wpAnyH_take (i:=4) (v:= .int .i64 ((t:Int)+(M:Int))) rfl (by kernel_rfl) (by kernel_rfl) (by kernel_rfl) (fun _ _ _ h=>h) (Or.inl ⟨by rfl,fun wx hSw=>by go_simp⟩) (by assumption) ?_
    try simp only [Act.put,zA,zB,zC,zD,zE,zF]
    refine wpAnyH_ready (rs:=[5]) (by kernel_rfl) (by simp) ?_
    refine (AllReadyH.cons rfl (fun K hK=> ?_) AllReadyH.nil)
    ·try simp only [zA,zB,zC]
     obtain ⟨n1,n2⟩:=HN5.out
     go_simp
     refine hK.out _ _ ?_ (fun hHeld=> ?_)
     ·exact trivial
     clear hK K
     try simp only [Act.put,zA,zB,zC,zD,zE,zF]
     refine wpAnyH_done (by kernel_rfl) ?_ _
     refine AtEnd.fin ?_
     gi_wp2
     exact HEND.out w5 HB5.out
  ·try simp only [zA,zB,zC]
   go_simp
   go_at_call 78
   (with_reducible refine (HLB.out _ HB0.out).mono ?_)
   rintro e w5 ⟨v5,rfl,ho5,hb5⟩
   obtain ⟨A5,c5,rfl,hc5,hr5⟩:=ho5.row
   rw [← HMM.out]
   have HB5:Hid (Below W.heap.size W w5):=Lib.hid (HB0.out.trans hb5)
   have HN5:Hid (w5.cell? ⟨Bn,0,none⟩=some (.int .i64 (t:Int))∧w5.frozen? ⟨Bn,0,none⟩=false):=Lib.hid (HNF.out _ HB5.out)
   clear ho5 hr5 hb5 hc5
   go_wp2_with fail
   refine hK.out _ _ ?_ (fun hHeld=> ?_)
   ·exact trivial
   clear hK K
   try simp only [Act.put,zA,zB,zC,zD,zE,zF]
   refine wpAnyH_take (i:=3) (v:= .int .i64 (M:Int)) rfl (by kernel_rfl) (by kernel_rfl) (by kernel_rfl) (fun _ _ _ h=>h) (Or.inl ⟨by rfl,fun wx hSw=>by go_simp⟩) (by assumption) ?_
   try simp only [Act.put,zA,zB,zC,zD,zE,zF]
   refine wpAnyH_ready (rs:=[0]) (by kernel_rfl) (by simp) ?_
   refine (AllReadyH.cons rfl (fun K hK=> ?_) AllReadyH.nil)
   ·try simp only [zA,zB]
    obtain ⟨n1,n2⟩:=HN5.out
    go_simp
    refine hK.out _ _ ?_ (fun hHeld=> ?_)
    ·exact trivial
    clear hK K
    try simp only [Act.put,zA,zB,zC,zD,zE,zF]
    refine wpAnyH_take (i:=4) (v:= .int .i64 ((t:Int)+(M:Int))) rfl (by kernel_rfl) (by kernel_rfl) (by kernel_rfl) (fun _ _ _ h=>h) (Or.inl ⟨by rfl,fun wx hSw=>by go_simp⟩) (by assumption) ?_
    try simp only [Act.put,zA,zB,zC,zD,zE,zF]
    refine wpAnyH_ready (rs:=[5]) (by kernel_rfl) (by simp) ?_
    refine (AllReadyH.cons rfl (fun K hK=> ?_) AllReadyH.nil)
    ·try simp only [zA,zB,zC]
     obtain ⟨n1,n2⟩:=HN5.out
     go_simp
     refine hK.out _ _ ?_ (fun hHeld=> ?_)
     ·exact trivial
     clear hK K
     try simp only [Act.put,zA,zB,zC,zD,zE,zF]
     refine wpAnyH_done (by kernel_rfl) ?_ _
     refine AtEnd.fin ?_
     gi_wp2
     exact HEND.out w5 HB5.out
 case done=>
  rintro D' ys W hD2 hys ⟨hnn,hbw⟩ hK'
  rw [hys,HKL.out,List.take_length] at hnn
  have cB:=cell_of_one hnn
  have HBW:=Lib.hid hbw
  clear hys hbw
  gi_wp2
  refine ⟨by simp,.inl ⟨_,_,rfl,run_takeDeferred hK',?_⟩⟩
  refine ⟨_,results_tmp rfl _ _ _,?_⟩
  exact ⟨rfl,Firm.belowW (N:=w3.heap.size) hsz3 W D' _ _ hD2 hK' rfl HBW.out⟩
 case stop=>
  rintro D' c pre W _ _ hh _
  exact hh.elim
end Go.Proofs.YtmoomnpbiifedaaGreat
set_option linter.unusedVariables false
namespace Go.Proofs.YtmoomnpbiifedaaGreat
open Go Go.RowKit
theorem mayB_few:∀ {l:List Pn} {x:Int} {n:Int},mayB' x l=true→(∀ p∈l,p.1<n)→x<n→(l.length:Int)<n-x
 |[],x,n,_,_,h=>by simp;omega
 |p::r,x,n,h,hb,hx=>by
  obtain ⟨h1,_,_,h4⟩:=mayB'_cons.1 h
  have :=mayB_few h4 (fun q hq=>hb q (List.mem_cons_of_mem _ hq)) (hb p (List.mem_cons_self ..))
  rw [List.length_cons]
  push_cast
  omega
theorem mayB_last:∀ {l:List Pn} {x n:Int},mayB' x l=true→(∀ p,l.getLast?=some p→p.1<n)→∀ p∈l,p.1<n
 |[],x,n,_,_,p,hp=>by cases hp
 |[q],x,n,_,hl,p,hp=>by rw [List.mem_singleton.1 hp];exact hl q rfl
 |q::q2::r,x,n,h,hl,p,hp=>by
  obtain ⟨_,_,_,h4⟩:=mayB'_cons.1 h
  have ih:=mayB_last (l:=q2::r) h4 (fun p hp=>hl p (by rw [List.getLast?_cons_cons];exact hp))
  rcases List.mem_cons.1 hp with rfl|hp
  ·have h5:=(mayB'_cons.1 h4).1
   have :=ih q2 (List.mem_cons_self ..)
   omega
  ·exact ih p hp
theorem mayB_places:∀ {l:List Pn} {x:Int},mayB' x l=true→∀ p∈l,placesB p.2=true
 |[],_,_,p,hp=>by cases hp
 |q::r,x,h,p,hp=>by
  obtain ⟨_,_,h3,h4⟩:=mayB'_cons.1 h
  rcases List.mem_cons.1 hp with rfl|hp
  ·exact h3
  ·exact mayB_places h4 p hp
theorem mayL_few {n:Nat} {l:List Pn} (h:mayL n l=true):l.length≤n:=by
 unfold mayL at h
 simp only [Bool.and_eq_true,decide_eq_true_eq] at h
 obtain ⟨h1,_,h3⟩:=h
 have h4:=mayB_few (x:= -1) (n:=(n:Int)) h1 (mayB_last h1 h3) (by omega)
 omega
structure LikeOk (x:PartsP):Prop where
 may:mayPs x=true
 small:PSmall x
 few:x.ids.length≤100
theorem LikeOk.list {x:PartsP} (h:LikeOk x) {l:List Pn} (hl:l∈x.lists):mayB' (-1) l=true∧l.length≤100∧(∀ p∈l,p.2.length≤2147483648)∧(bytesP (-1) l).length≤400000000000:=by
 have h1:=(mayPs_iff.1 h.may).2.2.2.2 l hl
 have h2:=(mayL_may h1).1
 have h3:=h.small.lists l hl
 exact ⟨h2,Nat.le_trans (mayL_few h1) h.few,fun p hp=>places_count (mayB_places h2 p hp),bytes_small h2 h3.1 h3.2⟩
theorem like_sumB {x:PartsP} (h:LikeOk x):∀ k,sumB (x.lists.take k)≤k*400000000000
 |0=>by simp [sumB]
 |k+1=>by
  by_cases hk:k<x.lists.length
  ·rw [sumB_take hk]
   have :=like_sumB h k
   have :=(h.list (List.getElem_mem hk)).2.2.2
   omega
  ·have :=like_sumB h k
   rw [List.take_of_length_le (by omega)] at this ⊢
   exact Nat.le_trans this (Nat.mul_le_mul_right _ (Nat.le_succ k))
theorem LikeOk.posts {x:PartsP} (h:LikeOk x) (key:Nm):(postsPs x key).length≤1000∧∀ p∈postsPs x key,p.2.length≤2147483648:=
 ⟨(h.small.at_ key).1,fun p hp=>places_count (mayB_places (may_at h.may key) p hp)⟩
theorem nextC_at {g:List Po} {k:Nat} (h:k≤g.length):nextC g ((k:Int)-1)=k:=by
 unfold nextC
 rw [if_pos (by omega)]
 omega
theorem docC_end (g:List Po):docC g (g.length:Int)=2147483648:=by
 unfold docC
 rw [if_neg (by omega),if_pos (by omega)]
theorem idAt_out {l:List Int} {i:Int} (h:i<0∨(l.length:Int)≤i):idAt l i= -1:=by
 unfold idAt
 rw [if_neg (by omega)]
end Go.Proofs.YtmoomnpbiifedaaGreat
set_option linter.unusedVariables false
namespace Go.Proofs.YtmoomnpbiifedaaGreat
open Go Go.RowKit
def GaveIsO (l:List Int) (w:World) (e:Ending) (w':World):Prop:=∃ A c,e= .returned (.slice A l.length c)∧l.length≤c∧w'.ownsRow w.heap.size 3 1 (.slice A l.length c) l.length (ints l)∧Below w.heap.size w w'
def GaveIs (l:List Int) (w:World) (e:Ending) (w':World):Prop:=∃ A c,e= .returned (.slice A l.length c)∧l.length≤c∧Row w' w'.heap.size A (ints l)∧Below w.heap.size w w'
set_option maxHeartbeats 2000000 in
set_option maxRecDepth 100000 in
theorem clone_intsO (A:Option Addr) (m c:Nat) (ps:List Int) (w:World) (hn:ps.length=m) (hr:Row w w.heap.size A (ints ps)) (hl:m≤2147483648):
  Calls Tryz.prog 26 #[.slice A m c] w (GaveIsO ps w):=by
 obtain ⟨i0,hi0,hz0,hz1,hz2⟩:=info_parts info_int
 have qe:∀ (w:World) (a:Option Addr) (n c n' c':Nat),(binOp .eql 22 (.slice a n c) (.slice none n' c')).run Tryz.prog w= .ok (.bool a.isNone) w:=fun w a n c n' c'=>Lib.run_eql_slice_nil w _ _ a n c n' c' Tryz.underlying22
 subst hn
 cases A with
 |none=>
  obtain rfl:ps=[]:=by
   rcases Nat.eq_zero_or_pos ps.length with h0|h0
   ·exact List.eq_nil_of_length_eq_zero h0
   ·obtain ⟨_,_,e,_⟩:=hr.at_ (by simpa [ints] using h0)
    cases e
  clear hr
  go_enter Tryz.func26,Tryz.ntmps26
  go_wp2
  go_ret
  exact ⟨none,0,rfl,Nat.zero_le _,World.ownsRow_nil _ _ _ _,Below.refl _ _⟩
 |some ad=>
  have HR:=Lib.hid hr
  have hwl:(ints ps).length=ps.length:=by simp [ints]
  have HWL:=Lib.hid hwl
  clear hr hwl
  have hlit:(w.alloc (.cells #[] 3)).ownsRow w.heap.size 3 1 (.slice (some ⟨w.heap.size,0,none⟩) 0 0) 0 []:=World.ownsRow_made w #[] 0 (Nat.le_refl _) (Nat.zero_le _) rfl
  obtain ⟨m,hm⟩:∃ m,m=ps.length:=⟨_,rfl⟩
  rw [← hm] at HWL hl
  rw [← hm]
  have HM:=Lib.hid hm
  clear hm
  go_enter Tryz.func26,Tryz.ntmps26
  go_wp2_with (at_builtin;(refine wpList_append_row _ rfl (.tmp 5) (.tmp 6) 22 rfl w.heap.size 3 i0 _ 1 8 Tryz.underlying22 hi0 hz0 hz1 hz2 rfl (by decide) _ 0 [] rfl hlit _ _ m c (ints ps) rfl (by rw [HWL.out];omega) ((HR.out.below ((Below.refl _ w).alloc (Nat.le_refl _) (.cells #[] 3))).more (B':=(w.alloc (.cells #[] 3)).heap.size) (by simp)) (ints_oneCell' _) (by unfold maxLen;omega) (by omega) (by simp) ?_))
  intro v' w' hown hgrow
  obtain ⟨A',c',rfl,hc',_⟩:=owned_row hown
  go_wp2
  go_ret
  refine ⟨A',c',by rw [← HM.out];rfl,by rw [← HM.out];exact hc',by rw [← HM.out];simpa using hown,((Below.refl _ _).alloc (Nat.le_refl _) _).grown hgrow (by simp) (fun k hk=>by cases hk;exact Nat.le_refl _)⟩
theorem clone_ints10 (A:Option Addr) (m c:Nat) (ps:List Int) (w:World) (hn:ps.length=m) (hr:Row w w.heap.size A (ints ps)) (hl:m≤2147483648):
  Calls Tryz.prog 26 #[.slice A m c] w (GaveIs ps w):=
 (clone_intsO A m c ps w hn hr hl).mono fun _ _ ⟨A,c,h1,h2,h3,h4⟩=>⟨A,c,h1,h2,owned_row_of h3,h4⟩
end Go.Proofs.YtmoomnpbiifedaaGreat
