import Derived.Test.YtmoomnpbiifedaaGreatMBQ14
import Derived.Test.YtmoomnpbiifedaaGreatMBQ12
import Derived.Test.YtmoomnpbiifedaaGreatMBQ05
import Derived.Test.YtmoomnpbiifedaaGreatMBQ04
import Derived.Test.YtmoomnpbiifedaaGreatMBQ07
import Derived.Test.YtmoomnpbiifedaaGreatMBQ13
import Derived.Laws.Rows
import Derived.Shelf.SlSorted.Search
import Derived.Test.YtmoomnpbiifedaaGreatProg
set_option linter.unusedVariables false
namespace Go.Proofs.YtmoomnpbiifedaaGreat
open Go Go.RowKit
attribute [local go_sem] Oper.semAt_some
theorem PoCells.one {R:Option Addr→List Value→Prop}:∀ {l:List Po} {cs:List Value},PoCells R l cs→∀ u∈cs,u.oneCell'=true
 |[],cs,h,u,hu=>by simp only [PoCells] at h;subst h;cases hu
 |q::r,cs,h,u,hu=>by
  obtain ⟨A,c,cs',rfl,_,_,_,h'⟩:=h
  simp only [List.mem_cons] at hu
  rcases hu with rfl|rfl|hu
  ·rfl
  ·rfl
  ·exact PoCells.one h' u hu
theorem PoCells.join {R:Option Addr→List Value→Prop}:∀ {a b:List Po} {cs cs':List Value},PoCells R a cs→PoCells R b cs'→PoCells R (a++b) (cs++cs')
 |[],b,cs,cs',h,k=>by simp only [PoCells] at h;subst h;exact k
 |q::r,b,cs,cs',h,k=>by
  obtain ⟨A,c,cs'',rfl,h1,h2,h3,h'⟩:=h
  exact ⟨A,c,cs''++cs',rfl,h1,h2,h3,PoCells.join h' k⟩
def AllI (w:World) (R C D B:Nat) (l:List Po) (pre:List Value) (W:World):Prop:=
 W.heap[D]?=some (.cells #[.pointer (some ⟨B,0,none⟩)] 65 (0,0))∧W.heap[C]?=some (.cells #[.slice (some ⟨R,0,none⟩) (l.take (8*pre.length)).length l.length] 58 (0,0))∧
  NewPo w.heap.size W (.slice (some ⟨R,0,none⟩) (l.take (8*pre.length)).length l.length) (l.take (8*pre.length))∧Below w.heap.size w W
set_option maxHeartbeats 8000000 in
set_option maxRecDepth 100000 in
theorem list_All (base B:Nat) (l:List Po) (w:World) (h:LAt w base B (bytesP (-1) l) l) (hmay:mayB' (-1) l=true) (hbl:(bytesP (-1) l).length≤400000000000) (hl:l.length≤1000000):
  Calls Tryz.prog 54 #[.pointer (some ⟨B,0,none⟩)] w (GaveNew l w):=by
 obtain ⟨i0,hi0,hz0,hz1,hz2⟩:=info_parts info_posting
 refine (callsIn_wide (n:=6)).1 ?_
 obtain ⟨_,_,_,_,⟨_,_,c2,_⟩,_⟩:=h.read
 have hblt:=h.lt
 obtain ⟨n,hn⟩:∃ n,n=l.length:=⟨_,rfl⟩
 rw [← hn] at c2 hl
 have HN:=Lib.hid hn
 have HTOLD:Hid (∀ (D:Nat) (w':World),Below w.heap.size w w'→w'.heap[D]?=some (.cells #[.pointer (some ⟨B,0,none⟩)] 65 (0,0))→Told 5 Tryz.prog 121 #[.pointer (some ⟨D,0,none⟩)] (fun v:Value=>#[v]) (KpOne w.heap.size D) (OkBlock w.heap.size l) (fun ys=>ys.length=blocksP l.length) w'):=Lib.hid fun D w' hb hd=>
  blocks_told 5 D base B l w w' (by omega) h hmay hbl (by rw [← hn];exact hl) hb hd
 clear h hmay hbl hn
 refine callsIn_of_wp_marks Tryz.func54 rfl trivial ?_ rfl
 simp only [Tryz.ntmps54,List.size_toArray,List.length_cons,List.length_nil,Nat.reduceAdd,Nat.reduceSub,Array.replicate_succ,Array.replicate_zero,List.push_toArray,List.append_toArray,List.nil_append,List.cons_append]
 gi_wp2_with (gi_at_make;refine wpListIn_make_own _ rfl _ _ 58 rfl w.heap.size 63 i0 _ 2 Tryz.underlying58 hi0 hz0 hz1 _ _ _ n rfl rfl rfl (by rw [hz2];omega) (by unfold maxLen;omega) (Nat.le_refl _) ?_)
 intro w1 hown hgrow
 have hb1:Below w.heap.size w w1:=(Below.refl _ _).grown hgrow (Nat.le_refl _) (fun k hk=>by cases hk)
 have hs1:=hb1.size
 have hR1:=(hown.lt w.heap.size rfl).2
 obtain ⟨C,hC⟩:∃ C,C=w1.heap.size:=⟨_,rfl⟩
 gi_wp2_with (first
  |(refine ⟨trivial,?_⟩;gi_at_call 94;refine (callsIn_wide.2 (list_blocks _ _)).mono ?_)
  |(gi_at_call 94;refine (callsIn_wide.2 (list_blocks _ _)).mono ?_))
 rintro e w3 ⟨rfl,e1,hb3,hz3⟩
 rw [World.size_alloc,← hC] at e1 hz3
 have hal:=(Below.refl w1.heap.size w1).alloc (Nat.le_refl _) (.cells #[.slice (some ⟨w.heap.size,0,none⟩) 0 n] 58)
 have hb13:=hal.trans (hb3.mono (by simp))
 have hb03:=hb1.trans (hb13.mono hs1)
 have hc3:w3.heap[C]?=some (.cells #[.slice (some ⟨w.heap.size,0,none⟩) 0 n] 58 (0,0)):=by rw [hC];exact (hb3.block _ (by simp)).trans (heap_alloc_new w1 _)
 have hown3:=owned_below hown hb13
 have hi0':AllI w w.heap.size C (C+1) B l [] w3:=⟨e1,by simpa [← HN.out] using hc3,⟨[],by simpa [← HN.out] using hown3,by simp [PoCells]⟩,hb03⟩
 have HI0:=Lib.hid hi0'
 have HT:=Lib.hid (HTOLD.out (C+1) w3 hb03 e1)
 have HZ3:=Lib.hid hz3
 have HRC:Hid (w.heap.size<C):=Lib.hid (by omega)
 gi_wp2
 rw [← hC]
 clear hi0' hown3 hc3 hb03 hb13 hal e1 hz3 hb3 hown hgrow hb1 hs1 hR1 hC c2
 refine wpIn_range_told (by omega) (gf:=121) (lb:=#[.pointer (some ⟨C+1,0,none⟩)]) rfl (enters_of Tryz.func121 (by kernel_rfl) rfl)
  HT.out KpOne.trans (fun W lp o o' hlp ho hc=>⟨Firm.belowW (N:=w.heap.size) (Nat.le_refl _) W lp o o' (by have :=HZ3.out;have :=HRC.out;omega) ho hc (Below.refl _ _),fun _=>World.putObj_heap_other (by have :=HZ3.out;omega)⟩) (fun _=>rfl)
  (AllI w w.heap.size C (C+1) B l) (fun s A' B' h hb=>⟨(hb.block _ (lt_of_block h.1)).trans h.1,(hb.block _ (lt_of_block h.2.1)).trans h.2.1,h.2.2.1.below hb,h.2.2.2.trans (hb.mono h.2.2.2.size)⟩)
  (fun s=>(Firm.block (by have :=HZ3.out;omega) _).and ((Firm.block (by have :=HZ3.out;omega) _).and ((Firm.newPo _ _ _ _).and (Firm.belowW (by have :=HZ3.out;have :=HRC.out;omega)))))
  (fun s x=>Firm.pure.and (Firm.newPo _ _ _ _)) HI0.out
  (fun v=>{tmps:=#[.pointer (some ⟨B,0,none⟩),undef,.slice none 0 0,.pointer (some ⟨C,0,none⟩),v,.pointer (some ⟨B,0,none⟩),.pointer (some ⟨B,0,none⟩),.pointer (some ⟨B,2,none⟩),.int .i64 (n:Int),.slice (some ⟨w.heap.size,0,none⟩) 0 n,.pointer (some ⟨B,0,none⟩),
   .func (.func 121) #[] #[.pointer (some ⟨C+1,0,none⟩)],v,undef,undef,undef,undef],defers:=[]}) ?assign ?body ?done
 case assign=>
  intro lp x W K' hK'
  gi_wp2
  exact hK'
 case body=>
  rintro lp pre v W ⟨hD,hC,hnew,hbw⟩ ⟨hx,hok⟩
  obtain ⟨k,hk⟩:∃ k,k=pre.length:=⟨_,rfl⟩
  have hAI:∀ W',W'.heap[C+1]?=some (.cells #[.pointer (some ⟨B,0,none⟩)] 65 (0,0))→W'.heap[C]?=some (.cells #[.slice (some ⟨w.heap.size,0,none⟩) (l.take (8*(k+1))).length l.length] 58 (0,0))→NewPo w.heap.size W' (.slice (some ⟨w.heap.size,0,none⟩) (l.take (8*(k+1))).length l.length) (l.take (8*(k+1)))→Below w.heap.size w W'→AllI w w.heap.size C (C+1) B l (pre++[v]) W':=fun W' h1 h2 h3 h4=>by
   unfold AllI
   rw [List.length_append,List.length_singleton,← hk]
   exact ⟨h1,h2,h3,h4⟩
  rw [← hk] at hC hnew hx hok
  have hcat:=blocks_all l k
  have hblen:=blockP_length (l:=l) k
  have hlen:(l.take (8*(k+1))).length≤l.length:=by rw [List.length_take];omega
  obtain ⟨acc,hacc⟩:∃ acc,acc=l.take (8*k):=⟨_,rfl⟩
  obtain ⟨blk,hblk⟩:∃ blk,blk=blockP l (k:Int):=⟨_,rfl⟩
  rw [← hacc,← hblk] at hcat
  rw [hcat] at hAI hlen
  rw [← hacc] at hC hnew
  rw [← hblk] at hblen hok
  rw [← HN.out] at hC hnew hlen hAI hblen
  have hm0:0<blk.length:=by rw [hblen,HN.out];unfold blocksP at hx;omega
  obtain ⟨cs2,ho2,hp2⟩:=hok
  obtain ⟨A2,c2,rfl,hc2,hr2⟩:=owned_row ho2
  obtain ⟨b2,o2,rfl,hb2,hcc⟩:=hr2.at_ (by rw [hp2.len];omega)
  obtain ⟨cs1,ho1,hp1⟩:=hnew
  obtain ⟨L,hL⟩:∃ L,L=acc.length:=⟨_,rfl⟩
  obtain ⟨M,hM⟩:∃ M,M=blk.length:=⟨_,rfl⟩
  rw [List.length_append] at hlen hAI
  rw [← hL,← hM] at hlen hAI
  rw [← hL] at hC ho1
  rw [← hM] at hm0
  rw [← hM]
  have hcc1:=cell_of_one hC
  have hcf1:=free_of_one hC
  have HAI:=Lib.hid hAI
  have HD:=Lib.hid hD
  have HC:=Lib.hid hC
  have HO1:=Lib.hid ho1
  have HP1:=Lib.hid hp1
  have HP2:=Lib.hid hp2
  have HBW:=Lib.hid hbw
  have HL:=Lib.hid hL
  have HM:=Lib.hid hM
  have HCC:=Lib.hid hcc
  have hn2:cs2.length=M*2:=by rw [hp2.len,hM]
  have HN2:=Lib.hid hn2
  clear hAI hD hC ho1 hp1 hp2 hbw hL hM hk hx hcat hacc hblk hblen ho2 hr2 hcc hc2 hb2 hn2
  gi_wp2_with (gi_at_builtin;refine wpListIn_append_fits _ rfl (.tmp 13) (.tmp 14) 58 rfl w.heap.size 63 i0 2 Tryz.underlying58 hi0 hz1 w.heap.size L n cs1 rfl HO1.out ⟨b2,o2,none⟩ M c2 cs2 rfl HN2.out (fun j u hu=>by rw [Addr.add_lit];exact HCC.out j u hu) (PoCells.one HP2.out) hlen ?_)
  intro w4 hown4 hg4
  obtain ⟨csr,frr,hRr⟩:=owned_type HO1.out rfl
  have hCR:C≠w.heap.size:=by have :=HRC.out;omega
  have hC4:w4.heap[C]?=some (.cells #[.slice (some ⟨w.heap.size,0,none⟩) L n] 58 (0,0)):=(hg4.block C (lt_of_block HC.out) (fun e=>hCR (Option.some.inj e))).trans HC.out
  have hc4:=cell_of_one hC4
  have hf4:=free_of_one hC4
  have hints:∀ (k:Nat) (cs:Array Value) (fr:Nat × Nat),W.heap[k]?=some (.cells cs 3 fr)→(w4.setCell ⟨C,0,none⟩ (.slice (some ⟨w.heap.size,0,none⟩) (L+M) n)).heap[k]?=some (.cells cs 3 fr):=fun k cs fr hk=>by
   have h1:k≠C:=fun e=>by rw [e,HC.out] at hk;simp at hk
   have h2:k≠w.heap.size:=fun e=>by rw [e,hRr] at hk;simp at hk
   rw [Below.heap_setCell _ _ _ _ h1,hg4.block k (Array.getElem?_eq_some_iff.1 hk).1 (fun e=>h2 (Option.some.inj e)),hk]
  have hnew5:NewPo w.heap.size (w4.setCell ⟨C,0,none⟩ (.slice (some ⟨w.heap.size,0,none⟩) (L+M) n)) (.slice (some ⟨w.heap.size,0,none⟩) (L+M) n) (acc++blk):=by
   refine ⟨cs1++cs2,?_,(HP1.out.imp fun _ _ h=>⟨h.1.moved hints,h.2⟩).join (HP2.out.imp fun _ _ h=>⟨h.1.moved hints,h.2⟩)⟩
   rw [List.length_append,← HL.out,← HM.out]
   exact owned_setCell hown4 (by simpa [Value.ownBlock] using hCR.symm) _
  have hb5:Below w.heap.size W (w4.setCell ⟨C,0,none⟩ (.slice (some ⟨w.heap.size,0,none⟩) (L+M) n)):=
   ((Below.refl _ W).grown hg4 HBW.out.size (fun k e=>by injection e with e;omega)).setCell (p:=⟨C,0,none⟩) (by show w.heap.size≤C;have :=HRC.out;omega) _
  have hko:KeepsOthers W (w4.setCell ⟨C,0,none⟩ (.slice (some ⟨w.heap.size,0,none⟩) (L+M) n)):=
   (KeepsOthers.of_grownBy hg4 fun j o ej hj=>by injection ej with ej;subst ej;rw [hRr] at hj;injection hj with hj;subst hj;rfl).trans (KeepsOthers.setCell _ _ _)
  have hD5:(w4.setCell ⟨C,0,none⟩ (.slice (some ⟨w.heap.size,0,none⟩) (L+M) n)).heap[C+1]?=W.heap[C+1]?:=by
   rw [Below.heap_setCell _ _ _ _ (show C+1≠C by omega),hg4.block (C+1) (lt_of_block HD.out) (fun e=>by have :=Option.some.inj e;have :=HRC.out;omega)]
  have hfin:=HAI.out _ (hD5.trans HD.out) (one_setCell hC4) hnew5 (HBW.out.trans hb5)
  have HF:=Lib.hid hfin
  have HB5:=Lib.hid hb5
  have HKO:=Lib.hid hko
  have HD5:=Lib.hid hD5
  clear hints hnew5 hb5 hko hD5 hfin hown4 hg4 hC4 hRr hcc1 hcf1
  gi_wp2
  exact ⟨HKO.out,⟨HB5.out,fun _=>HD5.out⟩,HF.out⟩
 case done=>
  rintro D' ys W hD hys ⟨_,hC,hnew,hbw⟩ hK'
  rw [hys,take_blocks] at hC hnew
  have hcc1:=cell_of_one hC
  have HNW:=Lib.hid hnew
  have HBW:=Lib.hid hbw
  clear hC hnew hbw hys
  gi_wp2
  refine ⟨by simp,.inl ⟨_,_,rfl,run_takeDeferred hK',?_⟩⟩
  refine ⟨_,results_tmp rfl _ _ _,?_⟩
  have hD2:w.heap.size≤D':=by have :=HZ3.out;have :=HRC.out;omega
  exact ⟨_,rfl,Firm.newPo 0 _ _ _ W D' _ _ (Nat.zero_le _) hK' rfl HNW.out,Firm.belowW (N:=w.heap.size) (Nat.le_refl _) W D' _ _ hD2 hK' rfl HBW.out⟩
end Go.Proofs.YtmoomnpbiifedaaGreat
set_option linter.unusedVariables false
namespace Go.Proofs.YtmoomnpbiifedaaGreat
open Go Go.RowKit
section
variable (base B:Nat) (bs:List UInt8) (l:List Po) (w:World) (h:LAt w base B bs l)
include h
theorem list_Len:Calls Tryz.prog 79 #[.pointer (some ⟨B,0,none⟩)] w fun e w'=>e= .returned (.int .i64 (l.length:Int))∧w=w':=by
 obtain ⟨Ab,cb,Ae,ce,⟨c0,c1,c2,c3⟩,_⟩:=h.read
 clear h
 go_enter Tryz.func79,Tryz.ntmps79
 go_wp2
 go_ret
 exact ⟨rfl,rfl⟩
end
end Go.Proofs.YtmoomnpbiifedaaGreat
set_option linter.unusedVariables false
namespace Go.Proofs.YtmoomnpbiifedaaGreat
def docC (g:List Po) (i:Int):Int:=if i<0 then-1 else if (g.length:Int)≤i then 2147483648 else (g.getD i.toNat (0,[])).1
def placesC (g:List Po) (i:Int):List Int:=if i<0∨(g.length:Int)≤i then [] else (g.getD i.toNat (0,[])).2
def nextC (g:List Po) (i:Int):Int:=if i<(g.length:Int) then i+1 else i
def advC (g:List Po) (doc:Int) (i:Int):Int:=if docC g i<doc∧i<(g.length:Int) then advC g doc (i+1) else i
termination_by ((g.length:Int)-i).toNat
decreasing_by omega
theorem docC_ahead {g:List Po} {i:Int} (h:i<0):docC g i= -1:=by unfold docC;rw [if_pos h]
theorem docC_behind {g:List Po} {i:Int} (h0:0≤i) (h:(g.length:Int)≤i):docC g i=2147483648:=by unfold docC;rw [if_neg (by omega),if_pos h]
theorem docC_at {g:List Po} {k:Nat} (h:k<g.length):docC g (k:Int)=(g.getD k (0,[])).1:=by unfold docC;rw [if_neg (by omega),if_neg (by omega),Int.toNat_natCast]
theorem placesC_none {g:List Po} {i:Int} (h:i<0∨(g.length:Int)≤i):placesC g i=[]:=by unfold placesC;rw [if_pos h]
theorem placesC_at {g:List Po} {k:Nat} (h:k<g.length):placesC g (k:Int)=(g.getD k (0,[])).2:=by unfold placesC;rw [if_neg (by omega),Int.toNat_natCast]
theorem advC_stay {g:List Po} {doc i:Int} (h:¬ (docC g i<doc∧i<(g.length:Int))):advC g doc i=i:=by rw [advC,if_neg h]
theorem advC_step {g:List Po} {doc i:Int} (h:docC g i<doc∧i<(g.length:Int)):advC g doc i=advC g doc (i+1):=by rw [advC,if_pos h]
theorem may_memC:∀ {l:List Po} {x:Int},mayB' x l=true→∀ q∈l,x<q.1∧q.1<2147483648
 |[],_,_,q,hq=>by cases hq
 |p::r,x,h,q,hq=>by
  obtain ⟨h1,h2,_,h4⟩:=mayB'_cons.1 h
  rcases List.mem_cons.1 hq with rfl|hq
  ·exact ⟨h1,h2⟩
  ·have :=may_memC h4 q hq
   exact ⟨by omega,this.2⟩
theorem docC_lt {g:List Po} (h:mayB' (-1) g=true) {k:Nat} (hk:k<g.length):0≤docC g (k:Int)∧docC g (k:Int)<2147483648:=by
 rw [docC_at hk]
 have :=may_memC h (g.getD k (0,[])) (by rw [List.getD_eq_getElem?_getD,List.getElem?_eq_getElem hk];simp)
 omega
end Go.Proofs.YtmoomnpbiifedaaGreat
set_option linter.unusedVariables false
namespace Go.Proofs.YtmoomnpbiifedaaGreat
theorem docOf_last:∀ (l:List Po) (x:Int),l≠[]→docOf x l=(l.getD (l.length-1) (0,[])).1
 |[],_,h=>absurd rfl h
 |[p],_,_=>rfl
 |p::q::r,x,_=>by
  have ih:=docOf_last (q::r) p.1 (by simp)
  rw [docOf,ih]
  simp only [List.length_cons,Nat.add_sub_cancel]
  rw [List.getD_cons_succ]
theorem doc_mono:∀ {g:List Po} {x:Int},mayB' x g=true→∀ {i j:Nat},i<j→j<g.length→(g.getD i (0,[])).1<(g.getD j (0,[])).1
 |[],_,_,i,j,_,hj=>by simp at hj
 |p::r,x,h,0,j+1,_,hj=>by
  obtain ⟨_,_,_,h4⟩:=mayB'_cons.1 h
  have hj':j<r.length:=by simpa using hj
  rw [List.getD_cons_succ,List.getD_cons_zero]
  refine (may_memC h4 _ ?_).1
  rw [List.getD_eq_getElem?_getD,List.getElem?_eq_getElem hj']
  exact List.getElem_mem hj'
 |p::r,x,h,i+1,j+1,hij,hj=>by
  obtain ⟨_,_,_,h4⟩:=mayB'_cons.1 h
  rw [List.getD_cons_succ,List.getD_cons_succ]
  exact doc_mono h4 (by omega) (by simpa using hj)
theorem docC_mono {g:List Po} (h:mayB' (-1) g=true) {i j:Nat} (hij:i≤j) (hj:j<g.length):docC g (i:Int)≤docC g (j:Int):=by
 rcases Nat.lt_or_ge i j with hl|hl
 ·rw [docC_at (by omega),docC_at hj]
  have :=doc_mono h hl hj
  omega
 ·obtain rfl:i=j:=by omega
  exact Int.le_refl _
theorem getD_take {g:List Po} {n k:Nat} (h:k<n):(g.take n).getD k (0,[])=g.getD k (0,[]):=by
 rw [List.getD_eq_getElem?_getD,List.getD_eq_getElem?_getD,List.getElem?_take,if_pos h]
theorem lastP_doc {g:List Po} {k:Nat} (hk:k<blocksP g.length):lastP g (k:Int)=docC g ((8*k+(blockP g (k:Int)).length-1:Nat):Int):=by
 have hp:=blockP_some hk
 have hl:=blockP_length (l:=g) k
 have e:(g.take (8*(k+1))).length=8*k+(blockP g (k:Int)).length:=by rw [List.length_take,hl];unfold blocksP at hk;omega
 rw [lastP_end hk,docOf_last _ _ (by intro h;rw [h] at e;simp at e;omega),e,getD_take (by omega),docC_at (by omega)]
theorem block_at {g:List Po} {k j:Nat} (hj:j<(blockP g (k:Int)).length):k<blocksP g.length∧8*k+j<g.length∧(blockP g (k:Int)).drop j=g.getD (8*k+j) (0,[])::(blockP g (k:Int)).drop (j+1):=by
 have hl:=blockP_length (l:=g) k
 have h2:8*k+j<g.length:=by omega
 refine ⟨by unfold blocksP;omega,h2,?_⟩
 rw [drop_poA hj]
 congr 1
 rw [blockP_nat,getD_take (by omega),List.getD_eq_getElem?_getD,List.getD_eq_getElem?_getD,List.getElem?_drop]
theorem advC_is {g:List Po} {doc:Int}:∀ (n:Nat) (i j:Int),(j-i).toNat=n→i≤j→j≤(g.length:Int)→(∀ k,i≤k→k<j→docC g k<doc)→(j=(g.length:Int)∨doc≤docC g j)→advC g doc i=j:=by
 intro n
 induction n with
 |zero=>
  intro i j h h1 h2 h3 h4
  obtain rfl:i=j:=by omega
  exact advC_stay (by omega)
 |succ n ih=>
  intro i j h h1 h2 h3 h4
  rw [advC_step ⟨h3 i (by omega) (by omega),by omega⟩]
  exact ih (i+1) j (by omega) (by omega) h2 (fun k hk=>h3 k (by omega)) h4
theorem advC_skip {g:List Po} {doc:Int}:∀ (n:Nat) (i j:Int),(j-i).toNat=n→i≤j→j≤(g.length:Int)→(∀ k,i≤k→k<j→docC g k<doc)→advC g doc i=advC g doc j:=by
 intro n
 induction n with
 |zero=>
  intro i j h h1 h2 h3
  obtain rfl:i=j:=by omega
  rfl
 |succ n ih=>
  intro i j h h1 h2 h3
  rw [advC_step ⟨h3 i (by omega) (by omega),by omega⟩]
  exact ih (i+1) j (by omega) (by omega) h2 (fun k hk=>h3 k (by omega))
theorem count_from {p:Nat→Bool}:∀ (N:Nat),(∀ a b,a≤b→b<N→p a=true→p b=true)→
  (List.range N).countP (fun i=> !p i)≤N∧(∀ k,k<(List.range N).countP (fun i=> !p i)→p k=false)∧(∀ k,(List.range N).countP (fun i=> !p i)≤k→k<N→p k=true):=by
 intro N
 induction N with
 |zero=>intro _;simp
 |succ N ih=>
  intro hm
  obtain ⟨h1,h2,h3⟩:=ih fun a b hab hb=>hm a b hab (by omega)
  rw [List.range_succ,List.countP_append]
  obtain ⟨m,hm'⟩:∃ m,m=(List.range N).countP (fun i=> !p i):=⟨_,rfl⟩
  rw [← hm'] at h1 h2 h3 ⊢
  rcases hp:p N with _|_
  ·have e:m=N:=by
    rcases Nat.lt_or_ge m N with hl|hl
    ·have :=hm m N (by omega) (by omega) (h3 m (Nat.le_refl _) hl)
     rw [hp] at this;cases this
    ·omega
   subst e
   rw [show List.countP (fun i=> !p i) [m]=1 by simp [hp]]
   refine ⟨by omega,fun k hk=> ?_,fun k hk hk2=>by omega⟩
   rcases Nat.lt_or_ge k m with hl|hl
   ·exact h2 k hl
   ·obtain rfl:k=m:=by omega
    exact hp
  ·rw [show List.countP (fun i=> !p i) [N]=0 by simp [hp]]
   refine ⟨by omega,fun k hk=>h2 k (by omega),fun k hk hk2=> ?_⟩
   rcases Nat.lt_or_ge k N with hl|hl
   ·exact h3 k (by omega) hl
   ·obtain rfl:k=N:=by omega
    exact hp
def Pos (g:List Po) (i:Int) (nx:Nat) (bh:Bool) (rest:List Po):Prop:=
 (i= -1∧nx=0∧bh=false∧rest=[])∨(i=(g.length:Int)∧nx=blocksP g.length∧bh=true∧rest=[])∨
  ∃ k j:Nat,j<(blockP g (k:Int)).length∧i=((8*k+j:Nat):Int)∧nx=k+1∧bh=false∧rest=(blockP g (k:Int)).drop j
section
variable {g:List Po} {i:Int} {nx:Nat} {bh:Bool} {rest:List Po} {doc:Int}
theorem Pos.bd (h:Pos g i nx bh rest): -1≤i∧i≤(g.length:Int)∧nx≤blocksP g.length:=by
 rcases h with ⟨rfl,rfl,_⟩|⟨rfl,rfl,_⟩|⟨k,j,hj,rfl,rfl,_⟩
 ·exact ⟨by omega,by omega,by omega⟩
 ·exact ⟨by omega,by omega,by omega⟩
 ·have :=block_at hj
  exact ⟨by omega,by omega,by omega⟩
theorem Pos.tells (h:Pos g i nx bh rest):(bh=true→docC g i=2147483648)∧(bh=false→rest=[]→docC g i= -1)∧(rest=[]→placesC g i=[])∧
  ∀ p r,rest=p::r→bh=false∧docC g i=p.1∧placesC g i=p.2:=by
 rcases h with ⟨rfl,rfl,rfl,rfl⟩|⟨rfl,rfl,rfl,rfl⟩|⟨k,j,hj,rfl,rfl,rfl,rfl⟩
 ·exact ⟨(fun h=>by cases h),fun _ _=>docC_ahead (by omega),fun _=>placesC_none (.inl (by omega)),(fun p r h=>by cases h)⟩
 ·exact ⟨fun _=>docC_behind (by omega) (Int.le_refl _),(fun h=>by cases h),fun _=>placesC_none (.inr (Int.le_refl _)),(fun p r h=>by cases h)⟩
 ·obtain ⟨h1,h2,h3⟩:=block_at hj
  refine ⟨(fun h=>by cases h),(fun _ h=>by rw [h3] at h;cases h),(fun h=>by rw [h3] at h;cases h),fun p r h=> ?_⟩
  rw [h3] at h
  injection h with h _
  subst h
  exact ⟨rfl,docC_at h2,placesC_at h2⟩
theorem Pos.below (h:Pos g i nx bh rest) (hm:mayB' (-1) g=true) (hlt:lastP g ((nx:Int)-1)<doc):∀ k:Int,i≤k→k<((8*nx:Nat):Int)→k<(g.length:Int)→docC g k<doc:=by
 intro k h1 h2 h3
 rcases h with ⟨rfl,rfl,rfl,rfl⟩|⟨rfl,rfl,rfl,rfl⟩|⟨b,j,hj,rfl,rfl,rfl,rfl⟩
 ·obtain rfl:k= -1:=by omega
  rw [docC_ahead (by omega)]
  rw [show ((0:Nat):Int)-1= -1 by omega] at hlt
  have :lastP g (-1)= -1:=by unfold lastP;rw [blockP_neg (by omega)];rfl
  omega
 ·omega
 ·obtain ⟨hb,hbl,_⟩:=block_at hj
  obtain ⟨n,rfl⟩:=Int.eq_ofNat_of_zero_le (show 0≤k by omega)
  rw [show ((b+1:Nat):Int)-1=(b:Int) by omega,lastP_doc hb] at hlt
  have hl:=blockP_length (l:=g) b
  have :=docC_mono hm (i:=n) (j:=8*b+(blockP g (b:Int)).length-1) (by omega) (by omega)
  omega
theorem block_below (hm:mayB' (-1) g=true) {b:Nat} (hb:b<blocksP g.length) (hlt:lastP g (b:Int)<doc) {k:Int} (h1:((8*b:Nat):Int)≤k) (h2:k<((8*(b+1):Nat):Int)) (h3:k<(g.length:Int)):docC g k<doc:=by
 obtain ⟨n,rfl⟩:=Int.eq_ofNat_of_zero_le (show 0≤k by omega)
 rw [lastP_doc hb] at hlt
 have hl:=blockP_length (l:=g) b
 have :=docC_mono hm (i:=n) (j:=8*b+(blockP g (b:Int)).length-1) (by omega) (by omega)
 omega
theorem Pos.turned (h:Pos g i nx bh rest) (hm:mayB' (-1) g=true) (hlt:lastP g ((nx:Int)-1)<doc) {t:Nat} (ht:nx≤t) (ht2:t≤blocksP g.length) (hbl:∀ b:Nat,nx≤b→b<t→lastP g (b:Int)<doc):
  advC g doc i=advC g doc (if t=blocksP g.length then (g.length:Int) else ((8*t:Nat):Int))∧i≤(if t=blocksP g.length then (g.length:Int) else ((8*t:Nat):Int)):=by
 have hbd:=h.bd
 obtain ⟨J,hJ⟩:∃ J:Int,J=(if t=blocksP g.length then (g.length:Int) else ((8*t:Nat):Int)):=⟨_,rfl⟩
 have hJ1:J≤(g.length:Int)∧J≤((8*t:Nat):Int)∧(J=(g.length:Int)∨J=((8*t:Nat):Int)):=by
  rw [hJ]
  split
  ·rename_i e
   rw [e]
   unfold blocksP
   exact ⟨Int.le_refl _,by omega,.inl rfl⟩
  ·rename_i e
   unfold blocksP at e ht2
   exact ⟨by omega,Int.le_refl _,.inr rfl⟩
 rw [← hJ]
 have hiJ:i≤J:=by
  rcases h with ⟨rfl,_,_⟩|⟨rfl,e,_⟩|⟨b,j,hj,rfl,rfl,_⟩
  ·rcases hJ1.2.2 with e|e<;>omega
  ·rw [hJ,if_pos (by omega)];exact Int.le_refl _
  ·have h1:=block_at hj
   have h2:=blockP_length (l:=g) b
   rcases hJ1.2.2 with e|e<;>omega
 refine ⟨advC_skip _ i J rfl hiJ hJ1.1 fun k h1 h2=> ?_,hiJ⟩
 by_cases hk:k<((8*nx:Nat):Int)
 ·exact h.below hm hlt k h1 hk (by omega)
 ·obtain ⟨n,rfl⟩:=Int.eq_ofNat_of_zero_le (show 0≤k by omega)
  exact block_below hm (b:=n/8) (by unfold blocksP;omega) (hbl _ (by omega) (by omega)) (by omega) (by omega) (by omega)
theorem Pos.stays (h:Pos g i nx bh rest) (hlt:doc≤lastP g ((nx:Int)-1)) (hr:rest=[]):advC g doc i=i:=by
 rcases h with ⟨rfl,rfl,rfl,rfl⟩|⟨rfl,rfl,rfl,rfl⟩|⟨b,j,hj,rfl,rfl,rfl,rfl⟩
 ·have :lastP g (((0:Nat):Int)-1)= -1:=by unfold lastP;rw [blockP_neg (by omega)];rfl
  refine advC_stay ?_
  rw [docC_ahead (by omega)]
  omega
 ·exact advC_stay (by omega)
 ·rw [(block_at hj).2.2] at hr;cases hr
end
end Go.Proofs.YtmoomnpbiifedaaGreat
set_option linter.unusedVariables false
namespace Go.Proofs.YtmoomnpbiifedaaGreat
open Go Go.RowKit
abbrev OnlyAt (C:Nat):=OnlyIn (fun k=>k=C)
def Kept (p:Prop × Nat) (k:Nat) (t:TypeId):Prop:=t=5∨t=119∨t=63∨(p.1∧p.2≤k∧t=3)
structure Soft (p:Prop × Nat) (X:Nat→Prop) (w w':World):Prop where
 os:w'.os=w.os
 tape:w'.tape=w.tape
 output:w'.output=w.output
 size:w.heap.size≤w'.heap.size
 block:∀ k,k<w.heap.size→w'.heap[k]?=w.heap[k]?∨(¬ X k∧∃ o,w.heap[k]?=some o∧∀ cs t fr,o= .cells cs t fr→¬ Kept p k t)
section
variable {p:Prop × Nat} {X:Nat→Prop} {w w' w'':World}
theorem Soft.kept (h:Soft p X w w') {k:Nat} {cs:Array Value} {t:TypeId} {fr:Nat × Nat} (ho:w.heap[k]?=some (.cells cs t fr)) (ht:Kept p k t):w'.heap[k]?=some (.cells cs t fr):=by
 rcases h.block k (Array.getElem?_eq_some_iff.1 ho).1 with h1|⟨_,o,h2,h3⟩
 ·exact h1.trans ho
 ·rw [ho] at h2
  injection h2 with h2
  exact absurd ht (h3 _ _ _ h2.symm)
end
end Go.Proofs.YtmoomnpbiifedaaGreat
set_option linter.unusedVariables false
namespace Go.Proofs.YtmoomnpbiifedaaGreat
open Go Go.RowKit
def Curs (S:Nat→Prop) (w:World):Prop:=∀ D,S D→∃ cs fr,w.heap[D]?=some (.cells cs 167 fr)
theorem not_kept_cursor (p:Prop × Nat) (k:Nat):¬ Kept p k 167:=by
 rintro (h|h|h|⟨_,_,h⟩)<;>exact absurd h (by decide)
theorem Soft.of_only {p:Prop × Nat} {X S:Nat→Prop} {w w':World} (ho:OnlyIn S w w') (hs:Curs S w) (hX:∀ k,X k→¬ S k):Soft p X w w':=
 ⟨ho.os,ho.tape,ho.output,ho.size,fun k hk=>by
  by_cases h:S k
  ·obtain ⟨cs,fr,e⟩:=hs k h
   exact .inr ⟨fun hx=>hX k hx h,_,e,fun cs' t' fr' e'=>by injection e' with _ e' _;rw [← e'];exact not_kept_cursor p k⟩
  ·exact .inl (ho.block k hk h)⟩
def RowT (t:TypeId) (w:World) (A:Option Addr) (xs:List Value):Prop:=
 xs=[]∨∃ b off,A=some ⟨b,off,none⟩∧(∃ cs fr,w.heap[b]?=some (.cells cs t fr))∧∀ j u,xs[j]?=some u→w.cell? ⟨b,off+j,none⟩=some u
section
variable {w w':World} {A:Option Addr} {xs:List Value} {S X:Nat→Prop} {t:TypeId} {p:Prop × Nat}
theorem RowT.nil:RowT t w A []:= .inl rfl
theorem RowT.row (h:RowT t w A xs):Row w w.heap.size A xs:=by
 rcases h with h|⟨b,off,e,⟨cs,fr,h1⟩,h2⟩
 ·exact .inl h
 ·exact .inr ⟨b,off,e,(Array.getElem?_eq_some_iff.1 h1).1,h2⟩
theorem RowT.soft (h:RowT t w A xs) (hs:Soft p X w w') (ht:∀ b,Kept p b t):RowT t w' A xs:=by
 rcases h with h|⟨b,off,e,⟨cs,fr,h1⟩,h2⟩
 ·exact .inl h
 ·have hblk:=hs.kept h1 (ht b)
  refine .inr ⟨b,off,e,⟨cs,fr,hblk⟩,fun j u hu=> ?_⟩
  rw [World.cell?_of_block (a:=⟨b,off+j,none⟩) (hblk.trans h1.symm)]
  exact h2 j u hu
theorem RowT.of_own {b:Nat} {e:TypeId} {size n c:Nat} (h:w.ownsRow b e size (.slice A n c) n xs):RowT e w A xs:=by
 have hr:=owned_row_of h
 rcases hr with hr|⟨b',off,rfl,h1,h2⟩
 ·exact .inl hr
 ·rcases h.2 with ⟨hv,_⟩|⟨g,cap,cur,hv,_,hh,_⟩
  ·cases hv
  ·injection hv with hv
   injection hv with hv
   injection hv with hv1 hv2
   subst hv1
   exact .inr ⟨_,off,rfl,⟨_,_,hh⟩,h2⟩
end
def RowB (b0:Nat) (w:World) (A:Option Addr) (xs:List Value):Prop:=
 xs=[]∨∃ b off,A=some ⟨b,off,none⟩∧b0≤b∧(∃ cs fr,w.heap[b]?=some (.cells cs 3 fr))∧∀ j u,xs[j]?=some u→w.cell? ⟨b,off+j,none⟩=some u
section
variable {w w':World} {A:Option Addr} {xs:List Value} {X:Nat→Prop} {p:Prop × Nat}
theorem RowB.row {b0:Nat} (h:RowB b0 w A xs):Row w w.heap.size A xs:=by
 rcases h with h|⟨b,off,e,_,⟨cs,fr,h1⟩,h2⟩
 ·exact .inl h
 ·exact .inr ⟨b,off,e,(Array.getElem?_eq_some_iff.1 h1).1,h2⟩
theorem RowB.soft (h:RowB p.2 w A xs) (hs:Soft p X w w') (hp:p.1):RowB p.2 w' A xs:=by
 rcases h with h|⟨b,off,e,hb,⟨cs,fr,h1⟩,h2⟩
 ·exact .inl h
 ·have hblk:=hs.kept h1 (.inr (.inr (.inr ⟨hp,hb,rfl⟩)))
  refine .inr ⟨b,off,e,hb,⟨cs,fr,hblk⟩,fun j u hu=> ?_⟩
  rw [World.cell?_of_block (a:=⟨b,off+j,none⟩) (hblk.trans h1.symm)]
  exact h2 j u hu
theorem RowB.of_new {b0 base:Nat} (h:RowL base w A xs) (hb:b0≤base):RowB b0 w A xs:=by
 rcases h.1 with h1|⟨b,off,e,⟨h1,h2⟩,hc⟩
 ·exact .inl h1
 ·rcases h.2 with h3|⟨b',off',e',h3⟩
  ·exact .inl h3
  ·obtain ⟨cs,fr,h2⟩:=h2.resolve_left (Nat.not_lt_zero _)
   rw [e] at e'
   injection e' with e'
   injection e' with e1 e2
   subst e1
   exact .inr ⟨b,off,e,by omega,⟨cs,fr,h2⟩,hc⟩
end
def PostsN (p:Prop × Nat) (w:World) (A:Option Addr) (l:List Po):Prop:=p.2≤w.heap.size∧∃ cs,PoCells (fun A xs=>p.1→RowB p.2 w A xs) l cs∧RowT 63 w A cs
section
variable {w w':World} {A:Option Addr} {l:List Po} {S X:Nat→Prop} {p:Prop × Nat}
theorem PostsN.nil (h:p.2≤w.heap.size):PostsN p w A []:=⟨h,[],rfl,.inl rfl⟩
theorem PostsN.soft (h:PostsN p w A l) (hs:Soft p X w w'):PostsN p w' A l:=by
 obtain ⟨h0,cs,h1,h2⟩:=h
 exact ⟨Nat.le_trans h0 hs.size,cs,h1.imp fun _ _ h hp=>(h hp).soft hs hp,h2.soft hs (fun b=> .inr (.inr (.inl rfl)))⟩
theorem PostsN.only (h:PostsN p w A l) (ho:OnlyIn S w w') (hs:Curs S w):PostsN p w' A l:=h.soft (Soft.of_only (X:=fun _=>False) ho hs (fun _ h=>h.elim))
theorem PostsN.of_new {base:Nat} {v:Value} (h:NewPo base w v l) (hp:p.2≤base) (hb:base≤w.heap.size):∃ A c,v= .slice A l.length c∧l.length≤c∧c≤maxLen∧PostsN p w A l:=by
 obtain ⟨A,c,rfl,h1,h2,_⟩:=h.room
 obtain ⟨cs,h3,h4⟩:=h
 exact ⟨A,c,rfl,h1,h2,by omega,cs,h4.imp fun _ _ h _=>RowB.of_new h hp,RowT.of_own h3⟩
theorem PostsN.tail {b off:Nat} {q:Po} (h:PostsN p w (some ⟨b,off,none⟩) (q::l)):PostsN p w (some ⟨b,off+2,none⟩) l:=by
 obtain ⟨h0,cs,⟨A',c',cs',rfl,_,_,_,h'⟩,h2⟩:=h
 refine ⟨h0,cs',h',?_⟩
 rcases h2 with h2|⟨b2,off2,e,h3,h4⟩
 ·cases h2
 ·injection e with e
  injection e with e1 e2
  subst e1 e2
  refine .inr ⟨b,off+2,rfl,h3,fun j u hu=> ?_⟩
  have :=h4 (2+j) u (by rw [show 2+j=j+1+1 by omega];simpa using hu)
  rwa [← Nat.add_assoc] at this
theorem PostsN.head {q:Po} (h:PostsN p w A (q::l)):∃ b off A' c',A=some ⟨b,off,none⟩∧w.cell? ⟨b,off,none⟩=some (.int .i64 q.1)∧w.cell? ⟨b,off+1,none⟩=some (.slice A' q.2.length c')∧q.2.length≤c'∧c'≤maxLen∧(p.1→Row w w.heap.size A' (ints q.2)):=by
 obtain ⟨_,cs,⟨A',c',cs',rfl,h3,h4,h5,_⟩,h2⟩:=h
 rcases h2 with h2|⟨b,off,e,_,hc⟩
 ·cases h2
 ·exact ⟨b,off,A',c',e,hc 0 _ rfl,hc 1 _ rfl,h3,h4,fun hp=>(h5 hp).row⟩
end
def ListN (w:World) (vb ve:Value) (g:List Po):Prop:=
 ∃ Ab cb Ae ce,vb= .slice Ab (bytesP (-1) g).length cb∧ve= .slice Ae (blocksP g.length) ce∧(bytesP (-1) g).length≤cb∧cb≤maxLen∧blocksP g.length≤ce∧RowT 5 w Ab (Lib.byteCells (bytesP (-1) g))∧RowT 119 w Ae (endsV g)
structure GoodG (g:List Po):Prop where
 may:mayB' (-1) g=true
 len:g.length≤1000
 bytes:(bytesP (-1) g).length≤400000000000
def CBlk (C:Nat) (vb ve:Value) (g:List Po) (A:Option Addr) (m c nx:Nat) (bh:Bool) (rd:Int) (w:World):Prop:=
 w.heap[C]?=some (.cells #[vb,ve,.int .i64 (g.length:Int),.int .i64 (totalP g:Int),.slice A m c,.int .i64 (nx:Int),.bool bh,.int .i64 rd] 167 (0,0))
def CAt (p:Prop × Nat) (C:Nat) (g:List Po) (i:Int) (w:World):Prop:=
 ∃ vb ve A c nx bh rd rest,CBlk C vb ve g A (List.length rest) c nx bh rd w∧ListN w vb ve g∧Pos g i nx bh rest∧rest.length≤c∧c≤maxLen∧PostsN p w A rest∧GoodG g
theorem cell_eight {w:World} {B:Nat} {a b c d e f g h:Value} {t:TypeId} (hh:w.heap[B]?=some (.cells #[a,b,c,d,e,f,g,h] t (0,0))):
  (w.cell? ⟨B,0,none⟩=some a∧w.cell? ⟨B,1,none⟩=some b∧w.cell? ⟨B,2,none⟩=some c∧w.cell? ⟨B,3,none⟩=some d∧w.cell? ⟨B,4,none⟩=some e∧w.cell? ⟨B,5,none⟩=some f∧w.cell? ⟨B,6,none⟩=some g∧w.cell? ⟨B,7,none⟩=some h)∧
  w.frozen? ⟨B,4,none⟩=false∧w.frozen? ⟨B,5,none⟩=false∧w.frozen? ⟨B,6,none⟩=false∧w.frozen? ⟨B,7,none⟩=false:=by
 simp [World.cell?,World.frozen?,hh]
section
variable {C nx:Nat} {vb ve:Value} {g:List Po} {A:Option Addr} {m c:Nat} {bh:Bool} {rd:Int} {w w':World} {S X:Nat→Prop} {i:Int} {p:Prop × Nat}
theorem CBlk.lt (h:CBlk C vb ve g A m c nx bh rd w):C<w.heap.size:=(Array.getElem?_eq_some_iff.1 h).1
theorem CBlk.curs (h:CBlk C vb ve g A m c nx bh rd w):Curs (fun k=>k=C) w:=fun D hD=>by subst hD;exact ⟨_,_,h⟩
theorem CBlk.only (h:CBlk C vb ve g A m c nx bh rd w) (ho:OnlyIn S w w') (hC:¬ S C):CBlk C vb ve g A m c nx bh rd w':=(ho.block C h.lt hC).trans h
theorem ListN.soft (h:ListN w vb ve g) (hs:Soft p X w w'):ListN w' vb ve g:=by
 obtain ⟨Ab,cb,Ae,ce,h1,h2,h3,h4,h5,h6,h7⟩:=h
 exact ⟨Ab,cb,Ae,ce,h1,h2,h3,h4,h5,h6.soft hs (fun _=> .inl rfl),h7.soft hs (fun _=> .inr (.inl rfl))⟩
theorem ListN.only (h:ListN w vb ve g) (ho:OnlyIn S w w') (hs:Curs S w):ListN w' vb ve g:=h.soft (p:=(False,0)) (Soft.of_only (X:=fun _=>False) ho hs (fun _ h=>h.elim))
theorem CAt.only (h:CAt p C g i w) (ho:OnlyIn S w w') (hs:Curs S w) (hC:¬ S C):CAt p C g i w':=by
 obtain ⟨vb,ve,A,c,nx,bh,rd,rest,h1,h2,h3,h4,h5,h6,h7⟩:=h
 exact ⟨vb,ve,A,c,nx,bh,rd,rest,h1.only ho hC,h2.only ho hs,h3,h4,h5,h6.only ho hs,h7⟩
theorem CAt.below (h:CAt p C g i w) (hb:Below w.heap.size w w'):CAt p C g i w':=h.only (S:=fun _=>False) (OnlyIn.of_below hb) (fun D hD=>hD.elim) (fun h=>h)
theorem CAt.bd (h:CAt p C g i w): -1≤i∧i≤(g.length:Int):=by
 obtain ⟨vb,ve,A,c,nx,bh,rd,rest,_,_,h3,_⟩:=h
 exact ⟨h3.bd.1,h3.bd.2.1⟩
theorem CBlk.lin (h:CBlk C vb ve g A m c nx bh rd w) (hl:ListN w vb ve g):LIn w C (bytesP (-1) g) g:=by
 obtain ⟨Ab,cb,Ae,ce,rfl,rfl,h3,h4,h5,h6,h7⟩:=hl
 obtain ⟨⟨c0,c1,c2,c3,_⟩,_⟩:=cell_eight h
 exact ⟨h.lt,Ab,cb,Ae,ce,⟨c0,c1,c2,c3⟩,h3,h4,h5,h6.row,h7.row⟩
end
theorem ListN.of_at {w:World} {base B:Nat} {g:List Po} (h:LAt w base B (bytesP (-1) g) g):∃ vb ve,w.heap[B]?=some (.cells #[vb,ve,.int .i64 (g.length:Int),.int .i64 (totalP g:Int)] 113 (0,0))∧ListN w vb ve g:=by
 obtain ⟨_,vb,ve,hv,ho,he⟩:=h
 refine ⟨vb,ve,hv,?_⟩
 obtain ⟨Ae,ce,rfl,hce,hre⟩:=owned_row he
 rcases ho.2 with ⟨rfl,h0⟩|⟨g',c,cur,rfl,_,_,hnc,hcm,_,_⟩
 ·exact ⟨none,0,Ae,ce,by rw [h0],rfl,by omega,by unfold maxLen;omega,hce,by rw [List.eq_nil_of_length_eq_zero h0];exact RowT.nil,RowT.of_own he⟩
 ·exact ⟨_,c,Ae,ce,rfl,rfl,hnc,hcm,hce,RowT.of_own ho,RowT.of_own he⟩
end Go.Proofs.YtmoomnpbiifedaaGreat
set_option linter.unusedVariables false
namespace Go.Proofs.YtmoomnpbiifedaaGreat
open Go Go.RowKit
set_option maxHeartbeats 1000000 in
set_option maxRecDepth 100000 in
theorem cur_New {fu:Prop × Nat} (base B:Nat) (g:List Po) (w:World) (h:LAt w base B (bytesP (-1) g) g) (hg:GoodG g) (hfu:fu.2≤w.heap.size):
  Calls Tryz.prog 74 #[.pointer (some ⟨B,0,none⟩)] w fun e w'=>∃ C,e= .returned (.pointer (some ⟨C,0,none⟩))∧w.heap.size≤C∧CAt fu C g (-1) w'∧Below w.heap.size w w':=by
 obtain ⟨vb,ve,hb,hl⟩:=ListN.of_at h
 obtain ⟨⟨c0,c1,c2,c3⟩,_⟩:=cell_four hb
 have HL:=Lib.hid hl
 clear h hl
 go_enter Tryz.func74,Tryz.ntmps74
 go_wp2
 go_ret
 have hal:Below w.heap.size w (w.alloc (.cells #[vb,ve,.int .i64 (g.length:Int),.int .i64 (totalP g:Int),.slice none 0 0,.int .i64 0,.bool false,.int .i64 0] 167)):=(Below.refl _ w).alloc (Nat.le_refl _) _
 refine ⟨w.heap.size,rfl,Nat.le_refl _,⟨vb,ve,none,0,0,false,0,[],heap_alloc_new w _,HL.out.only (S:=fun _=>False) (OnlyIn.of_below hal) (fun D hD=>hD.elim),.inl ⟨rfl,rfl,rfl,rfl⟩,Nat.le_refl _,Nat.zero_le _,PostsN.nil (Nat.le_trans hfu hal.size),hg⟩,hal⟩
end Go.Proofs.YtmoomnpbiifedaaGreat
namespace Go.Proofs.YtmoomnpbiifedaaGreat
open Go.Shelf Go.RowKit
def laySearch_ren:Go.Shelf.Ren:=⟨fun |16=>128|n=>n,fun |3=>3|4=>4|35=>159|38=>157|n=>n,fun |n=>n⟩
theorem laySearch:SlLaysO.n16 Tryz.prog laySearch_ren:={
 mixed:=by kernel_rfl
 f16:=Tryz.func128.trans (congrArg some (by kernel_rfl))
 t3:=Tryz.underlying3
 a3:=Tryz.isAgg3
 z3:=Tryz.sizeOf3
 v3:=Tryz.zeroValue3
 t4:=Tryz.underlying4
 a4:=Tryz.isAgg4
 z4:=Tryz.sizeOf4
 v4:=Tryz.zeroValue4
 t35:=Tryz.underlying159
 a35:=Tryz.isAgg159
 z35:=Tryz.sizeOf159
 v35:=Tryz.zeroValue159
 t38:=Tryz.underlying157
 a38:=Tryz.isAgg157
 z38:=Tryz.sizeOf157
 v38:=Tryz.zeroValue157}
open Go.Sort Go.Lib in
theorem sort_Search (g:Nat) (cb:Array Value) (n:Nat) (p:Nat→Bool) (w:World) (eg:∀ args w,(callFunc g args).run Tryz.prog w= .ok (.enter g args) w) (hsz:n<4611686018427387904)
  (hf:∀ (W:World) (i:Nat),i<n→Below w.heap.size w W→Calls Tryz.prog g (#[.int .i64 i]++cb) W fun e w'=>e= .returned (.bool (p i))∧∃ q,w'=W.drewN q)
  (hmono:∀ a b,a≤b→b<n→p a=true→p b=true):
  Calls Tryz.prog 128 #[.int .i64 n,.func (.func g) #[] cb] w fun e w'=>e= .returned (.int .i64 ((List.range n).countP (fun i=> !p i):Nat))∧Below w.heap.size w w':=by
 refine (Any.sort_Search laySearch g cb n p w eg hsz (fun m os i hi=>(hf _ i hi (below_grown_sl w.heap.size w m os (Nat.le_refl _))).mono ?_) hmono).mono ?_
 ·rintro e w' ⟨rfl,q,rfl⟩
  exact ⟨rfl,q,#[],by rw [grow_empty]⟩
 ·rintro e w' ⟨rfl,q,os,rfl⟩
  exact ⟨rfl,below_grown_sl w.heap.size w q os (Nat.le_refl _)⟩
end Go.Proofs.YtmoomnpbiifedaaGreat
set_option linter.unusedVariables false
namespace Go.Proofs.YtmoomnpbiifedaaGreat
open Go Go.RowKit
theorem in_Last (B:Nat) (bs:List UInt8) (l:List Po) (w:World) (h:LIn w B bs l) (hl:l.length≤1073741824) (k:Int) (hk0: -1≤k):
  Calls Tryz.prog 106 #[.pointer (some ⟨B,0,none⟩),.int .i64 k] w fun e w'=>e= .returned (.int .i64 (lastP l k))∧w=w':=by
 have HH:=Lib.hid (in_has B bs l w h k hk0)
 obtain ⟨_,Ab,cb,Ae,ce,⟨c0,c1,c2,c3⟩,_,_,hce,_,hre⟩:=h
 clear c0 c2 c3
 by_cases hin:0≤k∧k<(blocksP l.length:Int)
 ·obtain ⟨j,rfl⟩:∃ j:Nat,k=(j:Int):=⟨k.toNat,by omega⟩
  have hj:j<blocksP l.length:=by omega
  obtain ⟨b,o,rfl,_,e0,_⟩:=row_end hre hj
  rw [← lastP_end hj] at e0
  rw [decide_eq_true hin] at HH
  obtain ⟨n,hn⟩:∃ n,n=blocksP l.length:=⟨_,rfl⟩
  rw [← hn] at c1 hj hce
  obtain ⟨x,hx⟩:∃ x,x=lastP l (j:Int):=⟨_,rfl⟩
  rw [← hx] at e0 ⊢
  have hnb:n≤1073741824:=by rw [hn];unfold blocksP;omega
  clear hn hx hre hin
  go_enter Tryz.func106,Tryz.ntmps106
  go_wp2_with (go_at_call 127;refine HH.out.mono ?_;rintro e w' ⟨rfl,rfl⟩)
  go_ret
  exact ⟨rfl,rfl⟩
 ·have hx:lastP l k= -1:=by
   unfold lastP
   by_cases hz:k<0
   ·rw [blockP_neg hz];rfl
   ·obtain ⟨j,rfl⟩:∃ j:Nat,k=(j:Int):=⟨k.toNat,by omega⟩
    rw [blockP_out (by omega)];rfl
  rw [hx]
  rw [decide_eq_false hin] at HH
  clear hx hre c1 hin
  go_enter Tryz.func106,Tryz.ntmps106
  go_wp2_with (go_at_call 127;refine HH.out.mono ?_;rintro e w' ⟨rfl,rfl⟩)
  go_ret
  exact ⟨rfl,rfl⟩
end Go.Proofs.YtmoomnpbiifedaaGreat
