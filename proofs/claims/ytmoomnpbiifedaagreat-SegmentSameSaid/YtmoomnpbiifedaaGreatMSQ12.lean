import Derived.Test.YtmoomnpbiifedaaGreatMSQ11
import Derived.Lib.SliceRun
import Derived.Deep.RegionHeld3
import Derived.Test.YtmoomnpbiifedaaGreatMSQ08
import Derived.OneCell
import Derived.Test.YtmoomnpbiifedaaGreatMSQ09
import Derived.Test.YtmoomnpbiifedaaGreatMSQ06
import Derived.Test.YtmoomnpbiifedaaGreatMSQ01
import Derived.Laws.Rows
import Derived.Shelf.SlSorted.Search
import Derived.Test.YtmoomnpbiifedaaGreatProg
import Derived.Deep.QuietTactic
import Derived.BigQuiet
import Derived.StillTailTactics
import Derived.Test.YtmoomnpbiifedaaGreatMSQ04
import Derived.Test.YtmoomnpbiifedaaGreatMSQ10
import Derived.Test.YtmoomnpbiifedaaGreatMSQ05
import Derived.Test.YtmoomnpbiifedaaGreatMSQ07
import Derived.RangeFuncOwn
set_option linter.unusedVariables false
namespace Go.Proofs.YtmoomnpbiifedaaGreat
open Go Go.RowKit
set_option maxHeartbeats 4000000 in
set_option maxRecDepth 100000 in
theorem in_Block (B:Nat) (l:List Po) (w:World) (h:LIn w B (bytesP (-1) l) l) (hm:mayB' (-1) l=true) (hbl:(bytesP (-1) l).length≤400000000000) (hl:l.length≤1000000) (k:Int) (hk0: -1≤k):
  Calls Tryz.prog 122 #[.pointer (some ⟨B,0,none⟩),.int .i64 k] w (GaveNew (blockP l k) w):=by
 have HH:=Lib.hid (in_has B _ l w h k hk0)
 by_cases hin:0≤k∧k<(blocksP l.length:Int)
 ·obtain ⟨j,rfl⟩:∃ j:Nat,k=(j:Int):=⟨k.toNat,by omega⟩
  have hj:j<blocksP l.length:=by omega
  rw [decide_eq_true hin] at HH
  have hst:=block_stands hj hm
  have hblen:=blockP_length (l:=l) j
  have hd0:=docOf_ge (l.take (8*j)) (-1) (by have :=hm;rw [← List.take_append_drop (8*j) l,mayB'_append,Bool.and_eq_true] at this;exact this.1)
  have hd1:=docOf_lt (l.take (8*j)) (-1) (by have :=hm;rw [← List.take_append_drop (8*j) l,mayB'_append,Bool.and_eq_true] at this;exact this.1) (by omega)
  have hal:(bytesP (-1) (l.take (8*j))).length≤(bytesP (-1) l).length:=by have :=hst.2.1;omega
  have ah:=fun w' (hb:Below w.heap.size w w')=>in_ahead B _ l w' (h.below hb) j (by omega) (by omega)
  obtain ⟨bs,hbs⟩:∃ bs,bs=bytesP (-1) l:=⟨_,rfl⟩
  obtain ⟨blk,hblk⟩:∃ blk,blk=blockP l (j:Int):=⟨_,rfl⟩
  obtain ⟨x,hx⟩:∃ x,x=docOf (-1) (l.take (8*j)):=⟨_,rfl⟩
  obtain ⟨a,ha⟩:∃ a,a=(bytesP (-1) (l.take (8*j))).length:=⟨_,rfl⟩
  rw [← hx,← ha] at ah
  rw [← hbs,← hblk,← hx,← ha] at hst
  rw [← hx] at hd0 hd1
  rw [← hbs] at h hbl
  rw [← hbs,← ha] at hal
  rw [← hblk] at hblen
  rw [← hblk]
  have hblt:=h.1
  obtain ⟨_,Ab,cb,Ae,ce,⟨c0,c1,c2,c3⟩,hcb,hcbx,_,hrb,_⟩:=h
  obtain ⟨n,hn⟩:∃ n,n=l.length:=⟨_,rfl⟩
  rw [← hn] at c2 hblen hl
  have hnj:8*j<n:=by rw [hn];unfold blocksP at hj;omega
  obtain ⟨M,hM⟩:∃ M,M=bs.length:=⟨_,rfl⟩
  rw [← hM] at c0 hal hbl hcb
  obtain ⟨q,hq⟩:∃ q:Nat,q=min 8 (n-8*j):=⟨_,rfl⟩
  rw [← hq] at hblen
  have hq1:q≤8:=by omega
  have hqm:(if (8:Int)<(n:Int)-(j:Int)*8 then (8:Int) else (n:Int)-(j:Int)*8)=(q:Int):=by split<;>omega
  have hqm2:min ((n:Int)-(j:Int)*8) 8=(q:Int):=by omega
  have hqm3:min (8:Int) ((n:Int)-(j:Int)*8)=(q:Int):=by omega
  have HG:Hid (∀ w',Below w.heap.size w w'→Calls Tryz.prog 145 #[.slice Ab M cb,.agg #[.int .i64 x,.int .i64 (a:Int)],.int .i64 (q:Int)] w' fun e w2=>
    ∃ (v:Value) (z:Int),e= .returned (.tuple #[v,.int .i64 z,.bool true])∧NewPo w'.heap.size w2 v blk∧Below w'.heap.size w' w2):=Lib.hid fun w' hb=>
   (posting_get Ab M cb bs x a q w' ((hrb.below hb).more hb.size) hM.symm hcb hcbx hbl hal (by omega) hd1 (by omega)).mono fun e w2=>by
    rintro ⟨h1,(⟨g,v,h2,h3,h4,_,rfl,h5⟩|⟨h2,_⟩)⟩
    ·exact ⟨v,_,rfl,by rw [h4 blk hblen hst];exact h5,h1⟩
    ·exact absurd hst (h2 blk hblen)
  have HA:Hid (∀ w',Below w.heap.size w w'→Calls Tryz.prog 103 #[.pointer (some ⟨B,0,none⟩),.int .i64 (j:Int)] w' fun e w2=>
    e= .returned (.agg #[.int .i64 x,.int .i64 (a:Int)])∧Below w'.heap.size w' w2):=Lib.hid fun w' hb=>ah w' hb
  have HC:Hid (∀ w',Below w.heap.size w w'→w'.cell? ⟨B,0,none⟩=some (.slice Ab M cb)∧w'.cell? ⟨B,2,none⟩=some (.int .i64 (n:Int))):=Lib.hid fun w' hb=>⟨(hb.cell (p:=⟨B,0,none⟩) hblt).trans c0,(hb.cell (p:=⟨B,2,none⟩) hblt).trans c2⟩
  have hsub:IntKind.i64.wrap ((n:Int)-(j:Int)*8)=(n:Int)-(j:Int)*8:=IntWalk.i64_in _ (by omega)
  have hmul:IntKind.i64.wrap ((j:Int)*8)=(j:Int)*8:=IntWalk.i64_in _ (by omega)
  have hjb:j≤1000000:=by omega
  clear hst hblen hrb hbs hblk hx ha hn hM hq ah c1 c3 hd0 hd1 hj hin hm
  go_enter Tryz.func122,Tryz.ntmps122
  go_wp2_with (go_at_call 127;refine HH.out.mono ?_;rintro e w' ⟨rfl,rfl⟩)
  go_region_held3 (fun w'=>w'.cell? ⟨B,0,none⟩=some (.slice Ab M cb)∧w'.cell? ⟨B,2,none⟩=some (.int .i64 (n:Int)))
   (first|exact HC.out _ (Below.refl _ _).drew|exact HC.out _ HB5.out|exact HC.out _ HB6.out)
   (first
    |(go_simp;go_at_call 103;(with_reducible refine (HA.out _ (Below.refl _ _).drew).mono ?_);rintro e w5 ⟨rfl,hb5⟩;have HB5:Hid (Below w.heap.size w w5):=Lib.hid ((Below.refl _ w).drew.trans hb5))
    |(go_simp;go_at_call 145;(with_reducible refine (HG.out _ HB5.out).mono ?_);rintro e w6 ⟨v,z,rfl,hown6,hb6⟩;have HB6:Hid (Below w.heap.size w w6):=Lib.hid (HB5.out.trans (hb6.mono HB5.out.size))))
  all_goals
   go_wp2
   go_ret
   exact ⟨_,rfl,hown6.low HB5.out.size,HB6.out⟩
 ·have hx:blockP l k=[]:=by
   by_cases hz:k<0
   ·exact blockP_neg hz
   ·obtain ⟨j,rfl⟩:∃ j:Nat,k=(j:Int):=⟨k.toNat,by omega⟩
    exact blockP_out (by omega)
  rw [hx]
  rw [decide_eq_false hin] at HH
  clear hx hin
  go_enter Tryz.func122,Tryz.ntmps122
  go_wp2_with (go_at_call 127;refine HH.out.mono ?_;rintro e w' ⟨rfl,rfl⟩)
  go_ret
  exact ⟨_,rfl,NewPo.nil,Below.refl _ _⟩
theorem list_Block (base B:Nat) (l:List Po) (w:World) (h:LAt w base B (bytesP (-1) l) l) (hm:mayB' (-1) l=true) (hbl:(bytesP (-1) l).length≤400000000000) (hl:l.length≤1000000) (k:Int) (hk0: -1≤k):
  Calls Tryz.prog 122 #[.pointer (some ⟨B,0,none⟩),.int .i64 k] w (GaveNew (blockP l k) w):=in_Block B l w h.in_ hm hbl hl k hk0
end Go.Proofs.YtmoomnpbiifedaaGreat
set_option linter.unusedVariables false
namespace Go.Proofs.YtmoomnpbiifedaaGreat
open Go Go.RowKit
attribute [local go_sem] Oper.semAt_some
def KpOne (base D:Nat) (A B:World):Prop:=Below base A B∧(D<A.heap.size→B.heap[D]?=A.heap[D]?)
theorem KpOne.trans {base D:Nat} {A B C:World} (h:KpOne base D A B) (k:KpOne base D B C):KpOne base D A C:=
 ⟨h.1.trans k.1,fun e=>(k.2 (Nat.lt_of_lt_of_le e h.1.size)).trans (h.2 e)⟩
def OkBlock (b:Nat) (l:List Po) (pre:List Value) (v:Value) (W:World):Prop:=pre.length<blocksP l.length∧NewPo b W v (blockP l (pre.length:Int))
def BlRel (w0:World) (B D N:Nat) (J:List Value→World→Prop) (i:Value) (wr:World):Prop:=
 ∃ pre:List Value,pre.length≤N∧i= .int .i64 (pre.length:Int)∧J pre wr∧Below w0.heap.size w0 wr∧wr.heap[D]?=some (.cells #[.pointer (some ⟨B,0,none⟩)] 65 (0,0))
set_option maxHeartbeats 4000000 in
set_option maxRecDepth 100000 in
theorem blocks_told (m D base0 B:Nat) (l:List Po) (w0 w:World) (hm:1≤m) (h:LAt w0 base0 B (bytesP (-1) l) l) (hmay:mayB' (-1) l=true) (hbl:(bytesP (-1) l).length≤400000000000) (hl:l.length≤1000000) (hb:Below w0.heap.size w0 w)
  (hd:w.heap[D]?=some (.cells #[.pointer (some ⟨B,0,none⟩)] 65 (0,0))):
  Told m Tryz.prog 121 #[.pointer (some ⟨D,0,none⟩)] (fun v:Value=>#[v]) (KpOne w0.heap.size D) (OkBlock w0.heap.size l) (fun ys=>ys.length=blocksP l.length) w:=by
 intro lp J W hW hJ hY h0
 have e1:W.heap[D]?=some (.cells #[.pointer (some ⟨B,0,none⟩)] 65 (0,0)):=(hW.block D (lt_of_block hd)).trans hd
 have hbW:=hb.trans (hW.mono hb.size)
 refine callsIn_of_wp Tryz.func121 rfl trivial ?_ rfl
 simp only [Tryz.ntmps121,List.size_toArray,List.length_cons,List.length_nil,Nat.reduceAdd,Nat.reduceSub,Array.replicate_succ,Array.replicate_zero,List.push_toArray,List.append_toArray,List.nil_append,List.cons_append]
 have HBK:=Lib.hid (list_Blocks base0 B _ l W (h.below hbW))
 have HBL:Hid (∀ w',Below w0.heap.size w0 w'→∀ k:Nat,Calls Tryz.prog 122 #[.pointer (some ⟨B,0,none⟩),.int .i64 (k:Int)] w' (GaveNew (blockP l (k:Int)) w')):=Lib.hid fun w' hb' k=>
  list_Block base0 B l w' (h.below hb') hmay hbl hl k (by omega)
 have c1:=cell_of_one e1
 obtain ⟨N,hN⟩:∃ N,N=blocksP l.length:=⟨_,rfl⟩
 rw [← hN] at HBK
 have hNb:N≤1000000:=by rw [hN];unfold blocksP;omega
 have HNE:=Lib.hid hN
 have HY:=Lib.hid hY
 have HJ:=Lib.hid hJ
 have H0:=Lib.hid h0
 have HE1:=Lib.hid e1
 have HBW:=Lib.hid hbW
 clear hY hJ h0 hW hd e1 hbW h hb hN hmay hbl
 gi_wp2_with (first
  |(refine ⟨trivial,?_⟩;gi_at_call 104;refine (callsIn_wide.2 HBK.out).mono ?_;rintro e w' ⟨rfl,rfl⟩)
  |(gi_at_call 104;refine (callsIn_wide.2 HBK.out).mono ?_;rintro e w' ⟨rfl,rfl⟩))
 gi_loopw [6] (fun i wr=>BlRel w0 B D N J i wr) (fun i _=>N-(intOf i).toNat)
 case atStart=>exact ⟨[],Nat.zero_le _,rfl,H0.out,HBW.out,HE1.out⟩
 case round=>
  obtain ⟨pre,hk,rfl,hj,hbw,e2⟩:=hrel
  obtain ⟨k,hke⟩:∃ k,k=pre.length:=⟨_,rfl⟩
  rw [← hke] at hk
  rw [← hke]
  have c2:=cell_of_one e2
  have HJK:=Lib.hid hj
  have E2:=Lib.hid e2
  have HKE:=Lib.hid hke
  have HB1:=Lib.hid hbw
  clear hj e2 hke c1 hbw
  by_cases hlt:k<N
  ·have hbk:=HBL.out wr HB1.out k
   have HBC:=Lib.hid hbk
   clear hbk
   gi_wp2_with (first
    |(refine ⟨trivial,?_⟩;gi_at_call 122;refine (callsIn_wide.2 HBC.out).mono ?_)
    |(gi_at_call 122;refine (callsIn_wide.2 HBC.out).mono ?_))
   rintro e w5 ⟨v,rfl,hnew,hb5⟩
   have hok:OkBlock w0.heap.size l pre v w5:=by
    unfold OkBlock
    rw [← HKE.out,← HNE.out]
    exact ⟨hlt,hnew.low HB1.out.size⟩
   obtain ⟨fn,tmps,assign,body,hy,hR⟩:=HY.out pre v w5 (HJ.out _ _ _ HJK.out hb5) hok
   have e5:=(hb5.block _ (lt_of_block E2.out)).trans E2.out
   have HB5:=Lib.hid (HB1.out.trans (hb5.mono HB1.out.size))
   have E5:=Lib.hid e5
   clear hok hnew hb5 e5
   gi_wp2
   refine hR.mono ?_
   rintro e W6 ⟨rfl,hJ6,hk6⟩
   have e6:=(hk6.2 (lt_of_block E5.out)).trans E5.out
   have HJ6:=Lib.hid hJ6
   have E6:=Lib.hid e6
   have HB6:=Lib.hid (HB5.out.trans hk6.1)
   clear hJ6 hk6 e6 hy hR c2
   gi_wp2
   go_roundw
   case rel=>exact ⟨pre++[v],by rw [List.length_append,← HKE.out];exact hlt,by rw [List.length_append,← HKE.out];simp,HJ6.out,HB6.out,E6.out⟩
   case measure=>simp [intOf];omega
  ·have hfin:pre.length=blocksP l.length:=by rw [← HKE.out,← HNE.out];omega
   have HF:=Lib.hid hfin
   clear hfin
   gi_wp2
   go_end0
   exact ⟨⟨_,rfl⟩,_,HF.out,HJK.out⟩
theorem list_blocks (p:Addr) (w:World):
  Calls Tryz.prog 94 #[.pointer (some p)] w fun e w'=>e= .returned (.func (.func 121) #[] #[.pointer (some ⟨w.heap.size,0,none⟩)])∧
   w'.heap[w.heap.size]?=some (.cells #[.pointer (some p)] 65 (0,0))∧Below w.heap.size w w'∧w'.heap.size=w.heap.size+1:=by
 go_enter Tryz.func94,Tryz.ntmps94
 go_wp2
 go_ret
 exact ⟨rfl,heap_alloc_new w _,(Below.refl _ w).alloc (Nat.le_refl _) _,by simp⟩
end Go.Proofs.YtmoomnpbiifedaaGreat
set_option linter.unusedVariables false
namespace Go.Proofs.YtmoomnpbiifedaaGreat
open Go Go.RowKit
theorem cellsKept_owned {w w':World} {b:Nat} {e:TypeId} {size n:Nat} {v:Value} {xs:List Value} (h:w.ownsRow b e size v n xs) (hk:∀ (k:Nat) (o:Obj),w.heap[k]?=some o→o.isCells=true→w'.heap[k]?=some o):w'.ownsRow b e size v n xs:=
 owned_keep h fun g hg=>by
  obtain ⟨cs,fr,hh⟩:=owned_type h hg
  rw [hk _ _ hh rfl,hh]
theorem RowS.moved {w w':World} {A:Option Addr} {xs:List Value} (h:RowS 0 w A xs) (hk:∀ (k:Nat) (cs:Array Value) (fr:Nat × Nat),w.heap[k]?=some (.cells cs 3 fr)→w'.heap[k]?=some (.cells cs 3 fr)):RowS 0 w' A xs:=by
 rcases h with h|⟨b,off,e,⟨h1,h2⟩,hc⟩
 ·exact .inl h
 ·obtain ⟨cs,fr,hh⟩:=h2.resolve_left (Nat.not_lt_zero _)
  have hh':=hk _ _ _ hh
  refine .inr ⟨b,off,e,⟨(Array.getElem?_eq_some_iff.1 hh').1,.inr ⟨cs,fr,hh'⟩⟩,fun j u hu=> ?_⟩
  rw [World.cell?_of_block (a:=⟨b,off+j,none⟩) (hh'.trans hh.symm)]
  exact hc j u hu
theorem kept_putObj {W:World} {l:Nat} {o o':Obj} (ho:W.heap[l]?=some o) (hc:o.isCells=false):∀ (k:Nat) (u:Obj),W.heap[k]?=some u→u.isCells=true→(W.putObj l o').heap[k]?=some u:=fun k u hk hu=>by
 by_cases e:k=l
 ·subst e
  rw [ho] at hk
  injection hk with hk
  subst hk
  rw [hc] at hu
  cases hu
 ·exact (World.putObj_heap_other e).trans hk
theorem NewPo.kept {base:Nat} {w w':World} {v:Value} {l:List Po} (h:NewPo base w v l) (hk:∀ (k:Nat) (o:Obj),w.heap[k]?=some o→o.isCells=true→w'.heap[k]?=some o):NewPo base w' v l:=by
 obtain ⟨cs,h1,h2⟩:=h
 exact ⟨cs,cellsKept_owned h1 hk,h2.imp fun _ _ h=>⟨h.1.moved fun k cs fr hh=>hk k _ hh rfl,h.2⟩⟩
theorem Firm.newPo (N base:Nat) (v:Value) (l:List Po):Firm N (fun W=>NewPo base W v l):=fun W k o o' _ ho hc h=>h.kept (kept_putObj ho hc)
end Go.Proofs.YtmoomnpbiifedaaGreat
set_option linter.unusedVariables false
namespace Go.Proofs.YtmoomnpbiifedaaGreat
open Go Go.RowKit
attribute [local go_sem] Oper.semAt_some
theorem PoCells.one {R:Option Addr→List Value→Prop}:∀ {l:List Po} {cs:List Value},PoCells R l cs→∀ u∈cs,u.oneCell'=true
 |[],cs,h,u,hu=>by simp only [PoCells] at h;subst h;cases hu
 |q::r,cs,h,u,hu=>by
  obtain ⟨A,c,cs',rfl,_,_,_,h'⟩:=h
  simp only [List.mem_cons] at hu
  rcases hu with rfl|rfl|hu
  ·rfl
  ·rfl
  ·exact PoCells.one h' u hu
theorem PoCells.join {R:Option Addr→List Value→Prop}:∀ {a b:List Po} {cs cs':List Value},PoCells R a cs→PoCells R b cs'→PoCells R (a++b) (cs++cs')
 |[],b,cs,cs',h,k=>by simp only [PoCells] at h;subst h;exact k
 |q::r,b,cs,cs',h,k=>by
  obtain ⟨A,c,cs'',rfl,h1,h2,h3,h'⟩:=h
  exact ⟨A,c,cs''++cs',rfl,h1,h2,h3,PoCells.join h' k⟩
def AllI (w:World) (R C D B:Nat) (l:List Po) (pre:List Value) (W:World):Prop:=
 W.heap[D]?=some (.cells #[.pointer (some ⟨B,0,none⟩)] 65 (0,0))∧W.heap[C]?=some (.cells #[.slice (some ⟨R,0,none⟩) (l.take (8*pre.length)).length l.length] 58 (0,0))∧
  NewPo w.heap.size W (.slice (some ⟨R,0,none⟩) (l.take (8*pre.length)).length l.length) (l.take (8*pre.length))∧Below w.heap.size w W
set_option maxHeartbeats 8000000 in
set_option maxRecDepth 100000 in
theorem list_All (base B:Nat) (l:List Po) (w:World) (h:LAt w base B (bytesP (-1) l) l) (hmay:mayB' (-1) l=true) (hbl:(bytesP (-1) l).length≤400000000000) (hl:l.length≤1000000):
  Calls Tryz.prog 54 #[.pointer (some ⟨B,0,none⟩)] w (GaveNew l w):=by
 obtain ⟨i0,hi0,hz0,hz1,hz2⟩:=info_parts info_posting
 refine (callsIn_wide (n:=6)).1 ?_
 obtain ⟨_,_,_,_,⟨_,_,c2,_⟩,_⟩:=h.read
 have hblt:=h.lt
 obtain ⟨n,hn⟩:∃ n,n=l.length:=⟨_,rfl⟩
 rw [← hn] at c2 hl
 have HN:=Lib.hid hn
 have HTOLD:Hid (∀ (D:Nat) (w':World),Below w.heap.size w w'→w'.heap[D]?=some (.cells #[.pointer (some ⟨B,0,none⟩)] 65 (0,0))→Told 5 Tryz.prog 121 #[.pointer (some ⟨D,0,none⟩)] (fun v:Value=>#[v]) (KpOne w.heap.size D) (OkBlock w.heap.size l) (fun ys=>ys.length=blocksP l.length) w'):=Lib.hid fun D w' hb hd=>
  blocks_told 5 D base B l w w' (by omega) h hmay hbl (by rw [← hn];exact hl) hb hd
 clear h hmay hbl hn
 refine callsIn_of_wp_marks Tryz.func54 rfl trivial ?_ rfl
 simp only [Tryz.ntmps54,List.size_toArray,List.length_cons,List.length_nil,Nat.reduceAdd,Nat.reduceSub,Array.replicate_succ,Array.replicate_zero,List.push_toArray,List.append_toArray,List.nil_append,List.cons_append]
 gi_wp2_with (gi_at_make;refine wpListIn_make_own _ rfl _ _ 58 rfl w.heap.size 63 i0 _ 2 Tryz.underlying58 hi0 hz0 hz1 _ _ _ n rfl rfl rfl (by rw [hz2];omega) (by unfold maxLen;omega) (Nat.le_refl _) ?_)
 intro w1 hown hgrow
 have hb1:Below w.heap.size w w1:=(Below.refl _ _).grown hgrow (Nat.le_refl _) (fun k hk=>by cases hk)
 have hs1:=hb1.size
 have hR1:=(hown.lt w.heap.size rfl).2
 obtain ⟨C,hC⟩:∃ C,C=w1.heap.size:=⟨_,rfl⟩
 gi_wp2_with (first
  |(refine ⟨trivial,?_⟩;gi_at_call 94;refine (callsIn_wide.2 (list_blocks _ _)).mono ?_)
  |(gi_at_call 94;refine (callsIn_wide.2 (list_blocks _ _)).mono ?_))
 rintro e w3 ⟨rfl,e1,hb3,hz3⟩
 rw [World.size_alloc,← hC] at e1 hz3
 have hal:=(Below.refl w1.heap.size w1).alloc (Nat.le_refl _) (.cells #[.slice (some ⟨w.heap.size,0,none⟩) 0 n] 58)
 have hb13:=hal.trans (hb3.mono (by simp))
 have hb03:=hb1.trans (hb13.mono hs1)
 have hc3:w3.heap[C]?=some (.cells #[.slice (some ⟨w.heap.size,0,none⟩) 0 n] 58 (0,0)):=by rw [hC];exact (hb3.block _ (by simp)).trans (heap_alloc_new w1 _)
 have hown3:=owned_below hown hb13
 have hi0':AllI w w.heap.size C (C+1) B l [] w3:=⟨e1,by simpa [← HN.out] using hc3,⟨[],by simpa [← HN.out] using hown3,by simp [PoCells]⟩,hb03⟩
 have HI0:=Lib.hid hi0'
 have HT:=Lib.hid (HTOLD.out (C+1) w3 hb03 e1)
 have HZ3:=Lib.hid hz3
 have HRC:Hid (w.heap.size<C):=Lib.hid (by omega)
 gi_wp2
 rw [← hC]
 clear hi0' hown3 hc3 hb03 hb13 hal e1 hz3 hb3 hown hgrow hb1 hs1 hR1 hC c2
 refine wpIn_range_told (by omega) (gf:=121) (lb:=#[.pointer (some ⟨C+1,0,none⟩)]) rfl (enters_of Tryz.func121 (by kernel_rfl) rfl)
  HT.out KpOne.trans (fun W lp o o' hlp ho hc=>⟨Firm.belowW (N:=w.heap.size) (Nat.le_refl _) W lp o o' (by have :=HZ3.out;have :=HRC.out;omega) ho hc (Below.refl _ _),fun _=>World.putObj_heap_other (by have :=HZ3.out;omega)⟩) (fun _=>rfl)
  (AllI w w.heap.size C (C+1) B l) (fun s A' B' h hb=>⟨(hb.block _ (lt_of_block h.1)).trans h.1,(hb.block _ (lt_of_block h.2.1)).trans h.2.1,h.2.2.1.below hb,h.2.2.2.trans (hb.mono h.2.2.2.size)⟩)
  (fun s=>(Firm.block (by have :=HZ3.out;omega) _).and ((Firm.block (by have :=HZ3.out;omega) _).and ((Firm.newPo _ _ _ _).and (Firm.belowW (by have :=HZ3.out;have :=HRC.out;omega)))))
  (fun s x=>Firm.pure.and (Firm.newPo _ _ _ _)) HI0.out
  (fun v=>{tmps:=#[.pointer (some ⟨B,0,none⟩),undef,.slice none 0 0,.pointer (some ⟨C,0,none⟩),v,.pointer (some ⟨B,0,none⟩),.pointer (some ⟨B,0,none⟩),.pointer (some ⟨B,2,none⟩),.int .i64 (n:Int),.slice (some ⟨w.heap.size,0,none⟩) 0 n,.pointer (some ⟨B,0,none⟩),
   .func (.func 121) #[] #[.pointer (some ⟨C+1,0,none⟩)],v,undef,undef,undef,undef],defers:=[]}) ?assign ?body ?done
 case assign=>
  intro lp x W K' hK'
  gi_wp2
  exact hK'
 case body=>
  rintro lp pre v W ⟨hD,hC,hnew,hbw⟩ ⟨hx,hok⟩
  obtain ⟨k,hk⟩:∃ k,k=pre.length:=⟨_,rfl⟩
  have hAI:∀ W',W'.heap[C+1]?=some (.cells #[.pointer (some ⟨B,0,none⟩)] 65 (0,0))→W'.heap[C]?=some (.cells #[.slice (some ⟨w.heap.size,0,none⟩) (l.take (8*(k+1))).length l.length] 58 (0,0))→NewPo w.heap.size W' (.slice (some ⟨w.heap.size,0,none⟩) (l.take (8*(k+1))).length l.length) (l.take (8*(k+1)))→Below w.heap.size w W'→AllI w w.heap.size C (C+1) B l (pre++[v]) W':=fun W' h1 h2 h3 h4=>by
   unfold AllI
   rw [List.length_append,List.length_singleton,← hk]
   exact ⟨h1,h2,h3,h4⟩
  rw [← hk] at hC hnew hx hok
  have hcat:=blocks_all l k
  have hblen:=blockP_length (l:=l) k
  have hlen:(l.take (8*(k+1))).length≤l.length:=by rw [List.length_take];omega
  obtain ⟨acc,hacc⟩:∃ acc,acc=l.take (8*k):=⟨_,rfl⟩
  obtain ⟨blk,hblk⟩:∃ blk,blk=blockP l (k:Int):=⟨_,rfl⟩
  rw [← hacc,← hblk] at hcat
  rw [hcat] at hAI hlen
  rw [← hacc] at hC hnew
  rw [← hblk] at hblen hok
  rw [← HN.out] at hC hnew hlen hAI hblen
  have hm0:0<blk.length:=by rw [hblen,HN.out];unfold blocksP at hx;omega
  obtain ⟨cs2,ho2,hp2⟩:=hok
  obtain ⟨A2,c2,rfl,hc2,hr2⟩:=owned_row ho2
  obtain ⟨b2,o2,rfl,hb2,hcc⟩:=hr2.at_ (by rw [hp2.len];omega)
  obtain ⟨cs1,ho1,hp1⟩:=hnew
  obtain ⟨L,hL⟩:∃ L,L=acc.length:=⟨_,rfl⟩
  obtain ⟨M,hM⟩:∃ M,M=blk.length:=⟨_,rfl⟩
  rw [List.length_append] at hlen hAI
  rw [← hL,← hM] at hlen hAI
  rw [← hL] at hC ho1
  rw [← hM] at hm0
  rw [← hM]
  have hcc1:=cell_of_one hC
  have hcf1:=free_of_one hC
  have HAI:=Lib.hid hAI
  have HD:=Lib.hid hD
  have HC:=Lib.hid hC
  have HO1:=Lib.hid ho1
  have HP1:=Lib.hid hp1
  have HP2:=Lib.hid hp2
  have HBW:=Lib.hid hbw
  have HL:=Lib.hid hL
  have HM:=Lib.hid hM
  have HCC:=Lib.hid hcc
  have hn2:cs2.length=M*2:=by rw [hp2.len,hM]
  have HN2:=Lib.hid hn2
  clear hAI hD hC ho1 hp1 hp2 hbw hL hM hk hx hcat hacc hblk hblen ho2 hr2 hcc hc2 hb2 hn2
  gi_wp2_with (gi_at_builtin;refine wpListIn_append_fits _ rfl (.tmp 13) (.tmp 14) 58 rfl w.heap.size 63 i0 2 Tryz.underlying58 hi0 hz1 w.heap.size L n cs1 rfl HO1.out ⟨b2,o2,none⟩ M c2 cs2 rfl HN2.out (fun j u hu=>by rw [Addr.add_lit];exact HCC.out j u hu) (PoCells.one HP2.out) hlen ?_)
  intro w4 hown4 hg4
  obtain ⟨csr,frr,hRr⟩:=owned_type HO1.out rfl
  have hCR:C≠w.heap.size:=by have :=HRC.out;omega
  have hC4:w4.heap[C]?=some (.cells #[.slice (some ⟨w.heap.size,0,none⟩) L n] 58 (0,0)):=(hg4.block C (lt_of_block HC.out) (fun e=>hCR (Option.some.inj e))).trans HC.out
  have hc4:=cell_of_one hC4
  have hf4:=free_of_one hC4
  have hints:∀ (k:Nat) (cs:Array Value) (fr:Nat × Nat),W.heap[k]?=some (.cells cs 3 fr)→(w4.setCell ⟨C,0,none⟩ (.slice (some ⟨w.heap.size,0,none⟩) (L+M) n)).heap[k]?=some (.cells cs 3 fr):=fun k cs fr hk=>by
   have h1:k≠C:=fun e=>by rw [e,HC.out] at hk;simp at hk
   have h2:k≠w.heap.size:=fun e=>by rw [e,hRr] at hk;simp at hk
   rw [Below.heap_setCell _ _ _ _ h1,hg4.block k (Array.getElem?_eq_some_iff.1 hk).1 (fun e=>h2 (Option.some.inj e)),hk]
  have hnew5:NewPo w.heap.size (w4.setCell ⟨C,0,none⟩ (.slice (some ⟨w.heap.size,0,none⟩) (L+M) n)) (.slice (some ⟨w.heap.size,0,none⟩) (L+M) n) (acc++blk):=by
   refine ⟨cs1++cs2,?_,(HP1.out.imp fun _ _ h=>⟨h.1.moved hints,h.2⟩).join (HP2.out.imp fun _ _ h=>⟨h.1.moved hints,h.2⟩)⟩
   rw [List.length_append,← HL.out,← HM.out]
   exact owned_setCell hown4 (by simpa [Value.ownBlock] using hCR.symm) _
  have hb5:Below w.heap.size W (w4.setCell ⟨C,0,none⟩ (.slice (some ⟨w.heap.size,0,none⟩) (L+M) n)):=
   ((Below.refl _ W).grown hg4 HBW.out.size (fun k e=>by injection e with e;omega)).setCell (p:=⟨C,0,none⟩) (by show w.heap.size≤C;have :=HRC.out;omega) _
  have hko:KeepsOthers W (w4.setCell ⟨C,0,none⟩ (.slice (some ⟨w.heap.size,0,none⟩) (L+M) n)):=
   (KeepsOthers.of_grownBy hg4 fun j o ej hj=>by injection ej with ej;subst ej;rw [hRr] at hj;injection hj with hj;subst hj;rfl).trans (KeepsOthers.setCell _ _ _)
  have hD5:(w4.setCell ⟨C,0,none⟩ (.slice (some ⟨w.heap.size,0,none⟩) (L+M) n)).heap[C+1]?=W.heap[C+1]?:=by
   rw [Below.heap_setCell _ _ _ _ (show C+1≠C by omega),hg4.block (C+1) (lt_of_block HD.out) (fun e=>by have :=Option.some.inj e;have :=HRC.out;omega)]
  have hfin:=HAI.out _ (hD5.trans HD.out) (one_setCell hC4) hnew5 (HBW.out.trans hb5)
  have HF:=Lib.hid hfin
  have HB5:=Lib.hid hb5
  have HKO:=Lib.hid hko
  have HD5:=Lib.hid hD5
  clear hints hnew5 hb5 hko hD5 hfin hown4 hg4 hC4 hRr hcc1 hcf1
  gi_wp2
  exact ⟨HKO.out,⟨HB5.out,fun _=>HD5.out⟩,HF.out⟩
 case done=>
  rintro D' ys W hD hys ⟨_,hC,hnew,hbw⟩ hK'
  rw [hys,take_blocks] at hC hnew
  have hcc1:=cell_of_one hC
  have HNW:=Lib.hid hnew
  have HBW:=Lib.hid hbw
  clear hC hnew hbw hys
  gi_wp2
  refine ⟨by simp,.inl ⟨_,_,rfl,run_takeDeferred hK',?_⟩⟩
  refine ⟨_,results_tmp rfl _ _ _,?_⟩
  have hD2:w.heap.size≤D':=by have :=HZ3.out;have :=HRC.out;omega
  exact ⟨_,rfl,Firm.newPo 0 _ _ _ W D' _ _ (Nat.zero_le _) hK' rfl HNW.out,Firm.belowW (N:=w.heap.size) (Nat.le_refl _) W D' _ _ hD2 hK' rfl HBW.out⟩
end Go.Proofs.YtmoomnpbiifedaaGreat
set_option linter.unusedVariables false
namespace Go.Proofs.YtmoomnpbiifedaaGreat
open Go Go.RowKit
section
variable (base B:Nat) (bs:List UInt8) (l:List Po) (w:World) (h:LAt w base B bs l)
include h
theorem list_Len:Calls Tryz.prog 79 #[.pointer (some ⟨B,0,none⟩)] w fun e w'=>e= .returned (.int .i64 (l.length:Int))∧w=w':=by
 obtain ⟨Ab,cb,Ae,ce,⟨c0,c1,c2,c3⟩,_⟩:=h.read
 clear h
 go_enter Tryz.func79,Tryz.ntmps79
 go_wp2
 go_ret
 exact ⟨rfl,rfl⟩
end
end Go.Proofs.YtmoomnpbiifedaaGreat
set_option linter.unusedVariables false
namespace Go.Proofs.YtmoomnpbiifedaaGreat
end Go.Proofs.YtmoomnpbiifedaaGreat
set_option linter.unusedVariables false
namespace Go.Proofs.YtmoomnpbiifedaaGreat
section
variable {g:List Po} {i:Int} {nx:Nat} {bh:Bool} {rest:List Po} {doc:Int}
end
end Go.Proofs.YtmoomnpbiifedaaGreat
set_option linter.unusedVariables false
namespace Go.Proofs.YtmoomnpbiifedaaGreat
open Go Go.RowKit
structure OnlyIn (S:Nat→Prop) (w w':World):Prop where
 os:w'.os=w.os
 tape:w'.tape=w.tape
 output:w'.output=w.output
 size:w.heap.size≤w'.heap.size
 block:∀ k,k<w.heap.size→¬ S k→w'.heap[k]?=w.heap[k]?
theorem OnlyIn.of_below {S:Nat→Prop} {w w':World} (h:Below w.heap.size w w'):OnlyIn S w w':=⟨h.os,h.tape,h.output,h.size,fun k hk _=>h.block k hk⟩
theorem OnlyIn.trans {S:Nat→Prop} {w w' w'':World} (h:OnlyIn S w w') (k:OnlyIn S w' w''):OnlyIn S w w'':=
 ⟨k.os.trans h.os,k.tape.trans h.tape,k.output.trans h.output,Nat.le_trans h.size k.size,fun i hi hne=>(k.block i (Nat.lt_of_lt_of_le hi h.size) hne).trans (h.block i hi hne)⟩
theorem OnlyIn.below {S:Nat→Prop} {base:Nat} {w w':World} (h:OnlyIn S w w') (hb:∀ k,S k→base≤k) (hw:base≤w.heap.size):Below base w w':=
 ⟨h.os,h.tape,h.output,h.size,fun k hk=>h.block k (by omega) (fun hs=>by have :=hb k hs;omega)⟩
end Go.Proofs.YtmoomnpbiifedaaGreat
set_option linter.unusedVariables false
namespace Go.Proofs.YtmoomnpbiifedaaGreat
open Go Go.RowKit
section
variable {p:Prop × Nat} {X:Nat→Prop} {w w' w'':World}
end
end Go.Proofs.YtmoomnpbiifedaaGreat
set_option linter.unusedVariables false
namespace Go.Proofs.YtmoomnpbiifedaaGreat
open Go Go.RowKit
section
variable {w w':World} {A:Option Addr} {xs:List Value} {S X:Nat→Prop} {t:TypeId} {p:Prop × Nat}
end
section
variable {w w':World} {A:Option Addr} {xs:List Value} {X:Nat→Prop} {p:Prop × Nat}
end
section
variable {w w':World} {A:Option Addr} {l:List Po} {S X:Nat→Prop} {p:Prop × Nat}
end
section
variable {C nx:Nat} {vb ve:Value} {g:List Po} {A:Option Addr} {m c:Nat} {bh:Bool} {rd:Int} {w w':World} {S X:Nat→Prop} {i:Int} {p:Prop × Nat}
end
end Go.Proofs.YtmoomnpbiifedaaGreat
set_option linter.unusedVariables false
namespace Go.Proofs.YtmoomnpbiifedaaGreat
open Go Go.RowKit
end Go.Proofs.YtmoomnpbiifedaaGreat
namespace Go.Proofs.YtmoomnpbiifedaaGreat
open Go.Shelf Go.RowKit
end Go.Proofs.YtmoomnpbiifedaaGreat
set_option linter.unusedVariables false
namespace Go.Proofs.YtmoomnpbiifedaaGreat
open Go Go.RowKit
end Go.Proofs.YtmoomnpbiifedaaGreat
set_option linter.unusedVariables false
namespace Go.Proofs.YtmoomnpbiifedaaGreat
open Go Go.RowKit
section
variable {C nx m c:Nat} {vb ve:Value} {g:List Po} {A:Option Addr} {bh:Bool} {rd:Int} {w:World}
end
end Go.Proofs.YtmoomnpbiifedaaGreat
set_option linter.unusedVariables false
namespace Go.Proofs.YtmoomnpbiifedaaGreat
open Go Go.RowKit
end Go.Proofs.YtmoomnpbiifedaaGreat
set_option linter.unusedVariables false
namespace Go.Proofs.YtmoomnpbiifedaaGreat
open Go Go.RowKit
end Go.Proofs.YtmoomnpbiifedaaGreat
namespace Go.Proofs.YtmoomnpbiifedaaGreat
open Go Go.RowKit
set_option linter.unusedVariables false
set_option maxHeartbeats 1000000 in
theorem word_Key10 (f g:ByteArray) (w:World) (hf:f.size≤140737488355328) (hg:g.size≤140737488355328):
  Calls Tryz.prog 75 #[.agg #[.string f,.string g]] w fun e w'=>e= .returned (.string (keyB f g))∧Below w.heap.size w w':=by
 go_enter Tryz.func75,Tryz.ntmps75
 go_wp2
 go_ret
 exact ⟨rfl,(Below.refl _ _).alloc (Nat.le_refl _) _⟩
end Go.Proofs.YtmoomnpbiifedaaGreat
set_option linter.unusedVariables false
namespace Go.Proofs.YtmoomnpbiifedaaGreat
open Go Go.RowKit
theorem bytes_small {l:List Pn} (hm:mayB' (-1) l=true) (h1:l.length≤1000) (h2:totalP l≤40000000000):(bytesP (-1) l).length≤400000000000:=by
 have :=bytesP_length l (-1) (by omega) hm (fun p hp=>by have :=may_len hm p hp;omega)
 omega
theorem posts_at {x:PartsP} (h:mayPs x=true) {i:Nat} (hi:i<x.keys.length) (hl:i<x.lists.length):postsPs x x.keys[i]=x.lists[i]:=
 atP_at hi hl rfl fun j hj hji e=>by
  have :=rise_at (risesN_iff.1 (mayPs_iff.1 h).2.2.2.1) hi hji
  rw [e] at this
  exact nm_irrefl _ this
theorem posts_no {x:PartsP} {key:Nm} (hr:Rise x.keys) (h:isN x.keys key=false):postsPs x key=[]:=atP_none fun k hk e=>by
 subst e
 have :isN x.keys k=true:=by
  obtain ⟨i,hi,rfl⟩:=List.mem_iff_getElem.1 hk
  exact (isN_own hr hi).2
 rw [h] at this
 cases this
section
variable {w:World} {S:Nat} {x:PartsP}
set_option maxHeartbeats 1000000 in
theorem seg_Keys (h:SegAt w S x):Calls Tryz.prog 33 #[.pointer (some ⟨S,0,none⟩)] w (GaveNm x.keys w):=by
 obtain ⟨bl,hd,_⟩:=h.dict
 have C1:=Lib.hid (dictP_Names S 2 x.keys bl w hd h.small.keys)
 clear h hd
 go_enter Tryz.func33,Tryz.ntmps33
 go_wp2_with (go_at_call 69;refine C1.out.mono ?_;rintro e w' ⟨v,rfl,ho,hb⟩)
 go_ret
 exact ⟨_,rfl,ho,hb⟩
def GotList (l:List Pn) (w:World) (e:Ending) (w':World):Prop:=∃ B,e= .returned (.pointer (some ⟨B,0,none⟩))∧LAt w' 0 B (bytesP (-1) l) l∧Below w.heap.size w w'
set_option maxHeartbeats 2000000 in
set_option maxRecDepth 100000 in
theorem seg_list (h:SegAt w S x) (key:ByteArray):Calls Tryz.prog 73 #[.pointer (some ⟨S,0,none⟩),.string key] w (GotList (postsPs x key.data.toList) w):=by
 obtain ⟨bl,hd,hl⟩:=h.dict
 have hr:=risesN_iff.1 (mayPs_iff.1 h.may).2.2.2.1
 have c1:=dictP_Find S 2 x.keys bl key w hd hr (by have :=h.small.keys;omega)
 have hkl:=h.keys
 cases hf:isN x.keys key.data.toList with
 |true=>
  rw [hf,if_pos rfl] at c1
  obtain ⟨hp,hpe⟩:=isN_found hf
  obtain ⟨p,hpp⟩:∃ p,p=placeN x.keys key.data.toList:=⟨_,rfl⟩
  simp only [← hpp] at c1 hp hpe
  obtain ⟨base,hla⟩:=hl p (by omega)
  have hpo:postsPs x key.data.toList=x.lists[p]'(by omega):=by rw [← hpe];exact posts_at h.may hp (by omega)
  rw [hpo]
  have HLA:=Lib.hid (hla.low (Nat.zero_le _))
  obtain ⟨L,hL⟩:∃ L,L=x.lists[p]'(by omega):=⟨_,rfl⟩
  rw [← hL] at HLA ⊢
  have C1:=Lib.hid c1
  obtain ⟨B,hB⟩:∃ B,B=bl.getD p 0:=⟨_,rfl⟩
  rw [← hB] at C1 HLA
  clear c1 hd hl hr h hkl hf hp hpe hpp hla hpo hL hB
  go_enter Tryz.func73,Tryz.ntmps73
  go_wp2_with (go_at_call 105;refine C1.out.mono ?_;rintro e w' ⟨rfl,hb⟩)
  go_ret
  exact ⟨B,rfl,HLA.out.below hb,hb⟩
 |false=>
  rw [hf,if_neg (by decide)] at c1
  rw [posts_no hr hf]
  have C1:=Lib.hid c1
  have HM:Hid (∀ w1,Calls Tryz.prog 24 #[.slice none 0 0] w1 (MadeList [] w1)):=Lib.hid fun w1=>posting_Make none 0 0 [] w1 rfl (Nat.le_refl _) (Nat.zero_le _) (by omega) Posts.nil (by simp [totalP]) rfl
  clear c1 hd hl hr h hkl hf
  go_enter Tryz.func73,Tryz.ntmps73
  go_wp2_with (first
   |(go_at_call 105;refine C1.out.mono ?_;rintro e w1 ⟨rfl,hb⟩)
   |(go_at_call 24;refine (HM.out w1).mono ?_;rintro e w2 ⟨B,rfl,hla,hb2⟩))
  go_ret
  exact ⟨B,rfl,hla.low (Nat.zero_le _),hb.trans (hb2.mono hb.size)⟩
set_option maxHeartbeats 2000000 in
set_option maxRecDepth 100000 in
theorem seg_Count (h:SegAt w S x) (f g:ByteArray) (hf:f.size≤140737488355328) (hg:g.size≤140737488355328):Calls Tryz.prog 45 #[.pointer (some ⟨S,0,none⟩),.agg #[.string f,.string g]] w fun e w'=>e= .returned (.int .i64 ((postsPs x (keyL f.data.toList g.data.toList)).length:Int))∧Below w.heap.size w w':=by
 obtain ⟨w1,hw1⟩:∃ w1,w1=w.alloc (.cells #[.string f,.string g] 39):=⟨_,rfl⟩
 have hb1:Below w.heap.size w w1:=by rw [hw1];exact (Below.refl _ w).alloc (Nat.le_refl _) _
 have C0:=Lib.hid (word_Key10 f g w1 hf hg)
 have C1:Hid (∀ w2,Below w1.heap.size w1 w2→Calls Tryz.prog 73 #[.pointer (some ⟨S,0,none⟩),.string (keyB f g)] w2 (GotList (postsPs x (keyL f.data.toList g.data.toList)) w2)):=Lib.hid fun w2 hb=>by
  have :=seg_list ((h.below hb1).below hb) (keyB f g)
  rwa [keyB_list] at this
 obtain ⟨L,hL⟩:∃ L,L=postsPs x (keyL f.data.toList g.data.toList):=⟨_,rfl⟩
 rw [← hL] at C1 ⊢
 obtain ⟨K,hK⟩:∃ K,K=keyB f g:=⟨_,rfl⟩
 rw [← hK] at C0 C1
 have HB1:=Lib.hid hb1
 have HW1:=Lib.hid hw1
 clear h hL hK hb1 hw1 hf hg
 go_enter Tryz.func45,Tryz.ntmps45
 go_wp2_with (first
  |(go_at_call 75;rw [show w.alloc _=w1 from HW1.out.symm];refine C0.out.mono ?_;rintro e w2 ⟨rfl,hb2⟩)
  |(go_at_call 73;refine (C1.out w2 hb2).mono ?_;rintro e w3 ⟨B,rfl,hla,hb3⟩)
  |(go_at_call 79;refine (list_Len 0 B _ L w3 hla).mono ?_;rintro e w4 ⟨rfl,rfl⟩))
 go_ret
 exact ⟨rfl,HB1.out.trans ((hb2.trans (hb3.mono hb2.size)).mono HB1.out.size)⟩
end
end Go.Proofs.YtmoomnpbiifedaaGreat
set_option linter.unusedVariables false
namespace Go.Proofs.YtmoomnpbiifedaaGreat
open Go Go.RowKit
def PoK (t:TypeId):Prop:=t=63∨t=3
structure KeptG (b0:Nat) (w w':World):Prop where
 size:w.heap.size≤w'.heap.size
 low:∀ k,k<b0→w'.heap[k]?=w.heap[k]?
 kinds:∀ (k:Nat) (cs:Array Value) (t:TypeId) (fr:Nat × Nat),w.heap[k]?=some (.cells cs t fr)→PoK t→w'.heap[k]?=some (.cells cs t fr)
section
variable {b0 base:Nat} {w w' w'':World} {A:Option Addr} {xs:List Value} {t:TypeId}
theorem KeptG.trans (h:KeptG b0 w w') (k:KeptG b0 w' w''):KeptG b0 w w'':=⟨Nat.le_trans h.size k.size,fun i hi=>(k.low i hi).trans (h.low i hi),fun i cs t fr hi ht=>k.kinds i cs t fr (h.kinds i cs t fr hi ht) ht⟩
theorem KeptG.of_below (hb:Below w.heap.size w w') (h0:b0≤w.heap.size):KeptG b0 w w':=⟨hb.size,fun k hk=>hb.block k (by omega),fun k cs t fr hk _=>(hb.block k (Array.getElem?_eq_some_iff.1 hk).1).trans hk⟩
theorem KeptG.setCell {P o:Nat} {cs:Array Value} {fr:Nat × Nat} (hP:w.heap[P]?=some (.cells cs t fr)) (h0:b0≤P) (ht:¬ PoK t) (v:Value):KeptG b0 w (w.setCell ⟨P,o,none⟩ v):=
 ⟨by simp,fun k hk=>Below.heap_setCell _ _ _ _ (by show k≠P;omega),fun k cs' t' fr' hk ht'=>(Below.heap_setCell _ _ _ _ (by rintro rfl;rw [hP] at hk;injection hk with hk;injection hk with _ e _;subst e;exact ht ht')).trans hk⟩
theorem KeptG.grown {E:TypeId} {size n:Nat} {v:Value} (hv:w.ownsRow base E size v n xs) (h0:b0≤base) (hE:¬ PoK E) (hg:w.grownBy w' v.ownBlock) (hs:base≤w.heap.size):KeptG b0 w w':=
 ⟨hg.size,fun k hk=>hg.block k (by omega) (fun e=>by have :=(hv.lt k e.symm).1;omega),fun k cs t fr hk ht=>(hg.block k (Array.getElem?_eq_some_iff.1 hk).1 (fun e=>owned_apart hv hk (fun e=>hE (e▸ht)) e.symm)).trans hk⟩
def RowG (b0:Nat) (t:TypeId) (w:World) (A:Option Addr) (xs:List Value):Prop:=xs=[]∨∃ b off,A=some ⟨b,off,none⟩∧b<w.heap.size∧(b<b0∨∃ cs fr,w.heap[b]?=some (.cells cs t fr))∧∀ j u,xs[j]?=some u→w.cell? ⟨b,off+j,none⟩=some u
theorem RowG.keep (h:RowG b0 t w A xs) (ht:PoK t) (hk:KeptG b0 w w'):RowG b0 t w' A xs:=by
 rcases h with h|⟨b,off,e,hb,hc,hx⟩
 ·exact .inl h
 ·have hblk:w'.heap[b]?=w.heap[b]?:=by
   rcases hc with hc|⟨cs,fr,hc⟩
   ·exact hk.low b hc
   ·rw [hk.kinds b cs t fr hc ht,hc]
  exact .inr ⟨b,off,e,Nat.lt_of_lt_of_le hb hk.size,hc.imp id fun ⟨cs,fr,hc⟩=>⟨cs,fr,by rw [hblk,hc]⟩,fun j u hu=>by rw [World.cell?_of_block (a:=⟨b,off+j,none⟩) hblk];exact hx j u hu⟩
theorem RowG.row (h:RowG b0 t w A xs):Row w w.heap.size A xs:=by
 rcases h with h|⟨b,off,e,hb,_,hx⟩
 ·exact .inl h
 ·exact .inr ⟨b,off,e,hb,hx⟩
theorem RowG.of_own {size n c:Nat} (h:w.ownsRow base t size (.slice A n c) n xs):RowG b0 t w A xs:=by
 rcases h.2 with ⟨hv,hn⟩|⟨g,cap,cur,hv,hg,hh,_⟩
 ·exact .inl (List.eq_nil_of_length_eq_zero (by rw [h.1,hn];simp))
 ·injection hv with h1 h2 h3
  subst h1
  rcases owned_row_of h with h0|⟨b,off,e,hb,hc⟩
  ·exact .inl h0
  ·injection e with e
   injection e with e1 e2
   subst e1 e2
   exact .inr ⟨g,0,rfl,hb,.inr ⟨_,_,hh⟩,hc⟩
theorem RowG.of_safe (h:RowS 0 w A xs):RowG b0 3 w A xs:=by
 rcases h with h|⟨b,off,e,⟨h1,h2⟩,hc⟩
 ·exact .inl h
 ·exact .inr ⟨b,off,e,h1,.inr (h2.resolve_left (Nat.not_lt_zero _)),hc⟩
def PostsG (b0:Nat) (w:World) (A:Option Addr) (l:List Pn):Prop:=∃ cs,PoCells (RowG b0 3 w) l cs∧RowG b0 63 w A cs
theorem PostsG.keep {l:List Pn} (h:PostsG b0 w A l) (hk:KeptG b0 w w'):PostsG b0 w' A l:=by
 obtain ⟨cs,h1,h2⟩:=h
 exact ⟨cs,h1.imp fun _ _ h=>h.keep (.inr rfl) hk,h2.keep (.inl rfl) hk⟩
theorem PostsG.posts {l:List Pn} (h:PostsG b0 w A l):Posts w w.heap.size A l:=by
 obtain ⟨cs,h1,h2⟩:=h
 exact ⟨cs,h1.imp fun _ _ h=>h.row,h2.row⟩
theorem PostsG.of_new {b:Nat} {v:Value} {l:List Pn} (h:NewPo b w v l):∃ A c,v= .slice A l.length c∧(l.length≤c∧c≤maxLen)∧PostsG b0 w A l:=by
 obtain ⟨cs,h1,h2⟩:=h
 obtain ⟨A,c,rfl,hc,hr⟩:=owned_roomed h1
 exact ⟨A,c,rfl,hc,cs,h2.imp fun _ _ h=> .of_safe h.1,.of_own h1⟩
def LG (b0:Nat) (w:World) (ls:List (List Pn)) (cs:List Value):Prop:=cs.length=ls.length∧∀ i (h:i<ls.length),∃ A c,cs[i]?=some (.slice A ls[i].length c)∧(ls[i].length≤c∧c≤maxLen)∧PostsG b0 w A ls[i]
theorem LG.nil:LG b0 w [] []:=⟨rfl,fun i h=>by simp at h⟩
theorem LG.keep {ls:List (List Pn)} {cs:List Value} (h:LG b0 w ls cs) (hk:KeptG b0 w w'):LG b0 w' ls cs:=⟨h.1,fun i hi=>by obtain ⟨A,c,h1,h2,h3⟩:=h.2 i hi;exact ⟨A,c,h1,h2,h3.keep hk⟩⟩
theorem LG.cells {ls:List (List Pn)} {cs:List Value} (h:LG b0 w ls cs):LCells w w.heap.size ls cs:=⟨h.1,fun i hi=>by obtain ⟨A,c,h1,h2,h3⟩:=h.2 i hi;exact ⟨A,c,h1,h2,h3.posts⟩⟩
theorem LG.snoc {ls:List (List Pn)} {cs:List Value} (h:LG b0 w ls cs) {l:List Pn} {A:Option Addr} {c:Nat} (hc:l.length≤c∧c≤maxLen) (hp:PostsG b0 w A l):LG b0 w (ls++[l]) (cs++[.slice A l.length c]):=by
 refine ⟨by simp [h.1],fun i hi=> ?_⟩
 by_cases hlt:i<ls.length
 ·obtain ⟨A',c',h1,h2,h3⟩:=h.2 i hlt
  rw [List.getElem_append_left hlt,List.getElem?_append_left (by rw [h.1];exact hlt)]
  exact ⟨A',c',h1,h2,h3⟩
 ·have hi':i<ls.length+1:=by simpa using hi
  have e:i=ls.length:=by omega
  subst e
  have e1:(ls++[l])[ls.length]'(by simp)=l:=by simp
  have e2:(cs++[Value.slice A l.length c])[ls.length]?=some (.slice A l.length c):=by rw [← h.1];simp
  rw [e1]
  exact ⟨A,c,e2,hc,hp⟩
theorem owned_beside {b1 b2:Nat} {E1 E2:TypeId} {s1 s2 n1 n2:Nat} {v1 v2:Value} {xs1 xs2:List Value} (h1:w.ownsRow b1 E1 s1 v1 n1 xs1) (h2:w.ownsRow b2 E2 s2 v2 n2 xs2) (hE:E2≠E1) (hg:w.grownBy w' v2.ownBlock):w'.ownsRow b1 E1 s1 v1 n1 xs1:=
 owned_keep h1 fun g hu=>hg.block g (h1.lt g hu).2 fun e=>owned_apart2 h2 h1 hE hu e.symm
end
theorem info_lists:(Tryz.prog.info? 58).map (fun i=>(i.zero,i.size,i.bytes))=some (some (.slice none 0 0),1,24):=by kernel_rfl
structure GatK (T:TypeId) (b0 base:Nat) (P:Nat) (v1 v2 v3 v4:Value) (ks:List Nm) (ls:List (List Pn)) (w:World):Prop where
 cells:w.heap[P]?=some (.cells #[v1,v2,v3,v4] T (0,0))
 le:b0≤P
 hbase:b0≤base
 size:base≤w.heap.size
 keys:w.ownsRow base 9 1 v3 ks.length (strs ks)
 lists:∃ cs,w.ownsRow base 58 1 v4 ls.length cs∧LG b0 w ls cs
section
variable {T:TypeId} {b0 base P:Nat} {v1 v2 v3 v4:Value} {ks:List Nm} {ls:List (List Pn)} {w w':World}
theorem four10 {x y z u:Value} {t:TypeId} {b:Nat} (h:w.heap[b]?=some (.cells #[x,y,z,u] t (0,0))):
  (w.cell? ⟨b,0,none⟩=some x∧w.cell? ⟨b,1,none⟩=some y∧w.cell? ⟨b,2,none⟩=some z∧w.cell? ⟨b,3,none⟩=some u)∧
   w.frozen? ⟨b,0,none⟩=false∧w.frozen? ⟨b,1,none⟩=false∧w.frozen? ⟨b,2,none⟩=false∧w.frozen? ⟨b,3,none⟩=false:=by
 simp [World.cell?,World.frozen?,h]
theorem GatK.lt (h:GatK T b0 base P v1 v2 v3 v4 ks ls w):P<w.heap.size:=(Array.getElem?_eq_some_iff.1 h.cells).1
theorem GatK.below (h:GatK T b0 base P v1 v2 v3 v4 ks ls w) (hb:Below w.heap.size w w'):GatK T b0 base P v1 v2 v3 v4 ks ls w':=by
 have hlt:=h.lt
 obtain ⟨h1,h2,h3,h4,h5,cs,h6,h7⟩:=h
 exact ⟨(hb.block P hlt).trans h1,h2,h3,Nat.le_trans h4 hb.size,owned_below h5 hb,cs,owned_below h6 hb,h7.keep (.of_below hb (by omega))⟩
theorem GatK.key (h:GatK T b0 base P v1 v2 v3 v4 ks ls w) (hT:¬ PoK T) (hT1:T≠9) (hT2:T≠58) {v':Value} {k:Nm} (hown:w'.ownsRow base 9 1 v' (ks.length+1) (strs ks++[.string ⟨k.toArray⟩])) (hg:w.grownBy w' v3.ownBlock):
  w'.heap[P]?=some (.cells #[v1,v2,v3,v4] T (0,0))∧GatK T b0 base P v1 v2 v' v4 (ks++[k]) ls (w'.setCell ⟨P,2,none⟩ v')∧Below b0 w (w'.setCell ⟨P,2,none⟩ v')∧KeepsOthers w (w'.setCell ⟨P,2,none⟩ v')∧∀ (k:Nat) (cs:Array Value) (t:TypeId) (fr:Nat × Nat),k≠P→w.heap[k]?=some (.cells cs t fr)→t≠9→(w'.setCell ⟨P,2,none⟩ v').heap[k]?=some (.cells cs t fr):=by
 have hlt:=h.lt
 obtain ⟨h1,h2,h3,h4,h5,cs,h6,h7⟩:=h
 have hP:w'.heap[P]?=some (.cells #[v1,v2,v3,v4] T (0,0)):=(hg.block P hlt (fun e=>owned_apart h5 h1 hT1 e.symm)).trans h1
 have hk1:KeptG b0 w w':=KeptG.grown h5 h3 (by unfold PoK;decide) hg h4
 have hk2:KeptG b0 w' (w'.setCell ⟨P,2,none⟩ v'):=KeptG.setCell hP h2 hT v'
 refine ⟨hP,⟨by simpa using heap_setCell_same w' P 2 _ _ v' hP,h2,h3,by have :=hk1.size;simp;omega,?_,cs,?_,h7.keep (hk1.trans hk2)⟩,(((Below.refl b0 w).grown hg (Nat.le_trans h3 h4) fun k hk=>by have :=(h5.lt k hk).1;omega).setCell (p:=⟨P,2,none⟩) h2 v'),(KeepsOthers.of_grownBy hg fun j o ej hj=>by
   obtain ⟨cs',fr',hh⟩:=owned_type h5 ej
   rw [hh] at hj;injection hj with hj;rw [← hj];rfl).trans (KeepsOthers.setCell _ _ _),fun k cs' t fr hkP hk ht=>(Below.heap_setCell _ _ _ _ (show k≠P from hkP)).trans ((hg.block k (Array.getElem?_eq_some_iff.1 hk).1 (fun e=>owned_apart h5 hk ht e.symm)).trans hk)⟩
 ·rw [List.length_append,List.length_singleton]
  have :=owned_keep (w':=w'.setCell ⟨P,2,none⟩ v') hown fun g hg'=>Below.heap_setCell _ _ _ _ (fun e=>owned_apart hown hP hT1 (by rw [hg',e]))
  simpa [strs] using this
 ·have h6':=owned_beside h6 h5 (by decide) hg
  exact owned_keep h6' fun g hg'=>Below.heap_setCell _ _ _ _ (fun e=>owned_apart h6' hP hT2 (by rw [hg',e]))
theorem GatK.list (h:GatK T b0 base P v1 v2 v3 v4 ks ls w) (hT:¬ PoK T) (hT1:T≠9) (hT2:T≠58) {v':Value} {l:List Pn} {A:Option Addr} {c:Nat} (hc:l.length≤c∧c≤maxLen) (hp:PostsG b0 w A l) {cs:List Value} (h6:w.ownsRow base 58 1 v4 ls.length cs) (h7:LG b0 w ls cs)
  (hown:w'.ownsRow base 58 1 v' (ls.length+1) (cs++[.slice A l.length c])) (hg:w.grownBy w' v4.ownBlock):
  w'.heap[P]?=some (.cells #[v1,v2,v3,v4] T (0,0))∧GatK T b0 base P v1 v2 v3 v' ks (ls++[l]) (w'.setCell ⟨P,3,none⟩ v')∧Below b0 w (w'.setCell ⟨P,3,none⟩ v')∧KeepsOthers w (w'.setCell ⟨P,3,none⟩ v')∧∀ (k:Nat) (cs:Array Value) (t:TypeId) (fr:Nat × Nat),k≠P→w.heap[k]?=some (.cells cs t fr)→t≠58→(w'.setCell ⟨P,3,none⟩ v').heap[k]?=some (.cells cs t fr):=by
 have hlt:=h.lt
 obtain ⟨h1,h2,h3,h4,h5,_⟩:=h
 have hP:w'.heap[P]?=some (.cells #[v1,v2,v3,v4] T (0,0)):=(hg.block P hlt (fun e=>owned_apart h6 h1 hT2 e.symm)).trans h1
 have hk1:KeptG b0 w w':=KeptG.grown h6 h3 (by unfold PoK;decide) hg h4
 have hk2:KeptG b0 w' (w'.setCell ⟨P,3,none⟩ v'):=KeptG.setCell hP h2 hT v'
 refine ⟨hP,⟨by simpa using heap_setCell_same w' P 3 _ _ v' hP,h2,h3,by have :=hk1.size;simp;omega,?_,cs++[.slice A l.length c],?_,(h7.snoc hc hp).keep (hk1.trans hk2)⟩,(((Below.refl b0 w).grown hg (Nat.le_trans h3 h4) fun k hk=>by have :=(h6.lt k hk).1;omega).setCell (p:=⟨P,3,none⟩) h2 v'),(KeepsOthers.of_grownBy hg fun j o ej hj=>by
   obtain ⟨cs',fr',hh⟩:=owned_type h6 ej
   rw [hh] at hj;injection hj with hj;rw [← hj];rfl).trans (KeepsOthers.setCell _ _ _),fun k cs' t fr hkP hk ht=>(Below.heap_setCell _ _ _ _ (show k≠P from hkP)).trans ((hg.block k (Array.getElem?_eq_some_iff.1 hk).1 (fun e=>owned_apart h6 hk ht e.symm)).trans hk)⟩
 ·have h5':=owned_beside h5 h6 (by decide) hg
  exact owned_keep h5' fun g hg'=>Below.heap_setCell _ _ _ _ (fun e=>owned_apart h5' hP hT1 (by rw [hg',e]))
 ·rw [List.length_append,List.length_singleton]
  exact owned_keep hown fun g hg'=>Below.heap_setCell _ _ _ _ (fun e=>owned_apart hown hP hT2 (by rw [hg',e]))
theorem GatK.firm {N:Nat} (hN:b0≤N):Firm N (fun W=>GatK T b0 base P v1 v2 v3 v4 ks ls W):=fun W l o o' hl ho hc h=>by
 obtain ⟨h1,h2,h3,h4,h5,cs,h6,h7⟩:=h
 have hk:∀ (k:Nat) (cs:Array Value) (t:TypeId) (fr:Nat × Nat),W.heap[k]?=some (.cells cs t fr)→(W.putObj l o').heap[k]?=some (.cells cs t fr):=fun k cs t fr hk=>(World.putObj_heap_other (by rintro rfl;rw [ho] at hk;injection hk with hk;rw [hk] at hc;cases hc)).trans hk
 have hkg:KeptG b0 W (W.putObj l o'):=⟨by simp,fun k hk=>World.putObj_heap_other (by omega),fun k cs t fr h _=>hk k cs t fr h⟩
 have hown:∀ {E:TypeId} {s n:Nat} {v:Value} {xs:List Value},W.ownsRow base E s v n xs→(W.putObj l o').ownsRow base E s v n xs:=fun h=>owned_keep h fun g hg=>by
  obtain ⟨cs',fr',hh⟩:=owned_type h hg
  rw [hh,hk _ _ _ _ hh]
 exact ⟨hk _ _ _ _ h1,h2,h3,by simpa using h4,hown h5,cs,hown h6,h7.keep hkg⟩
theorem GatK.rows {A3 A4:Option Addr} {n3 c3 n4 c4:Nat} (h:GatK T b0 base P v1 v2 (.slice A3 n3 c3) (.slice A4 n4 c4) ks ls w):Row w w.heap.size A3 (strs ks)∧LPosts w w.heap.size A4 ls:=by
 obtain ⟨_,_,_,_,h5,cs,h6,h7⟩:=h
 exact ⟨owned_row_of h5,cs,h7.cells,owned_row_of h6⟩
theorem GatK.setOther (h:GatK T b0 base P v1 v2 v3 v4 ks ls w) {R o:Nat} {cs:Array Value} {t:TypeId} {fr:Nat × Nat} (hR:w.heap[R]?=some (.cells cs t fr)) (h0:b0≤R) (hne:R≠P) (ht:¬ PoK t) (ht1:t≠9) (ht2:t≠58) (v:Value):GatK T b0 base P v1 v2 v3 v4 ks ls (w.setCell ⟨R,o,none⟩ v):=by
 obtain ⟨h1,h2,h3,h4,h5,cs',h6,h7⟩:=h
 exact ⟨(Below.heap_setCell _ _ _ _ (show P≠R from Ne.symm hne)).trans h1,h2,h3,by simpa using h4,owned_keep h5 fun g hg=>Below.heap_setCell _ _ _ _ (fun e=>owned_apart h5 hR ht1 (by rw [hg,e])),cs',
  owned_keep h6 fun g hg=>Below.heap_setCell _ _ _ _ (fun e=>owned_apart h6 hR ht2 (by rw [hg,e])),h7.keep (KeptG.setCell hR h0 ht v)⟩
theorem GatK.read (h:GatK T b0 base P v1 v2 v3 v4 ks ls w):∃ A3 c3 A4 c4,v3= .slice A3 ks.length c3∧v4= .slice A4 ls.length c4∧ks.length≤c3∧ls.length≤c4∧Row w w.heap.size A3 (strs ks)∧LPosts w w.heap.size A4 ls:=by
 obtain ⟨_,_,_,_,h5,cs,h6,h7⟩:=h
 obtain ⟨A3,c3,rfl,hc3,hr3⟩:=owned_row h5
 obtain ⟨A4,c4,rfl,hc4,hr4⟩:=owned_row h6
 exact ⟨A3,c3,A4,c4,rfl,rfl,hc3,hc4,hr3,cs,h7.cells,hr4⟩
end
end Go.Proofs.YtmoomnpbiifedaaGreat
set_option linter.unusedVariables false
namespace Go.Proofs.YtmoomnpbiifedaaGreat
open Go Go.RowKit
def GaveIsO (l:List Int) (w:World) (e:Ending) (w':World):Prop:=∃ A c,e= .returned (.slice A l.length c)∧l.length≤c∧w'.ownsRow w.heap.size 3 1 (.slice A l.length c) l.length (ints l)∧Below w.heap.size w w'
def GaveIs (l:List Int) (w:World) (e:Ending) (w':World):Prop:=∃ A c,e= .returned (.slice A l.length c)∧l.length≤c∧Row w' w'.heap.size A (ints l)∧Below w.heap.size w w'
set_option maxHeartbeats 2000000 in
set_option maxRecDepth 100000 in
theorem clone_intsO (A:Option Addr) (m c:Nat) (ps:List Int) (w:World) (hn:ps.length=m) (hr:Row w w.heap.size A (ints ps)) (hl:m≤2147483648):
  Calls Tryz.prog 26 #[.slice A m c] w (GaveIsO ps w):=by
 obtain ⟨i0,hi0,hz0,hz1,hz2⟩:=info_parts info_int
 have qe:∀ (w:World) (a:Option Addr) (n c n' c':Nat),(binOp .eql 22 (.slice a n c) (.slice none n' c')).run Tryz.prog w= .ok (.bool a.isNone) w:=fun w a n c n' c'=>Lib.run_eql_slice_nil w _ _ a n c n' c' Tryz.underlying22
 subst hn
 cases A with
 |none=>
  obtain rfl:ps=[]:=by
   rcases Nat.eq_zero_or_pos ps.length with h0|h0
   ·exact List.eq_nil_of_length_eq_zero h0
   ·obtain ⟨_,_,e,_⟩:=hr.at_ (by simpa [ints] using h0)
    cases e
  clear hr
  go_enter Tryz.func26,Tryz.ntmps26
  go_wp2
  go_ret
  exact ⟨none,0,rfl,Nat.zero_le _,World.ownsRow_nil _ _ _ _,Below.refl _ _⟩
 |some ad=>
  have HR:=Lib.hid hr
  have hwl:(ints ps).length=ps.length:=by simp [ints]
  have HWL:=Lib.hid hwl
  clear hr hwl
  have hlit:(w.alloc (.cells #[] 3)).ownsRow w.heap.size 3 1 (.slice (some ⟨w.heap.size,0,none⟩) 0 0) 0 []:=World.ownsRow_made w #[] 0 (Nat.le_refl _) (Nat.zero_le _) rfl
  obtain ⟨m,hm⟩:∃ m,m=ps.length:=⟨_,rfl⟩
  rw [← hm] at HWL hl
  rw [← hm]
  have HM:=Lib.hid hm
  clear hm
  go_enter Tryz.func26,Tryz.ntmps26
  go_wp2_with (at_builtin;(refine wpList_append_row _ rfl (.tmp 5) (.tmp 6) 22 rfl w.heap.size 3 i0 _ 1 8 Tryz.underlying22 hi0 hz0 hz1 hz2 rfl (by decide) _ 0 [] rfl hlit _ _ m c (ints ps) rfl (by rw [HWL.out];omega) ((HR.out.below ((Below.refl _ w).alloc (Nat.le_refl _) (.cells #[] 3))).more (B':=(w.alloc (.cells #[] 3)).heap.size) (by simp)) (ints_oneCell' _) (by unfold maxLen;omega) (by omega) (by simp) ?_))
  intro v' w' hown hgrow
  obtain ⟨A',c',rfl,hc',_⟩:=owned_row hown
  go_wp2
  go_ret
  refine ⟨A',c',by rw [← HM.out];rfl,by rw [← HM.out];exact hc',by rw [← HM.out];simpa using hown,((Below.refl _ _).alloc (Nat.le_refl _) _).grown hgrow (by simp) (fun k hk=>by cases hk;exact Nat.le_refl _)⟩
theorem clone_ints10 (A:Option Addr) (m c:Nat) (ps:List Int) (w:World) (hn:ps.length=m) (hr:Row w w.heap.size A (ints ps)) (hl:m≤2147483648):
  Calls Tryz.prog 26 #[.slice A m c] w (GaveIs ps w):=
 (clone_intsO A m c ps w hn hr hl).mono fun _ _ ⟨A,c,h1,h2,h3,h4⟩=>⟨A,c,h1,h2,owned_row_of h3,h4⟩
end Go.Proofs.YtmoomnpbiifedaaGreat
