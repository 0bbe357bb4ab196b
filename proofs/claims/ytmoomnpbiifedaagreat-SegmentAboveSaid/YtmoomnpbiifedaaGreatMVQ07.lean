import Derived.Test.YtmoomnpbiifedaaGreatMVQ06
import Derived.Deep.AppendLies
import Derived.Maps.AppendAt
import Derived.Test.YtmoomnpbiifedaaGreatMVQ03
import Derived.BigCall
import Derived.BigQuiet
import Derived.Deep.QuietTactic
import Derived.Test.YtmoomnpbiifedaaGreatMVQ02
import Derived.Lib.AppendZerosOnto
import Derived.Lib.AppendZeros
import Derived.Test.YtmoomnpbiifedaaGreatMVQ05
namespace Go.Proofs.YtmoomnpbiifedaaGreat
open Go Go.RowKit
set_option linter.unusedVariables false
structure Softly (base:Nat) (w w':World):Prop where
 below:Below base w w'
 keep:∀ (k:Nat) (cs:Array Value) (t:TypeId) (fr:Nat × Nat),w.heap[k]?=some (.cells cs t fr)→t≠3→w'.heap[k]?=some (.cells cs t fr)
theorem Softly.refl (base:Nat) (w:World):Softly base w w:=⟨Below.refl _ _,fun _ _ _ _ h _=>h⟩
theorem Softly.trans {base:Nat} {w w1 w2:World} (h:Softly base w w1) (k:Softly base w1 w2):Softly base w w2:=⟨h.below.trans k.below,fun i cs t fr hi ht=>k.keep i cs t fr (h.keep i cs t fr hi ht) ht⟩
theorem Softly.of {base:Nat} {w w1:World} (h:Below w.heap.size w w1) (hb:base≤w.heap.size):Softly base w w1:=⟨h.mono hb,fun k cs t fr hk _=>(h.block k (Array.getElem?_eq_some_iff.1 hk).1).trans hk⟩
theorem Softly.owned {base base':Nat} {w w1:World} {e:TypeId} {size:Nat} {v:Value} {n:Nat} {xs:List Value} (h:Softly base w w1) (ho:w.ownsRow base' e size v n xs) (he:e≠3):w1.ownsRow base' e size v n xs:=by
 refine ⟨ho.1,?_⟩
 rcases ho.2 with h1|⟨g,cap,cur,h1,h2,h3,h4⟩
 ·exact .inl h1
 ·exact .inr ⟨g,cap,cur,h1,h2,h.keep g _ _ _ h3 he,h4⟩
theorem grown_cell {w w':World} {row:Option Nat} (hg:w.grownBy w' row) {p:Addr} {v:Value} (h:w.cell? p=some v) (hne:row≠some p.block):w'.cell? p=some v:=by
 have hb:=hg.block p.block (World.block_lt_of_cell? w _ h) (fun e=>hne e.symm)
 rw [← h]
 simp [World.cell?,hb]
def ToldS (base B:Nat) (g:List Gr) (w:World) (e:Ending) (w':World):Prop:=e= .returned (.tuple #[])∧GrAt base w' B g∧Softly base w w'
set_option maxHeartbeats 2000000 in
set_option maxRecDepth 100000 in
theorem stands_tell (base B Bm:Nat) (g:List Gr) (x y:ByteArray) (a:Int) (w:World) (h:GrAt base w B g) (hc:w.cell? ⟨Bm,0,none⟩=some (.map (some B))) (hbase:base≤w.heap.size) (hlen:(getG g (x.data.toList,y.data.toList)).length≤1073741824):
    Calls Tryz.prog 153 #[.agg #[.string x,.string y],.int .i64 a,.pointer (some ⟨Bm,0,none⟩)] w (ToldS base B (addG g (x.data.toList,y.data.toList) a) w):=by
  obtain ⟨i0,hi0,hz0,hz1,hz2⟩:=info_parts info_int
  have hB:=h.lt
  obtain ⟨m,h1,h2,h3,h4,h5⟩:=h
  obtain ⟨t,ht⟩:∃ t:Tm,t=(x.data.toList,y.data.toList):=⟨_,rfl⟩
  rw [← ht] at hlen ⊢
  have hown:OwnI base w (valM m t) (getG g t):=posM_getG t h3 h4
  obtain ⟨p1,p2⟩:=posM_entM m t
  have hadd:=fun (w3:World) (v':Value)=>GrAt.added (w3:=w3) (a:=a) (v':=v') (t:=t) h1 h2 h3 h4 h5
  obtain ⟨p,hp⟩:∃ p,p=posM m t:=⟨_,rfl⟩
  obtain ⟨l,hl⟩:∃ l,l=getG g t:=⟨_,rfl⟩
  obtain ⟨v,hv⟩:∃ v,v=valM m t:=⟨_,rfl⟩
  have HADD:=Lib.hid hadd
  have HT:=Lib.hid ht
  have HM:=Lib.hid h1
  have HP:=Lib.hid hp
  have HL:=Lib.hid hl
  have HV:=Lib.hid hv
  have hapart:=owned_not_map hown h1
  rw [← hv,← hl] at hown
  rw [← hv] at hapart
  rw [← hl] at hlen
  rw [← hp] at p1
  clear hadd ht h1 h3 h4 h5 hp hl hv p2
  have hcm:=Lib.hid (fun w' (hb:Below w.heap.size w w')=>(hb.cell (p:=⟨Bm,0,none⟩) (World.block_lt_of_cell? w _ hc)).trans hc)
  go_enter Tryz.func153,Tryz.ntmps153
  have b0:Below w.heap.size w ((w.alloc (.cells #[.string x,.string y] 39)).alloc (.cells #[.int .i64 a] 3)):=((Below.refl _ w).alloc (Nat.le_refl _) _).alloc (by simp) _
  obtain ⟨W1,hW1⟩:∃ W1,W1=(w.alloc (.cells #[.string x,.string y] 39)).alloc (.cells #[.int .i64 a] 3):=⟨_,rfl⟩
  rw [← hW1] at b0
  have hM1:MapAt W1 B m:=(b0.block B hB).trans HM.out
  have hs1:W1.heap.size=w.heap.size+2:=by rw [hW1];simp
  have hn1:W1.cell? ⟨w.heap.size+1,0,none⟩=some (.int .i64 a):=by
    rw [hW1]
    simp
  have hown1:OwnI base W1 v l:=owned_below hown b0
  have hk1:∀ k,k<w.heap.size→W1.heap[k]?=w.heap[k]?:=fun k hk=>b0.block k hk
  have HCB:=hcm.out _ ((Below.refl _ w).alloc (Nat.le_refl _) (.cells #[.string x,.string y] 39))
  have hy:Value.agg #[.string x,.string y]=tV t:=by rw [HT.out];rfl
  have HW1:=Lib.hid hW1
  have HY:=Lib.hid hy
  clear hW1 hy
  go_wp2_with (first
    | (refine wpList_entry_tm _ (by rfl) _ _ (by rfl) B m t (by rfl) (by rw [← HW1.out]; exact hM1) (by rw [← HY.out]; rfl) ?_
       rw [← HW1.out,← HV.out,← HP.out]
       intro w2 hM2 hg2
       have hown2:OwnI base w2 v l:=hown1.kept hg2 (.inr hapart)
       have hs2:W1.heap.size≤w2.heap.size:=hg2.size
       have hn2:w2.cell? ⟨w.heap.size+1,0,none⟩=some (.int .i64 a):=grown_cell hg2 hn1 (by simp;omega))
    | (at_builtin; refine wpList_append_own_at _ rfl _ _ 22 rfl base 3 i0 _ 1 8 Tryz.underlying22 hi0 hz0 hz1 hz2 rfl (by omega) v l.length (ints l) (by rfl) hown2 ⟨w.heap.size + 1, 0, none⟩ 1 1 [.int .i64 a] (by rfl) rfl (by intro j u hj; match j, hj with | 0, hj => (simp at hj; subst hj; simpa [Addr.add] using hn2)) (by intro u hu; simp at hu; subst hu; rfl) (by unfold maxLen; omega) (by omega) (by omega) ?_
       intro v' w3 hown3 hg3 _ hat3
       have hM3:MapAt w3 B (entM m t):=(hg3.block B (by omega) (fun e=>hapart e.symm)).trans hM2)
    | (refine wpList_stored_tm _ (by rfl) _ _ _ (by rfl) B (entM m t) p p1 v' (by rfl) hM3 (by rfl) (by rfl) ?_
       intro w4 hM4 hg4))
  have hsz3:w2.heap.size≤w3.heap.size:=hg3.size
  have hB1:B<W1.heap.size:=by omega
  have hk4:∀ (k:Nat),k<W1.heap.size→k≠B→v.ownBlock≠some k→w4.heap[k]?=W1.heap[k]?:=fun k h6 h7 h8=>by
    rw [hg4.block k (by omega) (fun e=>h7 (by cases e;rfl)),hg3.block k (by omega) (fun e=>h8 e.symm),hg2.block k h6 (fun e=>h7 (by cases e;rfl))]
  have hbl:Below base w w4:=⟨hg4.os.trans (hg3.os.trans (hg2.os.trans b0.os)),hg4.tape.trans (hg3.tape.trans (hg2.tape.trans b0.tape)),hg4.output.trans (hg3.output.trans (hg2.output.trans b0.output)),by have :=hg4.size;omega,fun k hk=>by
    rw [hk4 k (by omega) (by omega) (fun e=>by have :=(hown.lt k e).1;omega),hk1 k (by omega)]⟩
  have hnb:v'.ownBlock≠some B:=fun e=>by
    rcases hat3 with h6|h6
    · exact hapart (h6.symm.trans e)
    · rw [h6] at e;cases e;omega
  have hown4:OwnI base w4 v' (l++[a]):=by
    have h6:=hown3.kept hg4 (.inr hnb)
    unfold OwnI
    rw [List.length_append]
    simpa [ints] using h6
  go_end0
  refine ⟨rfl,HADD.out w4 v' (fun k h6 h7 h8=>by rw [← HV.out] at h8;rw [hk4 k (by omega) h7 h8,hk1 k h6]) (fun hp=> ?_) (by rw [← HL.out];exact hown4) ?_,hbl,fun k cs ty fr hk hty=> ?_⟩
  · simp only [← HP.out]
    exact hM4
  · rw [← HV.out]
    rcases hat3 with h6|h6
    · exact .inl h6
    · refine .inr fun k h7=> ?_
      rw [h6] at h7
      cases h7
      omega
  · have hlt:=(Array.getElem?_eq_some_iff.1 hk).1
    rw [hk4 k (by omega) (fun e=> ?_) (fun e=> ?_),hk1 k hlt,hk]
    · subst e
      have :=HM.out
      unfold MapAt at this
      rw [hk] at this
      cases this
    · exact owned_apart hown hk hty e
end Go.Proofs.YtmoomnpbiifedaaGreat
namespace Go.Proofs.YtmoomnpbiifedaaGreat
open Go Go.RowKit
set_option linter.unusedVariables false
theorem drewN_below (w:World) (m:Nat):Below w.heap.size w (w.drewN m):=⟨rfl,rfl,rfl,Nat.le_refl _,fun _ _=>rfl⟩
def boxD (w:World) (id:Int) (A:Option Addr) (n c:Nat):World:=w.alloc (.cells #[.int .i64 id,.slice A n c] 53)
theorem boxD_cells {w wr:World} {id:Int} {A:Option Addr} {n c:Nat} (h:Below (boxD w id A n c).heap.size (boxD w id A n c) wr):
  wr.cell? ⟨w.heap.size,0,none⟩=some (.int .i64 id)∧wr.cell? ⟨w.heap.size,1,none⟩=some (.slice A n c):=by
 have hb:wr.heap[w.heap.size]?=some (.cells #[.int .i64 id,.slice A n c] 53 (0,0)):=(h.block w.heap.size (by simp [boxD])).trans (heap_alloc_new w _)
 exact ⟨by simp [World.cell?,hb],by simp [World.cell?,hb]⟩
theorem boxD_below (w:World) (id:Int) (A:Option Addr) (n c:Nat):Below w.heap.size w (boxD w id A n c):=(Below.refl _ w).alloc (Nat.le_refl _) _
theorem boxD_size (w:World) (id:Int) (A:Option Addr) (n c:Nat):(boxD w id A n c).heap.size=w.heap.size+1:=by simp [boxD]
theorem boxD_out {w wr:World} {id:Int} {A:Option Addr} {n c:Nat} (h:Below (boxD w id A n c).heap.size (boxD w id A n c) wr):Below w.heap.size w wr:=
 (boxD_below w id A n c).trans (h.mono (by rw [boxD_size];omega))
end Go.Proofs.YtmoomnpbiifedaaGreat
namespace Go.Proofs.YtmoomnpbiifedaaGreat
open Go Go.RowKit
set_option linter.unusedVariables false
theorem tellD_len {M:Nat}:∀ l:List Fd,(∀ f∈l,(words f.2).length≤M)→(tellD l).length≤l.length*M
 |[],_=>by simp [tellD]
 |f::l,h=>by
  have h1:=h f (List.mem_cons_self ..)
  have h2:=tellD_len l fun g hg=>h g (List.mem_cons_of_mem _ hg)
  rw [tellD,List.length_append,tellF_length,List.length_cons,Nat.succ_mul]
  omega
theorem pair_cells {w:World} {B:Nat} {u v:Value} {t:TypeId} (h:w.heap[B]?=some (.cells #[u,v] t (0,0))):w.cell? ⟨B,0,none⟩=some u∧w.cell? ⟨B,1,none⟩=some v:=⟨by simp [World.cell?,h],by simp [World.cell?,h]⟩
def TellsOf (base:Nat) (g:Nat) (Bm:Nat) (J:List (Tm × Int)→World→Prop):Prop:=
 (∀ args w,(callFunc g args).run Tryz.prog w= .ok (.enter g args) w)∧(∀ s W W',J s W→Below W.heap.size W W'→J s W')∧
 ∀ (s:List (Tm × Int)) (x y:ByteArray) (a:Int) (W:World),J s W→base≤W.heap.size→s.length≤104857600→
  Calls Tryz.prog g #[.agg #[.string x,.string y],.int .i64 a,.pointer (some ⟨Bm,0,none⟩)] W fun e W'=>e= .returned (.tuple #[])∧J (s++[((x.data.toList,y.data.toList),a)]) W'∧Softly base W W'
def EachRel (l:List Fd) (base:Nat) (J:List (Tm × Int)→World→Prop) (w1:World) (i:Value) (wr:World):Prop:=∃ k:Nat,k≤l.length∧i= .int .i64 (k:Int)∧J (tellD (l.take k)) wr∧Softly base w1 wr
def EachIn (s:List (Tm × Int)) (f:Nm) (ws:List Nm) (base:Nat) (J:List (Tm × Int)→World→Prop) (w4:World) (i:Value) (wr:World):Prop:=∃ m:Nat,m≤ws.length∧i= .int .i64 (m:Int)∧J (s++tellF f 0 (ws.take m)) wr∧Softly base w4 wr
set_option maxHeartbeats 4000000 in
set_option maxRecDepth 100000 in
theorem doc_each (base g Bm:Nat) (J:List (Tm × Int)→World→Prop) (id:Int) (A:Option Addr) (n c:Nat) (l:List Fd) (w:World) (hl:l.length=n) (hr:FRow w base A l) (hbase:base≤w.heap.size) (hn:n≤100)
  (ht:∀ f∈l,f.2.length≤268435456) (hw:∀ f∈l,(words f.2).length≤1048576) (hT:TellsOf base g Bm J) (h0:J [] w):
  Calls Tryz.prog 116 #[docV id A n c,.func (.func g) #[] #[.pointer (some ⟨Bm,0,none⟩)]] w fun e w'=>e= .returned (.tuple #[])∧J (tellD l) w'∧Softly base w w':=by
 subst hl
 obtain ⟨eg,hJ,hT⟩:=hT
 have HR:=Lib.hid hr
 have HT:=Lib.hid ht
 have HW:=Lib.hid hw
 have HJ:=Lib.hid hJ
 have HTT:=Lib.hid hT
 have HLEN:=Lib.hid (tellD_len (M:=1048576))
 obtain ⟨all,hall⟩:∃ all,all=tellD l:=⟨_,rfl⟩
 rw [← hall]
 have HALL:=Lib.hid hall
 obtain ⟨w1,hw1⟩:∃ w1,w1=boxD w id A l.length c:=⟨_,rfl⟩
 have hb1:Below w.heap.size w w1:=by rw [hw1];exact boxD_below _ _ _ _ _
 have hj1:J [] w1:=hJ _ _ _ h0 hb1
 have hc1:w1.cell? ⟨w.heap.size,1,none⟩=some (.slice A l.length c):=by rw [hw1];exact (boxD_cells (Below.refl _ _)).2
 have hs1:=hb1.size
 have HB1:=Lib.hid hb1
 have HJ1:=Lib.hid hj1
 have HW1:=Lib.hid hw1
 clear hr ht hw hJ hT hall hb1 hj1 hw1 h0
 have hsoft0:Softly base w w1:=Softly.of HB1.out hbase
 have HS0:=Lib.hid hsoft0
 clear hsoft0
 have hc1':(boxD w id A l.length c).cell? ⟨w.heap.size,1,none⟩=some (.slice A l.length c):=by rw [← HW1.out];exact hc1
 go_enter Tryz.func116,Tryz.ntmps116
 go_wp2
 rw [show w.alloc _=w1 from HW1.out.symm]
 clear hc1'
 go_loopw [11] (fun i wr=>EachRel l base J w1 i wr) (fun i _=>l.length-(intOf i).toNat)
 case atStart=>exact ⟨0,by omega,rfl,by rw [List.take_zero];exact HJ1.out,Softly.refl _ _⟩
 case round=>
  obtain ⟨k,hk,rfl,hj,hso⟩:=hrel
  by_cases hlt:k<l.length
  ·have hbw:Below base w wr:=HS0.out.below.trans hso.below
   have hszr:=hso.below.size
   obtain ⟨b1,o1,e1,hb1,hf1,hf2⟩:=(HR.out.below hbw).at_ hlt
   subst e1
   obtain ⟨x,hx,hx2⟩:=as_text l[k].1
   obtain ⟨y,hy,hy2⟩:=as_text l[k].2
   rw [← hx] at hf1
   rw [← hy] at hf2
   have i0:(0:Int)≤k:=by omega
   have i1:(k:Int)<l.length:=by omega
   have hsy:y.size≤268435456:=by rw [hy,size_nm];exact HT.out _ (List.getElem_mem hlt)
   have hwl:=HW.out _ (List.getElem_mem hlt)
   have hsu:=tellD_succ hlt
   have hlen:=HLEN.out (l.take k) fun f hf=>HW.out f (List.mem_of_mem_take hf)
   rw [List.length_take,Nat.min_eq_left (by omega)] at hlen
   have hlen2:(tellD (l.take k)).length≤99*1048576:=Nat.le_trans hlen (Nat.mul_le_mul_right _ (by omega))
   obtain ⟨s,hs⟩:∃ s,s=tellD (l.take k):=⟨_,rfl⟩
   obtain ⟨ws,hws⟩:∃ ws,ws=words l[k].2:=⟨_,rfl⟩
   rw [← hs] at hj hsu hlen2
   rw [← hws] at hsu hwl
   have C1:Hid (∀ w',Calls Tryz.prog 141 #[.string y] w' (GaveStrs ws w')):=Lib.hid fun w'=>by have :=word_Words y w' (by omega);rwa [hy2,← hws] at this
   obtain ⟨fn,hfn⟩:∃ fn,fn=l[k].1:=⟨_,rfl⟩
   rw [← hfn] at hsu hx2
   have HX2:=Lib.hid hx2
   have HSU:=Lib.hid hsu
   have HJK:=Lib.hid hj
   have HSO:=Lib.hid hso
   obtain ⟨w2,hw2⟩:∃ w2,w2=wr.alloc (.cells #[.string x,.string y] 99):=⟨_,rfl⟩
   have hf0:w2.heap[wr.heap.size]?=some (.cells #[.string x,.string y] 99 (0,0)):=by rw [hw2];exact heap_alloc_new _ _
   have hb2:Below wr.heap.size wr w2:=by rw [hw2];exact (Below.refl _ _).alloc (Nat.le_refl _) _
   have hb3:=hb2.size
   have HF0:=Lib.hid hf0
   have HB2:=Lib.hid hb2
   have HW2:=Lib.hid hw2
   clear hx hx2 hy hy2 hs hws hfn hsu hj hso hbw hlen hf0 hb2 hw2
   go_wp2_with (go_at_call 141;refine (C1.out _).mono ?_)
   rw [show wr.alloc _=w2 from HW2.out.symm]
   rintro e w4 ⟨v4,rfl,hown4,hb4⟩
   obtain ⟨A4,c4,rfl,hlc4,_⟩:=owned_row hown4
   have hs4:=hb4.size
   have hj4:J s w4:=HJ.out _ _ _ HJK.out (HB2.out.trans (hb4.mono (by omega)))
   have hf4:w4.heap[wr.heap.size]?=some (.cells #[.string x,.string y] 99 (0,0)):=(hb4.block _ (by have :=(Array.getElem?_eq_some_iff.1 HF0.out).1;omega)).trans HF0.out
   have hso4:Softly base wr w4:=Softly.of (HB2.out.trans (hb4.mono (by omega))) (by omega)
   have HJ4:=Lib.hid hj4
   have HF4:=Lib.hid hf4
   have HO4:=Lib.hid hown4
   have HSO4:=Lib.hid hso4
   clear hj4 hf4 hown4 hso4 hb4
   go_wp2
   go_loopw [19] (fun i wx=>EachIn s fn ws base J w4 i wx) (fun i _=>ws.length-(intOf i).toNat)
   case atStart=>exact ⟨0,by omega,rfl,by rw [List.take_zero];simpa [tellF] using HJ4.out,Softly.refl _ _⟩
   case round=>
    obtain ⟨m,hm,rfl,hj5,hso5⟩:=hrel
    by_cases hmt:m<ws.length
    ·obtain ⟨b2,o2,e2,hb2,hg1⟩:=row_nm (owned_row_of (hso5.owned HO4.out (by decide))) hmt
     subst e2
     obtain ⟨z,hz,hz2⟩:=as_text ws[m]
     rw [← hz] at hg1
     obtain ⟨hx5,_⟩:=pair_cells (hso5.keep _ _ _ _ HF4.out (by decide))
     have hsz5:=hso5.below.size
     have hsu2:=tellF_succ fn hmt
     rw [← hz2,← HX2.out] at hsu2
     have hl5:(s++tellF fn 0 (ws.take m)).length≤104857600:=by rw [List.length_append,tellF_length,List.length_take];omega
     have C2:Hid (Calls Tryz.prog g #[.agg #[.string x,.string z],.int .i64 (m:Int),.pointer (some ⟨Bm,0,none⟩)] wr fun e W'=>e= .returned (.tuple #[])∧J (s++tellF fn 0 (ws.take (m+1))) W'∧Softly base wr W'):=Lib.hid (by
      have :=HTT.out _ x z (m:Int) wr hj5 (by omega) hl5
      rw [List.append_assoc,← HX2.out,← hsu2] at this
      rwa [← HX2.out])
     have j0:(0:Int)≤m:=by omega
     have j1:(m:Int)<ws.length:=by omega
     have HSO5:=Lib.hid hso5
     clear hz hz2 hsu2 hj5 hso5
     go_wp2_with (go_at_fn g;refine C2.out.mono ?_;rintro e w6 ⟨rfl,hj6,hso6⟩)
     exact ⟨⟨m+1,by omega,by go_num,hj6,HSO5.out.trans hso6⟩,by simp [intOf];omega⟩
    ·have hml:m=ws.length:=by omega
     subst hml
     rw [List.take_length,← HSU.out] at hj5
     go_wp2
     exact ⟨⟨k+1,by omega,by go_num,hj5,HSO.out.trans (HSO4.out.trans hso5)⟩,by simp [intOf];omega⟩
  ·have hkl:k=l.length:=by omega
   subst hkl
   rw [List.take_length,← HALL.out] at hj
   have HSO:=Lib.hid hso
   clear hso
   go_wp2
   go_end0
   exact ⟨rfl,hj,HS0.out.trans HSO.out⟩
end Go.Proofs.YtmoomnpbiifedaaGreat
namespace Go.Proofs.YtmoomnpbiifedaaGreat
open Go Go.RowKit
set_option linter.unusedVariables false
theorem placesS_length (s:List (Tm × Int)) (t:Tm):(placesS s t).length≤s.length:=by
 unfold placesS
 rw [List.length_map]
 exact List.length_filter_le _ _
def GrVar (base B Bm:Nat) (s:List (Tm × Int)) (w:World):Prop:=GrAt base w B (groupsT s)∧w.heap[Bm]?=some (.cells #[.map (some B)] 192 (0,0))
theorem grVar_tells (base B Bm:Nat):TellsOf base 153 Bm (GrVar base B Bm):=by
 refine ⟨enters_of Tryz.func153 (by kernel_rfl) rfl,fun s W W' h hb=>⟨h.1.below hb,(hb.block _ (Array.getElem?_eq_some_iff.1 h.2).1).trans h.2⟩,fun s x y a W h hbase hs=> ?_⟩
 refine (stands_tell base B Bm (groupsT s) x y a W h.1 (by simp [World.cell?,h.2]) hbase (by rw [getG_groups];have :=placesS_length s (x.data.toList,y.data.toList);omega)).mono ?_
 rintro e w' ⟨rfl,h1,h2⟩
 exact ⟨rfl,⟨by rw [groupsT_snoc];exact h1,h2.keep _ _ _ _ h.2 (by decide)⟩,h2⟩
def GotM (l:List Fd) (w:World) (e:Ending) (w':World):Prop:=∃ B,e= .returned (.map (some B))∧GrAt w.heap.size w' B (groupsT (tellD l))∧Below w.heap.size w w'
set_option maxHeartbeats 2000000 in
set_option maxRecDepth 100000 in
theorem doc_stands (id:Int) (A:Option Addr) (n c:Nat) (l:List Fd) (w:World) (hl:l.length=n) (hr:FRow w w.heap.size A l) (hn:n≤100) (ht:∀ f∈l,f.2.length≤268435456) (hw:∀ f∈l,(words f.2).length≤1048576):
    Calls Tryz.prog 135 #[docV id A n c] w (GotM l w):=by
  have hmm:=@run_makeMap Tryz.prog
  obtain ⟨w3,hw3⟩:∃ w3,w3=((boxD w id A n c).alloc (.map #[] 0)).alloc (.cells #[.map (some (w.heap.size+1))] 192):=⟨_,rfl⟩
  have hb0:=boxD_below w id A n c
  have hsz:=boxD_size w id A n c
  have hm0:GrAt (boxD w id A n c).heap.size ((boxD w id A n c).alloc (.map #[] 0)) (boxD w id A n c).heap.size []:=GrAt.made _
  have hb3:Below w.heap.size w w3:=by rw [hw3];exact (hb0.alloc (by omega) _).alloc (by simp;omega) _
  have hj3:GrVar w.heap.size (w.heap.size+1) (w.heap.size+2) [] w3:=by
    have h1:GrAt (boxD w id A n c).heap.size w3 (boxD w id A n c).heap.size []:=hm0.below (by rw [hw3];exact (Below.refl _ _).alloc (Nat.le_refl _) _)
    obtain ⟨m,g1,g2,g3,g4,g5⟩:=h1
    rw [hsz] at g1
    refine ⟨⟨m,g1,by omega,g3,?_,g5⟩,?_⟩
    · intro i e p he hp
      cases hp
    · rw [hw3]
      have :=heap_alloc_new ((boxD w id A n c).alloc (.map #[] 0)) (.cells #[.map (some (w.heap.size+1))] 192)
      rw [World.size_alloc,hsz] at this
      exact this
  have hc3:w3.cell? ⟨w.heap.size,0,none⟩=some (.int .i64 id)∧w3.cell? ⟨w.heap.size,1,none⟩=some (.slice A n c):=boxD_cells (by rw [hw3];exact ((Below.refl _ _).alloc (Nat.le_refl _) _).alloc (by simp) _)
  have hE:=doc_each w.heap.size 153 (w.heap.size+2) (GrVar w.heap.size (w.heap.size+1) (w.heap.size+2)) id A n c l w3 hl (hr.below hb3) hb3.size hn ht hw (grVar_tells _ _ _) hj3
  have HE:=Lib.hid hE
  have HB3:=Lib.hid hb3
  have HW3:=Lib.hid hw3
  obtain ⟨hc30,hc31⟩:=hc3
  clear hE hb3 hw3 hj3 hr ht hw hm0 hb0
  go_enter Tryz.func135,Tryz.ntmps135
  go_wp2_with (go_at_call 116
               rw [show ((w.alloc _).alloc _).alloc _=w3 from HW3.out.symm]
               refine HE.out.mono ?_
               rintro e w4 ⟨rfl,hj4,hso4⟩
               have hcv:w4.cell? ⟨w.heap.size+1+1,0,none⟩=some (.map (some (w.heap.size+1))):=by have :=hj4.2;simp [World.cell?,this])
  go_ret
  exact ⟨_,rfl,hj4.1,HB3.out.trans hso4.below⟩
def NumVar (Bm:Nat) (s:List (Tm × Int)) (w:World):Prop:=w.heap[Bm]?=some (.cells #[.int .i64 (s.length:Int)] 3 (0,0))
set_option maxHeartbeats 1000000 in
theorem weight_tell (base Bm:Nat) (s:List (Tm × Int)) (x y:ByteArray) (a:Int) (w:World) (h:NumVar Bm s w) (hb:base≤Bm) (hs:s.length≤104857600):
  Calls Tryz.prog 117 #[.agg #[.string x,.string y],.int .i64 a,.pointer (some ⟨Bm,0,none⟩)] w fun e w'=>e= .returned (.tuple #[])∧NumVar Bm (s++[((x.data.toList,y.data.toList),a)]) w'∧Softly base w w':=by
 have hlt:Bm<w.heap.size:=(Array.getElem?_eq_some_iff.1 h).1
 have h1:(w.alloc (.cells #[.string x,.string y] 39)).heap[Bm]?=some (.cells #[.int .i64 (s.length:Int)] 3 (0,0)):=(Below.heap_alloc w _ _ hlt).trans h
 have c1:=cell_of_one h1
 have f1:=free_of_one h1
 obtain ⟨N,hN⟩:∃ N,N=s.length:=⟨_,rfl⟩
 rw [← hN] at h1 c1 hs
 have HN:=Lib.hid hN
 clear hN
 go_enter Tryz.func117,Tryz.ntmps117
 go_wp2
 go_end0
 have hw:w.heap[Bm]?=some (.cells #[.int .i64 (N:Int)] 3 (0,0)):=by rw [HN.out];exact h
 refine ⟨rfl,?_,?_,fun k cs t fr hk ht=> ?_⟩
 ·unfold NumVar
  rw [Below.heap_alloc _ _ _ (by simpa using hlt),List.length_append,← HN.out,List.length_singleton]
  exact one_setCell hw
 ·exact ((Below.refl base w).setCell (p:=⟨Bm,0,none⟩) hb _).alloc (by simp;omega) _
 ·have hlk:=(Array.getElem?_eq_some_iff.1 hk).1
  have hne:k≠Bm:=by
   rintro rfl
   unfold NumVar at h
   rw [hk] at h
   simp at h
   exact ht h.2.1
  rw [Below.heap_alloc _ _ _ (by simpa using hlk),Below.heap_setCell _ _ _ _ hne,hk]
theorem numVar_tells (base Bm:Nat) (hb:base≤Bm):TellsOf base 117 Bm (NumVar Bm):=
 ⟨enters_of Tryz.func117 (by kernel_rfl) rfl,fun s W W' h hb=>(hb.block _ (Array.getElem?_eq_some_iff.1 h).1).trans h,fun s x y a W h hbase hs=>weight_tell base Bm s x y a W h hb hs⟩
set_option maxHeartbeats 2000000 in
set_option maxRecDepth 100000 in
theorem doc_Weight (id:Int) (A:Option Addr) (n c:Nat) (l:List Fd) (w:World) (hl:l.length=n) (hr:FRow w w.heap.size A l) (hn:n≤100) (ht:∀ f∈l,f.2.length≤268435456) (hw:∀ f∈l,(words f.2).length≤1048576):
    Calls Tryz.prog 88 #[docV id A n c] w fun e w'=>e= .returned (.int .i64 ((tellD l).length:Int))∧Below w.heap.size w w':=by
  obtain ⟨w3,hw3⟩:∃ w3,w3=(boxD w id A n c).alloc (.cells #[.int .i64 0] 3):=⟨_,rfl⟩
  have hb0:=boxD_below w id A n c
  have hsz:=boxD_size w id A n c
  have hb3:Below w.heap.size w w3:=by rw [hw3];exact hb0.alloc (by omega) _
  have hj3:NumVar (w.heap.size+1) [] w3:=by
    rw [hw3]
    have :=heap_alloc_new (boxD w id A n c) (.cells #[.int .i64 0] 3)
    rw [hsz] at this
    exact this
  have hc3:w3.cell? ⟨w.heap.size,0,none⟩=some (.int .i64 id)∧w3.cell? ⟨w.heap.size,1,none⟩=some (.slice A n c):=boxD_cells (by rw [hw3];exact (Below.refl _ _).alloc (Nat.le_refl _) _)
  have hE:=doc_each w.heap.size 117 (w.heap.size+1) (NumVar (w.heap.size+1)) id A n c l w3 hl (hr.below hb3) hb3.size hn ht hw (numVar_tells _ _ (by omega)) hj3
  have HE:=Lib.hid hE
  have HB3:=Lib.hid hb3
  have HW3:=Lib.hid hw3
  obtain ⟨hc30,hc31⟩:=hc3
  clear hE hb3 hw3 hj3 hr ht hw hb0
  go_enter Tryz.func88,Tryz.ntmps88
  go_wp2_with (go_at_call 116
               rw [show (w.alloc _).alloc _=w3 from HW3.out.symm]
               refine HE.out.mono ?_
               rintro e w4 ⟨rfl,hj4,hso4⟩
               have hcv:w4.cell? ⟨w.heap.size+1,0,none⟩=some (.int .i64 ((tellD l).length:Int)):=by unfold NumVar at hj4;simp [World.cell?,hj4])
  go_ret
  exact ⟨rfl,HB3.out.trans hso4.below⟩
end Go.Proofs.YtmoomnpbiifedaaGreat
set_option linter.unusedVariables false
namespace Go.Proofs.YtmoomnpbiifedaaGreat
open Go Go.RowKit
theorem info_ints:(Tryz.prog.info? 22).map (fun i=>(i.zero,i.size,i.bytes))=some (some (.slice none 0 0),1,24):=by kernel_rfl
def OwnII (base base':Nat) (w:World) (v:Value) (ll:List (List Int)):Prop:=∃ cs:List Value,w.ownsRow base 22 1 v ll.length cs∧cs.length=ll.length∧∀ (i:Nat) (c:Value) (l:List Int),cs[i]?=some c→ll[i]?=some l→OwnI base' w c l
theorem OwnII.below {base base':Nat} {w w':World} {v:Value} {ll:List (List Int)} (h:OwnII base base' w v ll) (hb:Below w.heap.size w w'):OwnII base base' w' v ll:=by
 obtain ⟨cs,h1,h2,h3⟩:=h
 exact ⟨cs,owned_below h1 hb,h2,fun i c l hc hl=>owned_below (h3 i c l hc hl) hb⟩
theorem OwnII.low {base base' b:Nat} {w:World} {v:Value} {ll:List (List Int)} (h:OwnII base base' w v ll) (hb:b≤base) (hb':b≤base'):OwnII b b w v ll:=by
 obtain ⟨cs,h1,h2,h3⟩:=h
 exact ⟨cs,owned_low h1 hb,h2,fun i c l hc hl=>owned_low (h3 i c l hc hl) hb'⟩
theorem OwnII.push {base base':Nat} {w w':World} {v v' u:Value} {ll:List (List Int)} {l:List Int} {cs:List Value} (h1:w.ownsRow base 22 1 v ll.length cs) (h2:cs.length=ll.length) (h3:∀ (i:Nat) (c:Value) (l:List Int),cs[i]?=some c→ll[i]?=some l→OwnI base' w c l) (hu:OwnI base' w u l)
  (hown:w'.ownsRow base 22 1 v' (ll.length+1) (cs++[u])) (hg:w.grownBy w' v.ownBlock):OwnII base base' w' v' (ll++[l]):=by
 have hk:∀ (c:Value) (l:List Int),OwnI base' w c l→OwnI base' w' c l:=fun c l ho=>ho.kept hg (owned_other ho h1 (by decide))
 refine ⟨cs++[u],by rw [List.length_append,List.length_singleton];exact hown,by simp [h2],fun i c l' hc hl=> ?_⟩
 by_cases hi:i<cs.length
 ·rw [List.getElem?_append_left hi] at hc
  rw [List.getElem?_append_left (by omega)] at hl
  exact hk _ _ (h3 i c l' hc hl)
 ·rw [List.getElem?_append_right (by omega)] at hc hl
  have hz:i-cs.length=0:=by
   by_cases hz:i-cs.length=0
   ·exact hz
   ·rw [List.getElem?_eq_none (by simp;omega)] at hc;cases hc
  rw [hz] at hc
  rw [show i-ll.length=0 by omega] at hl
  cases hc
  cases hl
  exact hk _ _ hu
def IRows (w:World) (B:Nat) (A:Option Addr) (ll:List (List Int)):Prop:=∃ cs:List Value,cs.length=ll.length∧Row w B A cs∧∀ (i:Nat) (c:Value) (l:List Int),cs[i]?=some c→ll[i]?=some l→∃ A' c',c= .slice A' l.length c'∧l.length≤c'∧Row w B A' (ints l)
theorem OwnII.rows {base base':Nat} {w:World} {v:Value} {ll:List (List Int)} (h:OwnII base base' w v ll):∃ A c,v= .slice A ll.length c∧ll.length≤c∧IRows w w.heap.size A ll:=by
 obtain ⟨cs,h1,h2,h3⟩:=h
 obtain ⟨A,c,rfl,hc,hr⟩:=owned_row h1
 exact ⟨A,c,rfl,hc,cs,h2,hr,fun i c l hc hl=>owned_row (h3 i c l hc hl)⟩
def GotInv (ts:List Tm) (ll:List (List Int)) (w:World) (e:Ending) (w':World):Prop:=∃ v1 v2,e= .returned (.tuple #[v1,v2])∧OwnTm w.heap.size w' v1 ts∧OwnII w.heap.size w.heap.size w' v2 ll∧Below w.heap.size w w'
def InvRel (g:List Gr) (ts:List Tm) (base base':Nat) (w6:World) (o i:Value) (wr:World):Prop:=∃ (k:Nat) (vo:Value),vo=o∧k≤ts.length∧i= .int .i64 (k:Int)∧OwnII base base' wr o ((ts.take k).map (getG g))∧Below w6.heap.size w6 wr
theorem GrAt.keys {base:Nat} {w:World} {B:Nat} {g:List Gr} (h:GrAt base w B g):∃ m,MapAt w B m∧m.map (·.1)=g.map (·.1)∧m.length=g.length:=by
 obtain ⟨m,h1,_,h3,h4,_⟩:=h
 refine ⟨m,h1,List.ext_getElem (by simp [h3]) fun i hi hj=> ?_,h3⟩
 have hi':i<m.length:=by simpa using hi
 have hj':i<g.length:=by simpa using hj
 simpa using (h4 i _ _ (List.getElem?_eq_getElem hi') (List.getElem?_eq_getElem hj')).1
theorem addG_length (t:Tm) (a:Int):∀ g:List Gr,(addG g t a).length≤g.length+1
 |[]=>Nat.le_refl _
 |p::g=>by
  have :=addG_length t a g
  rw [addG]
  split
  ·simp
  ·simp only [List.length_cons];omega
theorem groupsF_length:∀ (s:List (Tm × Int)) (g:List Gr),(s.foldl (fun g p=>addG g p.1 p.2) g).length≤g.length+s.length
 |[],g=>Nat.le_refl _
 |p::s,g=>by
  have h1:=groupsF_length s (addG g p.1 p.2)
  have h2:=addG_length p.1 p.2 g
  rw [List.foldl_cons,List.length_cons]
  omega
theorem groupsT_length (s:List (Tm × Int)):(groupsT s).length≤s.length:=by have :=groupsF_length s [];simpa [groupsT] using this
theorem groupsT_short {l:List Fd} (ht:∀ f∈l,f.1.length≤536870912∧f.2.length≤134217728):∀ t∈(groupsT (tellD l)).map (·.1),t.1.length≤536870912∧t.2.length≤536870912:=fun t h=>by
 obtain ⟨f,hf,h1,h2⟩:=(tellD_mem t l).1 ((groups_mem _ _).1 h)
 obtain ⟨g1,g2⟩:=ht f hf
 have :=words_size h2
 exact ⟨by rw [h1];exact g1,by omega⟩
set_option maxHeartbeats 4000000 in
set_option maxRecDepth 100000 in
theorem doc_Invert (id:Int) (A:Option Addr) (n c:Nat) (l:List Fd) (w:World) (hl:l.length=n) (hr:FRow w w.heap.size A l) (hn:n≤100) (ht:∀ f∈l,f.1.length≤536870912∧f.2.length≤134217728) (hw:∀ f∈l,(words f.2).length≤1048576) (hap:ApartF l) (h0:NoZero l):
    Calls Tryz.prog 114 #[docV id A n c] w (GotInv (termsD l) ((termsD l).map (placesD l)) w):=by
  obtain ⟨i0,hi0,hz0,hz1,hz2⟩:=info_parts info_ints
  have HS:=Lib.hid (fun w' (h:Below w.heap.size w w')=>doc_stands id A n c l w' hl (hr.later h) hn (fun f hf=>by have :=(ht f hf).2;omega) hw)
  have hlen:=tellD_len (M:=1048576) l hw
  have hlen2:(tellD l).length≤104857600:=Nat.le_trans hlen (Nat.le_trans (Nat.mul_le_mul_right _ (by omega:l.length≤100)) (by omega))
  have hgl:(groupsT (tellD l)).length≤134217727:=by have :=groupsT_length (tellD l);omega
  have HSH:=Lib.hid (groupsT_short ht)
  have HTS:=Lib.hid (fun (ts:List Tm)=>terms_sorted (ts:=ts) hap h0)
  have HPL:Hid (∀ t,getG (groupsT (tellD l)) t=placesD l t):=Lib.hid fun t=>by rw [getG_groups,placesS_D hap]
  obtain ⟨g,hg⟩:∃ g,g=groupsT (tellD l):=⟨_,rfl⟩
  have HS':Hid (∀ w',Below w.heap.size w w'→Calls Tryz.prog 135 #[docV id A n c] w' fun e w''=>∃ B,e= .returned (.map (some B))∧GrAt w'.heap.size w'' B g∧Below w'.heap.size w' w''):=Lib.hid fun w' h=>by rw [hg];exact HS.out w' h
  rw [← hg] at hgl HSH HTS HPL
  obtain ⟨w1,hw1⟩:∃ w1,w1=boxD w id A n c:=⟨_,rfl⟩
  have hb1:Below w.heap.size w w1:=by rw [hw1];exact boxD_below _ _ _ _ _
  have hcc:=boxD_cells (w:=w) (id:=id) (A:=A) (n:=n) (c:=c) (Below.refl _ _)
  rw [← hw1] at hcc
  obtain ⟨hc0,hc1⟩:=hcc
  have HB1:=Lib.hid hb1
  have HW1:=Lib.hid hw1
  obtain ⟨td,htd⟩:∃ td,td=termsD l:=⟨_,rfl⟩
  obtain ⟨pd,hpd⟩:∃ pd,pd=placesD l:=⟨_,rfl⟩
  rw [← htd] at HTS ⊢
  rw [← hpd] at HPL ⊢
  clear HS hr ht hw hap h0 hlen hlen2 hg hb1 hw1 htd hpd
  go_enter Tryz.func114,Tryz.ntmps114
  go_wp2_with (first
    | (go_at_call 135; rw [show w.alloc _ = w1 from HW1.out.symm]
       (with_reducible refine (HS'.out w1 HB1.out).mono ?_)
       rintro e w4 ⟨B,rfl,hg4,hb4⟩
       obtain ⟨m,hm,hmk,hml⟩:=hg4.keys
       obtain ⟨w5,hw5⟩:∃ w5,w5=w4.alloc (.cells #[.map (some B)] 192):=⟨_,rfl⟩
       have hb5:Below w4.heap.size w4 w5:=by rw [hw5];exact (Below.refl _ _).alloc (Nat.le_refl _) _
       have hc5:w5.cell? ⟨w4.heap.size,0,none⟩=some (.map (some B)):=by have :=heap_alloc_new w4 (.cells #[.map (some B)] 192);rw [← hw5] at this;exact cell_of_one this
       have HSO:=Lib.hid (keys_sorted w4.heap.size B m w5 ((hb5.block B (Array.getElem?_eq_some_iff.1 hm).1).trans hm) hc5 (by omega) (by rw [hmk];exact HSH.out))
       have HG4:=Lib.hid hg4
       have HB4:=Lib.hid hb4
       have HB5:=Lib.hid hb5
       have HW5:=Lib.hid hw5
       rw [hmk] at HSO
       clear hg4 hb4 hm hmk hml hw5 hb5 hc5)
    |(go_at_call 137;(with_reducible refine (maps_Keys B w4).mono ?_);rintro e w5' ⟨rfl,rfl⟩;rw [← HW5.out])
    | (go_at_call 136; (with_reducible refine HSO.out.mono ?_); rintro e w6 ⟨v6, ts, rfl, hp6, hs6, ho6, hb6⟩
       obtain ⟨A6,c6,rfl,hc6,hr6⟩:=ho6.row
       have hts:=HTS.out ts hp6 hs6
       have htl:ts.length≤134217727:=by rw [hp6.length_eq,List.length_map];exact hgl
       obtain ⟨w7,hrun,hown7,hgrow7⟩:=run_make_own (P:=Tryz.prog) w6 w6.heap.size 178 22 i0 _ 1 Tryz.underlying178 hi0 hz0 hz1 .i64 .i64 ts.length (by rw [hz2];omega) (by unfold maxLen;omega) (Nat.le_refl _)
       have HTD:=Lib.hid hts
       have HO6:=Lib.hid ho6
       have HB6:=Lib.hid hb6
       have HR6:=Lib.hid hr6
       clear hts hp6 hs6 ho6 hb6 hr6))
  have hb7:Below w6.heap.size w6 w7:=(Below.refl _ _).grown hgrow7 (Nat.le_refl _) (fun k hk=>by cases hk)
  have hs7:=hb7.size
  have HB7:=Lib.hid hb7
  have HO7:Hid (OwnII w6.heap.size w1.heap.size w7 (.slice (some ⟨w6.heap.size,0,none⟩) 0 ts.length) []):=Lib.hid ⟨[],hown7,rfl,fun i c l hc=>by cases hc⟩
  have h46:Below w4.heap.size w4 w6:=HB5.out.trans (HB6.out.mono HB5.out.size)
  have h06:Below w.heap.size w w6:=HB1.out.trans ((HB4.out.trans (h46.mono HB4.out.size)).mono HB1.out.size)
  have hs46:=h46.size
  have hs06:=h06.size
  have H46:=Lib.hid h46
  have H06:=Lib.hid h06
  clear hrun hown7 hgrow7 hb7 h46 h06
  go_loopw [6,19] (fun o i wr=>InvRel g ts w6.heap.size w1.heap.size w6 o i wr) (fun _ i _=>ts.length-(intOf i).toNat)
  case atStart=>exact ⟨0,_,rfl,by omega,rfl,HO7.out,HB7.out⟩
  case round=>
    obtain ⟨k,vo,rfl,hk,rfl,hoo,hbw⟩:=hrel
    have h6r:Below w6.heap.size w6 wr:=hbw
    have hs6r:=h6r.size
    by_cases hlt:k<ts.length
    · obtain ⟨b1,o1,e1,hb1,hf1,hf2⟩:=(HR6.out.below h6r).at_ hlt
      subst e1
      obtain ⟨x,hx,hx2⟩:=as_text ts[k].1
      obtain ⟨y,hy,hy2⟩:=as_text ts[k].2
      rw [← hx] at hf1
      rw [← hy] at hf2
      have htk:(x.data.toList,y.data.toList)=ts[k]:=Prod.ext hx2 hy2
      have hsu:(ts.take (k+1)).map (getG g)=(ts.take k).map (getG g)++[getG g (x.data.toList,y.data.toList)]:=by rw [htk,List.take_succ_eq_append_getElem hlt,List.map_append];rfl
      obtain ⟨w8,hw8⟩:∃ w8,w8=wr.alloc (.cells #[.string x,.string y] 39):=⟨_,rfl⟩
      have hb8:Below wr.heap.size wr w8:=by rw [hw8];exact (Below.refl _ _).alloc (Nat.le_refl _) _
      have hs8:=hb8.size
      have hgr:GrAt w1.heap.size w8 B g:=HG4.out.below (H46.out.trans ((h6r.trans (hb8.mono hs6r)).mono hs46))
      obtain ⟨u,⟨m',hm',hv'⟩,hown'⟩:=hgr.look (x.data.toList,y.data.toList)
      obtain ⟨cs,hcs1,hcs2,hcs3⟩:=hoo.below hb8
      have hul:((ts.take k).map (getG g)).length=k:=by rw [List.length_map,List.length_take];omega
      obtain ⟨lg,hlg⟩:∃ lg,lg=getG g (x.data.toList,y.data.toList):=⟨_,rfl⟩
      rw [← hlg] at hsu hown'
      obtain ⟨A9,c9,hu,_,_⟩:=owned_row hown'
      have hpush:∀ (v':Value) (w9 w10:World),Below w8.heap.size w8 w9→w10.ownsRow w6.heap.size 22 1 v' (k+1) (cs++[u])→w9.grownBy w10 vo.ownBlock→OwnII w6.heap.size w1.heap.size w10 v' ((ts.take (k+1)).map (getG g)):=fun v' w9 w10 h1 h2 h3=>by
        rw [hsu]
        exact OwnII.push (owned_below hcs1 h1) hcs2 (fun i c l hc hl=>owned_below (hcs3 i c l hc hl) h1) (owned_below hown' h1) (by rw [hul];exact h2) h3
      have hcl:cs.length=k:=by rw [hcs2,hul]
      rw [hul] at hcs1
      have hkl:k≤134217727:=by omega
      have i0':(0:Int)≤k:=by omega
      have i1:(k:Int)<ts.length:=by omega
      have HPU:=Lib.hid hpush
      have HCS:=Lib.hid hcs1
      have HM':=Lib.hid hm'
      have HV':=Lib.hid hv'
      have HU:=Lib.hid hu
      have HW8:=Lib.hid hw8
      have HB8:=Lib.hid hb8
      have HBW:=Lib.hid hbw
      clear hx hx2 hy hy2 htk hsu hw8 hb8 hgr hm' hv' hown' hoo hcs1 hcs2 hcs3 hul hlg hu hpush hbw h6r
      go_wp2_with (first
        | (refine wpList_lookup_tm _ (by rfl) _ _ (by rfl) B m' (x.data.toList, y.data.toList) (by rfl) (by rw [← HW8.out]; exact HM'.out) (by rfl) ?_
           rw [HV'.out,HU.out])
        | (at_builtin; refine wpList_append_own _ rfl (.tmp 23) (.tmp 27) 178 rfl w6.heap.size 22 i0 _ 1 24 Tryz.underlying178 hi0 hz0 hz1 hz2 rfl (by omega) _ k cs rfl (by rw [← HW8.out]; exact HCS.out.alloc _) ⟨wr.heap.size + 1, 0, none⟩ 1 1 [.slice A9 lg.length c9] rfl rfl (by have := news_at (wr.alloc (.cells #[.string x, .string y] 39)) [.slice A9 lg.length c9] 22; rwa [World.size_alloc] at this) (by intro u hu; simp at hu; subst hu; rfl) (by unfold maxLen; omega) (by omega) (by simp; omega) ?_
           intro v' w10 hown10 hg10 hz10
           clear hz10))
      refine ⟨⟨k+1,v',rfl,by omega,by go_num,HPU.out v' (w8.alloc (.cells #[.slice A9 lg.length c9] 22)) w10 ((Below.refl _ _).alloc (Nat.le_refl _) _) (by rw [HU.out];exact hown10) (by rw [HW8.out];exact hg10),?_⟩,by simp [intOf];omega⟩
      have h8:Below w6.heap.size w6 w8:=HBW.out.trans (HB8.out.mono hs6r)
      have h9:Below w6.heap.size w6 (w8.alloc (.cells #[.slice A9 lg.length c9] 22)):=h8.alloc (by omega) _
      exact h9.grown (by rw [HW8.out];exact hg10) h9.size (fun j hj=>(HCS.out.lt j hj).1)
    · have hkl:k=ts.length:=by omega
      subst hkl
      rw [List.take_length] at hoo
      have hmap:ts.map (getG g)=td.map pd:=by rw [HTD.out];exact List.map_congr_left fun t _=>HPL.out t
      rw [hmap] at hoo
      have hs5:=HB5.out.size
      have hs1:=HB1.out.size
      have hs4:=HB4.out.size
      have HOO:=Lib.hid (hoo.low (b:=w.heap.size) (by omega) (by omega))
      have HOT:Hid (OwnTm w.heap.size wr (.slice A6 ts.length c6) td):=Lib.hid (by
        have :=(HO6.out.below h6r).low (b:=w.heap.size) (by omega)
        rw [← HTD.out]
        exact this)
      have HBR:Hid (Below w.heap.size w wr):=Lib.hid (H06.out.trans (hbw.mono hs06))
      clear hoo hmap hbw h6r
      go_wp2
      go_ret2
      exact ⟨_,_,rfl,HOT.out,HOO.out,HBR.out⟩
end Go.Proofs.YtmoomnpbiifedaaGreat
set_option linter.unusedVariables false
namespace Go.Proofs.YtmoomnpbiifedaaGreat
open Go Go.RowKit
def Since (a:Nat) (w:World) (k:Nat):Prop:=a≤k∧k<w.heap.size
theorem owned_toI {S:Nat→Prop} {w:World} {base:Nat} {A:Option Addr} {n c:Nat} {ps:List Int} (h:w.ownsRow base 3 1 (.slice A n c) n (ints ps)) (hS:∀ k,base≤k→k<w.heap.size→S k):RowP (Of S 3 w) w A (ints ps):=by
 rcases h.2 with ⟨hv,hn⟩|⟨g,cap,cur,hv,hg,hh,hnc,hcp,hcs,htake⟩
 ·refine .inl (List.eq_nil_of_length_eq_zero ?_)
  rw [h.1,hn]
 ·injection hv with h1 h2 h3
  subst h1
  rcases owned_row_of h with h0|⟨b,off,e,hb,hc⟩
  ·exact .inl h0
  ·injection e with e
   injection e with e1 e2
   subst e1 e2
   exact .inr ⟨g,0,rfl,⟨hS g hg hb,_,_,hh,rfl⟩,hc⟩
structure TurnAt (S:Nat→Prop) (M c i:Nat) (d:List Fd) (g:List GP) (ts:List Tm) (V1 V2:Value) (w:World) (j:Nat) (wr:World):Prop where
 map:PmAt (fun k=>S k∨Since w.heap.size wr k) wr M c (turnP i d g (ts.take j))
 only:OnlyIn (MapB S w M) w wr
 terms:OwnTm w.heap.size wr V1 ts
 stands:OwnII w.heap.size w.heap.size wr V2 (ts.map (placesD d))
section
variable {S:Nat→Prop} {M c i:Nat} {d:List Fd} {g:List GP} {ts:List Tm} {V1 V2:Value} {w:World} {j:Nat} {wr w':World}
theorem TurnAt.below (h:TurnAt S M c i d g ts V1 V2 w j wr) (hb:Below wr.heap.size wr w'):TurnAt S M c i d g ts V1 V2 w j w':=
 ⟨(h.map.keep fun k _ hk=>hb.block k hk).imp fun k hk=>hk.imp id fun hk=>⟨hk.1,Nat.lt_of_lt_of_le hk.2 hb.size⟩,h.only.trans (OnlyIn.of_below hb),h.terms.below hb,h.stands.below hb⟩
theorem TurnAt.places (h:TurnAt S M c i d g ts V1 V2 w j wr) (hj:j<ts.length):∃ b off A' c',(∃ c2,V2= .slice (some ⟨b,off,none⟩) ts.length c2)∧(∃ cs fr,wr.heap[b]?=some (.cells cs 22 fr))∧wr.cell? ⟨b,off+j,none⟩=some (.slice A' (placesD d ts[j]).length c')∧(placesD d ts[j]).length≤c'∧c'≤maxLen∧
  RowP (Of (fun k=>S k∨Since w.heap.size wr k) 3 wr) wr A' (ints (placesD d ts[j])):=by
 obtain ⟨cs,h1,h2,h3⟩:=h.stands
 rw [List.length_map] at h1 h2
 obtain ⟨A,c2,rfl,hc,hr⟩:=owned_row h1
 obtain ⟨b,off,rfl,hb,hcell⟩:=Row.at_ hr (by omega)
 have ho:=h3 j cs[j] (placesD d ts[j]) (List.getElem?_eq_getElem (by omega)) (by rw [List.getElem?_map,List.getElem?_eq_getElem hj];rfl)
 obtain ⟨A',c',e,hr'⟩:=owned_roomed ho
 have :=hcell j cs[j] (List.getElem?_eq_getElem (by omega))
 rw [e] at this
 unfold OwnI at ho
 rw [e] at ho
 exact ⟨b,off,A',c',⟨c2,rfl⟩,owned_type9 h1 rfl,this,hr'.1.1,hr'.1.2,owned_toI ho fun k h1 h2=> .inr ⟨h1,h2⟩⟩
theorem TurnAt.put (h:TurnAt S M c i d g ts V1 V2 w j wr) (hj:j<ts.length) (hM:M<w.heap.size):
  ∃ (v:Value) (n:Nat) (cs:List Value) (m:List EntK),MapK wr M c m∧v=valK m (keyT ts[j])∧n=(getP (turnP i d g (ts.take j)) (keyT ts[j])).length∧wr.ownsRow 0 63 2 v n cs∧
   ∀ (A':Option Addr) (c':Nat),RowP (Of (fun k=>S k∨Since w.heap.size wr k) 3 wr) wr A' (ints (placesD d ts[j]))→(placesD d ts[j]).length≤c'→c'≤maxLen→
   ∀ (gg cap:Nat) (w5:World),w5.ownsRow 0 63 2 (.slice (some ⟨gg,0,none⟩) (n+1) cap) (n+1) (cs++[.int .i64 i,.slice A' (placesD d ts[j]).length c'])→
    (wr.drew.alloc (.cells #[.int .i64 i,.slice A' (placesD d ts[j]).length c'] 63)).grownBy w5 v.ownBlock→(v.ownBlock=some gg∨gg=wr.heap.size+1)→gg<w5.heap.size→
    MapK w5 M c m∧(∀ k,k<wr.heap.size→v.ownBlock≠some k→w5.heap[k]?=wr.heap[k]?)∧v.ownBlock≠some M∧
    ∀ w6,MapK w6 M c ((entK m (keyT ts[j])).set (posK m (keyT ts[j])) (keyT ts[j],.slice (some ⟨gg,0,none⟩) (n+1) cap))→w5.grownBy w6 (some M)→TurnAt S M c i d g ts V1 V2 w (j+1) w6:=by
 have hsz:=h.only.size
 obtain ⟨m,h1,h2,h3,h4,h5⟩:=h.map
 have hrow:=posK_getP (keyT ts[j]) h3 h4
 obtain ⟨v,hv⟩:∃ v,v=valK m (keyT ts[j]):=⟨_,rfl⟩
 rw [← hv] at hrow
 have hnm:=hrow.not_map h1
 obtain ⟨cs,q1,q2,q3⟩:=id hrow
 refine ⟨v,_,cs,m,h1,hv,rfl,q1,fun A' c' hpl hc' hcx gg cap w5 hown5 hg5 hat hlt5=> ?_⟩
 have hal:Below wr.heap.size wr (wr.drew.alloc (.cells #[.int .i64 i,.slice A' (placesD d ts[j]).length c'] 63)):=(Below.refl _ _).drew.alloc (Nat.le_refl _) _
 have hs4:=hal.size
 have hs5:=hg5.size
 have hk5:∀ k,k<wr.heap.size→v.ownBlock≠some k→w5.heap[k]?=wr.heap[k]?:=fun k hk hne=>(hg5.block k (Nat.lt_of_lt_of_le hk hs4) (fun e=>hne e.symm)).trans (hal.block k hk)
 have hM5:MapK w5 M c m:=(hk5 M (by omega) hnm).trans h1
 refine ⟨hM5,hk5,hnm,fun w6 hM6 hg6=> ?_⟩
 have hs6:=hg6.size
 have hgM:gg≠M:=fun e=>by
  obtain ⟨cs',fr,hh⟩:=owned_type9 hown5 rfl
  rw [e] at hh
  unfold MapK at hM5
  rw [hM5] at hh
  cases hh
 have hk6:∀ k,k<wr.heap.size→k≠M→v.ownBlock≠some k→w6.heap[k]?=wr.heap[k]?:=fun k hk hne hne2=>(hg6.block k (by omega) (fun e=>hne (by cases e;rfl))).trans (hk5 k hk hne2)
 have hop:OwnPP (fun k=>S k∨Since w.heap.size w6 k) w6 (.slice (some ⟨gg,0,none⟩) ((getP (turnP i d g (ts.take j)) (keyT ts[j])).length+1) cap) (getP (turnP i d g (ts.take j)) (keyT ts[j])++[((i:Int),placesD d ts[j])]):=by
  have hup:∀ {A:Option Addr} {xs:List Value},RowP (Of (fun k=>S k∨Since w.heap.size wr k) 3 wr) wr A xs→RowP (Of (fun k=>S k∨Since w.heap.size w6 k) 3 (wr.drew.alloc (.cells #[.int .i64 i,.slice A' (placesD d ts[j]).length c'] 63))) (wr.drew.alloc (.cells #[.int .i64 i,.slice A' (placesD d ts[j]).length c'] 63)) A xs:=fun h=>(h.keepO fun k hk=>hal.block k hk.lt).imp fun k hk=>hk.imp fun hk=>hk.imp id fun hk=>⟨hk.1,by have :=hk.2;omega⟩
  have hpush:=OwnPP.push (S:=fun k=>S k∨Since w.heap.size w6 k) (owned_below q1 hal) (q3.imp fun _ _ h=>hup h) (d:=(i:Int)) hc' hcx (hup hpl) hown5 hg5 fun k hk=>by
   rcases hat with e|e
   ·have :=q2 gg e
    simp only [Value.ownBlock,Option.some.injEq] at hk
    subst hk
    exact this.imp id fun hk=>⟨hk.1,by omega⟩
   ·simp only [Value.ownBlock,Option.some.injEq] at hk
    subst hk
    exact .inr ⟨by omega,by omega⟩
  refine OwnPP.keep hpush (fun k hk=> ?_) fun k hk=> ?_
  ·simp only [Value.ownBlock,Option.some.injEq] at hk
   subst hk
   exact hg6.block _ hlt5 fun e=>hgM (by cases e;rfl)
  ·refine hg6.block _ hk.lt fun e=> ?_
   cases e
   obtain ⟨_,cs',fr,hh,_⟩:=hk
   unfold MapK at hM5
   rw [hM5] at hh
   cases hh
 refine ⟨?_,⟨?_,?_,?_,by omega,fun k hk hne=> ?_⟩,?_,?_⟩
 ·rw [turnP_take hj]
  refine PmAt.added h1 h2 h3 h4 h5 (fun k hk=>hk.imp id fun hk=>⟨hk.1,by have :=hk.2;omega⟩) (fun k a b e=>hk6 k a b (by rw [hv];exact e)) hM6 hop ?_
  rw [← hv]
  rcases hat with e|e
  ·exact .inl e.symm
  ·refine .inr fun k hk=> ?_
   simp only [Value.ownBlock,Option.some.injEq] at hk
   omega
 ·exact hg6.os.trans (hg5.os.trans (hal.os.trans h.only.os))
 ·exact hg6.tape.trans (hg5.tape.trans (hal.tape.trans h.only.tape))
 ·exact hg6.output.trans (hg5.output.trans (hal.output.trans h.only.output))
 ·rw [hk6 k (by omega) (fun e=>hne (.inl e)) (fun e=>hne (.inr ?_)),h.only.block k hk hne]
  obtain ⟨cs',hh⟩:=owned_type0 q1 e
  rw [h.only.block k hk hne] at hh
  refine ⟨?_,cs',_,hh,rfl⟩
  rcases q2 k e with hs|hs
  ·exact hs
  ·exact absurd hs.1 (by omega)
 ·refine owned_keep h.terms fun k hk=> ?_
  have hl:=h.terms.lt k hk
  exact hk6 k hl.2 (by omega) (owned_apart2 q1 h.terms (by decide) hk)
 ·obtain ⟨cs2,r1,r2,r3⟩:=h.stands
  refine ⟨cs2,owned_keep r1 fun k hk=> ?_,r2,fun x u l hx hl=>owned_keep (r3 x u l hx hl) fun k hk=> ?_⟩
  ·have hl:=r1.lt k hk
   exact hk6 k hl.2 (by omega) (owned_apart2 q1 r1 (by decide) hk)
  ·have hl2:=(r3 x u l hx hl).lt k hk
   exact hk6 k hl2.2 (by omega) (owned_apart2 q1 (r3 x u l hx hl) (by decide) hk)
end
end Go.Proofs.YtmoomnpbiifedaaGreat
namespace Go.Proofs.YtmoomnpbiifedaaGreat
open Go Go.RowKit
set_option linter.unusedVariables false
def NameRel (s:Nm) (w:World) (i:Value) (wr:World):Prop:=∃ k:Nat,k≤s.length∧i= .int .i64 (k:Int)∧Below w.heap.size w wr∧∀ j (hj:j<s.length),j<k→smallB s[j]=true
set_option maxHeartbeats 1000000 in
set_option maxRecDepth 100000 in
theorem ref08_Name (s:ByteArray) (w:World) (hs:s.size≤9223372036854775807):
  Calls Tryz.prog 83 #[.string s] w fun e w'=>e= .returned (.bool (nameB s.data.toList))∧Below w.heap.size w w':=by
 have hsz:s.data.toList.length=s.size:=Array.length_toList
 obtain ⟨z,hz⟩:∃ z,z=nameB s.data.toList:=⟨_,rfl⟩
 rw [← hz]
 have HZ:=Lib.hid hz
 clear hz
 go_enter Tryz.func83,Tryz.ntmps83
 go_wp2
 go_loopw [2,3] (fun r i wr=>r= .bool false∧NameRel s.data.toList w i wr) (fun _ i _=>s.size-(intOf i).toNat)
 case atStart=>exact ⟨rfl,0,by omega,rfl,Below.refl _ _,fun j _ hj=>by omega⟩
 case round=>
  obtain ⟨rfl,k,hk,rfl,hbw,hall⟩:=hrel
  rw [hsz] at hk
  by_cases hlt:k<s.size
  ·have hkl:k<s.data.toList.length:=by omega
   have i0:(0:Int)≤k:=by omega
   have i1:(k:Int)<s.size:=by omega
   have hb:s[k]=s.data.toList[k]:=rfl
   cases hsm:smallB s.data.toList[k] with
   |true=>
    have h2:=hsm
    rw [smallB,← hb,Bool.and_eq_true,decide_eq_true_iff,decide_eq_true_iff] at h2
    have j1:(97:Int)≤s[k].toNat:=by omega
    have j2:(s[k].toNat:Int)≤122:=by omega
    have HN:Hid (∀ j (hj:j<s.data.toList.length),j<k+1→smallB s.data.toList[j]=true):=Lib.hid fun j hj hjk=>by
     by_cases e:j=k
     ·subst e;exact hsm
     ·exact hall j hj (by omega)
    have HSZ:=Lib.hid hsz
    clear hall hsm h2 hb hsz
    go_wp2
    go_roundw
    case rel=>exact ⟨rfl,k+1,by have :=HSZ.out;omega,by go_num,hbw,HN.out⟩
    case measure=>simp [intOf];omega
   |false=>
    have h2:=hsm
    rw [smallB,← hb,Bool.and_eq_false_iff,decide_eq_false_iff_not,decide_eq_false_iff_not] at h2
    have hbad:z=false:=by rw [HZ.out];exact nameB_bad hkl hsm
    subst hbad
    have j1:(s[k].toNat:Int)<97∨(97:Int)≤s[k].toNat∧(122:Int)<s[k].toNat:=by omega
    clear hall hsm h2 hb hsz
    rcases j1 with j1|⟨j1,j2⟩
    all_goals
     go_wp2
     go_ret
     exact ⟨rfl,hbw⟩
  ·have e:=nameB_good (s:=s.data.toList) (fun j hj=>hall j hj (by omega))
   rw [hsz,← HZ.out] at e
   clear hall hsz
   by_cases g1:1≤s.size
   ·by_cases g2:s.size≤12
    ·have d1:(decide (1≤s.size)&&decide (s.size≤12))=true:=by simp [g1,g2]
     rw [d1] at e
     subst e
     clear d1
     go_wp2
     go_ret
     exact ⟨ret_bool (decide_eq_true (by omega)),hbw⟩
    ·have d1:(decide (1≤s.size)&&decide (s.size≤12))=false:=by simp [g2]
     have g3:12<s.size:=by omega
     rw [d1] at e
     subst e
     clear d1 g2
     go_wp2
     go_ret
     exact ⟨ret_bool (decide_eq_false (by omega)),hbw⟩
   ·have d1:(decide (1≤s.size)&&decide (s.size≤12))=false:=by simp [g1]
    have g3:s.size<1:=by omega
    rw [d1] at e
    subst e
    clear d1 g1
    go_wp2
    go_ret
    exact ⟨rfl,hbw⟩
end Go.Proofs.YtmoomnpbiifedaaGreat
namespace Go.Proofs.YtmoomnpbiifedaaGreat
open Go Go.RowKit
set_option linter.unusedVariables false
set_option maxHeartbeats 2000000 in
set_option maxRecDepth 100000 in
theorem ref_Tokens (s:ByteArray) (w:World) (hs:s.size≤268435456):
  Calls Tryz.prog 112 #[.string s] w (GaveToks (words s.data.toList) w):=by
 obtain ⟨i0,hi0,hz0,hz1,hz2⟩:=info_parts info_token
 have hwl:=words_length s.data.toList
 have hsz:s.data.toList.length=s.size:=Array.length_toList
 rw [hsz] at hwl
 go_enter Tryz.func112,Tryz.ntmps112
 go_wp2_with (go_at_call 130;refine (ref_Words s _ (by omega)).mono ?_)
 rintro e w1 ⟨v,rfl,hown,hb⟩
 obtain ⟨A,c,rfl,_,hrow⟩:=owned_row hown
 obtain ⟨ws,hl⟩:∃ ws,ws=words s.data.toList:=⟨_,rfl⟩
 rw [← hl] at hrow hwl
 rw [← hl]
 have FIN:Hid (∀ e w',GaveToks ws w e w'→GaveToks (words s.data.toList) w e w'):=by rw [← hl];exact fun _ _ h=>h
 have HB:=Lib.hid hb
 have HR:=Lib.hid hrow
 clear hl hb hown hrow
 go_wp2
 go_loopw [2,3,5,6] (fun a b o i wr=>ToksRel ws w1 a b o i wr) (fun _ _ _ i _=>ws.length-(intOf i).toNat)
 case atStart=>exact ⟨0,_,rfl,rfl,rfl,Nat.zero_le _,by omega,rfl,World.ownsRow_nil _ _ _ _,Below.refl _ _,rfl⟩
 case round=>
  obtain ⟨k,vo,rfl,rfl,rfl,hk,hk5,rfl,hown,hbw,her⟩:=hrel
  by_cases hlt:k<ws.length
  ·obtain ⟨b1,o1,e1,_,hc1⟩:=row_str (HR.out.below hbw) hlt
   subst e1
   have hat:=errFrom_at hlt
   have htk:=tokCells_take hlt
   obtain ⟨tx,htx⟩:∃ tx:ByteArray,tx=⟨ws[k].toArray⟩:=⟨_,rfl⟩
   have htl:ws[k].length=tx.size:=by rw [htx];simp [ByteArray.size]
   rw [← htx] at hc1 htk
   rw [htl,her] at hat
   clear htx htl her
   have HTK:=Lib.hid htk
   clear htk
   have hszj:=hbw.size
   by_cases h30:30<tx.size
   ·rw [if_pos h30] at hat
    have HAT:=Lib.hid hat
    clear hat
    go_wp2
    go_ret2
    exact FIN.out _ _ ⟨_,by rw [HAT.out];rfl,fun h=>by rw [HAT.out] at h;omega,fun _=>rfl,HB.out.trans (hbw.mono HB.out.size)⟩
   ·rw [if_neg h30] at hat
    by_cases h500:k=500
    ·rw [if_pos (by omega)] at hat
     have HAT:=Lib.hid hat
     subst h500
     clear hat
     go_wp2
     go_ret2
     exact FIN.out _ _ ⟨_,by rw [HAT.out];rfl,fun h=>by rw [HAT.out] at h;omega,fun _=>rfl,HB.out.trans (hbw.mono HB.out.size)⟩
    ·rw [if_neg (by omega)] at hat
     have HAT:=Lib.hid hat
     clear hat
     have h5:(k:Int)<500:=by omega
     have h5':¬ (500:Int)≤k:=by omega
     go_wp2_with (at_builtin;refine wpList_append_own _ rfl (.tmp 23) (.tmp 30) 173 rfl w1.heap.size 189 i0 _ 2 24 Tryz.underlying173 hi0 hz0 hz1 hz2 rfl (by omega) _ k (tokCells 0 (ws.take k)) rfl (hown.alloc _) ⟨wr.heap.size,0,none⟩ 1 1 [.string tx,.int .i64 k] rfl rfl (news_at wr [.string tx,.int .i64 k] 189) (by intro u hu;simp at hu;rcases hu with hu|hu<;>(subst hu;rfl)) (by unfold maxLen;omega) (by omega) (by simp;omega) ?_)
     intro v' w5 hown5 hgrow5 _
     have hbw5:=(hbw.alloc (by omega) _).grown hgrow5 (by simp;omega) (fun j hj=>(hown.lt j hj).1)
     rw [← HTK.out] at hown5
     clear hgrow5
     go_wp2
     go_roundw
     case rel=>exact ⟨k+1,_,rfl,rfl,rfl,by omega,by omega,by go_num,hown5,hbw5,HAT.out.symm⟩
     case measure=>simp [intOf];omega
  ·have hkl:k=ws.length:=by omega
   have her0:errFrom 0 ws=0:=by rw [← her,List.drop_of_length_le (by omega)];rfl
   rw [hkl,List.take_length] at hown
   have HE:=Lib.hid her0
   clear her her0 hkl
   go_wp2
   go_ret2
   exact FIN.out _ _ ⟨_,by rw [HE.out];rfl,fun _=>owned_low hown HB.out.size,fun h=>absurd HE.out h,HB.out.trans (hbw.mono HB.out.size)⟩
end Go.Proofs.YtmoomnpbiifedaaGreat
