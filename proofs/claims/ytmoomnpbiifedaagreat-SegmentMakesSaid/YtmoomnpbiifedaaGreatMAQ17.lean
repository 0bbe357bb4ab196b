import Derived.Test.YtmoomnpbiifedaaGreatMAZz
import Derived.Test.YtmoomnpbiifedaaGreatMAQ09
import Derived.Test.YtmoomnpbiifedaaGreatMAQ08
import Derived.Test.YtmoomnpbiifedaaGreatMAQ16
import Derived.Deep.AppendLies
import Derived.Test.YtmoomnpbiifedaaGreatMAQ12
import Derived.Shelf.SlSorted.Search
import Derived.Test.YtmoomnpbiifedaaGreatMAQ03
import Derived.BigCall
import Derived.BigQuiet
import Derived.Deep.QuietTactic
set_option linter.unusedVariables false
namespace Go.Proofs.YtmoomnpbiifedaaGreat
open Go Go.RowKit
def CloseRel (base B:Nat) (bs:List UInt8) (es:List (Int × Nat)) (blk:List Po) (many total:Int) (w:World) (i:Value) (wr:World):Prop:=
 ∃ k:Nat,k≤blk.length∧i= .int .i64 (k:Int)∧LMid wr base B bs es many (total+(totalP (blk.take k):Int))∧Mild base w wr
set_option maxHeartbeats 4000000 in
set_option maxRecDepth 100000 in
theorem close_mid (base B:Nat) (bs:List UInt8) (es:List (Int × Nat)) (many total:Int) (A:Option Addr) (m c:Nat) (blk:List Po) (cs:List Value) (z:Nat) (w:World) (h:LMid w base B bs es many total) (hm:blk.length=m) (hc:m≤c) (hcx:c≤maxLen)
    (hpc:PoCells (fun _ _=>True) blk cs) (hr:RowM base w A cs) (h0:0<m) (hm8:m≤1000) (hes:es.length≤1000000) (hmany:0≤many∧many≤1000000000000) (htot:0≤total∧total+(totalP blk:Int)≤1000000000000) (hz:z≤1000000000000):
    Calls Tryz.prog 65 #[.pointer (some ⟨B,0,none⟩),.slice A m c,.int .i64 (z:Int)] w fun e w'=>(∃ v,e= .returned v)∧
      LMid w' base B bs (es++[((blk.getD (m-1) (0,[])).1,z)]) (many+(m:Int)) (total+(totalP blk:Int))∧Mild base w w':=by
  obtain ⟨i0,hi0,hz0,hz1,hz2⟩:=info_parts info_end
  subst hm
  have hbase:base≤w.heap.size:=by have :=h.lt;have :=h.1;omega
  obtain ⟨j,hj⟩:∃ j,j=blk.length-1:=⟨_,rfl⟩
  have hjm:j<blk.length:=by omega
  obtain ⟨p0,p1⟩:=hpc.at_ hjm
  obtain ⟨b1,o1,e1,hb1,hcc⟩:=hr.at_ (by rw [hpc.len];omega)
  have hcd:=hcc _ _ p0
  obtain ⟨x,hx⟩:∃ x,x=(blk.getD j (0,[])).1:=⟨_,rfl⟩
  rw [← hx] at hcd
  rw [← hj,← hx]
  have hkj:IntKind.i64.wrap ((blk.length:Int)-1)=(j:Int):=by rw [IntWalk.i64_in _ (by omega)];omega
  have hwj:IntKind.i64.wrap (j:Int)=(j:Int):=IntWalk.i64_in _ (by omega)
  have hkj2:(blk.length:Int)-1=(j:Int):=by omega
  obtain ⟨hB,vb,ve,hv,ho,he⟩:=h
  obtain ⟨⟨c0,c1,c2,c3⟩,f0,f1,f2,f3⟩:=cell_four hv
  obtain ⟨M,hM⟩:∃ M,M=blk.length:=⟨_,rfl⟩
  have HPC:=Lib.hid hpc
  have HR:=Lib.hid hr
  have HML:=Lib.hid hM
  have hblt:B<w.heap.size:=(Array.getElem?_eq_some_iff.1 hv).1
  have HV:=Lib.hid hv
  have HO:=Lib.hid ho
  have HE:=Lib.hid he
  have HX:=Lib.hid hx
  have hc1a:∀ o,(w.alloc o).cell? ⟨B,1,none⟩=some ve:=fun o=>(((Below.refl w.heap.size w).alloc (Nat.le_refl _) o).cell (p:=⟨B,1,none⟩) hblt).trans c1
  have hcda:∀ o,(w.alloc o).cell? ⟨b1,o1+j*2,none⟩=some (.int .i64 x):=fun o=>(((Below.refl w.heap.size w).alloc (Nat.le_refl _) o).cell (p:=⟨b1,o1+j*2,none⟩) hb1).trans hcd
  subst e1
  rw [← hM] at hjm hc h0 hm8 hkj hkj2
  rw [← hM]
  clear hpc hr hM hv ho he hx p0 p1 hcc hj
  go_enter Tryz.func65,Tryz.ntmps65
  go_upto_region 0 with fail
  go_cut [] from 8 to 26 (fun wx=>LMid wx base B bs (es++[(x,z)]) many total∧Mild base w wx)
  case first=>
    go_region_law (first
      | (refine step_append_lies _ (by rfl) _ _ _ (by rfl) base 119 i0 _ 2 16 Tryz.underlying111 hi0 hz0 hz1 hz2 rfl (by omega) ve es.length (endCells es) (by rfl) ((HE.out.alloc _).drew)
          ⟨w.heap.size,0,none⟩ 1 1 [.int .i64 x,.int .i64 (z:Int)] (by rfl) (by rfl) (World.news_of_block (cs:=#[.int .i64 x,.int .i64 (z:Int)]) (t:=119) (fr:=(0,0)) (heap_alloc_new w _)) (by intro u hu;simp at hu;rcases hu with hu|hu<;>(subst hu;rfl))
          (by omega) (by unfold maxLen;omega) (by omega) (by simp;omega) (w.heap.size+1) (by simp) ?_
         intro gg cap w1 hown1 hgrow hat hlt
         obtain ⟨hv1,hmid,hmild⟩:=LMid.pushed hB HV.out HO.out HE.out (((Below.refl _ w).alloc (Nat.le_refl _) _).drew) hgrow hown1
         obtain ⟨⟨cB0,cB1,cB2,cB3⟩,fB0,fB1,fB2,fB3⟩:=cell_four hv1))
    all_goals
      go_wp2_with fail
      go_meet
      exact ⟨hmid,hmild⟩
  case rest=>
    clear hc1a hcda hcd c0 c1 c2 c3 f0 f1 f2 f3 hwj hkj hkj2 hjm HV HO HE hb1
    obtain ⟨hmid,hmild⟩:=hcut
    have hRM:=HR.out.mild hmild
    obtain ⟨hn1,hn2⟩:=hmid.setMany (many+(M:Int))
    have HN1:=Lib.hid hn1
    have HN2:=Lib.hid (hmild.trans hn2)
    obtain ⟨_,vb',ve',hv',_,_⟩:=hmid
    obtain ⟨⟨c0,c1,c2,c3⟩,f0,f1,f2,f3⟩:=cell_four hv'
    clear hv' hn1 hn2 hmild hRM
    go_wp2
    go_loopw [37] (fun i wr=>CloseRel base B bs (es++[(x,z)]) blk (many+(M:Int)) total w i wr) (fun i _=>M-(intOf i).toNat)
    case atStart=>exact ⟨0,by omega,rfl,by simpa [totalP] using HN1.out,HN2.out⟩
    case round=>
      obtain ⟨k,hk,rfl,hmid,hmild⟩:=hrel
      by_cases hlt:k<M
      · have hrm:=HR.out.mild hmild
        obtain ⟨q0,A2,c2,q1,hlc,hcx2,_⟩:=HPC.out.at_ (k:=k) (by rw [← HML.out];exact hlt)
        obtain ⟨b2,o2,e2,hb2,hcc⟩:=hrm.at_ (by rw [HPC.out.len,← HML.out];omega)
        have hq0:=hcc _ _ q0
        have hq1:=hcc _ _ q1
        rw [← Nat.add_assoc] at hq1
        injection e2 with e2
        injection e2 with e3 e4
        subst e3 e4
        have htk:=totalP_take (l:=blk) (k:=k) (by rw [← HML.out];exact hlt)
        have htl:=totalP_le_take (l:=blk) (k+1)
        obtain ⟨q,hq⟩:∃ q,q=blk.getD k (0,[]):=⟨_,rfl⟩
        rw [← hq] at hq0 hq1 htk hlc
        obtain ⟨y,ps⟩:=q
        simp only at hq0 hq1 htk hlc
        obtain ⟨P,hP⟩:∃ P,P=ps.length:=⟨_,rfl⟩
        rw [← hP] at hq1 htk hlc
        obtain ⟨T,hT⟩:∃ T:Int,T=total+(totalP (blk.take k):Int):=⟨_,rfl⟩
        rw [← hT] at hmid
        have hT2:T+(P:Int)=total+(totalP (blk.take (k+1)):Int):=by omega
        have hbr:base≤wr.heap.size:=by have :=hmild.below.size;omega
        have hal:=(Below.refl wr.heap.size wr).alloc (Nat.le_refl _) (.cells #[.int .i64 y,.slice A2 P c2] 63)
        have hma:=hmid.below hal
        have hmd:=hma.below (Below.refl _ (wr.alloc (.cells #[.int .i64 y,.slice A2 P c2] 63))).drew
        obtain ⟨hn1,hn2⟩:=hmd.setTotal (T+(P:Int))
        have HN1:=Lib.hid hn1
        have HN2:=Lib.hid ((hmild.trans (Mild.of_below hal hbr)).trans ((Mild.of_below (Below.refl _ _).drew (by have :=hal.size;omega)).trans hn2))
        have hT0:0≤T:=by omega
        have hTP:T+(P:Int)≤1000000000000:=by omega
        obtain ⟨_,vb',ve',hv',_,_⟩:=hma
        obtain ⟨⟨d0,d1,d2,d3⟩,g0,g1,g2,g3⟩:=cell_four hv'
        have HT2:=Lib.hid hT2
        clear hv' hn1 hn2 hmild hmid hmd hal hrm q0 q1 hcc hT hT2 htk htl hq hP
        have h8:=HN1.out
        rw [HT2.out] at h8
        have H8:=Lib.hid h8
        clear h8
        go_wp2
        go_region_law (fail)
        all_goals
          go_wp2
          go_roundw
          case rel=>exact ⟨k+1,by have :=HML.out;omega,by simp,by first|exact H8.out|(have h8:=H8.out;rw [← HT2.out] at h8 ⊢;exact h8),HN2.out⟩
          case measure=>simp [intOf];omega
      · obtain rfl:k=M:=by have :=HML.out;omega
        rw [List.take_of_length_le (by have :=HML.out;omega)] at hmid
        have H8:=Lib.hid hmid
        have H9:=Lib.hid hmild
        clear hmid hmild
        go_wp2
        go_end0
        exact ⟨⟨_,rfl⟩,H8.out,H9.out⟩
theorem list_close (base B:Nat) (bs:List UInt8) (l blk:List Po) (n:Nat) (A:Option Addr) (m c:Nat) (cs:List Value) (z:Nat) (w:World) (h:LAt w base B bs l) (hl:l.length=8*n) (hm:blk.length=m) (hc:m≤c) (hcx:c≤maxLen)
  (hpc:PoCells (fun _ _=>True) blk cs) (hr:RowM base w A cs) (h0:0<m) (hm8:m≤8) (hll:l.length≤1000000) (htot:totalP (l++blk)≤1000000000000) (hz:z=(bytesP (-1) (l++blk)).length) (hzb:z≤1000000000000):
  Calls Tryz.prog 65 #[.pointer (some ⟨B,0,none⟩),.slice A m c,.int .i64 (z:Int)] w fun e w'=>(∃ v,e= .returned v)∧LAt w' base B bs (l++blk)∧Mild base w w':=by
 have hb:=blocksP_push hl (b:=blk) (by omega) (by omega)
 have hmid:=lat_mid.1 h
 rw [totalP_append] at htot
 refine (close_mid base B bs _ _ _ A m c blk cs z w hmid hm hc hcx hpc hr h0 (by omega) (by rw [endsC_length];unfold blocksP;omega) (by omega) (by omega) hzb).mono ?_
 rintro e w' ⟨h1,h2,h3⟩
 refine ⟨h1,lat_mid.2 ?_,h3⟩
 rw [hb.2,endsC_push hl (by omega) (by omega),totalP_append,List.length_append,hm,docOf_append,docOf_getD (by omega),hm,← hz]
 rw [hb.1] at h2
 have e1:((l.length+m:Nat):Int)=(l.length:Int)+(m:Int):=by omega
 have e2:((totalP l+totalP blk:Nat):Int)=(totalP l:Int)+(totalP blk:Int):=by omega
 rw [e1,e2]
 exact h2
end Go.Proofs.YtmoomnpbiifedaaGreat
namespace Go.Proofs.YtmoomnpbiifedaaGreat
open Go Go.RowKit
theorem fld_doc (x a:Int) (w:World):Sem.run Tryz.prog (Instr.field 119 (.agg #[.int .i64 x,.int .i64 a]) 0) w= .ok (.int .i64 x) w:=by
 simp [Instr.field,go_sem,part,asAgg]
end Go.Proofs.YtmoomnpbiifedaaGreat
set_option linter.unusedVariables false
namespace Go.Proofs.YtmoomnpbiifedaaGreat
open Go Go.RowKit
theorem Firm.block {N k:Nat} (hk:k<N) (o:Obj):Firm N (fun W=>W.heap[k]?=some o):=fun W l u u' hl _ _ h=>(World.putObj_heap_other (by omega)).trans h
theorem Firm.belowW {N n0:Nat} {w0:World} (hN:n0≤N):Firm N (fun W=>Below n0 w0 W):=fun W l o o' hl ho _ h=>
 h.trans ((Below.refl n0 W).grown (grownBy_putObj' W l o') (by have :=(Array.getElem?_eq_some_iff.1 ho).1;omega) (fun k e=>by cases e;omega))
theorem Firm.and {N:Nat} {p q:World→Prop} (h:Firm N p) (k:Firm N q):Firm N (fun W=>p W∧q W):=fun W l o o' hl ho hc hp=>⟨h W l o o' hl ho hc hp.1,k W l o o' hl ho hc hp.2⟩
theorem Firm.pure {N:Nat} {p:Prop}:Firm N (fun _=>p):=fun _ _ _ _ _ _ _ h=>h
end Go.Proofs.YtmoomnpbiifedaaGreat
set_option linter.unusedVariables false
namespace Go.Proofs.YtmoomnpbiifedaaGreat
open Go Go.RowKit
theorem Firm.lat (N base B:Nat) (bs:List UInt8) (l:List Po):Firm N (fun W=>LAt W base B bs l):=fun W k o o' hk ho hc h=>h.cellsKept fun j u hj hu=>by
 by_cases e:j=k
 ·subst e
  rw [ho] at hj
  injection hj with hj
  subst hj
  rw [hc] at hu
  cases hu
 ·exact (World.putObj_heap_other e).trans hj
end Go.Proofs.YtmoomnpbiifedaaGreat
set_option linter.unusedVariables false
namespace Go.Proofs.YtmoomnpbiifedaaGreat
open Go Go.RowKit
attribute [local go_sem] Oper.semAt_some
def MadeList (l:List Po) (w:World) (e:Ending) (w':World):Prop:=∃ B,e= .returned (.tuple #[.pointer (some ⟨B,0,none⟩),.int .i64 0])∧LAt w' w.heap.size B (bytesP (-1) l) l∧Below w.heap.size w w'
theorem bytesP_pos {l:List Po} {x:Int} (h:l≠[]):0<(bytesP x l).length:=by
 cases l with
 |nil=>exact absurd rfl h
 |cons p r=>
  have :=putB_pos (p.1-(x+1)).toNat
  rw [bytesP,List.length_append]
  omega
def MakeI (w:World) (B:Nat) (A:Option Addr) (n c:Nat) (l:List Po) (pre:List Nat) (W:World):Prop:=
 (W.heap[B+1+1]?=some (.cells #[.slice A n c] 58 (0,0))∧W.heap[B+1+1+1]?=some (.cells #[.int .i64 8] 3 (0,0)))∧LAt W w.heap.size B (bytesP (-1) (l.take (8*pre.length))) (l.take (8*pre.length))∧W.heap[B+1]?=some (.cells #[.pointer (some ⟨B,0,none⟩)] 65 (0,0))∧Below w.heap.size w W
theorem LAt.moreBytes {w w0 w1:World} {base B:Nat} {bs cs:List UInt8} {l:List Po} {vb ve v':Value} {m:Nat} (hB:base≤B) (hv:w.heap[B]?=some (.cells #[vb,ve,.int .i64 (l.length:Int),.int .i64 (totalP l:Int)] 113 (0,0)))
  (ho:w.ownsRow base 5 1 vb bs.length (Lib.byteCells bs)) (he:w.ownsRow base 119 2 ve (blocksP l.length) (endsV l)) (hb:Below w.heap.size w w0) (hg:w0.grownBy w1 vb.ownBlock) (hm:cs.length=m)
  (hown:w1.ownsRow base 5 1 v' (bs.length+m) (Lib.byteCells bs++Lib.byteCells cs)):
  w1.heap[B]?=some (.cells #[vb,ve,.int .i64 (l.length:Int),.int .i64 (totalP l:Int)] 113 (0,0))∧LAt (w1.setCell ⟨B,0,none⟩ v') base B (bs++cs) l∧Mild base w (w1.setCell ⟨B,0,none⟩ v'):=by
 have hlt:B<w.heap.size:=(Array.getElem?_eq_some_iff.1 hv).1
 have hv0:=(hb.block B hlt).trans hv
 have he0:=owned_below he hb
 have ho0:=owned_below ho hb
 have hv1:w1.heap[B]?=some (.cells #[vb,ve,.int .i64 (l.length:Int),.int .i64 (totalP l:Int)] 113 (0,0)):=(hg.block B (by have :=hb.size;omega) (fun e=>owned_apart ho0 hv0 (by decide) e.symm)).trans hv0
 have he1:w1.ownsRow base 119 2 ve (blocksP l.length) (endsV l):=owned_keep he0 fun g hg'=>hg.block g (he0.lt g hg').2 fun e=>owned_apart2 ho0 he0 (by decide) hg' e.symm
 have hbw:base≤w.heap.size:=by omega
 refine ⟨hv1,⟨hB,v',ve,heap_setCell_same w1 B 0 _ _ _ hv1,owned_setCell (own_more hm hown) (owned_apart hown hv1 (by decide)) _,owned_setCell he1 (owned_apart he1 hv1 (by decide)) _⟩,?_⟩
 exact (Mild.of_below hb hbw).trans ((Mild.grownOwn ho0 (.inr (.inr rfl)) hg (by have :=hb.size;omega)).trans (Mild.setCell hv1 (.inl rfl) hB _))
theorem rises_len:∀ {ps:List Int} {x b:Int},risesZ x ps=true→(∀ y∈ps,y<b)→x<b→(ps.length:Int)<b-x
 |[],x,b,_,_,h=>by simp;omega
 |n::r,x,b,h,hb,hx=>by
  rw [risesZ,Bool.and_eq_true,decide_eq_true_iff] at h
  have :=rises_len (b:=b) h.2 (fun y hy=>hb y (List.mem_cons_of_mem _ hy)) (hb n (List.mem_cons_self ..))
  rw [List.length_cons]
  omega
theorem places_count {ps:List Int} (h:placesB ps=true):ps.length≤2147483648:=by
 have :=rises_len (b:=2147483648) (placesB_iff.1 h).1 (fun y hy=>(places_bd h y hy).2) (by omega)
 omega
theorem may_len:∀ {l:List Po} {last:Int},mayB' last l=true→∀ p∈l,p.2.length≤2147483648
 |[],_,_,p,hp=>by cases hp
 |q::r,last,h,p,hp=>by
  have h':=mayB'_cons.1 h
  rcases List.mem_cons.1 hp with rfl|hp
  ·exact places_count h'.2.2.1
  ·exact may_len h'.2.2.2 p hp
set_option maxHeartbeats 8000000 in
set_option maxRecDepth 100000 in
theorem posting_Make (A:Option Addr) (n c:Nat) (l:List Po) (w:World) (hn:l.length=n) (hc:n≤c) (hcx:c≤maxLen) (hn100:n≤1000000) (hpo:Posts w w.heap.size A l) (htp:totalP l≤40000000000) (hm:mayB' (-1) l=true):
  Calls Tryz.prog 24 #[.slice A n c] w (MadeList l w):=by
 obtain ⟨i0,hi0,hz0,hz1,hz2⟩:=info_parts info_byte
 refine (callsIn_wide (n:=6)).1 ?_
 have hpl:∀ p∈l,p.2.length≤2147483648:=may_len hm
 have my:=posting_May_any A n c l w hn (by omega) hpo (fun p hp=>by have :=hpl p hp;omega)
 rw [hm] at my
 have MY:=Lib.hid my
 have HPO:=Lib.hid hpo
 have HPL:=Lib.hid hpl
 have HM:=Lib.hid hm
 have HN:=Lib.hid hn
 have HTP:=Lib.hid htp
 clear my hpo hpl hm hn htp
 refine callsIn_of_wp_marks Tryz.func24 rfl trivial ?_ rfl
 simp only [Tryz.ntmps24,List.size_toArray,List.length_cons,List.length_nil,Nat.reduceAdd,Nat.reduceSub,Array.replicate_succ,Array.replicate_zero,List.push_toArray,List.append_toArray,List.nil_append,List.cons_append]
 gi_wp2_with (first
  |(refine ⟨trivial,?_⟩;gi_at_call 61;refine (callsIn_wide.2 MY.out).mono ?_;rintro e w1 ⟨rfl,hb1⟩)
  |(gi_at_call 61;refine (callsIn_wide.2 MY.out).mono ?_;rintro e w1 ⟨rfl,hb1⟩)
  |(refine ⟨trivial,?_⟩;gi_at_call 62;refine (callsIn_wide.2 (posting_Chunk A n c _)).mono ?_)
  |(gi_at_call 62;refine (callsIn_wide.2 (posting_Chunk A n c _)).mono ?_))
 rintro e w3 ⟨rfl,e1,e2,hb3,hz3⟩
 obtain ⟨B,hB⟩:∃ B,B=w1.heap.size:=⟨_,rfl⟩
 have hsz1:=hb1.size
 have hal:=((Below.refl w1.heap.size w1).alloc (Nat.le_refl _) (.cells #[.slice none 0 0,.slice none 0 0,.int .i64 0,.int .i64 0] 113)).alloc (by simp) (.cells #[.pointer (some ⟨w1.heap.size,0,none⟩)] 65)
 have hb13:Below w1.heap.size w1 w3:=hal.trans (hb3.mono (by simp;omega))
 have hb03:Below w.heap.size w w3:=hb1.trans (hb13.mono hsz1)
 have hlist:w3.heap[w1.heap.size]?=some (.cells #[.slice none 0 0,.slice none 0 0,.int .i64 0,.int .i64 0] 113 (0,0)):=
  (hb3.block _ (by simp;omega)).trans ((Below.heap_alloc _ _ _ (by simp)).trans (heap_alloc_new w1 _))
 have hbox:w3.heap[w1.heap.size+1]?=some (.cells #[.pointer (some ⟨w1.heap.size,0,none⟩)] 65 (0,0)):=by
  refine (hb3.block _ (by simp)).trans ?_
  have h1:=heap_alloc_new (w1.alloc (.cells #[.slice none 0 0,.slice none 0 0,.int .i64 0,.int .i64 0] 113)) (.cells #[.pointer (some ⟨w1.heap.size,0,none⟩)] 65)
  rwa [World.size_alloc] at h1
 simp only [World.size_alloc] at e1 e2 hz3
 rw [← hB] at e1 e2 hz3 hlist hbox
 rw [← hB] at hsz1
 have hlat:LAt w3 w.heap.size B [] []:=⟨hsz1,_,_,hlist,World.ownsRow_nil _ _ _ _,World.ownsRow_nil _ _ _ _⟩
 have hi0':MakeI w B A n c l [] w3:=⟨⟨e1,e2⟩,by simpa [bytesP] using hlat,hbox,hb03⟩
 obtain ⟨b,off,hA⟩:∃ b off,0<n→A=some ⟨b,off,none⟩:=by
  by_cases h0:0<n
  ·obtain ⟨b,off,e,_⟩:=HPO.out.at_ (k:=0) (by rw [HN.out];exact h0)
   exact ⟨b,off,fun _=>e⟩
  ·exact ⟨0,0,fun h=>absurd h h0⟩
 have HI0:=Lib.hid hi0'
 have HA:=Lib.hid hA
 have HZ3:=Lib.hid hz3
 have HE1:=Lib.hid e1
 have HE2:=Lib.hid e2
 have HBW:Hid (w.heap.size≤B):=Lib.hid hsz1
 clear hi0' hlat hA hz3 e1 e2 hlist hbox hb03 hb13 hal hb3
 gi_wp2
 rw [← hB]
 clear hB hb1 hsz1
 refine wpIn_range_told (by omega) (gf:=100) (lb:=#[.pointer (some ⟨B+1+1,0,none⟩),.pointer (some ⟨B+1+1+1,0,none⟩)]) rfl (enters_of Tryz.func100 (by kernel_rfl) rfl)
  (chunk_told 5 (B+1+1) (B+1+1+1) n c A b off (by omega) HA.out hc hcx (by omega) w3 HE1.out HE2.out) KpTwo.trans (fun W l o o' hl ho hc=>KpTwo.putObj W l o' (by have :=HZ3.out;omega) (by have :=HZ3.out;omega)) (fun _=>rfl)
  (MakeI w B A n c l) (fun s A' B' h hb=>⟨⟨(hb.block _ (lt_of_block h.1.1)).trans h.1.1,(hb.block _ (lt_of_block h.1.2)).trans h.1.2⟩,h.2.1.below hb,(hb.block _ (lt_of_block h.2.2.1)).trans h.2.2.1,h.2.2.2.trans (hb.mono h.2.2.2.size)⟩)
  (fun s=>((Firm.block (by have :=HZ3.out;omega) _).and (Firm.block (by have :=HZ3.out;omega) _)).and<|(Firm.lat _ _ _ _ _).and ((Firm.block (by have :=HZ3.out;omega) _).and (Firm.belowW (by have :=HZ3.out;have :=HBW.out;omega)))) (fun s x=>Firm.pure) HI0.out
  (fun k=>{tmps:=#[.slice A n c,undef,.pointer none,.int .i64 0,.pointer (some ⟨B+1,0,none⟩),chunkV b off n k,undef,.slice A n c,.bool true,.bool false,.agg #[.slice none 0 0,.slice none 0 0,.int .i64 0,.int .i64 0],.pointer (some ⟨B,0,none⟩),.slice A n c,
   .func (.func 100) #[] #[.pointer (some ⟨B+1+1,0,none⟩),.pointer (some ⟨B+1+1+1,0,none⟩)],chunkV b off n k,undef,undef,undef,undef,undef,undef,undef,undef,undef,undef,undef,undef,undef,undef,undef,undef,undef,undef,undef,undef,undef,undef,undef],defers:=[]}) ?assign ?body ?done
 case assign=>
  intro lp x W K' hK'
  gi_wp2
  exact hK'
 case body=>
  rintro lp pre x W ⟨⟨hd1,hd2⟩,hla,hbx,hbw⟩ ⟨rfl,hx⟩
  obtain ⟨k,hk⟩:∃ k,k=pre.length:=⟨_,rfl⟩
  rw [← hk] at hla hx
  rw [← hk]
  have hMI:∀ W',LAt W' w.heap.size B (bytesP (-1) (l.take (8*(k+1)))) (l.take (8*(k+1)))→W'.heap[B+1]?=some (.cells #[.pointer (some ⟨B,0,none⟩)] 65 (0,0))→Below w.heap.size w W'→Mild w.heap.size W W'→MakeI w B A n c l (pre++[k]) W'∧KpTwo (B+1+1) (B+1+1+1) W W':=fun W' h1 h2 h3 h4=>by
   have k1:=h4.keep _ _ hd1 (fun cs t fr e=>by cases e;unfold Turning;decide)
   have k2:=h4.keep _ _ hd2 (fun cs t fr e=>by cases e;unfold Turning;decide)
   refine ⟨?_,h4.below.size,fun _=>k1.trans hd1.symm,fun _=>k2.trans hd2.symm⟩
   unfold MakeI
   rw [List.length_append,List.length_singleton,← hk]
   exact ⟨⟨k1,k2⟩,h1,h2,h3⟩
  have hnk:8*k<n:=by unfold blocksP at hx;omega
  have hxl:k<blocksP l.length:=by rw [HN.out];exact hx
  have hqlen:=blockP_length (l:=l) k
  rw [HN.out] at hqlen
  have hcat:=blocks_all l k
  have hacl:(l.take (8*k)).length=8*k:=by rw [List.length_take,HN.out];omega
  have hmt:=HM.out
  rw [← List.take_append_drop (8*(k+1)) l,mayB'_append,Bool.and_eq_true,hcat,mayB'_append,Bool.and_eq_true] at hmt
  have hx0:=docOf_ge _ _ hmt.1.1
  have hmb:=hmt.1.2
  have hbpl:∀ p∈blockP l (k:Int),p.2.length≤2147483648:=fun p hp=>HPL.out p (by rw [blockP_nat] at hp;exact List.mem_of_mem_drop (List.mem_of_mem_take hp))
  have hapl:∀ p∈l.take (8*(k+1)),p.2.length≤2147483648:=fun p hp=>HPL.out p (List.mem_of_mem_take hp)
  have htot:totalP (l.take (8*(k+1)))≤40000000000:=Nat.le_trans (totalP_le_take _) HTP.out
  have hbys:(bytesP (-1) (l.take (8*(k+1)))).length≤400000000000:=by
   have h1:=bytesP_length (l.take (8*(k+1))) (-1) (by omega) (by rw [hcat,mayB'_append,hmt.1.1,hmb];rfl) (fun p hp=>by have :=hapl p hp;omega)
   have h3:(l.take (8*(k+1))).length≤1000000:=by rw [List.length_take,HN.out];omega
   omega
  have hbya:(bytesP (-1) (l.take (8*(k+1)))).length=(bytesP (-1) (l.take (8*k))).length+(bytesP (docOf (-1) (l.take (8*k))) (blockP l (k:Int))).length:=by rw [hcat,bytesP_append,List.length_append]
  have hA':=HA.out (by omega)
  obtain ⟨q,hq⟩:∃ q,q=min 8 (n-8*k):=⟨_,rfl⟩
  have hch:chunkV b off n k= .slice (some ⟨b,off+8*k*2,none⟩) q q:=by unfold chunkV;rw [← hq]
  rw [← hq] at hqlen
  have hq1:0<q∧q≤8:=by omega
  rw [hch]
  have hpos:Posts w w.heap.size (some ⟨b,off+8*k*2,none⟩) (blockP l (k:Int)):=by
   have h1:=HPO.out
   rw [hA'] at h1
   rw [blockP_nat]
   exact (h1.drop (8*k)).cut 8
  obtain ⟨acc,hacc⟩:∃ acc,acc=l.take (8*k):=⟨_,rfl⟩
  obtain ⟨blk,hblk⟩:∃ blk,blk=blockP l (k:Int):=⟨_,rfl⟩
  rw [← hacc,← hblk] at hcat
  rw [hcat] at hMI hbys htot hbya
  rw [← hacc] at hla hacl hx0 hmb hbya
  rw [← hblk] at hqlen hmb hbpl hbya hpos
  have hlast:=list_last w.heap.size B (bytesP (-1) acc) acc W hla (by omega)
  obtain ⟨x0,hx0e⟩:∃ x0,x0=docOf (-1) acc:=⟨_,rfl⟩
  rw [← hx0e] at hx0 hmb hbya hlast
  obtain ⟨a,hae⟩:∃ a,a=(bytesP (-1) acc).length:=⟨_,rfl⟩
  rw [← hae] at hbya hlast
  have hfld:=fun w1=>fld_doc x0 (a:Int) w1
  have hput:∀ W',Below W.heap.size W W'→Calls Tryz.prog 63 #[.slice (some ⟨b,off+8*k*2,none⟩) q q,.int .i64 x0] W' (GaveOwn W'.heap.size (bytesP x0 blk) W'):=fun W' hb=>
   posting_put_any _ q q blk x0 W' hqlen (by omega) ((hpos.below (hbw.trans (hb.mono hbw.size))).more (by have :=hbw.size;have :=hb.size;omega)) hx0 hmb hbpl (by omega)
  obtain ⟨bb,hbb⟩:∃ bb,bb=bytesP x0 blk:=⟨_,rfl⟩
  rw [← hbb] at hput hbya
  have hc1:=cell_of_one hbx
  have HLAST:=Lib.hid hlast
  have HPUT:=Lib.hid hput
  have HLA:=Lib.hid hla
  have HBX:=Lib.hid hbx
  have HW:=Lib.hid hbw
  have HPOS:=Lib.hid hpos
  have HMI:=Lib.hid hMI
  have HACL:=Lib.hid hacl
  have HQL:=Lib.hid hqlen
  have HBB:=Lib.hid hbb
  have HX0E:=Lib.hid hx0e
  have HAE:=Lib.hid hae
  have hBW0:∀ W',Below W.heap.size W W'→W'.cell? ⟨B+1,0,none⟩=some (.pointer (some ⟨B,0,none⟩)):=fun W' hb=>(hb.cell (p:=⟨B+1,0,none⟩) (lt_of_block HBX.out)).trans (cell_of_one HBX.out)
  have HC1:=Lib.hid hBW0
  clear hlast hput hla hbx hbw hpos hMI hacl hqlen hbb hx0e hae hacc hblk hcat hk hq hch hbpl hapl hmt hA' hxl hmb hBW0
  gi_wp2_with (first
   |(refine ⟨trivial,?_⟩;gi_at_call 64;refine (CallsIn.inRound lp (callsIn_wide.2 HLAST.out)).mono ?_;rintro e w5 ⟨rfl,hb5⟩;have HB5:=Lib.hid hb5;clear hb5)
   |(gi_at_call 64;refine (CallsIn.inRound lp (callsIn_wide.2 HLAST.out)).mono ?_;rintro e w5 ⟨rfl,hb5⟩;have HB5:=Lib.hid hb5;clear hb5)
   |(refine ⟨trivial,?_⟩;gi_at_call 63;refine (CallsIn.inRound lp (callsIn_wide.2 (HPUT.out _ HB5.out))).mono ?_)
   |(gi_at_call 63;refine (CallsIn.inRound lp (callsIn_wide.2 (HPUT.out _ HB5.out))).mono ?_))
  rintro e w6 ⟨v6,rfl,hown6,hb6⟩
  obtain ⟨A6,c6,rfl,hc6,hr6⟩:=hown6.row
  have hbbp:0<bb.length:=by rw [HBB.out];exact bytesP_pos (fun e=>by have :=HQL.out;rw [e] at this;simp at this;omega)
  obtain ⟨ba,oa,rfl,_,hca⟩:=hr6.at_ (by rw [Lib.byteCells_length];exact hbbp)
  have hb56:=HB5.out.trans (hb6.mono HB5.out.size)
  have hla6:=HLA.out.below hb56
  have hbase6:w.heap.size≤w6.heap.size:=by have :=hb56.size;have :=HW.out.size;omega
  have hpc6:=HC1.out w6 hb56
  have hbx6:=(hb56.block _ (lt_of_block HBX.out)).trans HBX.out
  obtain ⟨hB6,vb,ve,hv,ho,he⟩:=hla6
  rw [← HAE.out] at ho
  obtain ⟨M,hM⟩:∃ M,M=bb.length:=⟨_,rfl⟩
  rw [← hM] at hbya hbbp hc6
  rw [← hM]
  obtain ⟨g,cap,w7,hrun,hown7,hg7,_,_⟩:=run_append_lies (P:=Tryz.prog) w6.drew 86 86 w.heap.size 5 i0 _ 1 1 Tryz.underlying86 hi0 hz0 hz1 hz2 rfl (by omega) vb a (Lib.byteCells (bytesP (-1) acc)) ho ⟨ba,oa,none⟩ M c6 (Lib.byteCells bb) (by rw [Lib.byteCells_length,hM];omega) (fun j u hu=>by rw [Addr.add_lit];exact hca j u hu) (byteCells_oneCell _) hbbp (by unfold maxLen;omega) (by omega) hbase6 w6.heap.size rfl
  have ho':=ho
  rw [HAE.out] at ho' hown7
  obtain ⟨hv7,hla7,hmild7⟩:=LAt.moreBytes hB6 hv ho' he (Below.refl _ w6).drew hg7 hM.symm hown7
  obtain ⟨⟨cB0,cB1,cB2,cB3⟩,fB0,fB1,fB2,fB3⟩:=cell_four hv7
  have c6a:=(cell_four hv).1.1
  rw [← HAE.out] at hla7 hmild7
  have HLA7:=Lib.hid hla7
  have HM7:=Lib.hid (((Mild.of_below hb56 HW.out.size)).trans hmild7)
  have HMM:=Lib.hid hM
  have hbx8:=HM7.out.keep _ _ HBX.out (fun cs t fr e=>by cases e;unfold Turning;decide)
  have hS6:(w6.drew).cell? ⟨B+1,0,none⟩=some (.pointer (some ⟨B,0,none⟩)):=hpc6
  have hS7:w7.cell? ⟨B+1,0,none⟩=some (.pointer (some ⟨B,0,none⟩)):=by
   have h1:w7.heap[B+1]?=w6.drew.heap[B+1]?:=hg7.block (B+1) (lt_of_block (w:=w6) hbx6) (fun e=>owned_apart ho hbx6 (by decide) e.symm)
   exact cell_of_one (h1.trans hbx6)
  have hcl:Calls Tryz.prog 65 #[.pointer (some ⟨B,0,none⟩),.slice (some ⟨b,off+8*k*2,none⟩) q q,.int .i64 ((a+M:Nat):Int)] ((w7.setCell ⟨B,0,none⟩ (.slice (some ⟨g,0,none⟩) (a+M) cap)).drew) fun e w'=>(∃ v,e= .returned v)∧LAt w' w.heap.size B (bytesP (-1) acc++bb) (acc++blk)∧Mild w.heap.size ((w7.setCell ⟨B,0,none⟩ (.slice (some ⟨g,0,none⟩) (a+M) cap)).drew) w':=by
   obtain ⟨cs,h1,h2⟩:=HPOS.out
   have hbl8:=HW.out.trans HM7.out.below
   have hzz:a+M=(bytesP (-1) (acc++blk)).length:=by rw [hbya,HMM.out]
   exact list_close w.heap.size B _ acc blk k _ q q cs (a+M) _ (HLA7.out.below (Below.refl _ _).drew) HACL.out HQL.out (Nat.le_refl _) (by unfold maxLen;omega) (h1.imp fun _ _ _=>trivial) (RowM.of_row (h2.below (hbl8.trans (Below.refl _ _).drew)) (by have :=hbl8.size;simpa using this)) (by omega) (by omega) (by have :=HACL.out;omega) (by omega) hzz (by omega)
  have c7b:(w7.setCell ⟨B,0,none⟩ (.slice (some ⟨g,0,none⟩) (a+M) cap)).cell? ⟨B,0,none⟩=some (.slice (some ⟨g,0,none⟩) (a+M) cap):=(cell_four (heap_setCell_same w7 B 0 _ _ _ hv7)).1.1
  have HS6:=Lib.hid hS6
  have HS7:=Lib.hid hS7
  have HS8:Hid ((w7.setCell ⟨B,0,none⟩ (.slice (some ⟨g,0,none⟩) (a+M) cap)).cell? ⟨B+1,0,none⟩=some (.pointer (some ⟨B,0,none⟩))):=Lib.hid (cell_of_one hbx8)
  have HS9:Hid ((w7.setCell ⟨B,0,none⟩ (.slice (some ⟨g,0,none⟩) (a+M) cap)).drew.cell? ⟨B+1,0,none⟩=some (.pointer (some ⟨B,0,none⟩))):=Lib.hid (cell_of_one (w:=(w7.setCell ⟨B,0,none⟩ (.slice (some ⟨g,0,none⟩) (a+M) cap)).drew) hbx8)
  have HBX8:Hid ((w7.setCell ⟨B,0,none⟩ (.slice (some ⟨g,0,none⟩) (a+M) cap)).drew.heap[B+1]?=some (.cells #[.pointer (some ⟨B,0,none⟩)] 65 (0,0))):=Lib.hid hbx8
  have HCL:=Lib.hid hcl
  have HRUN:=Lib.hid hrun
  have C7B:=Lib.hid c7b
  clear hla7 hmild7 hown7 hg7 ho ho' he hv7 hca hr6 hown6 hb6 hM hB6 hrun hbx8 hS6 hS7 hcl c7b hbx6 hbya
  clear hc1 hpc6
  gi_wp2
  refine region_in_round (S:=fun w'=>w'.cell? ⟨B+1,0,none⟩=some (.pointer (some ⟨B,0,none⟩))) (by kernel_rfl) (by kernel_rfl) HS6.out (fun hHeld0=> ?_)
  refine wpAnyH_take (i:=0) (v:= .pointer (some ⟨B,0,none⟩)) rfl (by kernel_rfl) (by kernel_rfl) (by kernel_rfl) (fun _ _ _ h=>h) (Or.inl ⟨by rfl,fun wx hSw=>by go_simp⟩) (by assumption) ?_
  try simp only [Act.put,zA,zB,zD,zE,zF]
  refine wpAnyH_take (i:=1) (v:= .pointer (some ⟨B,0,none⟩)) rfl (by kernel_rfl) (by kernel_rfl) (by kernel_rfl) (fun _ _ _ h=>h) (Or.inl ⟨by rfl,fun wx hSw=>by go_simp⟩) (by assumption) ?_
  try simp only [Act.put,zA,zB,zC,zD,zE,zF]
  refine wpAnyH_take (i:=2) (v:= .pointer (some ⟨B,0,none⟩)) rfl (by kernel_rfl) (by kernel_rfl) (by kernel_rfl) (fun _ _ _ h=>h) (Or.inl ⟨by rfl,fun wx hSw=>by go_simp⟩) (by assumption) ?_
  try simp only [Act.put,zA,zB,zC,zD,zE,zF]
  refine wpAnyH_take (i:=3) (v:= .pointer (some ⟨B,0,none⟩)) rfl (by kernel_rfl) (by kernel_rfl) (by kernel_rfl) (fun _ _ _ h=>h) (Or.inl ⟨by rfl,fun wx hSw=>by go_simp⟩) (by assumption) ?_
  try simp only [Act.put,zA,zB,zC,zD,zE,zF]
  refine wpAnyH_take (i:=5) (v:= .slice (some ⟨ba,oa,none⟩) M c6) rfl (by kernel_rfl) (by kernel_rfl) (by kernel_rfl) (fun _ _ _ h=>h) (Or.inl ⟨by rfl,fun wx hSw=>by go_simp⟩) (by assumption) ?_
  try simp only [Act.put,zA,zB,zC,zD,zE,zF]
  refine wpAnyH_ready (rs:=[4]) (by kernel_rfl) (by simp) ?_
  refine AllReadyH.cons rfl (fun K hK=> ?_) AllReadyH.nil
  try simp only [zA,zB,zC]
  go_simp
  refine hK.out _ _ ?_ (fun hHeld1=> ?_)
  ·exact HS6.out
  clear hK K
  try simp only [Act.put,zA,zB,zC,zD,zE,zF]
  refine wpAnyH_ready (rs:=[6]) (by kernel_rfl) (by simp) ?_
  refine AllReadyH.cons rfl (fun K hK=> ?_) AllReadyH.nil
  try simp only [zA,zB,zC]
  refine step_append_known (a:=⟨_,_⟩) ?_ (.tmp 24) (.tmp 25) 86 ?_ vb (.slice (some ⟨ba,oa,none⟩) M c6) ?_ ?_ (.slice (some ⟨g,0,none⟩) (a+M) cap) w7 ?_ ?_
  ·rfl
  ·rfl
  ·rfl
  ·rfl
  ·exact HRUN.out
  refine hK.out _ _ HS7.out (fun hHeld2=> ?_)
  clear hK K
  try simp only [Act.put,zD,zE,zF]
  refine wpAnyH_take (i:=7) (v:= .pointer (some ⟨B,0,none⟩)) rfl (by kernel_rfl) (by kernel_rfl) (by kernel_rfl) (fun _ _ _ h=>h) (Or.inl ⟨by rfl,fun wx hSw=>by go_simp⟩) (by assumption) ?_
  try simp only [Act.put,zA,zB,zC,zD,zE,zF]
  refine wpAnyH_take (i:=8) (v:= .pointer (some ⟨B,0,none⟩)) rfl (by kernel_rfl) (by kernel_rfl) (by kernel_rfl) (fun _ _ _ h=>h) (Or.inl ⟨by rfl,fun wx hSw=>by go_simp⟩) (by assumption) ?_
  try simp only [Act.put,zA,zB,zC,zD,zE,zF]
  refine wpAnyH_ready (rs:=[9]) (by kernel_rfl) (by simp) ?_
  refine AllReadyH.cons rfl (fun K hK=> ?_) AllReadyH.nil
  try simp only [zA,zB,zC]
  go_simp
  refine hK.out _ _ ?_ (fun hHeld3=> ?_)
  ·exact HS8.out
  clear hK K
  try simp only [Act.put,zA,zB,zC,zD,zE,zF]
  refine wpAnyH_done (by kernel_rfl) ?_ _
  refine AtEnd.fin ?_
  gi_wp2
  have c7b:=C7B.out
  clear cB0 cB1 cB2 cB3 fB0 fB1 fB2 fB3 c6a
  refine region_in_round (S:=fun w'=>w'.cell? ⟨B+1,0,none⟩=some (.pointer (some ⟨B,0,none⟩))) (by kernel_rfl) (by kernel_rfl) HS9.out (fun hHeld0=> ?_)
  refine wpAnyH_take (i:=0) (v:= .pointer (some ⟨B,0,none⟩)) rfl (by kernel_rfl) (by kernel_rfl) (by kernel_rfl) (fun _ _ _ h=>h) (Or.inl ⟨by rfl,fun wx hSw=>by go_simp⟩) (by assumption) ?_
  try simp only [Act.put,zA,zB,zD,zE,zF]
  refine wpAnyH_take (i:=1) (v:= .slice (some ⟨b,off+8*k*2,none⟩) q q) rfl (by kernel_rfl) (by kernel_rfl) (by kernel_rfl) (fun _ _ _ h=>h) (Or.inl ⟨by rfl,fun wx hSw=>by go_simp⟩) (by assumption) ?_
  try simp only [Act.put,zA,zB,zC,zD,zE,zF]
  refine wpAnyH_take (i:=2) (v:= .pointer (some ⟨B,0,none⟩)) rfl (by kernel_rfl) (by kernel_rfl) (by kernel_rfl) (fun _ _ _ h=>h) (Or.inl ⟨by rfl,fun wx hSw=>by go_simp⟩) (by assumption) ?_
  try simp only [Act.put,zA,zB,zC,zD,zE,zF]
  refine wpAnyH_take (i:=3) (v:= .pointer (some ⟨B,0,none⟩)) rfl (by kernel_rfl) (by kernel_rfl) (by kernel_rfl) (fun _ _ _ h=>h) (Or.inl ⟨by rfl,fun wx hSw=>by go_simp⟩) (by assumption) ?_
  try simp only [Act.put,zA,zB,zC,zD,zE,zF]
  refine wpAnyH_take (i:=4) (v:= .pointer (some ⟨B,0,none⟩)) rfl (by kernel_rfl) (by kernel_rfl) (by kernel_rfl) (fun _ _ _ h=>h) (Or.inl ⟨by rfl,fun wx hSw=>by go_simp⟩) (by assumption) ?_
  try simp only [Act.put,zA,zB,zC,zD,zE,zF]
  refine wpAnyH_ready (rs:=[5]) (by kernel_rfl) (by simp) ?_
  refine AllReadyH.cons rfl (fun K hK=> ?_) AllReadyH.nil
  try simp only [zA,zB,zC]
  go_simp
  refine hK.out _ _ ?_ (fun hHeld1=> ?_)
  ·exact HS9.out
  clear hK K
  try simp only [Act.put,zA,zB,zC,zD,zE,zF]
  refine wpAnyH_take (i:=6) (v:= .int .i64 ((a+M:Nat):Int)) rfl (by kernel_rfl) (by kernel_rfl) (by kernel_rfl) (fun _ _ _ h=>h) (Or.inl ⟨by rfl,fun wx hSw=>by go_simp⟩) (by assumption) ?_
  try simp only [Act.put,zA,zB,zC,zD,zE,zF]
  refine wpAnyH_ready (rs:=[7]) (by kernel_rfl) (by simp) ?_
  refine AllReadyH.cons rfl (fun K hK=> ?_) AllReadyH.nil
  try simp only [zA,zB,zC]
  go_simp
  go_at_call 65
  refine HCL.out.mono ?_
  rintro e w9 ⟨⟨v9,rfl⟩,hla9,hmild9⟩
  have HS10:Hid (w9.cell? ⟨B+1,0,none⟩=some (.pointer (some ⟨B,0,none⟩))):=Lib.hid (cell_of_one (hmild9.keep _ _ HBX8.out (fun cs t fr e=>by cases e;unfold Turning;decide)))
  have HLA9:=Lib.hid hla9
  have HM9:=Lib.hid hmild9
  clear hla9 hmild9
  go_wp2_with fail
  refine hK.out _ _ ?_ (fun hHeld2=> ?_)
  ·exact HS10.out
  clear hK K
  try simp only [Act.put,zA,zB,zC,zD,zE,zF]
  refine wpAnyH_done (by kernel_rfl) ?_ _
  refine AtEnd.fin ?_
  gi_wp2
  have hm9:=HM7.out.trans ((Mild.of_below (Below.refl _ _).drew (by have :=(HW.out.trans HM7.out.below).size;omega)).trans HM9.out)
  have hla9:=HLA9.out
  rw [HBB.out,HX0E.out,← bytesP_append] at hla9
  obtain ⟨h1,h2⟩:=HMI.out _ hla9 (hm9.keep _ _ HBX.out (fun cs t fr e=>by cases e;unfold Turning;decide)) (HW.out.trans hm9.below) hm9
  exact ⟨hm9.keepsOthers,h2,h1⟩
 case done=>
  rintro D' ys W hD rfl ⟨_,hla,hbx,hbw⟩ hK'
  rw [List.length_range,← HN.out,take_blocks] at hla
  have hc1:=cell_of_one hbx
  have HLA:=Lib.hid hla
  have HBW2:=Lib.hid hbw
  clear hla hbx hbw
  gi_wp2
  refine ⟨by simp,.inl ⟨_,_,rfl,run_takeDeferred hK',?_⟩⟩
  refine ⟨_,results_tmp2 rfl _ _ _,?_⟩
  have hD2:w.heap.size≤D':=by have :=HZ3.out;have :=HBW.out;omega
  exact ⟨B,rfl,Firm.lat 0 _ _ _ _ W D' _ _ (Nat.zero_le _) hK' rfl HLA.out,Firm.belowW (N:=w.heap.size) (Nat.le_refl _) W D' _ _ hD2 hK' rfl HBW2.out⟩
end Go.Proofs.YtmoomnpbiifedaaGreat
set_option linter.unusedVariables false
namespace Go.Proofs.YtmoomnpbiifedaaGreat
open Go Go.RowKit
theorem LAt.low {w:World} {base b B:Nat} {bs:List UInt8} {l:List Po} (h:LAt w base B bs l) (hb:b≤base):LAt w b B bs l:=by
 obtain ⟨h1,vb,ve,h2,h3,h4⟩:=h
 exact ⟨by omega,vb,ve,h2,owned_low h3 hb,owned_low h4 hb⟩
theorem LAt.kinds {w w':World} {base B:Nat} {bs:List UInt8} {l:List Po} (h:LAt w base B bs l) (hk:∀ (k:Nat) (cs:Array Value) (t:TypeId) (fr:Nat × Nat),w.heap[k]?=some (.cells cs t fr)→t=113∨t=5∨t=119→w'.heap[k]?=some (.cells cs t fr)):LAt w' base B bs l:=by
 obtain ⟨h1,vb,ve,h2,h3,h4⟩:=h
 have key:∀ {E:TypeId} {size:Nat} {v:Value} {n:Nat} {xs:List Value},(E=113∨E=5∨E=119)→w.ownsRow base E size v n xs→w'.ownsRow base E size v n xs:=fun hE ho=>by
  refine owned_keep ho fun g hg=> ?_
  rcases ho.2 with ⟨rfl,_⟩|⟨g',cap,cur,rfl,_,hh,_⟩
  ·cases hg
  ·simp only [Value.ownBlock,Option.some.injEq] at hg
   subst hg
   rw [hk _ _ _ _ hh hE,hh]
 exact ⟨h1,vb,ve,hk _ _ _ _ h2 (.inl rfl),key (.inr (.inl rfl)) h3,key (.inr (.inr rfl)) h4⟩
theorem LAt.grown {w w':World} {base b B:Nat} {bs:List UInt8} {l:List Po} {E:TypeId} {size n:Nat} {v:Value} {xs:List Value} (h:LAt w base B bs l) (hv:w.ownsRow b E size v n xs) (h1:113≠E) (h2:5≠E) (h3:119≠E) (hg:w.grownBy w' v.ownBlock):LAt w' base B bs l:=
 h.kinds fun k cs t fr hk ht=>(hg.block k (Array.getElem?_eq_some_iff.1 hk).1 (fun e=>owned_apart hv hk (by rcases ht with rfl|rfl|rfl<;>assumption) e.symm)).trans hk
theorem SBox.grown {w wr w':World} {B:Nat} {V:Array Value} {E:TypeId} {size n:Nat} {v:Value} {xs:List Value} (h:SBox w B V wr) (hv:wr.ownsRow w.heap.size E size v n xs) (hE:34≠E) (hg:wr.grownBy w' v.ownBlock):SBox w B V w':=by
 obtain ⟨h0,h1,h2⟩:=h
 exact ⟨h0.grown hg h0.size fun k hk=>(hv.lt k hk).1,h1,(hg.block B (Array.getElem?_eq_some_iff.1 h2).1 (fun e=>owned_apart hv h2 hE e.symm)).trans h2⟩
structure MkAt (w:World) (V:Array Value) (ls:List (List Pn)) (k:Nat) (vl:Value) (bl:List Nat) (wr:World):Prop where
 len:bl.length=k
 own:wr.ownsRow w.heap.size 65 1 vl k (ptrs bl)
 at_:∀ j (h:j<ls.length),j<k→LAt wr 0 (bl.getD j 0) (bytesP (-1) ls[j]) ls[j]
 box:SBox w w.heap.size V wr
theorem MkAt.below {w wr w':World} {V:Array Value} {ls:List (List Pn)} {k:Nat} {vl:Value} {bl:List Nat} (h:MkAt w V ls k vl bl wr) (hb:Below wr.heap.size wr w'):MkAt w V ls k vl bl w':=
 ⟨h.len,owned_below h.own hb,fun j hj hjk=>(h.at_ j hj hjk).below hb,h.box.below hb⟩
theorem MkAt.push {w wr w5:World} {V:Array Value} {ls:List (List Pn)} {k:Nat} {vl v':Value} {bl:List Nat} (h:MkAt w V ls k vl bl wr) (hk:k<ls.length) {B:Nat} (hl:LAt wr 0 B (bytesP (-1) ls[k]) ls[k])
  (hown:w5.ownsRow w.heap.size 65 1 v' (k+1) (ptrs bl++[.pointer (some ⟨B,0,none⟩)])) (hg:wr.grownBy w5 vl.ownBlock):MkAt w V ls (k+1) v' (bl++[B]) w5:=by
 refine ⟨by rw [List.length_append,h.len];rfl,by simpa [ptrs] using hown,fun j hj hjk=> ?_,h.box.grown h.own (by decide) hg⟩
 have hgr:∀ {B:Nat} {bs:List UInt8} {l:List Po},LAt wr 0 B bs l→LAt w5 0 B bs l:=fun hh=>hh.grown h.own (by decide) (by decide) (by decide) hg
 by_cases e:j=k
 ·subst e
  have :(bl++[B]).getD j 0=B:=by rw [List.getD_eq_getElem?_getD,List.getElem?_append_right (by rw [h.len];exact Nat.le_refl _),h.len];simp
  rw [this]
  exact hgr hl
 ·have hjk':j<k:=by omega
  have :(bl++[B]).getD j 0=bl.getD j 0:=by rw [List.getD_eq_getElem?_getD,List.getElem?_append_left (by rw [h.len];exact hjk'),← List.getD_eq_getElem?_getD]
  rw [this]
  exact hgr (h.at_ j hj hjk')
def MkRel (w:World) (V:Array Value) (ls:List (List Pn)) (vl i:Value) (wr:World):Prop:=∃ (k:Nat) (bl:List Nat),k≤ls.length∧i= .int .i64 (k:Int)∧MkAt w V ls k vl bl wr
def MadeSeg (x:PartsP) (w:World) (e:Ending) (w':World):Prop:=∃ S,e= .returned (.tuple #[.pointer (some ⟨S,0,none⟩),.int .i64 0])∧SegAt w' S x∧w.heap.size≤S∧Below w.heap.size w w'
def NoSeg (w:World) (e:Ending) (w':World):Prop:=e= .returned (.tuple #[.pointer none,.int .i64 1])∧Below w.heap.size w w'
theorem info_listp:(Tryz.prog.info? 65).map (fun i=>(i.zero,i.size,i.bytes))=some (some (.pointer none),1,8):=by kernel_rfl
set_option maxHeartbeats 2000000 in
set_option maxRecDepth 100000 in
theorem seg_Make_no (A1 A2 A3 A4:Option Addr) (n1 c1 n2 c2 n3 c3 n4 c4:Nat) (x:PartsP) (w:World)
  (hx1:x.ids.length=n1) (hx2:x.seqs.length=n2) (hx3:x.keys.length=n3) (hx4:x.lists.length=n4) (hx:PAt w w.heap.size A1 A2 A3 A4 x) (fx:PFew x) (hk:n3≤1048576) (hm:mayPs x=false):
  Calls Tryz.prog 9 #[.agg #[.slice A1 n1 c1,.slice A2 n2 c2,.slice A3 n3 c3,.slice A4 n4 c4]] w (NoSeg w):=by
 obtain ⟨w1,hw1⟩:∃ w1,w1=w.alloc (.cells #[.slice A1 n1 c1,.slice A2 n2 c2,.slice A3 n3 c3,.slice A4 n4 c4] 34):=⟨_,rfl⟩
 have hb1:Below w.heap.size w w1:=by rw [hw1];exact (Below.refl _ w).alloc (Nat.le_refl _) _
 have hM:=seg_May A1 A2 A3 A4 n1 c1 n2 c2 n3 c3 n4 c4 x w1 hx1 hx2 hx3 hx4 (hx.later hb1) fx hk
 rw [hm] at hM
 have HM:=Lib.hid hM
 have HW1:=Lib.hid hw1
 have HB1:=Lib.hid hb1
 clear hM hw1 hb1 hx fx hx1 hx2 hx3 hx4 hk hm
 go_enter Tryz.func9,Tryz.ntmps9
 go_wp2_with (go_at_call 11;rw [show w.alloc _=w1 from HW1.out.symm];refine HM.out.mono ?_;rintro e w2 ⟨rfl,hb2⟩)
 go_ret2
 exact ⟨rfl,HB1.out.trans (hb2.mono HB1.out.size)⟩
end Go.Proofs.YtmoomnpbiifedaaGreat
namespace Go.Proofs.YtmoomnpbiifedaaGreat
open Go Go.RowKit
set_option linter.unusedVariables false
set_option maxHeartbeats 1000000 in
theorem is_nanS (s:ByteArray) (w:World):Calls Tryz.prog 157 #[.string s] w fun e w'=>e= .returned (.bool false)∧w=w':=by
 go_enter Tryz.func157,Tryz.ntmps157
 go_wp2
 go_ret
 exact ⟨by simp,rfl⟩
set_option maxHeartbeats 1000000 in
theorem cmp_compareS (x y:ByteArray) (w:World):Calls Tryz.prog 139 #[.string x,.string y] w fun e w'=>e= .returned (.int .i64 (cmpN x.data.toList y.data.toList))∧w=w':=by
 have e1:Op.bytesLess x.toList y.toList=decide (x.data.toList<y.data.toList):=by rw [Lib.toList_data,Lib.toList_data,less_of]
 have e2:(x.toList==y.toList)=decide (x.data.toList=y.data.toList):=by rw [Lib.toList_data,Lib.toList_data,Bool.eq_iff_iff];simp
 by_cases h1:x.data.toList<y.data.toList
 ·have hc:cmpN x.data.toList y.data.toList= -1:=by simp [cmpN,h1]
  rw [decide_eq_true h1] at e1
  rw [hc]
  clear e2 hc h1
  go_enter Tryz.func139,Tryz.ntmps139
  go_wp2_with (go_at_call 157;refine (is_nanS _ _).mono ?_;rintro e w' ⟨rfl,rfl⟩)
  go_ret
  exact ⟨rfl,rfl⟩
 ·rw [decide_eq_false h1] at e1
  by_cases h2:x.data.toList=y.data.toList
  ·have hc:cmpN x.data.toList y.data.toList=0:=by simp [cmpN,h2]
   rw [decide_eq_true h2] at e2
   rw [hc]
   clear hc h1 h2
   go_enter Tryz.func139,Tryz.ntmps139
   go_wp2_with (go_at_call 157;refine (is_nanS _ _).mono ?_;rintro e w' ⟨rfl,rfl⟩)
   go_ret
   exact ⟨rfl,rfl⟩
  ·have hc:cmpN x.data.toList y.data.toList=1:=by simp [cmpN,h1,h2]
   rw [decide_eq_false h2] at e2
   rw [hc]
   clear hc h1 h2
   go_enter Tryz.func139,Tryz.ntmps139
   go_wp2_with (go_at_call 157;refine (is_nanS _ _).mono ?_;rintro e w' ⟨rfl,rfl⟩)
   go_ret
   exact ⟨rfl,rfl⟩
end Go.Proofs.YtmoomnpbiifedaaGreat
