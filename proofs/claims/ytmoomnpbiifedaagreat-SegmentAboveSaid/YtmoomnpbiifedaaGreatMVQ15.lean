import Derived.Test.YtmoomnpbiifedaaGreatMVZz
import Derived.Test.YtmoomnpbiifedaaGreatMVQ14
import Derived.Test.YtmoomnpbiifedaaGreatMVQ13
import Derived.Deep.AppendLies
import Derived.Test.YtmoomnpbiifedaaGreatMVQ05
import Derived.Test.YtmoomnpbiifedaaGreatMVQ01
import Derived.Test.YtmoomnpbiifedaaGreatMVQ02
import Derived.Lib.SliceRun
import Derived.BigQuiet
import Derived.Deep.QuietTactic
import Derived.Deep.RegionHeld3
import Derived.Carry
import Derived.Test.YtmoomnpbiifedaaGreatMVQ08
import Derived.Shelf.SlicesE.Clone
import Derived.Test.YtmoomnpbiifedaaGreatProg
set_option linter.unusedVariables false
namespace Go.Proofs.YtmoomnpbiifedaaGreat
open Go Go.RowKit
attribute [local go_sem] Oper.semAt_some
def MadeList (l:List Po) (w:World) (e:Ending) (w':World):Prop:=∃ B,e= .returned (.tuple #[.pointer (some ⟨B,0,none⟩),.int .i64 0])∧LAt w' w.heap.size B (bytesP (-1) l) l∧Below w.heap.size w w'
theorem bytesP_pos {l:List Po} {x:Int} (h:l≠[]):0<(bytesP x l).length:=by
 cases l with
 |nil=>exact absurd rfl h
 |cons p r=>
  have :=putB_pos (p.1-(x+1)).toNat
  rw [bytesP,List.length_append]
  omega
def MakeI (w:World) (B:Nat) (A:Option Addr) (n c:Nat) (l:List Po) (pre:List Nat) (W:World):Prop:=
 (W.heap[B+1+1]?=some (.cells #[.slice A n c] 58 (0,0))∧W.heap[B+1+1+1]?=some (.cells #[.int .i64 8] 3 (0,0)))∧LAt W w.heap.size B (bytesP (-1) (l.take (8*pre.length))) (l.take (8*pre.length))∧W.heap[B+1]?=some (.cells #[.pointer (some ⟨B,0,none⟩)] 65 (0,0))∧Below w.heap.size w W
theorem LAt.moreBytes {w w0 w1:World} {base B:Nat} {bs cs:List UInt8} {l:List Po} {vb ve v':Value} {m:Nat} (hB:base≤B) (hv:w.heap[B]?=some (.cells #[vb,ve,.int .i64 (l.length:Int),.int .i64 (totalP l:Int)] 113 (0,0)))
  (ho:w.ownsRow base 5 1 vb bs.length (Lib.byteCells bs)) (he:w.ownsRow base 119 2 ve (blocksP l.length) (endsV l)) (hb:Below w.heap.size w w0) (hg:w0.grownBy w1 vb.ownBlock) (hm:cs.length=m)
  (hown:w1.ownsRow base 5 1 v' (bs.length+m) (Lib.byteCells bs++Lib.byteCells cs)):
  w1.heap[B]?=some (.cells #[vb,ve,.int .i64 (l.length:Int),.int .i64 (totalP l:Int)] 113 (0,0))∧LAt (w1.setCell ⟨B,0,none⟩ v') base B (bs++cs) l∧Mild base w (w1.setCell ⟨B,0,none⟩ v'):=by
 have hlt:B<w.heap.size:=(Array.getElem?_eq_some_iff.1 hv).1
 have hv0:=(hb.block B hlt).trans hv
 have he0:=owned_below he hb
 have ho0:=owned_below ho hb
 have hv1:w1.heap[B]?=some (.cells #[vb,ve,.int .i64 (l.length:Int),.int .i64 (totalP l:Int)] 113 (0,0)):=(hg.block B (by have :=hb.size;omega) (fun e=>owned_apart ho0 hv0 (by decide) e.symm)).trans hv0
 have he1:w1.ownsRow base 119 2 ve (blocksP l.length) (endsV l):=owned_keep he0 fun g hg'=>hg.block g (he0.lt g hg').2 fun e=>owned_apart2 ho0 he0 (by decide) hg' e.symm
 have hbw:base≤w.heap.size:=by omega
 refine ⟨hv1,⟨hB,v',ve,heap_setCell_same w1 B 0 _ _ _ hv1,owned_setCell (own_more hm hown) (owned_apart hown hv1 (by decide)) _,owned_setCell he1 (owned_apart he1 hv1 (by decide)) _⟩,?_⟩
 exact (Mild.of_below hb hbw).trans ((Mild.grownOwn ho0 (.inr (.inr rfl)) hg (by have :=hb.size;omega)).trans (Mild.setCell hv1 (.inl rfl) hB _))
theorem rises_len:∀ {ps:List Int} {x b:Int},risesZ x ps=true→(∀ y∈ps,y<b)→x<b→(ps.length:Int)<b-x
 |[],x,b,_,_,h=>by simp;omega
 |n::r,x,b,h,hb,hx=>by
  rw [risesZ,Bool.and_eq_true,decide_eq_true_iff] at h
  have :=rises_len (b:=b) h.2 (fun y hy=>hb y (List.mem_cons_of_mem _ hy)) (hb n (List.mem_cons_self ..))
  rw [List.length_cons]
  omega
theorem places_count {ps:List Int} (h:placesB ps=true):ps.length≤2147483648:=by
 have :=rises_len (b:=2147483648) (placesB_iff.1 h).1 (fun y hy=>(places_bd h y hy).2) (by omega)
 omega
theorem may_len:∀ {l:List Po} {last:Int},mayB' last l=true→∀ p∈l,p.2.length≤2147483648
 |[],_,_,p,hp=>by cases hp
 |q::r,last,h,p,hp=>by
  have h':=mayB'_cons.1 h
  rcases List.mem_cons.1 hp with rfl|hp
  ·exact places_count h'.2.2.1
  ·exact may_len h'.2.2.2 p hp
set_option maxHeartbeats 8000000 in
set_option maxRecDepth 100000 in
theorem posting_Make (A:Option Addr) (n c:Nat) (l:List Po) (w:World) (hn:l.length=n) (hc:n≤c) (hcx:c≤maxLen) (hn100:n≤1000000) (hpo:Posts w w.heap.size A l) (htp:totalP l≤40000000000) (hm:mayB' (-1) l=true):
  Calls Tryz.prog 24 #[.slice A n c] w (MadeList l w):=by
 obtain ⟨i0,hi0,hz0,hz1,hz2⟩:=info_parts info_byte
 refine (callsIn_wide (n:=6)).1 ?_
 have hpl:∀ p∈l,p.2.length≤2147483648:=may_len hm
 have my:=posting_May_any A n c l w hn (by omega) hpo (fun p hp=>by have :=hpl p hp;omega)
 rw [hm] at my
 have MY:=Lib.hid my
 have HPO:=Lib.hid hpo
 have HPL:=Lib.hid hpl
 have HM:=Lib.hid hm
 have HN:=Lib.hid hn
 have HTP:=Lib.hid htp
 clear my hpo hpl hm hn htp
 refine callsIn_of_wp_marks Tryz.func24 rfl trivial ?_ rfl
 simp only [Tryz.ntmps24,List.size_toArray,List.length_cons,List.length_nil,Nat.reduceAdd,Nat.reduceSub,Array.replicate_succ,Array.replicate_zero,List.push_toArray,List.append_toArray,List.nil_append,List.cons_append]
 gi_wp2_with (first
  |(refine ⟨trivial,?_⟩;gi_at_call 61;refine (callsIn_wide.2 MY.out).mono ?_;rintro e w1 ⟨rfl,hb1⟩)
  |(gi_at_call 61;refine (callsIn_wide.2 MY.out).mono ?_;rintro e w1 ⟨rfl,hb1⟩)
  |(refine ⟨trivial,?_⟩;gi_at_call 62;refine (callsIn_wide.2 (posting_Chunk A n c _)).mono ?_)
  |(gi_at_call 62;refine (callsIn_wide.2 (posting_Chunk A n c _)).mono ?_))
 rintro e w3 ⟨rfl,e1,e2,hb3,hz3⟩
 obtain ⟨B,hB⟩:∃ B,B=w1.heap.size:=⟨_,rfl⟩
 have hsz1:=hb1.size
 have hal:=((Below.refl w1.heap.size w1).alloc (Nat.le_refl _) (.cells #[.slice none 0 0,.slice none 0 0,.int .i64 0,.int .i64 0] 113)).alloc (by simp) (.cells #[.pointer (some ⟨w1.heap.size,0,none⟩)] 65)
 have hb13:Below w1.heap.size w1 w3:=hal.trans (hb3.mono (by simp;omega))
 have hb03:Below w.heap.size w w3:=hb1.trans (hb13.mono hsz1)
 have hlist:w3.heap[w1.heap.size]?=some (.cells #[.slice none 0 0,.slice none 0 0,.int .i64 0,.int .i64 0] 113 (0,0)):=
  (hb3.block _ (by simp;omega)).trans ((Below.heap_alloc _ _ _ (by simp)).trans (heap_alloc_new w1 _))
 have hbox:w3.heap[w1.heap.size+1]?=some (.cells #[.pointer (some ⟨w1.heap.size,0,none⟩)] 65 (0,0)):=by
  refine (hb3.block _ (by simp)).trans ?_
  have h1:=heap_alloc_new (w1.alloc (.cells #[.slice none 0 0,.slice none 0 0,.int .i64 0,.int .i64 0] 113)) (.cells #[.pointer (some ⟨w1.heap.size,0,none⟩)] 65)
  rwa [World.size_alloc] at h1
 simp only [World.size_alloc] at e1 e2 hz3
 rw [← hB] at e1 e2 hz3 hlist hbox
 rw [← hB] at hsz1
 have hlat:LAt w3 w.heap.size B [] []:=⟨hsz1,_,_,hlist,World.ownsRow_nil _ _ _ _,World.ownsRow_nil _ _ _ _⟩
 have hi0':MakeI w B A n c l [] w3:=⟨⟨e1,e2⟩,by simpa [bytesP] using hlat,hbox,hb03⟩
 obtain ⟨b,off,hA⟩:∃ b off,0<n→A=some ⟨b,off,none⟩:=by
  by_cases h0:0<n
  ·obtain ⟨b,off,e,_⟩:=HPO.out.at_ (k:=0) (by rw [HN.out];exact h0)
   exact ⟨b,off,fun _=>e⟩
  ·exact ⟨0,0,fun h=>absurd h h0⟩
 have HI0:=Lib.hid hi0'
 have HA:=Lib.hid hA
 have HZ3:=Lib.hid hz3
 have HE1:=Lib.hid e1
 have HE2:=Lib.hid e2
 have HBW:Hid (w.heap.size≤B):=Lib.hid hsz1
 clear hi0' hlat hA hz3 e1 e2 hlist hbox hb03 hb13 hal hb3
 gi_wp2
 rw [← hB]
 clear hB hb1 hsz1
 refine wpIn_range_told (by omega) (gf:=100) (lb:=#[.pointer (some ⟨B+1+1,0,none⟩),.pointer (some ⟨B+1+1+1,0,none⟩)]) rfl (enters_of Tryz.func100 (by kernel_rfl) rfl)
  (chunk_told 5 (B+1+1) (B+1+1+1) n c A b off (by omega) HA.out hc hcx (by omega) w3 HE1.out HE2.out) KpTwo.trans (fun W l o o' hl ho hc=>KpTwo.putObj W l o' (by have :=HZ3.out;omega) (by have :=HZ3.out;omega)) (fun _=>rfl)
  (MakeI w B A n c l) (fun s A' B' h hb=>⟨⟨(hb.block _ (lt_of_block h.1.1)).trans h.1.1,(hb.block _ (lt_of_block h.1.2)).trans h.1.2⟩,h.2.1.below hb,(hb.block _ (lt_of_block h.2.2.1)).trans h.2.2.1,h.2.2.2.trans (hb.mono h.2.2.2.size)⟩)
  (fun s=>((Firm.block (by have :=HZ3.out;omega) _).and (Firm.block (by have :=HZ3.out;omega) _)).and<|(Firm.lat _ _ _ _ _).and ((Firm.block (by have :=HZ3.out;omega) _).and (Firm.belowW (by have :=HZ3.out;have :=HBW.out;omega)))) (fun s x=>Firm.pure) HI0.out
  (fun k=>{tmps:=#[.slice A n c,undef,.pointer none,.int .i64 0,.pointer (some ⟨B+1,0,none⟩),chunkV b off n k,undef,.slice A n c,.bool true,.bool false,.agg #[.slice none 0 0,.slice none 0 0,.int .i64 0,.int .i64 0],.pointer (some ⟨B,0,none⟩),.slice A n c,
   .func (.func 100) #[] #[.pointer (some ⟨B+1+1,0,none⟩),.pointer (some ⟨B+1+1+1,0,none⟩)],chunkV b off n k,undef,undef,undef,undef,undef,undef,undef,undef,undef,undef,undef,undef,undef,undef,undef,undef,undef,undef,undef,undef,undef,undef,undef],defers:=[]}) ?assign ?body ?done
 case assign=>
  intro lp x W K' hK'
  gi_wp2
  exact hK'
 case body=>
  rintro lp pre x W ⟨⟨hd1,hd2⟩,hla,hbx,hbw⟩ ⟨rfl,hx⟩
  obtain ⟨k,hk⟩:∃ k,k=pre.length:=⟨_,rfl⟩
  rw [← hk] at hla hx
  rw [← hk]
  have hMI:∀ W',LAt W' w.heap.size B (bytesP (-1) (l.take (8*(k+1)))) (l.take (8*(k+1)))→W'.heap[B+1]?=some (.cells #[.pointer (some ⟨B,0,none⟩)] 65 (0,0))→Below w.heap.size w W'→Mild w.heap.size W W'→MakeI w B A n c l (pre++[k]) W'∧KpTwo (B+1+1) (B+1+1+1) W W':=fun W' h1 h2 h3 h4=>by
   have k1:=h4.keep _ _ hd1 (fun cs t fr e=>by cases e;unfold Turning;decide)
   have k2:=h4.keep _ _ hd2 (fun cs t fr e=>by cases e;unfold Turning;decide)
   refine ⟨?_,h4.below.size,fun _=>k1.trans hd1.symm,fun _=>k2.trans hd2.symm⟩
   unfold MakeI
   rw [List.length_append,List.length_singleton,← hk]
   exact ⟨⟨k1,k2⟩,h1,h2,h3⟩
  have hnk:8*k<n:=by unfold blocksP at hx;omega
  have hxl:k<blocksP l.length:=by rw [HN.out];exact hx
  have hqlen:=blockP_length (l:=l) k
  rw [HN.out] at hqlen
  have hcat:=blocks_all l k
  have hacl:(l.take (8*k)).length=8*k:=by rw [List.length_take,HN.out];omega
  have hmt:=HM.out
  rw [← List.take_append_drop (8*(k+1)) l,mayB'_append,Bool.and_eq_true,hcat,mayB'_append,Bool.and_eq_true] at hmt
  have hx0:=docOf_ge _ _ hmt.1.1
  have hmb:=hmt.1.2
  have hbpl:∀ p∈blockP l (k:Int),p.2.length≤2147483648:=fun p hp=>HPL.out p (by rw [blockP_nat] at hp;exact List.mem_of_mem_drop (List.mem_of_mem_take hp))
  have hapl:∀ p∈l.take (8*(k+1)),p.2.length≤2147483648:=fun p hp=>HPL.out p (List.mem_of_mem_take hp)
  have htot:totalP (l.take (8*(k+1)))≤40000000000:=Nat.le_trans (totalP_le_take _) HTP.out
  have hbys:(bytesP (-1) (l.take (8*(k+1)))).length≤400000000000:=by
   have h1:=bytesP_length (l.take (8*(k+1))) (-1) (by omega) (by rw [hcat,mayB'_append,hmt.1.1,hmb];rfl) (fun p hp=>by have :=hapl p hp;omega)
   have h3:(l.take (8*(k+1))).length≤1000000:=by rw [List.length_take,HN.out];omega
   omega
  have hbya:(bytesP (-1) (l.take (8*(k+1)))).length=(bytesP (-1) (l.take (8*k))).length+(bytesP (docOf (-1) (l.take (8*k))) (blockP l (k:Int))).length:=by rw [hcat,bytesP_append,List.length_append]
  have hA':=HA.out (by omega)
  obtain ⟨q,hq⟩:∃ q,q=min 8 (n-8*k):=⟨_,rfl⟩
  have hch:chunkV b off n k= .slice (some ⟨b,off+8*k*2,none⟩) q q:=by unfold chunkV;rw [← hq]
  rw [← hq] at hqlen
  have hq1:0<q∧q≤8:=by omega
  rw [hch]
  have hpos:Posts w w.heap.size (some ⟨b,off+8*k*2,none⟩) (blockP l (k:Int)):=by
   have h1:=HPO.out
   rw [hA'] at h1
   rw [blockP_nat]
   exact (h1.drop (8*k)).cut 8
  obtain ⟨acc,hacc⟩:∃ acc,acc=l.take (8*k):=⟨_,rfl⟩
  obtain ⟨blk,hblk⟩:∃ blk,blk=blockP l (k:Int):=⟨_,rfl⟩
  rw [← hacc,← hblk] at hcat
  rw [hcat] at hMI hbys htot hbya
  rw [← hacc] at hla hacl hx0 hmb hbya
  rw [← hblk] at hqlen hmb hbpl hbya hpos
  have hlast:=list_last w.heap.size B (bytesP (-1) acc) acc W hla (by omega)
  obtain ⟨x0,hx0e⟩:∃ x0,x0=docOf (-1) acc:=⟨_,rfl⟩
  rw [← hx0e] at hx0 hmb hbya hlast
  obtain ⟨a,hae⟩:∃ a,a=(bytesP (-1) acc).length:=⟨_,rfl⟩
  rw [← hae] at hbya hlast
  have hfld:=fun w1=>fld_doc x0 (a:Int) w1
  have hput:∀ W',Below W.heap.size W W'→Calls Tryz.prog 63 #[.slice (some ⟨b,off+8*k*2,none⟩) q q,.int .i64 x0] W' (GaveOwn W'.heap.size (bytesP x0 blk) W'):=fun W' hb=>
   posting_put_any _ q q blk x0 W' hqlen (by omega) ((hpos.below (hbw.trans (hb.mono hbw.size))).more (by have :=hbw.size;have :=hb.size;omega)) hx0 hmb hbpl (by omega)
  obtain ⟨bb,hbb⟩:∃ bb,bb=bytesP x0 blk:=⟨_,rfl⟩
  rw [← hbb] at hput hbya
  have hc1:=cell_of_one hbx
  have HLAST:=Lib.hid hlast
  have HPUT:=Lib.hid hput
  have HLA:=Lib.hid hla
  have HBX:=Lib.hid hbx
  have HW:=Lib.hid hbw
  have HPOS:=Lib.hid hpos
  have HMI:=Lib.hid hMI
  have HACL:=Lib.hid hacl
  have HQL:=Lib.hid hqlen
  have HBB:=Lib.hid hbb
  have HX0E:=Lib.hid hx0e
  have HAE:=Lib.hid hae
  have hBW0:∀ W',Below W.heap.size W W'→W'.cell? ⟨B+1,0,none⟩=some (.pointer (some ⟨B,0,none⟩)):=fun W' hb=>(hb.cell (p:=⟨B+1,0,none⟩) (lt_of_block HBX.out)).trans (cell_of_one HBX.out)
  have HC1:=Lib.hid hBW0
  clear hlast hput hla hbx hbw hpos hMI hacl hqlen hbb hx0e hae hacc hblk hcat hk hq hch hbpl hapl hmt hA' hxl hmb hBW0
  gi_wp2_with (first
   |(refine ⟨trivial,?_⟩;gi_at_call 64;refine (CallsIn.inRound lp (callsIn_wide.2 HLAST.out)).mono ?_;rintro e w5 ⟨rfl,hb5⟩;have HB5:=Lib.hid hb5;clear hb5)
   |(gi_at_call 64;refine (CallsIn.inRound lp (callsIn_wide.2 HLAST.out)).mono ?_;rintro e w5 ⟨rfl,hb5⟩;have HB5:=Lib.hid hb5;clear hb5)
   |(refine ⟨trivial,?_⟩;gi_at_call 63;refine (CallsIn.inRound lp (callsIn_wide.2 (HPUT.out _ HB5.out))).mono ?_)
   |(gi_at_call 63;refine (CallsIn.inRound lp (callsIn_wide.2 (HPUT.out _ HB5.out))).mono ?_))
  rintro e w6 ⟨v6,rfl,hown6,hb6⟩
  obtain ⟨A6,c6,rfl,hc6,hr6⟩:=hown6.row
  have hbbp:0<bb.length:=by rw [HBB.out];exact bytesP_pos (fun e=>by have :=HQL.out;rw [e] at this;simp at this;omega)
  obtain ⟨ba,oa,rfl,_,hca⟩:=hr6.at_ (by rw [Lib.byteCells_length];exact hbbp)
  have hb56:=HB5.out.trans (hb6.mono HB5.out.size)
  have hla6:=HLA.out.below hb56
  have hbase6:w.heap.size≤w6.heap.size:=by have :=hb56.size;have :=HW.out.size;omega
  have hpc6:=HC1.out w6 hb56
  have hbx6:=(hb56.block _ (lt_of_block HBX.out)).trans HBX.out
  obtain ⟨hB6,vb,ve,hv,ho,he⟩:=hla6
  rw [← HAE.out] at ho
  obtain ⟨M,hM⟩:∃ M,M=bb.length:=⟨_,rfl⟩
  rw [← hM] at hbya hbbp hc6
  rw [← hM]
  obtain ⟨g,cap,w7,hrun,hown7,hg7,_,_⟩:=run_append_lies (P:=Tryz.prog) w6.drew 86 86 w.heap.size 5 i0 _ 1 1 Tryz.underlying86 hi0 hz0 hz1 hz2 rfl (by omega) vb a (Lib.byteCells (bytesP (-1) acc)) ho ⟨ba,oa,none⟩ M c6 (Lib.byteCells bb) (by rw [Lib.byteCells_length,hM];omega) (fun j u hu=>by rw [Addr.add_lit];exact hca j u hu) (byteCells_oneCell _) hbbp (by unfold maxLen;omega) (by omega) hbase6 w6.heap.size rfl
  have ho':=ho
  rw [HAE.out] at ho' hown7
  obtain ⟨hv7,hla7,hmild7⟩:=LAt.moreBytes hB6 hv ho' he (Below.refl _ w6).drew hg7 hM.symm hown7
  obtain ⟨⟨cB0,cB1,cB2,cB3⟩,fB0,fB1,fB2,fB3⟩:=cell_four hv7
  have c6a:=(cell_four hv).1.1
  rw [← HAE.out] at hla7 hmild7
  have HLA7:=Lib.hid hla7
  have HM7:=Lib.hid (((Mild.of_below hb56 HW.out.size)).trans hmild7)
  have HMM:=Lib.hid hM
  have hbx8:=HM7.out.keep _ _ HBX.out (fun cs t fr e=>by cases e;unfold Turning;decide)
  have hS6:(w6.drew).cell? ⟨B+1,0,none⟩=some (.pointer (some ⟨B,0,none⟩)):=hpc6
  have hS7:w7.cell? ⟨B+1,0,none⟩=some (.pointer (some ⟨B,0,none⟩)):=by
   have h1:w7.heap[B+1]?=w6.drew.heap[B+1]?:=hg7.block (B+1) (lt_of_block (w:=w6) hbx6) (fun e=>owned_apart ho hbx6 (by decide) e.symm)
   exact cell_of_one (h1.trans hbx6)
  have hcl:Calls Tryz.prog 65 #[.pointer (some ⟨B,0,none⟩),.slice (some ⟨b,off+8*k*2,none⟩) q q,.int .i64 ((a+M:Nat):Int)] ((w7.setCell ⟨B,0,none⟩ (.slice (some ⟨g,0,none⟩) (a+M) cap)).drew) fun e w'=>(∃ v,e= .returned v)∧LAt w' w.heap.size B (bytesP (-1) acc++bb) (acc++blk)∧Mild w.heap.size ((w7.setCell ⟨B,0,none⟩ (.slice (some ⟨g,0,none⟩) (a+M) cap)).drew) w':=by
   obtain ⟨cs,h1,h2⟩:=HPOS.out
   have hbl8:=HW.out.trans HM7.out.below
   have hzz:a+M=(bytesP (-1) (acc++blk)).length:=by rw [hbya,HMM.out]
   exact list_close w.heap.size B _ acc blk k _ q q cs (a+M) _ (HLA7.out.below (Below.refl _ _).drew) HACL.out HQL.out (Nat.le_refl _) (by unfold maxLen;omega) (h1.imp fun _ _ _=>trivial) (RowM.of_row (h2.below (hbl8.trans (Below.refl _ _).drew)) (by have :=hbl8.size;simpa using this)) (by omega) (by omega) (by have :=HACL.out;omega) (by omega) hzz (by omega)
  have c7b:(w7.setCell ⟨B,0,none⟩ (.slice (some ⟨g,0,none⟩) (a+M) cap)).cell? ⟨B,0,none⟩=some (.slice (some ⟨g,0,none⟩) (a+M) cap):=(cell_four (heap_setCell_same w7 B 0 _ _ _ hv7)).1.1
  have HS6:=Lib.hid hS6
  have HS7:=Lib.hid hS7
  have HS8:Hid ((w7.setCell ⟨B,0,none⟩ (.slice (some ⟨g,0,none⟩) (a+M) cap)).cell? ⟨B+1,0,none⟩=some (.pointer (some ⟨B,0,none⟩))):=Lib.hid (cell_of_one hbx8)
  have HS9:Hid ((w7.setCell ⟨B,0,none⟩ (.slice (some ⟨g,0,none⟩) (a+M) cap)).drew.cell? ⟨B+1,0,none⟩=some (.pointer (some ⟨B,0,none⟩))):=Lib.hid (cell_of_one (w:=(w7.setCell ⟨B,0,none⟩ (.slice (some ⟨g,0,none⟩) (a+M) cap)).drew) hbx8)
  have HBX8:Hid ((w7.setCell ⟨B,0,none⟩ (.slice (some ⟨g,0,none⟩) (a+M) cap)).drew.heap[B+1]?=some (.cells #[.pointer (some ⟨B,0,none⟩)] 65 (0,0))):=Lib.hid hbx8
  have HCL:=Lib.hid hcl
  have HRUN:=Lib.hid hrun
  have C7B:=Lib.hid c7b
  clear hla7 hmild7 hown7 hg7 ho ho' he hv7 hca hr6 hown6 hb6 hM hB6 hrun hbx8 hS6 hS7 hcl c7b hbx6 hbya
  clear hc1 hpc6
  gi_wp2
  refine region_in_round (S:=fun w'=>w'.cell? ⟨B+1,0,none⟩=some (.pointer (some ⟨B,0,none⟩))) (by kernel_rfl) (by kernel_rfl) HS6.out (fun hHeld0=> ?_)
  refine wpAnyH_take (i:=0) (v:= .pointer (some ⟨B,0,none⟩)) rfl (by kernel_rfl) (by kernel_rfl) (by kernel_rfl) (fun _ _ _ h=>h) (Or.inl ⟨by rfl,fun wx hSw=>by go_simp⟩) (by assumption) ?_
  try simp only [Act.put,zA,zB,zD,zE,zF]
  refine wpAnyH_take (i:=1) (v:= .pointer (some ⟨B,0,none⟩)) rfl (by kernel_rfl) (by kernel_rfl) (by kernel_rfl) (fun _ _ _ h=>h) (Or.inl ⟨by rfl,fun wx hSw=>by go_simp⟩) (by assumption) ?_
  try simp only [Act.put,zA,zB,zC,zD,zE,zF]
  refine wpAnyH_take (i:=2) (v:= .pointer (some ⟨B,0,none⟩)) rfl (by kernel_rfl) (by kernel_rfl) (by kernel_rfl) (fun _ _ _ h=>h) (Or.inl ⟨by rfl,fun wx hSw=>by go_simp⟩) (by assumption) ?_
  try simp only [Act.put,zA,zB,zC,zD,zE,zF]
  refine wpAnyH_take (i:=3) (v:= .pointer (some ⟨B,0,none⟩)) rfl (by kernel_rfl) (by kernel_rfl) (by kernel_rfl) (fun _ _ _ h=>h) (Or.inl ⟨by rfl,fun wx hSw=>by go_simp⟩) (by assumption) ?_
  try simp only [Act.put,zA,zB,zC,zD,zE,zF]
  refine wpAnyH_take (i:=5) (v:= .slice (some ⟨ba,oa,none⟩) M c6) rfl (by kernel_rfl) (by kernel_rfl) (by kernel_rfl) (fun _ _ _ h=>h) (Or.inl ⟨by rfl,fun wx hSw=>by go_simp⟩) (by assumption) ?_
  try simp only [Act.put,zA,zB,zC,zD,zE,zF]
  refine wpAnyH_ready (rs:=[4]) (by kernel_rfl) (by simp) ?_
  refine AllReadyH.cons rfl (fun K hK=> ?_) AllReadyH.nil
  try simp only [zA,zB,zC]
  go_simp
  refine hK.out _ _ ?_ (fun hHeld1=> ?_)
  ·exact HS6.out
  clear hK K
  try simp only [Act.put,zA,zB,zC,zD,zE,zF]
  refine wpAnyH_ready (rs:=[6]) (by kernel_rfl) (by simp) ?_
  refine AllReadyH.cons rfl (fun K hK=> ?_) AllReadyH.nil
  try simp only [zA,zB,zC]
  refine step_append_known (a:=⟨_,_⟩) ?_ (.tmp 24) (.tmp 25) 86 ?_ vb (.slice (some ⟨ba,oa,none⟩) M c6) ?_ ?_ (.slice (some ⟨g,0,none⟩) (a+M) cap) w7 ?_ ?_
  ·rfl
  ·rfl
  ·rfl
  ·rfl
  ·exact HRUN.out
  refine hK.out _ _ HS7.out (fun hHeld2=> ?_)
  clear hK K
  try simp only [Act.put,zD,zE,zF]
  refine wpAnyH_take (i:=7) (v:= .pointer (some ⟨B,0,none⟩)) rfl (by kernel_rfl) (by kernel_rfl) (by kernel_rfl) (fun _ _ _ h=>h) (Or.inl ⟨by rfl,fun wx hSw=>by go_simp⟩) (by assumption) ?_
  try simp only [Act.put,zA,zB,zC,zD,zE,zF]
  refine wpAnyH_take (i:=8) (v:= .pointer (some ⟨B,0,none⟩)) rfl (by kernel_rfl) (by kernel_rfl) (by kernel_rfl) (fun _ _ _ h=>h) (Or.inl ⟨by rfl,fun wx hSw=>by go_simp⟩) (by assumption) ?_
  try simp only [Act.put,zA,zB,zC,zD,zE,zF]
  refine wpAnyH_ready (rs:=[9]) (by kernel_rfl) (by simp) ?_
  refine AllReadyH.cons rfl (fun K hK=> ?_) AllReadyH.nil
  try simp only [zA,zB,zC]
  go_simp
  refine hK.out _ _ ?_ (fun hHeld3=> ?_)
  ·exact HS8.out
  clear hK K
  try simp only [Act.put,zA,zB,zC,zD,zE,zF]
  refine wpAnyH_done (by kernel_rfl) ?_ _
  refine AtEnd.fin ?_
  gi_wp2
  have c7b:=C7B.out
  clear cB0 cB1 cB2 cB3 fB0 fB1 fB2 fB3 c6a
  refine region_in_round (S:=fun w'=>w'.cell? ⟨B+1,0,none⟩=some (.pointer (some ⟨B,0,none⟩))) (by kernel_rfl) (by kernel_rfl) HS9.out (fun hHeld0=> ?_)
  refine wpAnyH_take (i:=0) (v:= .pointer (some ⟨B,0,none⟩)) rfl (by kernel_rfl) (by kernel_rfl) (by kernel_rfl) (fun _ _ _ h=>h) (Or.inl ⟨by rfl,fun wx hSw=>by go_simp⟩) (by assumption) ?_
  try simp only [Act.put,zA,zB,zD,zE,zF]
  refine wpAnyH_take (i:=1) (v:= .slice (some ⟨b,off+8*k*2,none⟩) q q) rfl (by kernel_rfl) (by kernel_rfl) (by kernel_rfl) (fun _ _ _ h=>h) (Or.inl ⟨by rfl,fun wx hSw=>by go_simp⟩) (by assumption) ?_
  try simp only [Act.put,zA,zB,zC,zD,zE,zF]
  refine wpAnyH_take (i:=2) (v:= .pointer (some ⟨B,0,none⟩)) rfl (by kernel_rfl) (by kernel_rfl) (by kernel_rfl) (fun _ _ _ h=>h) (Or.inl ⟨by rfl,fun wx hSw=>by go_simp⟩) (by assumption) ?_
  try simp only [Act.put,zA,zB,zC,zD,zE,zF]
  refine wpAnyH_take (i:=3) (v:= .pointer (some ⟨B,0,none⟩)) rfl (by kernel_rfl) (by kernel_rfl) (by kernel_rfl) (fun _ _ _ h=>h) (Or.inl ⟨by rfl,fun wx hSw=>by go_simp⟩) (by assumption) ?_
  try simp only [Act.put,zA,zB,zC,zD,zE,zF]
  refine wpAnyH_take (i:=4) (v:= .pointer (some ⟨B,0,none⟩)) rfl (by kernel_rfl) (by kernel_rfl) (by kernel_rfl) (fun _ _ _ h=>h) (Or.inl ⟨by rfl,fun wx hSw=>by go_simp⟩) (by assumption) ?_
  try simp only [Act.put,zA,zB,zC,zD,zE,zF]
  refine wpAnyH_ready (rs:=[5]) (by kernel_rfl) (by simp) ?_
  refine AllReadyH.cons rfl (fun K hK=> ?_) AllReadyH.nil
  try simp only [zA,zB,zC]
  go_simp
  refine hK.out _ _ ?_ (fun hHeld1=> ?_)
  ·exact HS9.out
  clear hK K
  try simp only [Act.put,zA,zB,zC,zD,zE,zF]
  refine wpAnyH_take (i:=6) (v:= .int .i64 ((a+M:Nat):Int)) rfl (by kernel_rfl) (by kernel_rfl) (by kernel_rfl) (fun _ _ _ h=>h) (Or.inl ⟨by rfl,fun wx hSw=>by go_simp⟩) (by assumption) ?_
  try simp only [Act.put,zA,zB,zC,zD,zE,zF]
  refine wpAnyH_ready (rs:=[7]) (by kernel_rfl) (by simp) ?_
  refine AllReadyH.cons rfl (fun K hK=> ?_) AllReadyH.nil
  try simp only [zA,zB,zC]
  go_simp
  go_at_call 65
  refine HCL.out.mono ?_
  rintro e w9 ⟨⟨v9,rfl⟩,hla9,hmild9⟩
  have HS10:Hid (w9.cell? ⟨B+1,0,none⟩=some (.pointer (some ⟨B,0,none⟩))):=Lib.hid (cell_of_one (hmild9.keep _ _ HBX8.out (fun cs t fr e=>by cases e;unfold Turning;decide)))
  have HLA9:=Lib.hid hla9
  have HM9:=Lib.hid hmild9
  clear hla9 hmild9
  go_wp2_with fail
  refine hK.out _ _ ?_ (fun hHeld2=> ?_)
  ·exact HS10.out
  clear hK K
  try simp only [Act.put,zA,zB,zC,zD,zE,zF]
  refine wpAnyH_done (by kernel_rfl) ?_ _
  refine AtEnd.fin ?_
  gi_wp2
  have hm9:=HM7.out.trans ((Mild.of_below (Below.refl _ _).drew (by have :=(HW.out.trans HM7.out.below).size;omega)).trans HM9.out)
  have hla9:=HLA9.out
  rw [HBB.out,HX0E.out,← bytesP_append] at hla9
  obtain ⟨h1,h2⟩:=HMI.out _ hla9 (hm9.keep _ _ HBX.out (fun cs t fr e=>by cases e;unfold Turning;decide)) (HW.out.trans hm9.below) hm9
  exact ⟨hm9.keepsOthers,h2,h1⟩
 case done=>
  rintro D' ys W hD rfl ⟨_,hla,hbx,hbw⟩ hK'
  rw [List.length_range,← HN.out,take_blocks] at hla
  have hc1:=cell_of_one hbx
  have HLA:=Lib.hid hla
  have HBW2:=Lib.hid hbw
  clear hla hbx hbw
  gi_wp2
  refine ⟨by simp,.inl ⟨_,_,rfl,run_takeDeferred hK',?_⟩⟩
  refine ⟨_,results_tmp2 rfl _ _ _,?_⟩
  have hD2:w.heap.size≤D':=by have :=HZ3.out;have :=HBW.out;omega
  exact ⟨B,rfl,Firm.lat 0 _ _ _ _ W D' _ _ (Nat.zero_le _) hK' rfl HLA.out,Firm.belowW (N:=w.heap.size) (Nat.le_refl _) W D' _ _ hD2 hK' rfl HBW2.out⟩
end Go.Proofs.YtmoomnpbiifedaaGreat
set_option linter.unusedVariables false
namespace Go.Proofs.YtmoomnpbiifedaaGreat
open Go Go.RowKit
theorem LAt.low {w:World} {base b B:Nat} {bs:List UInt8} {l:List Po} (h:LAt w base B bs l) (hb:b≤base):LAt w b B bs l:=by
 obtain ⟨h1,vb,ve,h2,h3,h4⟩:=h
 exact ⟨by omega,vb,ve,h2,owned_low h3 hb,owned_low h4 hb⟩
theorem LAt.kinds {w w':World} {base B:Nat} {bs:List UInt8} {l:List Po} (h:LAt w base B bs l) (hk:∀ (k:Nat) (cs:Array Value) (t:TypeId) (fr:Nat × Nat),w.heap[k]?=some (.cells cs t fr)→t=113∨t=5∨t=119→w'.heap[k]?=some (.cells cs t fr)):LAt w' base B bs l:=by
 obtain ⟨h1,vb,ve,h2,h3,h4⟩:=h
 have key:∀ {E:TypeId} {size:Nat} {v:Value} {n:Nat} {xs:List Value},(E=113∨E=5∨E=119)→w.ownsRow base E size v n xs→w'.ownsRow base E size v n xs:=fun hE ho=>by
  refine owned_keep ho fun g hg=> ?_
  rcases ho.2 with ⟨rfl,_⟩|⟨g',cap,cur,rfl,_,hh,_⟩
  ·cases hg
  ·simp only [Value.ownBlock,Option.some.injEq] at hg
   subst hg
   rw [hk _ _ _ _ hh hE,hh]
 exact ⟨h1,vb,ve,hk _ _ _ _ h2 (.inl rfl),key (.inr (.inl rfl)) h3,key (.inr (.inr rfl)) h4⟩
theorem LAt.grown {w w':World} {base b B:Nat} {bs:List UInt8} {l:List Po} {E:TypeId} {size n:Nat} {v:Value} {xs:List Value} (h:LAt w base B bs l) (hv:w.ownsRow b E size v n xs) (h1:113≠E) (h2:5≠E) (h3:119≠E) (hg:w.grownBy w' v.ownBlock):LAt w' base B bs l:=
 h.kinds fun k cs t fr hk ht=>(hg.block k (Array.getElem?_eq_some_iff.1 hk).1 (fun e=>owned_apart hv hk (by rcases ht with rfl|rfl|rfl<;>assumption) e.symm)).trans hk
theorem SBox.grown {w wr w':World} {B:Nat} {V:Array Value} {E:TypeId} {size n:Nat} {v:Value} {xs:List Value} (h:SBox w B V wr) (hv:wr.ownsRow w.heap.size E size v n xs) (hE:34≠E) (hg:wr.grownBy w' v.ownBlock):SBox w B V w':=by
 obtain ⟨h0,h1,h2⟩:=h
 exact ⟨h0.grown hg h0.size fun k hk=>(hv.lt k hk).1,h1,(hg.block B (Array.getElem?_eq_some_iff.1 h2).1 (fun e=>owned_apart hv h2 hE e.symm)).trans h2⟩
structure MkAt (w:World) (V:Array Value) (ls:List (List Pn)) (k:Nat) (vl:Value) (bl:List Nat) (wr:World):Prop where
 len:bl.length=k
 own:wr.ownsRow w.heap.size 65 1 vl k (ptrs bl)
 at_:∀ j (h:j<ls.length),j<k→LAt wr 0 (bl.getD j 0) (bytesP (-1) ls[j]) ls[j]
 box:SBox w w.heap.size V wr
theorem MkAt.below {w wr w':World} {V:Array Value} {ls:List (List Pn)} {k:Nat} {vl:Value} {bl:List Nat} (h:MkAt w V ls k vl bl wr) (hb:Below wr.heap.size wr w'):MkAt w V ls k vl bl w':=
 ⟨h.len,owned_below h.own hb,fun j hj hjk=>(h.at_ j hj hjk).below hb,h.box.below hb⟩
theorem MkAt.push {w wr w5:World} {V:Array Value} {ls:List (List Pn)} {k:Nat} {vl v':Value} {bl:List Nat} (h:MkAt w V ls k vl bl wr) (hk:k<ls.length) {B:Nat} (hl:LAt wr 0 B (bytesP (-1) ls[k]) ls[k])
  (hown:w5.ownsRow w.heap.size 65 1 v' (k+1) (ptrs bl++[.pointer (some ⟨B,0,none⟩)])) (hg:wr.grownBy w5 vl.ownBlock):MkAt w V ls (k+1) v' (bl++[B]) w5:=by
 refine ⟨by rw [List.length_append,h.len];rfl,by simpa [ptrs] using hown,fun j hj hjk=> ?_,h.box.grown h.own (by decide) hg⟩
 have hgr:∀ {B:Nat} {bs:List UInt8} {l:List Po},LAt wr 0 B bs l→LAt w5 0 B bs l:=fun hh=>hh.grown h.own (by decide) (by decide) (by decide) hg
 by_cases e:j=k
 ·subst e
  have :(bl++[B]).getD j 0=B:=by rw [List.getD_eq_getElem?_getD,List.getElem?_append_right (by rw [h.len];exact Nat.le_refl _),h.len];simp
  rw [this]
  exact hgr hl
 ·have hjk':j<k:=by omega
  have :(bl++[B]).getD j 0=bl.getD j 0:=by rw [List.getD_eq_getElem?_getD,List.getElem?_append_left (by rw [h.len];exact hjk'),← List.getD_eq_getElem?_getD]
  rw [this]
  exact hgr (h.at_ j hj hjk')
def MkRel (w:World) (V:Array Value) (ls:List (List Pn)) (vl i:Value) (wr:World):Prop:=∃ (k:Nat) (bl:List Nat),k≤ls.length∧i= .int .i64 (k:Int)∧MkAt w V ls k vl bl wr
def MadeSeg (x:PartsP) (w:World) (e:Ending) (w':World):Prop:=∃ S,e= .returned (.tuple #[.pointer (some ⟨S,0,none⟩),.int .i64 0])∧SegAt w' S x∧w.heap.size≤S∧Below w.heap.size w w'
theorem info_listp:(Tryz.prog.info? 65).map (fun i=>(i.zero,i.size,i.bytes))=some (some (.pointer none),1,8):=by kernel_rfl
end Go.Proofs.YtmoomnpbiifedaaGreat
set_option linter.unusedVariables false
namespace Go.Proofs.YtmoomnpbiifedaaGreat
open Go Go.RowKit
def GaveIsO (l:List Int) (w:World) (e:Ending) (w':World):Prop:=∃ A c,e= .returned (.slice A l.length c)∧l.length≤c∧w'.ownsRow w.heap.size 3 1 (.slice A l.length c) l.length (ints l)∧Below w.heap.size w w'
def GaveIs (l:List Int) (w:World) (e:Ending) (w':World):Prop:=∃ A c,e= .returned (.slice A l.length c)∧l.length≤c∧Row w' w'.heap.size A (ints l)∧Below w.heap.size w w'
set_option maxHeartbeats 2000000 in
set_option maxRecDepth 100000 in
theorem clone_intsO (A:Option Addr) (m c:Nat) (ps:List Int) (w:World) (hn:ps.length=m) (hr:Row w w.heap.size A (ints ps)) (hl:m≤2147483648):
  Calls Tryz.prog 26 #[.slice A m c] w (GaveIsO ps w):=by
 obtain ⟨i0,hi0,hz0,hz1,hz2⟩:=info_parts info_int
 have qe:∀ (w:World) (a:Option Addr) (n c n' c':Nat),(binOp .eql 22 (.slice a n c) (.slice none n' c')).run Tryz.prog w= .ok (.bool a.isNone) w:=fun w a n c n' c'=>Lib.run_eql_slice_nil w _ _ a n c n' c' Tryz.underlying22
 subst hn
 cases A with
 |none=>
  obtain rfl:ps=[]:=by
   rcases Nat.eq_zero_or_pos ps.length with h0|h0
   ·exact List.eq_nil_of_length_eq_zero h0
   ·obtain ⟨_,_,e,_⟩:=hr.at_ (by simpa [ints] using h0)
    cases e
  clear hr
  go_enter Tryz.func26,Tryz.ntmps26
  go_wp2
  go_ret
  exact ⟨none,0,rfl,Nat.zero_le _,World.ownsRow_nil _ _ _ _,Below.refl _ _⟩
 |some ad=>
  have HR:=Lib.hid hr
  have hwl:(ints ps).length=ps.length:=by simp [ints]
  have HWL:=Lib.hid hwl
  clear hr hwl
  have hlit:(w.alloc (.cells #[] 3)).ownsRow w.heap.size 3 1 (.slice (some ⟨w.heap.size,0,none⟩) 0 0) 0 []:=World.ownsRow_made w #[] 0 (Nat.le_refl _) (Nat.zero_le _) rfl
  obtain ⟨m,hm⟩:∃ m,m=ps.length:=⟨_,rfl⟩
  rw [← hm] at HWL hl
  rw [← hm]
  have HM:=Lib.hid hm
  clear hm
  go_enter Tryz.func26,Tryz.ntmps26
  go_wp2_with (at_builtin;(refine wpList_append_row _ rfl (.tmp 5) (.tmp 6) 22 rfl w.heap.size 3 i0 _ 1 8 Tryz.underlying22 hi0 hz0 hz1 hz2 rfl (by decide) _ 0 [] rfl hlit _ _ m c (ints ps) rfl (by rw [HWL.out];omega) ((HR.out.below ((Below.refl _ w).alloc (Nat.le_refl _) (.cells #[] 3))).more (B':=(w.alloc (.cells #[] 3)).heap.size) (by simp)) (ints_oneCell' _) (by unfold maxLen;omega) (by omega) (by simp) ?_))
  intro v' w' hown hgrow
  obtain ⟨A',c',rfl,hc',_⟩:=owned_row hown
  go_wp2
  go_ret
  refine ⟨A',c',by rw [← HM.out];rfl,by rw [← HM.out];exact hc',by rw [← HM.out];simpa using hown,((Below.refl _ _).alloc (Nat.le_refl _) _).grown hgrow (by simp) (fun k hk=>by cases hk;exact Nat.le_refl _)⟩
theorem clone_ints10 (A:Option Addr) (m c:Nat) (ps:List Int) (w:World) (hn:ps.length=m) (hr:Row w w.heap.size A (ints ps)) (hl:m≤2147483648):
  Calls Tryz.prog 26 #[.slice A m c] w (GaveIs ps w):=
 (clone_intsO A m c ps w hn hr hl).mono fun _ _ ⟨A,c,h1,h2,h3,h4⟩=>⟨A,c,h1,h2,owned_row_of h3,h4⟩
end Go.Proofs.YtmoomnpbiifedaaGreat
set_option linter.unusedVariables false
namespace Go.Proofs.YtmoomnpbiifedaaGreat
open Go Go.RowKit
theorem seg_made {w w6:World} {x:PartsP} {A1 A2 A3:Option Addr} {n1 n2 n3 c1 c2 c3:Nat} {bl:List Nat} (e1:x.ids.length=n1) (e2:x.seqs.length=n2) (e3:x.keys.length=n3) (hb:Below w.heap.size w w6) (h1:Row w6 w6.heap.size A1 (ints x.ids)) (hc1:n1≤c1) (h2:Row w6 w6.heap.size A2 (ints x.seqs)) (hc2:n2≤c2)
  (h3:Row w6 w6.heap.size A3 (entP x.keys bl)) (hbl:bl.length=x.keys.length) (hc3:n3≤c3) (hx3:c3≤maxLen) (hA3:A3=none∧x.keys=[]∧c3=0∨∃ g,A3=some ⟨g,0,none⟩)
  (hl:∀ i (h:i<x.lists.length),LAt w6 0 (bl.getD i 0) (bytesP (-1) x.lists[i]) x.lists[i]) (hm:mayPs x=true) (hs:PSmall x):
  MadeSeg x w (.returned (.tuple #[.pointer (some ⟨w6.heap.size,0,none⟩),.int .i64 0])) (w6.alloc (.cells #[.slice A1 n1 c1,.slice A2 n2 c2,.slice A3 n3 c3] 76)):=by
 subst e1 e2 e3
 have hal:Below w6.heap.size w6 (w6.alloc (.cells #[.slice A1 x.ids.length c1,.slice A2 x.seqs.length c2,.slice A3 x.keys.length c3] 76)):=(Below.refl _ _).alloc (Nat.le_refl _) _
 have hblk:=heap_alloc_new w6 (.cells #[.slice A1 x.ids.length c1,.slice A2 x.seqs.length c2,.slice A3 x.keys.length c3] 76)
 refine ⟨_,rfl,⟨⟨A1,c1,A2,c2,A3,c3,hblk,hc1,hc2,Row.later h1 hal,Row.later h2 hal⟩,⟨bl,⟨by simp,hbl,A3,c3,(cells3 hblk).2.2,hc3,hx3,Row.later h3 hal,hA3⟩,fun i hi=>⟨0,(hl i hi).below hal⟩⟩,hm,hs⟩,hb.size,hb.trans (hal.mono hb.size)⟩
set_option maxHeartbeats 8000000 in
set_option maxRecDepth 100000 in
theorem seg_Make (A1 A2 A3 A4:Option Addr) (n1 c1 n2 c2 n3 c3 n4 c4:Nat) (x:PartsP) (w:World)
    (hx1:x.ids.length=n1) (hx2:x.seqs.length=n2) (hx3:x.keys.length=n3) (hx4:x.lists.length=n4) (hx:PAt w w.heap.size A1 A2 A3 A4 x) (fx:PFew x) (hs:PSmall x) (hm:mayPs x=true):
    Calls Tryz.prog 9 #[.agg #[.slice A1 n1 c1,.slice A2 n2 c2,.slice A3 n3 c3,.slice A4 n4 c4]] w (MadeSeg x w):=by
  obtain ⟨i0,hi0,hz0,hz1,hz2⟩:=info_parts info_listp
  obtain ⟨m12,m34,_,mk,ml⟩:=mayPs_iff.1 hm
  have hk:n3≤1048576:=hx3▸hs.keys
  have h43:n4=n3:=by omega
  have h21:n2=n1:=by omega
  subst h43 h21
  obtain ⟨V,hV⟩:∃ V:Array Value,V=#[.slice A1 n2 c1,.slice A2 n2 c2,.slice A3 n4 c3,.slice A4 n4 c4]:=⟨_,rfl⟩
  obtain ⟨w1,hw1⟩:∃ w1,w1=w.alloc (.cells #[.slice A1 n2 c1,.slice A2 n2 c2,.slice A3 n4 c3,.slice A4 n4 c4] 34):=⟨_,rfl⟩
  have hb1:Below w.heap.size w w1:=by rw [hw1];exact (Below.refl _ w).alloc (Nat.le_refl _) _
  have hM:=seg_May A1 A2 A3 A4 n2 c1 n2 c2 n4 c3 n4 c4 x w1 hx1 hx2 hx3 hx4 (hx.later hb1) fx hk
  rw [hm] at hM
  have HM:=Lib.hid hM
  have HB1:Hid (SBox w w.heap.size V w1):=Lib.hid (by rw [hw1,hV];exact sBox_start w _)
  have HW1:=Lib.hid hw1
  have HX:=Lib.hid hx
  have HV:=Lib.hid hV
  have H1:=Lib.hid hx1
  have H2:=Lib.hid hx2
  have H3:=Lib.hid hx3
  have H4:=Lib.hid hx4
  have HML:=Lib.hid ml
  have HMK:=Lib.hid mk
  have HMM:=Lib.hid hm
  have HS:=Lib.hid hs
  have hn2:n2≤1048576:=hx1▸hs.ids
  clear hM hw1 hb1 hx fx hx1 hx2 hx3 hx4 hm mk ml m12 m34 hV hs
  have QS:Hid (∀ wr,SBox w w.heap.size V wr→wr.cell? ⟨w.heap.size,0,none⟩=some (.slice A1 n2 c1)∧wr.cell? ⟨w.heap.size,1,none⟩=some (.slice A2 n2 c2)∧wr.cell? ⟨w.heap.size,2,none⟩=some (.slice A3 n4 c3)∧wr.cell? ⟨w.heap.size,3,none⟩=some (.slice A4 n4 c4)):=Lib.hid fun wr h=>by
    obtain ⟨_,_,h2⟩:=h
    rw [HV.out] at h2
    exact cells4 h2
  go_enter Tryz.func9,Tryz.ntmps9
  go_wp2_with (go_at_call 11; rw [show w.alloc _ = w1 from HW1.out.symm]; refine HM.out.mono ?_; rintro e w2 ⟨rfl, hb2⟩
               have HB2:Hid (SBox w w.heap.size V w2):=Lib.hid (HB1.out.below hb2)
               clear hb2
               obtain ⟨q0,q1,q2,q3⟩:=QS.out _ HB2.out
               obtain ⟨w3,hrun,hown3,hgrow3⟩:=run_make_own (P:=Tryz.prog) w2 w.heap.size 64 65 i0 _ 1 Tryz.underlying64 hi0 hz0 hz1 .i64 .i64 n4 (by rw [hz2];omega) (by unfold maxLen;omega) HB2.out.1.size
               have hb3:Below w2.heap.size w2 w3:=(Below.refl _ w2).grown hgrow3 (Nat.le_refl _) (fun k hk=>by cases hk)
               have HB3:Hid (SBox w w.heap.size V w3):=Lib.hid (HB2.out.below hb3)
               have HOWN3:=Lib.hid hown3
               clear hown3 hgrow3 hb3
               obtain ⟨p0,p1,p2,p3⟩:=QS.out _ HB3.out)
  clear hrun q0 q1 q2 q3
  go_loopw [4,21] (fun vl i wr=>MkRel w V x.lists vl i wr) (fun _ i _=>n4-(intOf i).toNat)
  case atStart=>exact ⟨0,[],Nat.zero_le _,rfl,rfl,HOWN3.out,fun j _ hj=>by omega,HB3.out⟩
  case round=>
    obtain ⟨k,bl,hk',rfl,hmk⟩:=hrel
    rw [H4.out] at hk'
    have hsz:=hmk.box.1.size
    by_cases hlt:k<n4
    · have hkl:k<x.lists.length:=by rw [H4.out];exact hlt
      obtain ⟨b1,o1,A',c',rfl,hb1,hc1,hl1,hp1⟩:=(HX.out.lists.below hmk.box.1).at_ hkl
      have f1:=HS.out.lists _ (List.getElem_mem hkl)
      have hk0:(0:Int)≤k:=by omega
      have hk1:(k:Int)<n4:=by omega
      have f2:=(mayL_may (HML.out _ (List.getElem_mem hkl))).1
      obtain ⟨L,hL⟩:∃ L,L=x.lists[k]:=⟨_,rfl⟩
      rw [← hL] at hc1 hl1 hp1 f1 f2
      obtain ⟨m,hm⟩:∃ m,m=L.length:=⟨_,rfl⟩
      rw [← hm] at hc1 hl1
      have HP:=Lib.hid (posting_Make A' m c' L wr hm.symm hl1.1 hl1.2 (by omega) (hp1.more hsz) f1.2 f2)
      have HMKA:=Lib.hid hmk
      have HKL:=Lib.hid hkl
      have HL:=Lib.hid hL
      clear hm f1 f2 hl1 hp1 hmk hL
      go_wp2_with (first
        | (go_at_call 24; refine HP.out.mono ?_; rintro e w5 ⟨B, rfl, hB, hb5⟩
           have HMK5:=Lib.hid (HMKA.out.below hb5)
           have HB5:=Lib.hid (hB.low (Nat.zero_le _))
           clear hB hb5)
        |(at_builtin;refine wpList_append_own _ rfl (.tmp 30) (.tmp 32) 64 rfl w.heap.size 65 i0 _ 1 8 Tryz.underlying64 hi0 hz0 hz1 hz2 rfl (by omega) _ k (ptrs bl) rfl (HMK5.out.own.alloc _) ⟨w5.heap.size,0,none⟩ 1 1 [.pointer (some ⟨B,0,none⟩)] rfl rfl (news_at w5 [.pointer (some ⟨B,0,none⟩)] 65) (by intro u hu;simp at hu;subst hu;rfl) (by unfold maxLen;omega) (by omega) (by have :=HMK5.out.box.1.size;simp;omega) ?_))
      intro v' w6 hown6 hgrow6 hz6
      clear hz6
      have hal5:Below w5.heap.size w5 (w5.alloc (.cells #[.pointer (some ⟨B,0,none⟩)] 65)):=(Below.refl _ _).alloc (Nat.le_refl _) _
      have hmk6:=(HMK5.out.below hal5).push HKL.out (B:=B) (by have :=HB5.out.below hal5;rwa [HL.out] at this) hown6 hgrow6
      have HMK6:=Lib.hid hmk6
      clear hal5 hmk6 hown6 hgrow6
      go_wp2
      go_roundw
      case rel=>exact ⟨k+1,_,by rw [H4.out];omega,by go_num,HMK6.out⟩
      case measure=>simp [intOf];omega
    · have hkn:k=n4:=by omega
      subst hkn
      have hown:=hmk.own
      obtain ⟨Al,cl,rfl,hcl,hrl⟩:=owned_row hown
      have HMKA:=Lib.hid hmk
      have hbl:=hmk.len
      have HBLL:Hid (bl.length=k):=Lib.hid hbl
      have HD:=Lib.hid (dictP_Make A3 Al k c3 cl x.keys bl wr ((HX.out.later hmk.box.1).keys) H3.out hk hrl hbl HMK.out)
      obtain ⟨q0,q1,q2,q3⟩:=QS.out _ hmk.box
      clear hmk hown hrl hbl
      go_wp2_with (go_at_call 25; refine HD.out.mono ?_; rintro e w5 ⟨D, rfl, hd, hb5⟩
                   have HMK5:=Lib.hid (HMKA.out.below hb5)
                   have HDR:=Lib.hid hd
                   clear hd hb5)
      obtain ⟨A5,c5,hd1,hd2,hd3,hd4,hd5⟩:=HDR.out.read
      rw [H3.out] at hd1 hd2
      have HD3:=Lib.hid hd3
      have HD4:=Lib.hid hd4
      have HD5:=Lib.hid hd5
      have hDl:D<w5.heap.size:=by obtain ⟨_,_,v,h,_⟩:=HDR.out;exact lt_of_block h
      have HKD:Hid (∀ w',Below w5.heap.size w5 w'→(w'.cell? ⟨w.heap.size,0,none⟩=some (.slice A1 n2 c1)∧w'.cell? ⟨w.heap.size,1,none⟩=some (.slice A2 n2 c2))∧w'.cell? ⟨D,0,none⟩=some (.slice A5 k c5)):=Lib.hid fun w' h=>by
        have hq:=QS.out _ (HMK5.out.box.below h)
        exact ⟨⟨hq.1,hq.2.1⟩,(h.cell (p:=⟨D,0,none⟩) hDl).trans hd1⟩
      have HC1:Hid (∀ w',Below w5.heap.size w5 w'→Calls Tryz.prog 26 #[.slice A1 n2 c1] w' (GaveIs x.ids w')):=Lib.hid fun w' h=>
        clone_ints10 A1 n2 c1 x.ids w' H1.out ((HX.out.later (HMK5.out.box.below h).1).ids) (by omega)
      have HC2:Hid (∀ w',Below w5.heap.size w5 w'→Calls Tryz.prog 26 #[.slice A2 n2 c2] w' (GaveIs x.seqs w')):=Lib.hid fun w' h=>
        clone_ints10 A2 n2 c2 x.seqs w' H2.out ((HX.out.later (HMK5.out.box.below h).1).seqs) (by omega)
      have HB0:Hid (Below w5.heap.size w5 w5.drew):=Lib.hid (Below.refl _ w5).drew
      have HFIN:Hid (∀ w8,Below w5.heap.size w5 w8→∀ B1 d1 B2 d2,Row w8 w8.heap.size B1 (ints x.ids)→n2≤d1→Row w8 w8.heap.size B2 (ints x.seqs)→n2≤d2→
          MadeSeg x w (.returned (.tuple #[.pointer (some ⟨w8.heap.size,0,none⟩),.int .i64 0])) (w8.alloc (.cells #[.slice B1 n2 d1,.slice B2 n2 d2,.slice A5 k c5] 76))):=Lib.hid fun w8 h B1 d1 B2 d2 r1 r2 r3 r4=>
        seg_made (bl:=bl) H1.out H2.out H3.out (HMK5.out.box.below h).1 r1 r2 r3 r4 (Row.later HD4.out h) (by rw [HBLL.out,H3.out]) hd2 HD3.out HD5.out (fun i hi=>(HMK5.out.at_ i hi (by have :=H4.out;omega)).below h) HMM.out HS.out
      clear hd1 hd3 hd4 hd5 hDl hd2
      go_region_held3 (fun w'=>(w'.cell? ⟨w.heap.size,0,none⟩=some (.slice A1 n2 c1)∧w'.cell? ⟨w.heap.size,1,none⟩=some (.slice A2 n2 c2))∧w'.cell? ⟨D,0,none⟩=some (.slice A5 k c5))
        (first|exact HKD.out _ HB0.out|exact HKD.out _ HB6.out|exact HKD.out _ HB7.out|exact HKD.out _ (HB7.out.alloc HB7.out.size _)|exact HKD.out _ HB8.out|exact HKD.out _ HB9.out|exact HKD.out _ (HB9.out.alloc HB9.out.size _))
        (first
          | (go_at_call 26; (with_reducible refine (HC1.out _ HB0.out).mono ?_); rintro e w6 ⟨B6, d6, rfl, hd6, hr6, hb6⟩
             have HB6:Hid (Below w5.heap.size w5 w6):=Lib.hid (HB0.out.trans hb6)
             have HR6:=Lib.hid hr6
             have HD6:=Lib.hid hd6
             clear hr6 hb6 hd6
             rw [H1.out])
          | (go_at_call 26; (with_reducible refine (HC2.out _ HB6.out).mono ?_); rintro e w7 ⟨B7, d7, rfl, hd7, hr7, hb7⟩
             have HB7:Hid (Below w5.heap.size w5 w7):=Lib.hid (HB6.out.trans (hb7.mono HB6.out.size))
             have HF:=Lib.hid (HFIN.out w7 HB7.out B6 d6 B7 d7 (Row.later HR6.out hb7) (H1.out▸HD6.out) hr7 (H2.out▸hd7))
             clear hr7 hb7 hd7
             rw [H2.out])
          | (go_at_call 26; (with_reducible refine (HC2.out _ HB0.out).mono ?_); rintro e w8 ⟨B8, d8, rfl, hd8, hr8, hb8⟩
             have HB8:Hid (Below w5.heap.size w5 w8):=Lib.hid (HB0.out.trans hb8)
             have HR8:=Lib.hid hr8
             have HD8:=Lib.hid hd8
             clear hr8 hb8 hd8
             rw [H2.out])
          | (go_at_call 26; (with_reducible refine (HC1.out _ HB8.out).mono ?_); rintro e w9 ⟨B9, d9, rfl, hd9, hr9, hb9⟩
             have HB9:Hid (Below w5.heap.size w5 w9):=Lib.hid (HB8.out.trans (hb9.mono HB8.out.size))
             have HF:=Lib.hid (HFIN.out w9 HB9.out B9 d9 B8 d8 hr9 (H1.out▸hd9) (Row.later HR8.out hb9) (H2.out▸HD8.out))
             clear hr9 hb9 hd9
             rw [H1.out]))
      all_goals
        go_wp2
        go_ret2
        exact HF.out
end Go.Proofs.YtmoomnpbiifedaaGreat
set_option linter.unusedVariables false
namespace Go.Proofs.YtmoomnpbiifedaaGreat
open Go Go.RowKit
def GotBuf (w:World) (e:Ending) (w':World):Prop:=∃ S B,e= .returned (.pointer (some ⟨B,0,none⟩))∧BufAt S w' B [] (-1)∧(∀ k,S k→w.heap.size≤k)∧Below w.heap.size w w'
theorem newB (w:World):BufAt (fun k=>k=w.heap.size∨k=w.heap.size+1) ((w.alloc (.map #[] 0)).alloc (.cells #[.slice none 0 0,.map (some w.heap.size),.int .i64 0,.int .i64 (-1)] 144)) (w.heap.size+1) [] (-1):=by
 refine ⟨.slice none 0 0,w.heap.size,0,[],?_,.inr rfl,OwnES.nil,⟨[],?_,.inl rfl,rfl,fun i e p h=>(by simp at h),fun i j e f k _ h=>(by simp at h)⟩,Stand.nil,fun q h=>(by cases h),by decide,fun h=>absurd rfl h,fun k h=>by simp;omega⟩
 ·simpa [weightE] using heap_alloc_new (w.alloc (.map #[] 0)) (.cells #[.slice none 0 0,.map (some w.heap.size),.int .i64 0,.int .i64 (-1)] 144)
 ·unfold MapK
  rw [Below.heap_alloc _ _ _ (by simp)]
  exact heap_alloc_new w _
theorem buf_New (w:World):Calls Tryz.prog 49 #[] w (GotBuf w):=by
 have HF:=Lib.hid (newB w)
 have HB:Hid (Below w.heap.size w ((w.alloc (.map #[] 0)).alloc (.cells #[.slice none 0 0,.map (some w.heap.size),.int .i64 0,.int .i64 (-1)] 144))):=Lib.hid (((Below.refl _ _).alloc (Nat.le_refl _) _).alloc (by simp) _)
 have hmm:=@run_makeMap Tryz.prog
 go_enter Tryz.func49,Tryz.ntmps49
 go_wp2
 go_ret
 exact ⟨_,_,rfl,HF.out,fun k h=>by omega,HB.out⟩
end Go.Proofs.YtmoomnpbiifedaaGreat
set_option linter.unusedVariables false
namespace Go.Proofs.YtmoomnpbiifedaaGreat
open Go Go.RowKit
theorem owned_set {w:World} {base:Nat} {e:TypeId} {size g n cap k:Nat} {xs:List Value} {u:Value} (h:w.ownsRow base e size (.slice (some ⟨g,0,none⟩) n cap) n xs):(w.setCell ⟨g,k,none⟩ u).ownsRow base e size (.slice (some ⟨g,0,none⟩) n cap) n (xs.set k u):=by
 refine ⟨by rw [List.length_set];exact h.1,?_⟩
 rcases h.2 with ⟨hv,_⟩|⟨g',cap',cur,hv,hg,hh,h1,h2,h3,h4⟩
 ·cases hv
 ·cases hv
  refine .inr ⟨g,cap,cur.setIfInBounds k u,rfl,hg,set_at hh,h1,h2,by simpa using h3,?_⟩
  rw [← h4,Array.toList_setIfInBounds,List.take_set]
theorem owned_free {w:World} {base:Nat} {e:TypeId} {size g n cap k:Nat} {xs:List Value} (h:w.ownsRow base e size (.slice (some ⟨g,0,none⟩) n cap) n xs) (hk:k<n*size):(∃ u,w.cell? ⟨g,k,none⟩=some u)∧w.frozen? ⟨g,k,none⟩=false:=by
 rcases h.2 with ⟨hv,_⟩|⟨g',cap',cur,hv,hg,hh,h1,h2,h3,h4⟩
 ·cases hv
 ·cases hv
  have hkc:k<cur.size:=by
   rw [h3]
   exact Nat.lt_of_lt_of_le hk (Nat.mul_le_mul_right _ h1)
  exact ⟨⟨cur[k],by simp [World.cell?,hh,hkc]⟩,by simp [World.frozen?,hh]⟩
structure PRow (old new:Option Addr→List Value→Prop) (l:List Pn) (j:Nat) (cs:List Value):Prop where
 len:cs.length=l.length*2
 each:∀ i (h:i<l.length),cs[i*2]?=some (.int .i64 l[i].1)∧∃ A c,cs[i*2+1]?=some (.slice A l[i].2.length c)∧l[i].2.length≤c∧c≤maxLen∧(i<j→new A (ints l[i].2))∧(j≤i→old A (ints l[i].2))
section
variable {old new old' new':Option Addr→List Value→Prop} {l:List Pn} {j:Nat} {cs:List Value}
theorem PRow.of (h:PoCells old l cs):PRow old new l 0 cs:=⟨h.len,fun i hi=>by
 obtain ⟨h1,A,c,h2,h3,h4,h5⟩:=h.at_ hi
 have e:l.getD i (0,[])=l[i]:=by simp [hi]
 rw [e] at h1 h2 h3 h5
 exact ⟨h1,A,c,h2,h3,h4,fun h=>by omega,fun _=>h5⟩⟩
theorem PRow.imp (h:PRow old new l j cs) (ho:∀ A xs,old A xs→old' A xs) (hn:∀ A xs,new A xs→new' A xs):PRow old' new' l j cs:=⟨h.len,fun i hi=>by
 obtain ⟨h1,A,c,h2,h3,h4,h5,h6⟩:=h.each i hi
 exact ⟨h1,A,c,h2,h3,h4,fun h=>hn _ _ (h5 h),fun h=>ho _ _ (h6 h)⟩⟩
theorem PRow.put (h:PRow old new l j cs) (hj:j<l.length) {A:Option Addr} {c:Nat} (hc:l[j].2.length≤c∧c≤maxLen) (hn:new A (ints l[j].2)):PRow old new l (j+1) (cs.set (j*2+1) (.slice A l[j].2.length c)):=⟨by rw [List.length_set];exact h.len,fun i hi=>by
 have hl:=h.len
 obtain ⟨h1,A',c',h2,h3,h4,h5,h6⟩:=h.each i hi
 rw [List.getElem?_set_ne (by omega)]
 by_cases hij:i=j
 ·subst hij
  exact ⟨h1,A,c,List.getElem?_set_self (by omega),hc.1,hc.2,fun _=>hn,fun h=>by omega⟩
 ·rw [List.getElem?_set_ne (by omega)]
  exact ⟨h1,A',c',h2,h3,h4,fun h=>h5 (by omega),fun h=>h6 (by omega)⟩⟩
theorem poCells_of:∀ {l:List Pn} {cs:List Value},cs.length=l.length*2→(∀ i (h:i<l.length),cs[i*2]?=some (.int .i64 l[i].1)∧∃ A c,cs[i*2+1]?=some (.slice A l[i].2.length c)∧l[i].2.length≤c∧c≤maxLen∧new A (ints l[i].2))→PoCells new l cs
 |[],cs,hl,h=>List.eq_nil_of_length_eq_zero (by simpa using hl)
 |q::l,cs,hl,h=>by
  rcases cs with _|⟨a,_|⟨b,cs⟩⟩
  ·simp at hl
  ·simp at hl;omega
  ·obtain ⟨h1,A,c,h2,h3,h4,h5⟩:=h 0 (by simp)
   simp at h1 h2
   subst h1 h2
   refine ⟨A,c,cs,rfl,h3,h4,h5,poCells_of (by simp at hl;omega) fun i hi=> ?_⟩
   have :=h (i+1) (by simpa using hi)
   rw [show (i+1)*2=i*2+1+1 by omega] at this
   simpa using this
theorem PRow.all (h:PRow old new l l.length cs):PoCells new l cs:=poCells_of h.len fun i hi=>by
 obtain ⟨h1,A,c,h2,h3,h4,h5,h6⟩:=h.each i hi
 exact ⟨h1,A,c,h2,h3,h4,h5 hi⟩
end
section
variable {old new old' new':Option Addr→List Value→Prop} {l:List En} {j:Nat} {cs:List Value}
end
end Go.Proofs.YtmoomnpbiifedaaGreat
set_option linter.unusedVariables false
namespace Go.Proofs.YtmoomnpbiifedaaGreat
open Go.Shelf Go.RowKit
def layClonePo_ren:Go.Shelf.Ren:=⟨fun |41=>91|n=>n,fun |4=>4|22=>58|23=>63|n=>n,fun |n=>n⟩
theorem layClonePo:SlLaysE0.n41 Tryz.prog layClonePo_ren:={
 mixed:=by kernel_rfl
 f41:=⟨Tryz.f91.name,by kernel_rfl,Tryz.func91.trans (congrArg some (by kernel_rfl))⟩
 t4:=Tryz.underlying4
 a4:=Tryz.isAgg4
 z4:=Tryz.sizeOf4
 v4:=Tryz.zeroValue4
 t22:=Tryz.underlying58
 a22:=Tryz.isAgg58
 z22:=Tryz.sizeOf58
 v22:=Tryz.zeroValue58}
def layCloneI_ren:Go.Shelf.Ren:=⟨fun |41=>26|n=>n,fun |4=>4|22=>22|23=>3|n=>n,fun |n=>n⟩
theorem layCloneI:SlLaysE0.n41 Tryz.prog layCloneI_ren:={
 mixed:=by kernel_rfl
 f41:=⟨Tryz.f26.name,by kernel_rfl,Tryz.func26.trans (congrArg some (by kernel_rfl))⟩
 t4:=Tryz.underlying4
 a4:=Tryz.isAgg4
 z4:=Tryz.sizeOf4
 v4:=Tryz.zeroValue4
 t22:=Tryz.underlying22
 a22:=Tryz.isAgg22
 z22:=Tryz.sizeOf22
 v22:=Tryz.zeroValue22}
end Go.Proofs.YtmoomnpbiifedaaGreat
