import Derived.Test.YtldcadpemnpbmaaGreatDoorMLZz
import Derived.Test.YtldcadpemnpbmaaGreatDoorMLQ18
import Derived.Test.YtldcadpemnpbmaaGreatDoorMLQ17
import Derived.Deep.AppendLies
import Derived.Shelf.SlSorted.Search
import Derived.Test.YtldcadpemnpbmaaGreatDoorMLQ04
import Derived.BigCall
import Derived.BigQuiet
import Derived.Deep.QuietTactic
import Derived.Test.YtldcadpemnpbmaaGreatDoorMLQ06
import Derived.Deep.RegionHeld3
import Derived.Deep.RegionLaw
import Derived.StillTailTactics
import Derived.Test.YtldcadpemnpbmaaGreatDoorMLQ14
import Derived.Test.YtldcadpemnpbmaaGreatDoorMLQ09
import Derived.Test.YtldcadpemnpbmaaGreatDoorMLQ12
import Derived.OneCell
import Derived.Test.YtldcadpemnpbmaaGreatDoorMLQ11
import Derived.Test.YtldcadpemnpbmaaGreatDoorMLQ07
import Derived.Test.YtldcadpemnpbmaaGreatDoorMLQ03
import Derived.Laws.Rows
set_option linter.unusedVariables false
namespace Go.Proofs.YtldcadpemnpbmaaGreatDoor
open Go Go.RowKit
attribute [local go_sem] Oper.semAt_some
def MadeList (l:List Po) (w:World) (e:Ending) (w':World):Prop:=∃ B,e= .returned (.tuple #[.pointer (some ⟨B,0,none⟩),.int .i64 0])∧LAt w' w.heap.size B (bytesP (-1) l) l∧Below w.heap.size w w'
theorem bytesP_pos {l:List Po} {x:Int} (h:l≠[]):0<(bytesP x l).length:=by
 cases l with
 |nil=>exact absurd rfl h
 |cons p r=>
  have :=putB_pos (p.1-(x+1)).toNat
  rw [bytesP,List.length_append]
  omega
def MakeI (w:World) (B:Nat) (A:Option Addr) (n c:Nat) (l:List Po) (pre:List Nat) (W:World):Prop:=
 (W.heap[B+1+1]?=some (.cells #[.slice A n c] 94 (0,0))∧W.heap[B+1+1+1]?=some (.cells #[.int .i64 8] 3 (0,0)))∧LAt W w.heap.size B (bytesP (-1) (l.take (8*pre.length))) (l.take (8*pre.length))∧W.heap[B+1]?=some (.cells #[.pointer (some ⟨B,0,none⟩)] 157 (0,0))∧Below w.heap.size w W
theorem LAt.moreBytes {w w0 w1:World} {base B:Nat} {bs cs:List UInt8} {l:List Po} {vb ve v':Value} {m:Nat} (hB:base≤B) (hv:w.heap[B]?=some (.cells #[vb,ve,.int .i64 (l.length:Int),.int .i64 (totalP l:Int)] 234 (0,0)))
  (ho:w.ownsRow base 5 1 vb bs.length (Lib.byteCells bs)) (he:w.ownsRow base 240 2 ve (blocksP l.length) (endsV l)) (hb:Below w.heap.size w w0) (hg:w0.grownBy w1 vb.ownBlock) (hm:cs.length=m)
  (hown:w1.ownsRow base 5 1 v' (bs.length+m) (Lib.byteCells bs++Lib.byteCells cs)):
  w1.heap[B]?=some (.cells #[vb,ve,.int .i64 (l.length:Int),.int .i64 (totalP l:Int)] 234 (0,0))∧LAt (w1.setCell ⟨B,0,none⟩ v') base B (bs++cs) l∧Mild base w (w1.setCell ⟨B,0,none⟩ v'):=by
 have hlt:B<w.heap.size:=(Array.getElem?_eq_some_iff.1 hv).1
 have hv0:=(hb.block B hlt).trans hv
 have he0:=owned_below he hb
 have ho0:=owned_below ho hb
 have hv1:w1.heap[B]?=some (.cells #[vb,ve,.int .i64 (l.length:Int),.int .i64 (totalP l:Int)] 234 (0,0)):=(hg.block B (by have :=hb.size;omega) (fun e=>owned_apart ho0 hv0 (by decide) e.symm)).trans hv0
 have he1:w1.ownsRow base 240 2 ve (blocksP l.length) (endsV l):=owned_keep he0 fun g hg'=>hg.block g (he0.lt g hg').2 fun e=>owned_apart2 ho0 he0 (by decide) hg' e.symm
 have hbw:base≤w.heap.size:=by omega
 refine ⟨hv1,⟨hB,v',ve,heap_setCell_same w1 B 0 _ _ _ hv1,owned_setCell (own_more hm hown) (owned_apart hown hv1 (by decide)) _,owned_setCell he1 (owned_apart he1 hv1 (by decide)) _⟩,?_⟩
 exact (Mild.of_below hb hbw).trans ((Mild.grownOwn ho0 (.inr (.inr rfl)) hg (by have :=hb.size;omega)).trans (Mild.setCell hv1 (.inl rfl) hB _))
theorem rises_len:∀ {ps:List Int} {x b:Int},risesZ x ps=true→(∀ y∈ps,y<b)→x<b→(ps.length:Int)<b-x
 |[],x,b,_,_,h=>by simp;omega
 |n::r,x,b,h,hb,hx=>by
  rw [risesZ,Bool.and_eq_true,decide_eq_true_iff] at h
  have :=rises_len (b:=b) h.2 (fun y hy=>hb y (List.mem_cons_of_mem _ hy)) (hb n (List.mem_cons_self ..))
  rw [List.length_cons]
  omega
theorem places_count {ps:List Int} (h:placesB ps=true):ps.length≤2147483648:=by
 have :=rises_len (b:=2147483648) (placesB_iff.1 h).1 (fun y hy=>(places_bd h y hy).2) (by omega)
 omega
theorem may_len:∀ {l:List Po} {last:Int},mayB' last l=true→∀ p∈l,p.2.length≤2147483648
 |[],_,_,p,hp=>by cases hp
 |q::r,last,h,p,hp=>by
  have h':=mayB'_cons.1 h
  rcases List.mem_cons.1 hp with rfl|hp
  ·exact places_count h'.2.2.1
  ·exact may_len h'.2.2.2 p hp
set_option maxHeartbeats 8000000 in
set_option maxRecDepth 100000 in
theorem posting_Make (A:Option Addr) (n c:Nat) (l:List Po) (w:World) (hn:l.length=n) (hc:n≤c) (hcx:c≤maxLen) (hn100:n≤1000000) (hpo:Posts w w.heap.size A l) (htp:totalP l≤40000000000) (hm:mayB' (-1) l=true):
  Calls Tryz.prog 101 #[.slice A n c] w (MadeList l w):=by
 obtain ⟨i0,hi0,hz0,hz1,hz2⟩:=info_parts info_byte
 refine (callsIn_wide (n:=6)).1 ?_
 have hpl:∀ p∈l,p.2.length≤2147483648:=may_len hm
 have my:=posting_May_any A n c l w hn (by omega) hpo (fun p hp=>by have :=hpl p hp;omega)
 rw [hm] at my
 have MY:=Lib.hid my
 have HPO:=Lib.hid hpo
 have HPL:=Lib.hid hpl
 have HM:=Lib.hid hm
 have HN:=Lib.hid hn
 have HTP:=Lib.hid htp
 clear my hpo hpl hm hn htp
 refine callsIn_of_wp_marks Tryz.func101 rfl trivial ?_ rfl
 simp only [Tryz.ntmps101,List.size_toArray,List.length_cons,List.length_nil,Nat.reduceAdd,Nat.reduceSub,Array.replicate_succ,Array.replicate_zero,List.push_toArray,List.append_toArray,List.nil_append,List.cons_append]
 gi_wp2_with (first
  |(refine ⟨trivial,?_⟩;gi_at_call 174;refine (callsIn_wide.2 MY.out).mono ?_;rintro e w1 ⟨rfl,hb1⟩)
  |(gi_at_call 174;refine (callsIn_wide.2 MY.out).mono ?_;rintro e w1 ⟨rfl,hb1⟩)
  |(refine ⟨trivial,?_⟩;gi_at_call 175;refine (callsIn_wide.2 (posting_Chunk A n c _)).mono ?_)
  |(gi_at_call 175;refine (callsIn_wide.2 (posting_Chunk A n c _)).mono ?_))
 rintro e w3 ⟨rfl,e1,e2,hb3,hz3⟩
 obtain ⟨B,hB⟩:∃ B,B=w1.heap.size:=⟨_,rfl⟩
 have hsz1:=hb1.size
 have hal:=((Below.refl w1.heap.size w1).alloc (Nat.le_refl _) (.cells #[.slice none 0 0,.slice none 0 0,.int .i64 0,.int .i64 0] 234)).alloc (by simp) (.cells #[.pointer (some ⟨w1.heap.size,0,none⟩)] 157)
 have hb13:Below w1.heap.size w1 w3:=hal.trans (hb3.mono (by simp;omega))
 have hb03:Below w.heap.size w w3:=hb1.trans (hb13.mono hsz1)
 have hlist:w3.heap[w1.heap.size]?=some (.cells #[.slice none 0 0,.slice none 0 0,.int .i64 0,.int .i64 0] 234 (0,0)):=
  (hb3.block _ (by simp;omega)).trans ((Below.heap_alloc _ _ _ (by simp)).trans (heap_alloc_new w1 _))
 have hbox:w3.heap[w1.heap.size+1]?=some (.cells #[.pointer (some ⟨w1.heap.size,0,none⟩)] 157 (0,0)):=by
  refine (hb3.block _ (by simp)).trans ?_
  have h1:=heap_alloc_new (w1.alloc (.cells #[.slice none 0 0,.slice none 0 0,.int .i64 0,.int .i64 0] 234)) (.cells #[.pointer (some ⟨w1.heap.size,0,none⟩)] 157)
  rwa [World.size_alloc] at h1
 simp only [World.size_alloc] at e1 e2 hz3
 rw [← hB] at e1 e2 hz3 hlist hbox
 rw [← hB] at hsz1
 have hlat:LAt w3 w.heap.size B [] []:=⟨hsz1,_,_,hlist,World.ownsRow_nil _ _ _ _,World.ownsRow_nil _ _ _ _⟩
 have hi0':MakeI w B A n c l [] w3:=⟨⟨e1,e2⟩,by simpa [bytesP] using hlat,hbox,hb03⟩
 obtain ⟨b,off,hA⟩:∃ b off,0<n→A=some ⟨b,off,none⟩:=by
  by_cases h0:0<n
  ·obtain ⟨b,off,e,_⟩:=HPO.out.at_ (k:=0) (by rw [HN.out];exact h0)
   exact ⟨b,off,fun _=>e⟩
  ·exact ⟨0,0,fun h=>absurd h h0⟩
 have HI0:=Lib.hid hi0'
 have HA:=Lib.hid hA
 have HZ3:=Lib.hid hz3
 have HE1:=Lib.hid e1
 have HE2:=Lib.hid e2
 have HBW:Hid (w.heap.size≤B):=Lib.hid hsz1
 clear hi0' hlat hA hz3 e1 e2 hlist hbox hb03 hb13 hal hb3
 gi_wp2
 rw [← hB]
 clear hB hb1 hsz1
 refine wpIn_range_told (by omega) (gf:=227) (lb:=#[.pointer (some ⟨B+1+1,0,none⟩),.pointer (some ⟨B+1+1+1,0,none⟩)]) rfl (enters_of Tryz.func227 (by kernel_rfl) rfl)
  (chunk_told 5 (B+1+1) (B+1+1+1) n c A b off (by omega) HA.out hc hcx (by omega) w3 HE1.out HE2.out) KpTwo.trans (fun W l o o' hl ho hc=>KpTwo.putObj W l o' (by have :=HZ3.out;omega) (by have :=HZ3.out;omega)) (fun _=>rfl)
  (MakeI w B A n c l) (fun s A' B' h hb=>⟨⟨(hb.block _ (lt_of_block h.1.1)).trans h.1.1,(hb.block _ (lt_of_block h.1.2)).trans h.1.2⟩,h.2.1.below hb,(hb.block _ (lt_of_block h.2.2.1)).trans h.2.2.1,h.2.2.2.trans (hb.mono h.2.2.2.size)⟩)
  (fun s=>((Firm.block (by have :=HZ3.out;omega) _).and (Firm.block (by have :=HZ3.out;omega) _)).and<|(Firm.lat _ _ _ _ _).and ((Firm.block (by have :=HZ3.out;omega) _).and (Firm.belowW (by have :=HZ3.out;have :=HBW.out;omega)))) (fun s x=>Firm.pure) HI0.out
  (fun k=>{tmps:=#[.slice A n c,undef,.pointer none,.int .i64 0,.pointer (some ⟨B+1,0,none⟩),chunkV b off n k,undef,.slice A n c,.bool true,.bool false,.agg #[.slice none 0 0,.slice none 0 0,.int .i64 0,.int .i64 0],.pointer (some ⟨B,0,none⟩),.slice A n c,
   .func (.func 227) #[] #[.pointer (some ⟨B+1+1,0,none⟩),.pointer (some ⟨B+1+1+1,0,none⟩)],chunkV b off n k,undef,undef,undef,undef,undef,undef,undef,undef,undef,undef,undef,undef,undef,undef,undef,undef,undef,undef,undef,undef,undef,undef,undef],defers:=[]}) ?assign ?body ?done
 case assign=>
  intro lp x W K' hK'
  gi_wp2
  exact hK'
 case body=>
  rintro lp pre x W ⟨⟨hd1,hd2⟩,hla,hbx,hbw⟩ ⟨rfl,hx⟩
  obtain ⟨k,hk⟩:∃ k,k=pre.length:=⟨_,rfl⟩
  rw [← hk] at hla hx
  rw [← hk]
  have hMI:∀ W',LAt W' w.heap.size B (bytesP (-1) (l.take (8*(k+1)))) (l.take (8*(k+1)))→W'.heap[B+1]?=some (.cells #[.pointer (some ⟨B,0,none⟩)] 157 (0,0))→Below w.heap.size w W'→Mild w.heap.size W W'→MakeI w B A n c l (pre++[k]) W'∧KpTwo (B+1+1) (B+1+1+1) W W':=fun W' h1 h2 h3 h4=>by
   have k1:=h4.keep _ _ hd1 (fun cs t fr e=>by cases e;unfold Turning;decide)
   have k2:=h4.keep _ _ hd2 (fun cs t fr e=>by cases e;unfold Turning;decide)
   refine ⟨?_,h4.below.size,fun _=>k1.trans hd1.symm,fun _=>k2.trans hd2.symm⟩
   unfold MakeI
   rw [List.length_append,List.length_singleton,← hk]
   exact ⟨⟨k1,k2⟩,h1,h2,h3⟩
  have hnk:8*k<n:=by unfold blocksP at hx;omega
  have hxl:k<blocksP l.length:=by rw [HN.out];exact hx
  have hqlen:=blockP_length (l:=l) k
  rw [HN.out] at hqlen
  have hcat:=blocks_all l k
  have hacl:(l.take (8*k)).length=8*k:=by rw [List.length_take,HN.out];omega
  have hmt:=HM.out
  rw [← List.take_append_drop (8*(k+1)) l,mayB'_append,Bool.and_eq_true,hcat,mayB'_append,Bool.and_eq_true] at hmt
  have hx0:=docOf_ge _ _ hmt.1.1
  have hmb:=hmt.1.2
  have hbpl:∀ p∈blockP l (k:Int),p.2.length≤2147483648:=fun p hp=>HPL.out p (by rw [blockP_nat] at hp;exact List.mem_of_mem_drop (List.mem_of_mem_take hp))
  have hapl:∀ p∈l.take (8*(k+1)),p.2.length≤2147483648:=fun p hp=>HPL.out p (List.mem_of_mem_take hp)
  have htot:totalP (l.take (8*(k+1)))≤40000000000:=Nat.le_trans (totalP_le_take _) HTP.out
  have hbys:(bytesP (-1) (l.take (8*(k+1)))).length≤400000000000:=by
   have h1:=bytesP_length (l.take (8*(k+1))) (-1) (by omega) (by rw [hcat,mayB'_append,hmt.1.1,hmb];rfl) (fun p hp=>by have :=hapl p hp;omega)
   have h3:(l.take (8*(k+1))).length≤1000000:=by rw [List.length_take,HN.out];omega
   omega
  have hbya:(bytesP (-1) (l.take (8*(k+1)))).length=(bytesP (-1) (l.take (8*k))).length+(bytesP (docOf (-1) (l.take (8*k))) (blockP l (k:Int))).length:=by rw [hcat,bytesP_append,List.length_append]
  have hA':=HA.out (by omega)
  obtain ⟨q,hq⟩:∃ q,q=min 8 (n-8*k):=⟨_,rfl⟩
  have hch:chunkV b off n k= .slice (some ⟨b,off+8*k*2,none⟩) q q:=by unfold chunkV;rw [← hq]
  rw [← hq] at hqlen
  have hq1:0<q∧q≤8:=by omega
  rw [hch]
  have hpos:Posts w w.heap.size (some ⟨b,off+8*k*2,none⟩) (blockP l (k:Int)):=by
   have h1:=HPO.out
   rw [hA'] at h1
   rw [blockP_nat]
   exact (h1.drop (8*k)).cut 8
  obtain ⟨acc,hacc⟩:∃ acc,acc=l.take (8*k):=⟨_,rfl⟩
  obtain ⟨blk,hblk⟩:∃ blk,blk=blockP l (k:Int):=⟨_,rfl⟩
  rw [← hacc,← hblk] at hcat
  rw [hcat] at hMI hbys htot hbya
  rw [← hacc] at hla hacl hx0 hmb hbya
  rw [← hblk] at hqlen hmb hbpl hbya hpos
  have hlast:=list_last w.heap.size B (bytesP (-1) acc) acc W hla (by omega)
  obtain ⟨x0,hx0e⟩:∃ x0,x0=docOf (-1) acc:=⟨_,rfl⟩
  rw [← hx0e] at hx0 hmb hbya hlast
  obtain ⟨a,hae⟩:∃ a,a=(bytesP (-1) acc).length:=⟨_,rfl⟩
  rw [← hae] at hbya hlast
  have hfld:=fun w1=>fld_doc x0 (a:Int) w1
  have hput:∀ W',Below W.heap.size W W'→Calls Tryz.prog 176 #[.slice (some ⟨b,off+8*k*2,none⟩) q q,.int .i64 x0] W' (GaveOwn W'.heap.size (bytesP x0 blk) W'):=fun W' hb=>
   posting_put_any _ q q blk x0 W' hqlen (by omega) ((hpos.below (hbw.trans (hb.mono hbw.size))).more (by have :=hbw.size;have :=hb.size;omega)) hx0 hmb hbpl (by omega)
  obtain ⟨bb,hbb⟩:∃ bb,bb=bytesP x0 blk:=⟨_,rfl⟩
  rw [← hbb] at hput hbya
  have hc1:=cell_of_one hbx
  have HLAST:=Lib.hid hlast
  have HPUT:=Lib.hid hput
  have HLA:=Lib.hid hla
  have HBX:=Lib.hid hbx
  have HW:=Lib.hid hbw
  have HPOS:=Lib.hid hpos
  have HMI:=Lib.hid hMI
  have HACL:=Lib.hid hacl
  have HQL:=Lib.hid hqlen
  have HBB:=Lib.hid hbb
  have HX0E:=Lib.hid hx0e
  have HAE:=Lib.hid hae
  have hBW0:∀ W',Below W.heap.size W W'→W'.cell? ⟨B+1,0,none⟩=some (.pointer (some ⟨B,0,none⟩)):=fun W' hb=>(hb.cell (p:=⟨B+1,0,none⟩) (lt_of_block HBX.out)).trans (cell_of_one HBX.out)
  have HC1:=Lib.hid hBW0
  clear hlast hput hla hbx hbw hpos hMI hacl hqlen hbb hx0e hae hacc hblk hcat hk hq hch hbpl hapl hmt hA' hxl hmb hBW0
  gi_wp2_with (first
   |(refine ⟨trivial,?_⟩;gi_at_call 177;refine (CallsIn.inRound lp (callsIn_wide.2 HLAST.out)).mono ?_;rintro e w5 ⟨rfl,hb5⟩;have HB5:=Lib.hid hb5;clear hb5)
   |(gi_at_call 177;refine (CallsIn.inRound lp (callsIn_wide.2 HLAST.out)).mono ?_;rintro e w5 ⟨rfl,hb5⟩;have HB5:=Lib.hid hb5;clear hb5)
   |(refine ⟨trivial,?_⟩;gi_at_call 176;refine (CallsIn.inRound lp (callsIn_wide.2 (HPUT.out _ HB5.out))).mono ?_)
   |(gi_at_call 176;refine (CallsIn.inRound lp (callsIn_wide.2 (HPUT.out _ HB5.out))).mono ?_))
  rintro e w6 ⟨v6,rfl,hown6,hb6⟩
  obtain ⟨A6,c6,rfl,hc6,hr6⟩:=hown6.row
  have hbbp:0<bb.length:=by rw [HBB.out];exact bytesP_pos (fun e=>by have :=HQL.out;rw [e] at this;simp at this;omega)
  obtain ⟨ba,oa,rfl,_,hca⟩:=hr6.at_ (by rw [Lib.byteCells_length];exact hbbp)
  have hb56:=HB5.out.trans (hb6.mono HB5.out.size)
  have hla6:=HLA.out.below hb56
  have hbase6:w.heap.size≤w6.heap.size:=by have :=hb56.size;have :=HW.out.size;omega
  have hpc6:=HC1.out w6 hb56
  have hbx6:=(hb56.block _ (lt_of_block HBX.out)).trans HBX.out
  obtain ⟨hB6,vb,ve,hv,ho,he⟩:=hla6
  rw [← HAE.out] at ho
  obtain ⟨M,hM⟩:∃ M,M=bb.length:=⟨_,rfl⟩
  rw [← hM] at hbya hbbp hc6
  rw [← hM]
  obtain ⟨g,cap,w7,hrun,hown7,hg7,_,_⟩:=run_append_lies (P:=Tryz.prog) w6.drew 231 231 w.heap.size 5 i0 _ 1 1 Tryz.underlying231 hi0 hz0 hz1 hz2 rfl (by omega) vb a (Lib.byteCells (bytesP (-1) acc)) ho ⟨ba,oa,none⟩ M c6 (Lib.byteCells bb) (by rw [Lib.byteCells_length,hM];omega) (fun j u hu=>by rw [Addr.add_lit];exact hca j u hu) (byteCells_oneCell _) hbbp (by unfold maxLen;omega) (by omega) hbase6 w6.heap.size rfl
  have ho':=ho
  rw [HAE.out] at ho' hown7
  obtain ⟨hv7,hla7,hmild7⟩:=LAt.moreBytes hB6 hv ho' he (Below.refl _ w6).drew hg7 hM.symm hown7
  obtain ⟨⟨cB0,cB1,cB2,cB3⟩,fB0,fB1,fB2,fB3⟩:=cell_four hv7
  have c6a:=(cell_four hv).1.1
  rw [← HAE.out] at hla7 hmild7
  have HLA7:=Lib.hid hla7
  have HM7:=Lib.hid (((Mild.of_below hb56 HW.out.size)).trans hmild7)
  have HMM:=Lib.hid hM
  have hbx8:=HM7.out.keep _ _ HBX.out (fun cs t fr e=>by cases e;unfold Turning;decide)
  have hS6:(w6.drew).cell? ⟨B+1,0,none⟩=some (.pointer (some ⟨B,0,none⟩)):=hpc6
  have hS7:w7.cell? ⟨B+1,0,none⟩=some (.pointer (some ⟨B,0,none⟩)):=by
   have h1:w7.heap[B+1]?=w6.drew.heap[B+1]?:=hg7.block (B+1) (lt_of_block (w:=w6) hbx6) (fun e=>owned_apart ho hbx6 (by decide) e.symm)
   exact cell_of_one (h1.trans hbx6)
  have hcl:Calls Tryz.prog 178 #[.pointer (some ⟨B,0,none⟩),.slice (some ⟨b,off+8*k*2,none⟩) q q,.int .i64 ((a+M:Nat):Int)] ((w7.setCell ⟨B,0,none⟩ (.slice (some ⟨g,0,none⟩) (a+M) cap)).drew) fun e w'=>(∃ v,e= .returned v)∧LAt w' w.heap.size B (bytesP (-1) acc++bb) (acc++blk)∧Mild w.heap.size ((w7.setCell ⟨B,0,none⟩ (.slice (some ⟨g,0,none⟩) (a+M) cap)).drew) w':=by
   obtain ⟨cs,h1,h2⟩:=HPOS.out
   have hbl8:=HW.out.trans HM7.out.below
   have hzz:a+M=(bytesP (-1) (acc++blk)).length:=by rw [hbya,HMM.out]
   exact list_close w.heap.size B _ acc blk k _ q q cs (a+M) _ (HLA7.out.below (Below.refl _ _).drew) HACL.out HQL.out (Nat.le_refl _) (by unfold maxLen;omega) (h1.imp fun _ _ _=>trivial) (RowM.of_row (h2.below (hbl8.trans (Below.refl _ _).drew)) (by have :=hbl8.size;simpa using this)) (by omega) (by omega) (by have :=HACL.out;omega) (by omega) hzz (by omega)
  have c7b:(w7.setCell ⟨B,0,none⟩ (.slice (some ⟨g,0,none⟩) (a+M) cap)).cell? ⟨B,0,none⟩=some (.slice (some ⟨g,0,none⟩) (a+M) cap):=(cell_four (heap_setCell_same w7 B 0 _ _ _ hv7)).1.1
  have HS6:=Lib.hid hS6
  have HS7:=Lib.hid hS7
  have HS8:Hid ((w7.setCell ⟨B,0,none⟩ (.slice (some ⟨g,0,none⟩) (a+M) cap)).cell? ⟨B+1,0,none⟩=some (.pointer (some ⟨B,0,none⟩))):=Lib.hid (cell_of_one hbx8)
  have HS9:Hid ((w7.setCell ⟨B,0,none⟩ (.slice (some ⟨g,0,none⟩) (a+M) cap)).drew.cell? ⟨B+1,0,none⟩=some (.pointer (some ⟨B,0,none⟩))):=Lib.hid (cell_of_one (w:=(w7.setCell ⟨B,0,none⟩ (.slice (some ⟨g,0,none⟩) (a+M) cap)).drew) hbx8)
  have HBX8:Hid ((w7.setCell ⟨B,0,none⟩ (.slice (some ⟨g,0,none⟩) (a+M) cap)).drew.heap[B+1]?=some (.cells #[.pointer (some ⟨B,0,none⟩)] 157 (0,0))):=Lib.hid hbx8
  have HCL:=Lib.hid hcl
  have HRUN:=Lib.hid hrun
  have C7B:=Lib.hid c7b
  clear hla7 hmild7 hown7 hg7 ho ho' he hv7 hca hr6 hown6 hb6 hM hB6 hrun hbx8 hS6 hS7 hcl c7b hbx6 hbya
  clear hc1 hpc6
  gi_wp2
  refine region_in_round (S:=fun w'=>w'.cell? ⟨B+1,0,none⟩=some (.pointer (some ⟨B,0,none⟩))) (by kernel_rfl) (by kernel_rfl) HS6.out (fun hHeld0=> ?_)
  refine wpAnyH_take (i:=0) (v:= .pointer (some ⟨B,0,none⟩)) rfl (by kernel_rfl) (by kernel_rfl) (by kernel_rfl) (fun _ _ _ h=>h) (Or.inl ⟨by rfl,fun wx hSw=>by go_simp⟩) (by assumption) ?_
  try simp only [Act.put,zA,zB,zD,zE,zF]
  refine wpAnyH_take (i:=1) (v:= .pointer (some ⟨B,0,none⟩)) rfl (by kernel_rfl) (by kernel_rfl) (by kernel_rfl) (fun _ _ _ h=>h) (Or.inl ⟨by rfl,fun wx hSw=>by go_simp⟩) (by assumption) ?_
  try simp only [Act.put,zA,zB,zC,zD,zE,zF]
  refine wpAnyH_take (i:=2) (v:= .pointer (some ⟨B,0,none⟩)) rfl (by kernel_rfl) (by kernel_rfl) (by kernel_rfl) (fun _ _ _ h=>h) (Or.inl ⟨by rfl,fun wx hSw=>by go_simp⟩) (by assumption) ?_
  try simp only [Act.put,zA,zB,zC,zD,zE,zF]
  refine wpAnyH_take (i:=3) (v:= .pointer (some ⟨B,0,none⟩)) rfl (by kernel_rfl) (by kernel_rfl) (by kernel_rfl) (fun _ _ _ h=>h) (Or.inl ⟨by rfl,fun wx hSw=>by go_simp⟩) (by assumption) ?_
  try simp only [Act.put,zA,zB,zC,zD,zE,zF]
  refine wpAnyH_take (i:=5) (v:= .slice (some ⟨ba,oa,none⟩) M c6) rfl (by kernel_rfl) (by kernel_rfl) (by kernel_rfl) (fun _ _ _ h=>h) (Or.inl ⟨by rfl,fun wx hSw=>by go_simp⟩) (by assumption) ?_
  try simp only [Act.put,zA,zB,zC,zD,zE,zF]
  refine wpAnyH_ready (rs:=[4]) (by kernel_rfl) (by simp) ?_
  refine AllReadyH.cons rfl (fun K hK=> ?_) AllReadyH.nil
  try simp only [zA,zB,zC]
  go_simp
  refine hK.out _ _ ?_ (fun hHeld1=> ?_)
  ·exact HS6.out
  clear hK K
  try simp only [Act.put,zA,zB,zC,zD,zE,zF]
  refine wpAnyH_ready (rs:=[6]) (by kernel_rfl) (by simp) ?_
  refine AllReadyH.cons rfl (fun K hK=> ?_) AllReadyH.nil
  try simp only [zA,zB,zC]
  refine step_append_known (a:=⟨_,_⟩) ?_ (.tmp 24) (.tmp 25) 231 ?_ vb (.slice (some ⟨ba,oa,none⟩) M c6) ?_ ?_ (.slice (some ⟨g,0,none⟩) (a+M) cap) w7 ?_ ?_
  ·rfl
  ·rfl
  ·rfl
  ·rfl
  ·exact HRUN.out
  refine hK.out _ _ HS7.out (fun hHeld2=> ?_)
  clear hK K
  try simp only [Act.put,zD,zE,zF]
  refine wpAnyH_take (i:=7) (v:= .pointer (some ⟨B,0,none⟩)) rfl (by kernel_rfl) (by kernel_rfl) (by kernel_rfl) (fun _ _ _ h=>h) (Or.inl ⟨by rfl,fun wx hSw=>by go_simp⟩) (by assumption) ?_
  try simp only [Act.put,zA,zB,zC,zD,zE,zF]
  refine wpAnyH_take (i:=8) (v:= .pointer (some ⟨B,0,none⟩)) rfl (by kernel_rfl) (by kernel_rfl) (by kernel_rfl) (fun _ _ _ h=>h) (Or.inl ⟨by rfl,fun wx hSw=>by go_simp⟩) (by assumption) ?_
  try simp only [Act.put,zA,zB,zC,zD,zE,zF]
  refine wpAnyH_ready (rs:=[9]) (by kernel_rfl) (by simp) ?_
  refine AllReadyH.cons rfl (fun K hK=> ?_) AllReadyH.nil
  try simp only [zA,zB,zC]
  go_simp
  refine hK.out _ _ ?_ (fun hHeld3=> ?_)
  ·exact HS8.out
  clear hK K
  try simp only [Act.put,zA,zB,zC,zD,zE,zF]
  refine wpAnyH_done (by kernel_rfl) ?_ _
  refine AtEnd.fin ?_
  gi_wp2
  have c7b:=C7B.out
  clear cB0 cB1 cB2 cB3 fB0 fB1 fB2 fB3 c6a
  refine region_in_round (S:=fun w'=>w'.cell? ⟨B+1,0,none⟩=some (.pointer (some ⟨B,0,none⟩))) (by kernel_rfl) (by kernel_rfl) HS9.out (fun hHeld0=> ?_)
  refine wpAnyH_take (i:=0) (v:= .pointer (some ⟨B,0,none⟩)) rfl (by kernel_rfl) (by kernel_rfl) (by kernel_rfl) (fun _ _ _ h=>h) (Or.inl ⟨by rfl,fun wx hSw=>by go_simp⟩) (by assumption) ?_
  try simp only [Act.put,zA,zB,zD,zE,zF]
  refine wpAnyH_take (i:=1) (v:= .slice (some ⟨b,off+8*k*2,none⟩) q q) rfl (by kernel_rfl) (by kernel_rfl) (by kernel_rfl) (fun _ _ _ h=>h) (Or.inl ⟨by rfl,fun wx hSw=>by go_simp⟩) (by assumption) ?_
  try simp only [Act.put,zA,zB,zC,zD,zE,zF]
  refine wpAnyH_take (i:=2) (v:= .pointer (some ⟨B,0,none⟩)) rfl (by kernel_rfl) (by kernel_rfl) (by kernel_rfl) (fun _ _ _ h=>h) (Or.inl ⟨by rfl,fun wx hSw=>by go_simp⟩) (by assumption) ?_
  try simp only [Act.put,zA,zB,zC,zD,zE,zF]
  refine wpAnyH_take (i:=3) (v:= .pointer (some ⟨B,0,none⟩)) rfl (by kernel_rfl) (by kernel_rfl) (by kernel_rfl) (fun _ _ _ h=>h) (Or.inl ⟨by rfl,fun wx hSw=>by go_simp⟩) (by assumption) ?_
  try simp only [Act.put,zA,zB,zC,zD,zE,zF]
  refine wpAnyH_take (i:=4) (v:= .pointer (some ⟨B,0,none⟩)) rfl (by kernel_rfl) (by kernel_rfl) (by kernel_rfl) (fun _ _ _ h=>h) (Or.inl ⟨by rfl,fun wx hSw=>by go_simp⟩) (by assumption) ?_
  try simp only [Act.put,zA,zB,zC,zD,zE,zF]
  refine wpAnyH_ready (rs:=[5]) (by kernel_rfl) (by simp) ?_
  refine AllReadyH.cons rfl (fun K hK=> ?_) AllReadyH.nil
  try simp only [zA,zB,zC]
  go_simp
  refine hK.out _ _ ?_ (fun hHeld1=> ?_)
  ·exact HS9.out
  clear hK K
  try simp only [Act.put,zA,zB,zC,zD,zE,zF]
  refine wpAnyH_take (i:=6) (v:= .int .i64 ((a+M:Nat):Int)) rfl (by kernel_rfl) (by kernel_rfl) (by kernel_rfl) (fun _ _ _ h=>h) (Or.inl ⟨by rfl,fun wx hSw=>by go_simp⟩) (by assumption) ?_
  try simp only [Act.put,zA,zB,zC,zD,zE,zF]
  refine wpAnyH_ready (rs:=[7]) (by kernel_rfl) (by simp) ?_
  refine AllReadyH.cons rfl (fun K hK=> ?_) AllReadyH.nil
  try simp only [zA,zB,zC]
  go_simp
  go_at_call 178
  refine HCL.out.mono ?_
  rintro e w9 ⟨⟨v9,rfl⟩,hla9,hmild9⟩
  have HS10:Hid (w9.cell? ⟨B+1,0,none⟩=some (.pointer (some ⟨B,0,none⟩))):=Lib.hid (cell_of_one (hmild9.keep _ _ HBX8.out (fun cs t fr e=>by cases e;unfold Turning;decide)))
  have HLA9:=Lib.hid hla9
  have HM9:=Lib.hid hmild9
  clear hla9 hmild9
  go_wp2_with fail
  refine hK.out _ _ ?_ (fun hHeld2=> ?_)
  ·exact HS10.out
  clear hK K
  try simp only [Act.put,zA,zB,zC,zD,zE,zF]
  refine wpAnyH_done (by kernel_rfl) ?_ _
  refine AtEnd.fin ?_
  gi_wp2
  have hm9:=HM7.out.trans ((Mild.of_below (Below.refl _ _).drew (by have :=(HW.out.trans HM7.out.below).size;omega)).trans HM9.out)
  have hla9:=HLA9.out
  rw [HBB.out,HX0E.out,← bytesP_append] at hla9
  obtain ⟨h1,h2⟩:=HMI.out _ hla9 (hm9.keep _ _ HBX.out (fun cs t fr e=>by cases e;unfold Turning;decide)) (HW.out.trans hm9.below) hm9
  exact ⟨hm9.keepsOthers,h2,h1⟩
 case done=>
  rintro D' ys W hD rfl ⟨_,hla,hbx,hbw⟩ hK'
  rw [List.length_range,← HN.out,take_blocks] at hla
  have hc1:=cell_of_one hbx
  have HLA:=Lib.hid hla
  have HBW2:=Lib.hid hbw
  clear hla hbx hbw
  gi_wp2
  refine ⟨by simp,.inl ⟨_,_,rfl,run_takeDeferred hK',?_⟩⟩
  refine ⟨_,results_tmp2 rfl _ _ _,?_⟩
  have hD2:w.heap.size≤D':=by have :=HZ3.out;have :=HBW.out;omega
  exact ⟨B,rfl,Firm.lat 0 _ _ _ _ W D' _ _ (Nat.zero_le _) hK' rfl HLA.out,Firm.belowW (N:=w.heap.size) (Nat.le_refl _) W D' _ _ hD2 hK' rfl HBW2.out⟩
end Go.Proofs.YtldcadpemnpbmaaGreatDoor
set_option linter.unusedVariables false
namespace Go.Proofs.YtldcadpemnpbmaaGreatDoor
open Go Go.RowKit
theorem LAt.low {w:World} {base b B:Nat} {bs:List UInt8} {l:List Po} (h:LAt w base B bs l) (hb:b≤base):LAt w b B bs l:=by
 obtain ⟨h1,vb,ve,h2,h3,h4⟩:=h
 exact ⟨by omega,vb,ve,h2,owned_low h3 hb,owned_low h4 hb⟩
theorem LAt.kinds {w w':World} {base B:Nat} {bs:List UInt8} {l:List Po} (h:LAt w base B bs l) (hk:∀ (k:Nat) (cs:Array Value) (t:TypeId) (fr:Nat × Nat),w.heap[k]?=some (.cells cs t fr)→t=234∨t=5∨t=240→w'.heap[k]?=some (.cells cs t fr)):LAt w' base B bs l:=by
 obtain ⟨h1,vb,ve,h2,h3,h4⟩:=h
 have key:∀ {E:TypeId} {size:Nat} {v:Value} {n:Nat} {xs:List Value},(E=234∨E=5∨E=240)→w.ownsRow base E size v n xs→w'.ownsRow base E size v n xs:=fun hE ho=>by
  refine owned_keep ho fun g hg=> ?_
  rcases ho.2 with ⟨rfl,_⟩|⟨g',cap,cur,rfl,_,hh,_⟩
  ·cases hg
  ·simp only [Value.ownBlock,Option.some.injEq] at hg
   subst hg
   rw [hk _ _ _ _ hh hE,hh]
 exact ⟨h1,vb,ve,hk _ _ _ _ h2 (.inl rfl),key (.inr (.inl rfl)) h3,key (.inr (.inr rfl)) h4⟩
theorem LAt.grown {w w':World} {base b B:Nat} {bs:List UInt8} {l:List Po} {E:TypeId} {size n:Nat} {v:Value} {xs:List Value} (h:LAt w base B bs l) (hv:w.ownsRow b E size v n xs) (h1:234≠E) (h2:5≠E) (h3:240≠E) (hg:w.grownBy w' v.ownBlock):LAt w' base B bs l:=
 h.kinds fun k cs t fr hk ht=>(hg.block k (Array.getElem?_eq_some_iff.1 hk).1 (fun e=>owned_apart hv hk (by rcases ht with rfl|rfl|rfl<;>assumption) e.symm)).trans hk
theorem SBox.grown {w wr w':World} {B:Nat} {V:Array Value} {E:TypeId} {size n:Nat} {v:Value} {xs:List Value} (h:SBox w B V wr) (hv:wr.ownsRow w.heap.size E size v n xs) (hE:91≠E) (hg:wr.grownBy w' v.ownBlock):SBox w B V w':=by
 obtain ⟨h0,h1,h2⟩:=h
 exact ⟨h0.grown hg h0.size fun k hk=>(hv.lt k hk).1,h1,(hg.block B (Array.getElem?_eq_some_iff.1 h2).1 (fun e=>owned_apart hv h2 hE e.symm)).trans h2⟩
structure MkAt (w:World) (V:Array Value) (ls:List (List Pn)) (k:Nat) (vl:Value) (bl:List Nat) (wr:World):Prop where
 len:bl.length=k
 own:wr.ownsRow w.heap.size 157 1 vl k (ptrs bl)
 at_:∀ j (h:j<ls.length),j<k→LAt wr 0 (bl.getD j 0) (bytesP (-1) ls[j]) ls[j]
 box:SBox w w.heap.size V wr
theorem MkAt.below {w wr w':World} {V:Array Value} {ls:List (List Pn)} {k:Nat} {vl:Value} {bl:List Nat} (h:MkAt w V ls k vl bl wr) (hb:Below wr.heap.size wr w'):MkAt w V ls k vl bl w':=
 ⟨h.len,owned_below h.own hb,fun j hj hjk=>(h.at_ j hj hjk).below hb,h.box.below hb⟩
theorem MkAt.push {w wr w5:World} {V:Array Value} {ls:List (List Pn)} {k:Nat} {vl v':Value} {bl:List Nat} (h:MkAt w V ls k vl bl wr) (hk:k<ls.length) {B:Nat} (hl:LAt wr 0 B (bytesP (-1) ls[k]) ls[k])
  (hown:w5.ownsRow w.heap.size 157 1 v' (k+1) (ptrs bl++[.pointer (some ⟨B,0,none⟩)])) (hg:wr.grownBy w5 vl.ownBlock):MkAt w V ls (k+1) v' (bl++[B]) w5:=by
 refine ⟨by rw [List.length_append,h.len];rfl,by simpa [ptrs] using hown,fun j hj hjk=> ?_,h.box.grown h.own (by decide) hg⟩
 have hgr:∀ {B:Nat} {bs:List UInt8} {l:List Po},LAt wr 0 B bs l→LAt w5 0 B bs l:=fun hh=>hh.grown h.own (by decide) (by decide) (by decide) hg
 by_cases e:j=k
 ·subst e
  have :(bl++[B]).getD j 0=B:=by rw [List.getD_eq_getElem?_getD,List.getElem?_append_right (by rw [h.len];exact Nat.le_refl _),h.len];simp
  rw [this]
  exact hgr hl
 ·have hjk':j<k:=by omega
  have :(bl++[B]).getD j 0=bl.getD j 0:=by rw [List.getD_eq_getElem?_getD,List.getElem?_append_left (by rw [h.len];exact hjk'),← List.getD_eq_getElem?_getD]
  rw [this]
  exact hgr (h.at_ j hj hjk')
def MkRel (w:World) (V:Array Value) (ls:List (List Pn)) (vl i:Value) (wr:World):Prop:=∃ (k:Nat) (bl:List Nat),k≤ls.length∧i= .int .i64 (k:Int)∧MkAt w V ls k vl bl wr
def MadeSeg (x:PartsP) (w:World) (e:Ending) (w':World):Prop:=∃ S,e= .returned (.tuple #[.pointer (some ⟨S,0,none⟩),.int .i64 0])∧SegAt w' S x∧w.heap.size≤S∧Below w.heap.size w w'
theorem info_listp:(Tryz.prog.info? 157).map (fun i=>(i.zero,i.size,i.bytes))=some (some (.pointer none),1,8):=by kernel_rfl
end Go.Proofs.YtldcadpemnpbmaaGreatDoor
namespace Go.Proofs.YtldcadpemnpbmaaGreatDoor
open Go Go.RowKit
set_option linter.unusedVariables false
set_option maxHeartbeats 1000000 in
theorem is_nanS (s:ByteArray) (w:World):Calls Tryz.prog 261 #[.string s] w fun e w'=>e= .returned (.bool false)∧w=w':=by
 go_enter Tryz.func261,Tryz.ntmps261
 go_wp2
 go_ret
 exact ⟨by simp,rfl⟩
set_option maxHeartbeats 1000000 in
theorem cmp_compareS (x y:ByteArray) (w:World):Calls Tryz.prog 219 #[.string x,.string y] w fun e w'=>e= .returned (.int .i64 (cmpN x.data.toList y.data.toList))∧w=w':=by
 have e1:Op.bytesLess x.toList y.toList=decide (x.data.toList<y.data.toList):=by rw [Lib.toList_data,Lib.toList_data,less_of]
 have e2:(x.toList==y.toList)=decide (x.data.toList=y.data.toList):=by rw [Lib.toList_data,Lib.toList_data,Bool.eq_iff_iff];simp
 by_cases h1:x.data.toList<y.data.toList
 ·have hc:cmpN x.data.toList y.data.toList= -1:=by simp [cmpN,h1]
  rw [decide_eq_true h1] at e1
  rw [hc]
  clear e2 hc h1
  go_enter Tryz.func219,Tryz.ntmps219
  go_wp2_with (go_at_call 261;refine (is_nanS _ _).mono ?_;rintro e w' ⟨rfl,rfl⟩)
  go_ret
  exact ⟨rfl,rfl⟩
 ·rw [decide_eq_false h1] at e1
  by_cases h2:x.data.toList=y.data.toList
  ·have hc:cmpN x.data.toList y.data.toList=0:=by simp [cmpN,h2]
   rw [decide_eq_true h2] at e2
   rw [hc]
   clear hc h1 h2
   go_enter Tryz.func219,Tryz.ntmps219
   go_wp2_with (go_at_call 261;refine (is_nanS _ _).mono ?_;rintro e w' ⟨rfl,rfl⟩)
   go_ret
   exact ⟨rfl,rfl⟩
  ·have hc:cmpN x.data.toList y.data.toList=1:=by simp [cmpN,h1,h2]
   rw [decide_eq_false h2] at e2
   rw [hc]
   clear hc h1 h2
   go_enter Tryz.func219,Tryz.ntmps219
   go_wp2_with (go_at_call 261;refine (is_nanS _ _).mono ?_;rintro e w' ⟨rfl,rfl⟩)
   go_ret
   exact ⟨rfl,rfl⟩
end Go.Proofs.YtldcadpemnpbmaaGreatDoor
set_option linter.unusedVariables false
namespace Go.Proofs.YtldcadpemnpbmaaGreatDoor
open Go Go.RowKit
structure LookP (B o b1 b2:Nat) (l:List Nm) (vs:List Nat) (s:ByteArray) (W:World):Prop where
 dict:DictR W B o l vs
 var:W.heap[b1]?=some (.cells #[.pointer (some ⟨B,o,none⟩)] 160 (0,0))
 text:W.heap[b2]?=some (.cells #[.string s] 9 (0,0))
theorem LookP.below {B o b1 b2:Nat} {l:List Nm} {vs:List Nat} {s:ByteArray} {W W':World} (h:LookP B o b1 b2 l vs s W) (hb:Below W.heap.size W W'):LookP B o b1 b2 l vs s W':=
 ⟨h.dict.below hb,(hb.block _ (lt_of_block h.var)).trans h.var,(hb.block _ (lt_of_block h.text)).trans h.text⟩
set_option maxHeartbeats 2000000 in
set_option maxRecDepth 100000 in
theorem dictP_look (B o b1 b2 k:Nat) (l:List Nm) (vs:List Nat) (s:ByteArray) (W:World) (h:LookP B o b1 b2 l vs s W) (hk:k<l.length) (hl:l.length≤1073741824):
  Calls Tryz.prog 319 #[.int .i64 (k:Int),.pointer (some ⟨b1,0,none⟩),.pointer (some ⟨b2,0,none⟩)] W fun e w'=>e= .returned (.int .i64 (cmpN l[k] s.data.toList))∧∃ q,w'=W.drewN q:=by
 obtain ⟨b,off,c,h1,h2,h3,h4,h5,h6⟩:=h.dict.ent hk
 have hv:=cell_of_one h.var
 have ht:=cell_of_one h.text
 obtain ⟨x,hx,hx2⟩:=as_text l[k]
 rw [← hx] at h5
 have hcm:=fun w=>cmp_compareS x s w
 rw [hx2] at hcm
 obtain ⟨z,hz⟩:∃ z,z=cmpN l[k] s.data.toList:=⟨_,rfl⟩
 rw [← hz] at hcm ⊢
 have CM:Hid (∀ n,Calls Tryz.prog 219 #[.string x,.string s] (W.drewN n) fun e w'=>e= .returned (.int .i64 z)∧w'=W.drewN n):=Lib.hid fun n=>(hcm _).mono fun _ _ h=>⟨h.1,h.2.symm⟩
 obtain ⟨n,hn⟩:∃ n,n=l.length:=⟨_,rfl⟩
 rw [← hn] at h1 h2 hl hk
 have k2:(0:Int)≤(k:Int):=by omega
 have k3:(k:Int)<(n:Int):=by omega
 clear hx hx2 hz hn h hcm h6
 go_enter Tryz.func319,Tryz.ntmps319
 go_wp2
 go_quiet ((go_at_call 219;exact Calls.quiet_of_same (CM.out _)))
 go_wp2
 go_ret
 exact ⟨rfl,_,rfl⟩
def SearchP (B o b1 b2:Nat) (l:List Nm) (vs:List Nat) (s:ByteArray) (w:World) (u4 u5 u6 u7:Value) (wr:World):Prop:=
 u4= .int .i64 0∧u5= .bool false∧∃ a b:Nat,u6= .int .i64 (a:Int)∧u7= .int .i64 (b:Int)∧a≤b∧b≤l.length∧Below w.heap.size w wr∧
  (∀ j (hj:j<l.length),j<a→l[j]<s.data.toList)∧∀ j (hj:j<l.length),b≤j→s.data.toList<l[j]
set_option maxHeartbeats 2000000 in
set_option maxRecDepth 100000 in
theorem dictP_search (B o b1 b2:Nat) (l:List Nm) (vs:List Nat) (s:ByteArray) (w:World) (h:LookP B o b1 b2 l vs s w) (hr:Rise l) (hl:l.length≤1073741824):
  Calls Tryz.prog 317 #[.int .i64 (l.length:Int),.func (.func 319) #[] #[.pointer (some ⟨b1,0,none⟩),.pointer (some ⟨b2,0,none⟩)]] w
   fun e w'=>e= .returned (.tuple #[.int .i64 (placeN l s.data.toList),.bool (isN l s.data.toList)])∧Below w.heap.size w w':=by
 have H:=Lib.hid h
 have HR:=Lib.hid hr
 have HL:=Lib.hid hl
 obtain ⟨n,hn⟩:∃ n,n=l.length:=⟨_,rfl⟩
 rw [← hn] at hl ⊢
 have HN:=Lib.hid hn
 obtain ⟨p,hp⟩:∃ p,p=placeN l s.data.toList:=⟨_,rfl⟩
 obtain ⟨z,hz⟩:∃ z,z=isN l s.data.toList:=⟨_,rfl⟩
 rw [← hp,← hz]
 have HP:=Lib.hid hp
 have HZ:=Lib.hid hz
 clear h hr hn hp hz
 go_enter Tryz.func317,Tryz.ntmps317
 go_wp2
 go_loopw [4,5,6,7] (SearchP B o b1 b2 l vs s w) (fun _ _ a b _=>(intOf b-intOf a).toNat)
 case atStart=>exact ⟨rfl,rfl,0,n,rfl,rfl,by omega,by have :=HN.out;omega,Below.refl _ _,fun j _ hj=>by omega,fun j hj hnj=>by have :=HN.out;omega⟩
 case round=>
  obtain ⟨rfl,rfl,a,b,rfl,rfl,hab,hbn,hbw,hlo,hhi⟩:=hrel
  rw [← HN.out] at hbn
  by_cases hlt:a<b
  ·obtain ⟨m,hm⟩:∃ m:Nat,m=a+(b-a)/2:=⟨_,rfl⟩
   have hmI:(a:Int)+((b:Int)-(a:Int))/2=(m:Int):=by omega
   have hma:a≤m:=by omega
   have hmb:m<b:=by omega
   have hmn:m<l.length:=by rw [← HN.out];omega
   have C1:=Lib.hid (dictP_look B o b1 b2 m l vs s wr (H.out.below hbw) hmn HL.out)
   have d1:decide ((a:Int)<(b:Int))=true:=decide_eq_true (by omega)
   have d1':decide (a<b)=true:=decide_eq_true hlt
   have i1:(0:Int)≤(b:Int)-(a:Int):=by omega
   have i2:(b:Int)-(a:Int)≤1073741824:=by omega
   have i3:(0:Int)≤(m:Int):=by omega
   have i4:(m:Int)≤1073741824:=by omega
   have i5:(a:Int)≤1073741824:=by omega
   have HLO:=Lib.hid hlo
   have HHI:=Lib.hid hhi
   clear hm hlo hhi
   rcases nm_tri l[m] s.data.toList with hlt'|heq|hgt
   ·have hc:cmpN l[m] s.data.toList= -1:=by simp [cmpN,hlt']
    rw [hc] at C1
    have HLO2:Hid (∀ j (hj:j<l.length),j<m+1→l[j]<s.data.toList):=Lib.hid fun j hj hjm=>by
     by_cases e:j=m
     ·subst e;exact hlt'
     ·exact nm_trans (rise_at HR.out hmn (by omega)) hlt'
    clear hc hlt'
    go_wp2_with (go_at_call 319;refine (C1.out).mono ?_;rintro e w' ⟨rfl,q,rfl⟩)
    go_roundw
    case rel=>exact ⟨rfl,rfl,m+1,b,by go_num,rfl,by omega,by rw [← HN.out];omega,hbw.trans ⟨rfl,rfl,rfl,Nat.le_refl _,fun _ _=>rfl⟩,HLO2.out,HHI.out⟩
    case measure=>simp [intOf];omega
   ·have hc:cmpN l[m] s.data.toList=0:=by
     unfold cmpN
     rw [if_neg (by rw [heq];exact nm_irrefl _),if_pos heq]
    rw [hc] at C1
    have hf:=found_of hmn (fun j hj hjm=>by have :=rise_at HR.out hmn hjm;rwa [heq] at this) heq
    have hpm:p=m:=by rw [HP.out];exact hf.1
    have hzt:z=true:=by rw [HZ.out];exact hf.2
    subst hpm hzt
    clear hc heq hf
    go_wp2_with (go_at_call 319;refine (C1.out).mono ?_;rintro e w' ⟨rfl,q,rfl⟩)
    go_ret2
    exact ⟨rfl,hbw.trans ⟨rfl,rfl,rfl,Nat.le_refl _,fun _ _=>rfl⟩⟩
   ·have hc:cmpN l[m] s.data.toList=1:=by
     unfold cmpN
     rw [if_neg (nm_asym hgt),if_neg (nm_ne hgt).symm]
    rw [hc] at C1
    have HHI2:Hid (∀ j (hj:j<l.length),m≤j→s.data.toList<l[j]):=Lib.hid fun j hj hjm=>by
     by_cases e:m=j
     ·subst e;exact hgt
     ·exact nm_trans hgt (rise_at HR.out hj (by omega))
    clear hc hgt
    go_wp2_with (go_at_call 319;refine (C1.out).mono ?_;rintro e w' ⟨rfl,q,rfl⟩)
    go_roundw
    case rel=>exact ⟨rfl,rfl,a,m,rfl,rfl,by omega,by rw [← HN.out];omega,hbw.trans ⟨rfl,rfl,rfl,Nat.le_refl _,fun _ _=>rfl⟩,HLO.out,HHI2.out⟩
    case measure=>simp [intOf];omega
  ·have hab2:a=b:=by omega
   subst hab2
   have hmi:=missed_of (s:=s.data.toList) (by rw [← HN.out];omega) hlo (fun h=>hhi a h (Nat.le_refl _))
   have hpm:p=a:=by rw [HP.out];exact hmi.1
   have hzt:z=false:=by rw [HZ.out];exact hmi.2
   subst hpm hzt
   clear hlo hhi hmi hlt
   go_wp2
   go_ret2
   exact ⟨rfl,hbw⟩
set_option maxHeartbeats 1000000 in
set_option maxRecDepth 100000 in
theorem dictP_Place (B o:Nat) (l:List Nm) (vs:List Nat) (s:ByteArray) (w:World) (h:DictR w B o l vs) (hr:Rise l) (hl:l.length≤1073741824):
  Calls Tryz.prog 298 #[.pointer (some ⟨B,o,none⟩),.string s] w fun e w'=>e= .returned (.tuple #[.int .i64 (placeN l s.data.toList),.bool (isN l s.data.toList)])∧Below w.heap.size w w':=by
 obtain ⟨w2,hw2⟩:∃ w2,w2=(w.alloc (.cells #[.pointer (some ⟨B,o,none⟩)] 160)).alloc (.cells #[.string s] 9):=⟨_,rfl⟩
 have hb2:Below w.heap.size w w2:=by rw [hw2];exact ((Below.refl _ _).alloc (Nat.le_refl _) _).alloc (by simp) _
 have hlk:LookP B o w.heap.size (w.heap.size+1) l vs s w2:=by
  refine ⟨h.below hb2,?_,?_⟩
  ·rw [hw2,Below.heap_alloc _ _ _ (by simp)];exact heap_alloc_new w _
  ·rw [hw2];have :=heap_alloc_new (w.alloc (.cells #[.pointer (some ⟨B,o,none⟩)] 160)) (.cells #[.string s] 9);simpa using this
 have C1:=Lib.hid (dictP_Len B o l vs w2 hlk.dict)
 have C2:=Lib.hid (dictP_search B o _ _ l vs s w2 hlk hr hl)
 have HB:=Lib.hid hb2
 have cv:=cell_of_one hlk.var
 obtain ⟨n,hn⟩:∃ n,n=l.length:=⟨_,rfl⟩
 rw [← hn] at C1 C2
 obtain ⟨p,hp⟩:∃ p,p=placeN l s.data.toList:=⟨_,rfl⟩
 obtain ⟨z,hz⟩:∃ z,z=isN l s.data.toList:=⟨_,rfl⟩
 rw [← hp,← hz] at C2
 rw [← hp,← hz]
 have HW2:=Lib.hid hw2
 clear hp hz hn h hr hl hb2 hlk hw2
 go_enter Tryz.func298,Tryz.ntmps298
 go_wp2_with (first
  |(go_at_call 318;rw [← HW2.out];refine (C1.out).mono ?_;rintro e w' ⟨rfl,rfl⟩)
  |(go_at_call 317;refine (C2.out).mono ?_;rintro e w' ⟨rfl,hb⟩))
 go_ret2
 exact ⟨rfl,HB.out.trans (hb.mono HB.out.size)⟩
set_option maxHeartbeats 1000000 in
set_option maxRecDepth 100000 in
theorem dictP_Find (B o:Nat) (l:List Nm) (vs:List Nat) (s:ByteArray) (w:World) (h:DictR w B o l vs) (hr:Rise l) (hl:l.length≤1073741824):
  Calls Tryz.prog 276 #[.pointer (some ⟨B,o,none⟩),.string s] w
   fun e w'=>e= .returned (.tuple #[.pointer (if isN l s.data.toList=true then some ⟨vs.getD (placeN l s.data.toList) 0,0,none⟩ else none),.bool (isN l s.data.toList)])∧Below w.heap.size w w':=by
 have c1:=dictP_Place B o l vs s w h hr hl
 have hfd:=isN_found (l:=l) (s:=s.data.toList)
 obtain ⟨p,hp⟩:∃ p,p=placeN l s.data.toList:=⟨_,rfl⟩
 obtain ⟨z,hz⟩:∃ z,z=isN l s.data.toList:=⟨_,rfl⟩
 rw [← hp,← hz] at c1 ⊢
 rw [← hz] at hfd
 cases z with
 |true=>
  have hpl:p<l.length:=by rw [hp];exact (hfd rfl).1
  have H:=Lib.hid h
  have C1:=Lib.hid c1
  have HPL:=Lib.hid hpl
  rw [if_pos rfl]
  obtain ⟨y,hy⟩:∃ y,y=vs.getD p 0:=⟨_,rfl⟩
  rw [← hy]
  have HY:=Lib.hid hy
  obtain ⟨n,hn⟩:∃ n,n=l.length:=⟨_,rfl⟩
  have HN:=Lib.hid hn
  rw [← hn] at hl hpl
  have k2:(0:Int)≤(p:Int):=by omega
  have k3:(p:Int)<(n:Int):=by omega
  clear h c1 hfd hp hz hn hy
  go_enter Tryz.func276,Tryz.ntmps276
  go_wp2_with (go_at_call 298;refine (C1.out).mono ?_)
  rintro e w1 ⟨rfl,hb⟩
  obtain ⟨b,off,c,h1,h2,h3,h4,h5,h6⟩:=(H.out.below hb).ent HPL.out
  rw [← HN.out] at h1 h2
  rw [← HY.out] at h6
  have HB:=Lib.hid hb
  clear h5 hb
  go_wp2
  go_ret2
  exact ⟨rfl,HB.out⟩
 |false=>
  have C1:=Lib.hid c1
  rw [if_neg (by decide)]
  clear h c1 hfd hp hz
  go_enter Tryz.func276,Tryz.ntmps276
  go_wp2_with (go_at_call 298;refine (C1.out).mono ?_;rintro e w1 ⟨rfl,hb⟩)
  go_ret2
  exact ⟨rfl,hb⟩
end Go.Proofs.YtldcadpemnpbmaaGreatDoor
set_option linter.unusedVariables false
namespace Go.Proofs.YtldcadpemnpbmaaGreatDoor
open Go Go.RowKit
attribute [local go_sem] Oper.semAt_some
end Go.Proofs.YtldcadpemnpbmaaGreatDoor
set_option linter.unusedVariables false
namespace Go.Proofs.YtldcadpemnpbmaaGreatDoor
open Go Go.RowKit
attribute [local go_sem] Oper.semAt_some
end Go.Proofs.YtldcadpemnpbmaaGreatDoor
set_option linter.unusedVariables false
namespace Go.Proofs.YtldcadpemnpbmaaGreatDoor
open Go Go.RowKit
attribute [local go_sem] Oper.semAt_some
end Go.Proofs.YtldcadpemnpbmaaGreatDoor
set_option linter.unusedVariables false
namespace Go.Proofs.YtldcadpemnpbmaaGreatDoor
open Go Go.RowKit
attribute [local go_sem] Oper.semAt_some
end Go.Proofs.YtldcadpemnpbmaaGreatDoor
set_option linter.unusedVariables false
namespace Go.Proofs.YtldcadpemnpbmaaGreatDoor
open Go Go.RowKit
section
variable (base B:Nat) (bs:List UInt8) (l:List Po) (w:World) (h:LAt w base B bs l)
include h
end
end Go.Proofs.YtldcadpemnpbmaaGreatDoor
namespace Go.Proofs.YtldcadpemnpbmaaGreatDoor
open Go Go.RowKit
set_option linter.unusedVariables false
set_option maxHeartbeats 1000000 in
theorem word_Key10 (f g:ByteArray) (w:World) (hf:f.size≤140737488355328) (hg:g.size≤140737488355328):
  Calls Tryz.prog 87 #[.agg #[.string f,.string g]] w fun e w'=>e= .returned (.string (keyB f g))∧Below w.heap.size w w':=by
 go_enter Tryz.func87,Tryz.ntmps87
 go_wp2
 go_ret
 exact ⟨rfl,(Below.refl _ _).alloc (Nat.le_refl _) _⟩
end Go.Proofs.YtldcadpemnpbmaaGreatDoor
set_option linter.unusedVariables false
namespace Go.Proofs.YtldcadpemnpbmaaGreatDoor
open Go Go.RowKit
theorem bytes_small {l:List Pn} (hm:mayB' (-1) l=true) (h1:l.length≤1000) (h2:totalP l≤40000000000):(bytesP (-1) l).length≤400000000000:=by
 have :=bytesP_length l (-1) (by omega) hm (fun p hp=>by have :=may_len hm p hp;omega)
 omega
theorem PSmall.at_ {x:PartsP} (h:PSmall x) (key:Nm):(postsPs x key).length≤1000∧totalP (postsPs x key)≤40000000000:=by
 have key':∀ (ks:List Nm) (ls:List (List Pn)),(∀ l∈ls,l.length≤1000∧totalP l≤40000000000)→(atP ks ls key).length≤1000∧totalP (atP ks ls key)≤40000000000:=by
  intro ks
  induction ks with
  |nil=>intro ls _;simp [atP,totalP]
  |cons k ks ih=>
   intro ls hl
   cases ls with
   |nil=>simp [atP,totalP]
   |cons l ls=>
    rw [atP]
    split
    ·exact hl l (List.mem_cons_self ..)
    ·exact ih ls fun m hm=>hl m (List.mem_cons_of_mem _ hm)
 exact key' _ _ h.lists
theorem may_at {x:PartsP} (h:mayPs x=true) (key:Nm):mayB' (-1) (postsPs x key)=true:=by
 have key':∀ (ks:List Nm) (ls:List (List Pn)),(∀ l∈ls,mayB' (-1) l=true)→mayB' (-1) (atP ks ls key)=true:=by
  intro ks
  induction ks with
  |nil=>intro ls _;rfl
  |cons k ks ih=>
   intro ls hl
   cases ls with
   |nil=>rfl
   |cons l ls=>
    rw [atP]
    split
    ·exact hl l (List.mem_cons_self ..)
    ·exact ih ls fun m hm=>hl m (List.mem_cons_of_mem _ hm)
 exact key' _ _ fun l hl=>(mayL_may ((mayPs_iff.1 h).2.2.2.2 l hl)).1
theorem posts_at {x:PartsP} (h:mayPs x=true) {i:Nat} (hi:i<x.keys.length) (hl:i<x.lists.length):postsPs x x.keys[i]=x.lists[i]:=
 atP_at hi hl rfl fun j hj hji e=>by
  have :=rise_at (risesN_iff.1 (mayPs_iff.1 h).2.2.2.1) hi hji
  rw [e] at this
  exact nm_irrefl _ this
theorem posts_no {x:PartsP} {key:Nm} (hr:Rise x.keys) (h:isN x.keys key=false):postsPs x key=[]:=atP_none fun k hk e=>by
 subst e
 have :isN x.keys k=true:=by
  obtain ⟨i,hi,rfl⟩:=List.mem_iff_getElem.1 hk
  exact (isN_own hr hi).2
 rw [h] at this
 cases this
section
variable {w:World} {S:Nat} {x:PartsP}
def GotList (l:List Pn) (w:World) (e:Ending) (w':World):Prop:=∃ B,e= .returned (.pointer (some ⟨B,0,none⟩))∧LAt w' 0 B (bytesP (-1) l) l∧Below w.heap.size w w'
set_option maxHeartbeats 2000000 in
set_option maxRecDepth 100000 in
theorem seg_list (h:SegAt w S x) (key:ByteArray):Calls Tryz.prog 234 #[.pointer (some ⟨S,0,none⟩),.string key] w (GotList (postsPs x key.data.toList) w):=by
 obtain ⟨bl,hd,hl⟩:=h.dict
 have hr:=risesN_iff.1 (mayPs_iff.1 h.may).2.2.2.1
 have c1:=dictP_Find S 2 x.keys bl key w hd hr (by have :=h.small.keys;omega)
 have hkl:=h.keys
 cases hf:isN x.keys key.data.toList with
 |true=>
  rw [hf,if_pos rfl] at c1
  obtain ⟨hp,hpe⟩:=isN_found hf
  obtain ⟨p,hpp⟩:∃ p,p=placeN x.keys key.data.toList:=⟨_,rfl⟩
  simp only [← hpp] at c1 hp hpe
  obtain ⟨base,hla⟩:=hl p (by omega)
  have hpo:postsPs x key.data.toList=x.lists[p]'(by omega):=by rw [← hpe];exact posts_at h.may hp (by omega)
  rw [hpo]
  have HLA:=Lib.hid (hla.low (Nat.zero_le _))
  obtain ⟨L,hL⟩:∃ L,L=x.lists[p]'(by omega):=⟨_,rfl⟩
  rw [← hL] at HLA ⊢
  have C1:=Lib.hid c1
  obtain ⟨B,hB⟩:∃ B,B=bl.getD p 0:=⟨_,rfl⟩
  rw [← hB] at C1 HLA
  clear c1 hd hl hr h hkl hf hp hpe hpp hla hpo hL hB
  go_enter Tryz.func234,Tryz.ntmps234
  go_wp2_with (go_at_call 276;refine C1.out.mono ?_;rintro e w' ⟨rfl,hb⟩)
  go_ret
  exact ⟨B,rfl,HLA.out.below hb,hb⟩
 |false=>
  rw [hf,if_neg (by decide)] at c1
  rw [posts_no hr hf]
  have C1:=Lib.hid c1
  have HM:Hid (∀ w1,Calls Tryz.prog 101 #[.slice none 0 0] w1 (MadeList [] w1)):=Lib.hid fun w1=>posting_Make none 0 0 [] w1 rfl (Nat.le_refl _) (Nat.zero_le _) (by omega) Posts.nil (by simp [totalP]) rfl
  clear c1 hd hl hr h hkl hf
  go_enter Tryz.func234,Tryz.ntmps234
  go_wp2_with (first
   |(go_at_call 276;refine C1.out.mono ?_;rintro e w1 ⟨rfl,hb⟩)
   |(go_at_call 101;refine (HM.out w1).mono ?_;rintro e w2 ⟨B,rfl,hla,hb2⟩))
  go_ret
  exact ⟨B,rfl,hla.low (Nat.zero_le _),hb.trans (hb2.mono hb.size)⟩
end
end Go.Proofs.YtldcadpemnpbmaaGreatDoor
set_option linter.unusedVariables false
namespace Go.Proofs.YtldcadpemnpbmaaGreatDoor
open Go Go.RowKit
set_option maxHeartbeats 1000000 in
set_option maxRecDepth 100000 in
theorem cur_New {fu:Prop × Nat} (base B:Nat) (g:List Po) (w:World) (h:LAt w base B (bytesP (-1) g) g) (hg:GoodG g) (hfu:fu.2≤w.heap.size):
  Calls Tryz.prog 233 #[.pointer (some ⟨B,0,none⟩)] w fun e w'=>∃ C,e= .returned (.pointer (some ⟨C,0,none⟩))∧w.heap.size≤C∧CAt fu C g (-1) w'∧Below w.heap.size w w':=by
 obtain ⟨vb,ve,hb,hl⟩:=ListN.of_at h
 obtain ⟨⟨c0,c1,c2,c3⟩,_⟩:=cell_four hb
 have HL:=Lib.hid hl
 clear h hl
 go_enter Tryz.func233,Tryz.ntmps233
 go_wp2
 go_ret
 have hal:Below w.heap.size w (w.alloc (.cells #[vb,ve,.int .i64 (g.length:Int),.int .i64 (totalP g:Int),.slice none 0 0,.int .i64 0,.bool false,.int .i64 0] 338)):=(Below.refl _ w).alloc (Nat.le_refl _) _
 refine ⟨w.heap.size,rfl,Nat.le_refl _,⟨vb,ve,none,0,0,false,0,[],heap_alloc_new w _,HL.out.only (S:=fun _=>False) (OnlyIn.of_below hal) (fun D hD=>hD.elim),.inl ⟨rfl,rfl,rfl,rfl⟩,Nat.le_refl _,Nat.zero_le _,PostsN.nil (Nat.le_trans hfu hal.size),hg⟩,hal⟩
end Go.Proofs.YtldcadpemnpbmaaGreatDoor
