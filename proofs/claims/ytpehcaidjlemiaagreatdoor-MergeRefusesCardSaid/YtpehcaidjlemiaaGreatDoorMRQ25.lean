import Derived.Test.YtpehcaidjlemiaaGreatDoorMRZz
import Derived.Test.YtpehcaidjlemiaaGreatDoorMRQ03
import Derived.Test.YtpehcaidjlemiaaGreatDoorMRQ04
import Derived.Shelf.SlSortCmp.WholeK
import Derived.Deep.RegionHeld3
import Derived.Shelf.SlSortCmp.NoneTotal
import Derived.Test.YtpehcaidjlemiaaGreatDoorProg
import Derived.Test.YtpehcaidjlemiaaGreatDoorMRQ12
import Derived.Test.YtpehcaidjlemiaaGreatDoorMRQ10
import Derived.Test.YtpehcaidjlemiaaGreatDoorMRQ02
import Derived.Test.YtpehcaidjlemiaaGreatDoorMRQ01
import Derived.Deep.AppendLies
import Derived.Maps.AppendAt
set_option maxHeartbeats 4000000
set_option maxRecDepth 100000
set_option linter.unusedVariables false
namespace Go.Proofs.YtpehcaidjlemiaaGreatDoor
open Go Go.RowKit
theorem qxu (t:TypeId) (a b:ByteArray):binOp .gtr t (.string a) (.string b)=pure (.bool !(Op.bytesLess a.toList b.toList || a.toList==b.toList)):=by simp [binOp,Op.stringOp]
attribute [local go_sem] qxu
theorem qkk (s:ByteArray) (w:World):Calls Tryz.prog 188 #[.string s] w fun e w'=>e= .returned (.bool false)/\w=w':=by
 go_enter Tryz.func188,Tryz.ntmps188
 go_wp2;go_ret;exact ⟨by simp,rfl⟩
theorem qxv (x y:ByteArray) (w:World):Calls Tryz.prog 153 #[.string x,.string y] w fun e w'=>e= .returned (.int .i64 (qaz x.data.toList y.data.toList))/\w=w':=by
 have e1:Op.bytesLess x.toList y.toList=decide (x.data.toList<y.data.toList):=by rw [Lib.toList_data,Lib.toList_data,qgc]
 have e2:(x.toList==y.toList)=decide (x.data.toList=y.data.toList):=by rw [Lib.toList_data,Lib.toList_data,Bool.eq_iff_iff];simp
 by_cases h1:x.data.toList<y.data.toList
 ·have hc:qaz x.data.toList y.data.toList= -1:=by simp [qaz,h1]
  rw [decide_eq_true h1] at e1;rw [hc];clear e2 hc h1
  go_enter Tryz.func153,Tryz.ntmps153
  go_wp2_with (go_at_call 188;refine (qkk _ _).mono ?_;rintro e w' ⟨rfl,rfl⟩)
  go_ret;exact ⟨rfl,rfl⟩
 ·rw [decide_eq_false h1] at e1
  by_cases h2:x.data.toList=y.data.toList
  ·have hc:qaz x.data.toList y.data.toList=0:=by simp [qaz,h2]
   rw [decide_eq_true h2] at e2;rw [hc];clear hc h1 h2
   go_enter Tryz.func153,Tryz.ntmps153
   go_wp2_with (go_at_call 188;refine (qkk _ _).mono ?_;rintro e w' ⟨rfl,rfl⟩)
   go_ret;exact ⟨rfl,rfl⟩
  ·have hc:qaz x.data.toList y.data.toList=1:=by simp [qaz,h1,h2]
   rw [decide_eq_false h2] at e2;rw [hc];clear hc h1 h2
   go_enter Tryz.func153,Tryz.ntmps153
   go_wp2_with (go_at_call 188;refine (qkk _ _).mono ?_;rintro e w' ⟨rfl,rfl⟩)
   go_ret;exact ⟨rfl,rfl⟩
open Go.Sort
def qbD (w w':World):Prop:=∃ q os,w'=grow (w.drewN q) os
theorem qbD.alloc {w w':World} (h:qbD w w') (o:Obj):qbD w (w'.alloc o):=by
 obtain ⟨q,os,rfl⟩:=h;exact ⟨q,os++#[o],by rw [alloc_eq_grow,grow_grow]⟩
theorem qbD.refl (w:World):qbD w w:=⟨0,#[],by rw [grow_empty];rfl⟩
theorem qbD.trans {w w1 w2:World} (h:qbD w w1) (k:qbD w1 w2):qbD w w2:=by
 obtain ⟨q,os,rfl⟩:=h;obtain ⟨q2,os2,rfl⟩:=k;refine ⟨q+q2,os++os2,?_⟩;rw [<- grow_grow];congr 1;show grow ((w.drewN q).drewN q2) os=_;congr 1;exact World.drewN_drewN w q q2
theorem qbD.drew {w w':World} (h:qbD w w'):qbD w w'.drew:=h.trans ⟨1,#[],by rw [grow_empty];rfl⟩
theorem qbD.below {w w':World} (h:qbD w w'):Below w.heap.size w w':=by
 obtain ⟨q,os,rfl⟩:=h;exact ⟨rfl,rfl,rfl,by simp [grow],fun k hk=>heap_grow_old _ _ hk⟩
theorem qkl (f g:ByteArray) (w:World) (hf:f.size<=140737488355328) (hg:g.size<=140737488355328):
  Calls Tryz.prog 58 #[.agg #[.string f,.string g]] w fun e w'=>e= .returned (.string (qen f g))/\qbD w w':=by
 go_enter Tryz.func58,Tryz.ntmps58
 go_wp2;go_ret;exact ⟨rfl,(qbD.refl w).alloc _⟩
theorem qxw (a b c d:ByteArray) (w:World) (ha:a.size<=1073741824) (hb:b.size<=1073741824) (hc:c.size<=1073741824) (hd:d.size<=1073741824):
    Calls Tryz.prog 152 #[.agg #[.string a,.string b],.agg #[.string c,.string d]] w fun e w'=>e= .returned (.int .i64 (qaz (qdy a.data.toList b.data.toList) (qdy c.data.toList d.data.toList)))/\qbD w w':=by
  obtain ⟨w1,hw1⟩:∃ w1,w1=(w.alloc (.cells #[.string a,.string b] 69)).alloc (.cells #[.string c,.string d] 69):=⟨_,rfl⟩;have hg1:qbD w w1:=by rw [hw1];exact ((qbD.refl w).alloc _).alloc _
  have hcell:∀ w',Below w1.heap.size w1 w'->w'.cell? ⟨w.heap.size,0,none⟩=some (.string a)/\w'.cell? ⟨w.heap.size,1,none⟩=some (.string b)/\w'.cell? ⟨w.heap.size+1,0,none⟩=some (.string c)/\w'.cell? ⟨w.heap.size+1,1,none⟩=some (.string d):=fun w' h=>by
    have hs1:w1.heap.size=w.heap.size+2:=by rw [hw1];simp
    have h0:w1.heap[w.heap.size]?=some (.cells #[.string a,.string b] 69 (0,0)):=by rw [hw1,Below.heap_alloc _ _ _ (by simp)];exact heap_alloc_new _ _
    have h1:w1.heap[w.heap.size+1]?=some (.cells #[.string c,.string d] 69 (0,0)):=by
      rw [hw1];have :=heap_alloc_new (w.alloc (.cells #[.string a,.string b] 69)) (.cells #[.string c,.string d] 69);rwa [World.size_alloc] at this
    have h0':=(h.block _ (by omega)).trans h0;have h1':=(h.block _ (by omega)).trans h1;exact ⟨by simp [World.cell?,h0'],by simp [World.cell?,h0'],by simp [World.cell?,h1'],by simp [World.cell?,h1']⟩
  have hk1:=fun w'=>qkl a b w' (by omega) (by omega)
  have hk2:=fun w'=>qkl c d w' (by omega) (by omega)
  have hcmp:=fun w'=>qxv (qen a b) (qen c d) w'
  rw [qil,qil] at hcmp;obtain ⟨K1,hK1⟩:∃ K1,K1=qen a b:=⟨_,rfl⟩;obtain ⟨K2,hK2⟩:∃ K2,K2=qen c d:=⟨_,rfl⟩;obtain ⟨R,hR⟩:∃ R,R=qaz (qdy a.data.toList b.data.toList) (qdy c.data.toList d.data.toList):=⟨_,rfl⟩;rw [<- hK1] at hk1 hcmp;rw [<- hK2] at hk2 hcmp;rw [<- hR] at hcmp ⊢;have HG1:=qH hg1;have HC:=qH hcell;have HK1:=qH hk1;have HK2:=qH hk2;have HCM:=qH hcmp;have HW1:=qH hw1;clear hw1 hg1 hcell hk1 hk2 hcmp hK1 hK2 hR
  go_enter Tryz.func152,Tryz.ntmps152
  go_wp2;rw [show (w.alloc _).alloc _=w1 from HW1.out.symm]
  have hst:qbD w1 w1.drew:=(qbD.refl w1).drew;have HST:Hid (qbD w1 w1.drew):=qH hst;clear hst
  go_region_held3 (fun w'=>(w'.cell? ⟨w.heap.size,0,none⟩=some (.string a)/\w'.cell? ⟨w.heap.size,1,none⟩=some (.string b)/\w'.cell? ⟨w.heap.size+1,0,none⟩=some (.string c)/\w'.cell? ⟨w.heap.size+1,1,none⟩=some (.string d))/\qbD w1 w')
    (first|exact ⟨HC.out _ HST.out.below,HST.out⟩|exact ⟨HC.out _ HG4.out.below,HG4.out⟩|exact ⟨HC.out _ HG5.out.below,HG5.out⟩)
    (first
      | (go_at_call 58; (with_reducible refine (HK1.out _).mono ?_); rintro e w4 ⟨rfl, hg4⟩
         have HG4:Hid (qbD w1 w4):=qH (HST.out.trans hg4))
      | (go_at_call 58; (with_reducible refine (HK2.out _).mono ?_); rintro e w5 ⟨rfl, hg5⟩
         have HG5:Hid (qbD w1 w5):=qH (HG4.out.trans hg5))
      |(go_at_call 153;(with_reducible refine (HCM.out _).mono ?_);rintro e w6 ⟨rfl,rfl⟩))
  all_goals
    go_wp2;go_ret;exact ⟨rfl,HG1.out.trans HG5.out⟩
open Go.Shelf
def qkm:Go.Shelf.Ren:=⟨fun |6=>186|14=>221|15=>158|20=>233|21=>234|22=>235|23=>236|24=>237|25=>238|26=>239|27=>240|28=>201|29=>202|46=>249|47=>228|48=>229|49=>250|50=>251|57=>254|n=>n,fun |0=>0|3=>3|4=>4|5=>5|9=>9|22=>145|24=>69|25=>255|39=>260|45=>289|46=>290|50=>142|53=>297|55=>102|66=>317|70=>321|76=>340|77=>312|n=>n,fun |n=>n⟩
theorem qpl:SlLaysF0.n6 Tryz.prog qkm:={
 mixed:=by kernel_rfl
 f6:=⟨Tryz.f186.name,by kernel_rfl,Tryz.func186.trans (congrArg some (by kernel_rfl))⟩
 f14:=⟨Tryz.f221.name,by kernel_rfl,Tryz.func221.trans (congrArg some (by kernel_rfl))⟩
 f15:=Tryz.func158.trans (congrArg some (by kernel_rfl))
 f20:=⟨Tryz.f233.name,by kernel_rfl,Tryz.func233.trans (congrArg some (by kernel_rfl))⟩
 f21:=⟨Tryz.f234.name,by kernel_rfl,Tryz.func234.trans (congrArg some (by kernel_rfl))⟩
 f22:=⟨Tryz.f235.name,by kernel_rfl,Tryz.func235.trans (congrArg some (by kernel_rfl))⟩
 f23:=⟨Tryz.f236.name,by kernel_rfl,Tryz.func236.trans (congrArg some (by kernel_rfl))⟩
 f24:=⟨Tryz.f237.name,by kernel_rfl,Tryz.func237.trans (congrArg some (by kernel_rfl))⟩
 f25:=⟨Tryz.f238.name,by kernel_rfl,Tryz.func238.trans (congrArg some (by kernel_rfl))⟩
 f26:=⟨Tryz.f239.name,by kernel_rfl,Tryz.func239.trans (congrArg some (by kernel_rfl))⟩
 f27:=⟨Tryz.f240.name,by kernel_rfl,Tryz.func240.trans (congrArg some (by kernel_rfl))⟩
 f28:=Tryz.func201.trans (congrArg some (by kernel_rfl))
 f29:=Tryz.func202.trans (congrArg some (by kernel_rfl))
 f46:=⟨Tryz.f249.name,by kernel_rfl,Tryz.func249.trans (congrArg some (by kernel_rfl))⟩
 f47:=Tryz.func228.trans (congrArg some (by kernel_rfl))
 f48:=Tryz.func229.trans (congrArg some (by kernel_rfl))
 f49:=⟨Tryz.f250.name,by kernel_rfl,Tryz.func250.trans (congrArg some (by kernel_rfl))⟩
 f50:=⟨Tryz.f251.name,by kernel_rfl,Tryz.func251.trans (congrArg some (by kernel_rfl))⟩
 f57:=⟨Tryz.f254.name,by kernel_rfl,Tryz.func254.trans (congrArg some (by kernel_rfl))⟩
 t0:=Tryz.underlying0
 a0:=Tryz.isAgg0
 z0:=Tryz.sizeOf0
 v0:=Tryz.zeroValue0
 t3:=Tryz.underlying3
 a3:=Tryz.isAgg3
 z3:=Tryz.sizeOf3
 v3:=Tryz.zeroValue3
 t4:=Tryz.underlying4
 a4:=Tryz.isAgg4
 z4:=Tryz.sizeOf4
 v4:=Tryz.zeroValue4
 t5:=Tryz.underlying5
 a5:=Tryz.isAgg5
 z5:=Tryz.sizeOf5
 v5:=Tryz.zeroValue5
 t9:=Tryz.underlying9
 a9:=Tryz.isAgg9
 z9:=Tryz.sizeOf9
 v9:=Tryz.zeroValue9
 t22:=Tryz.underlying145
 a22:=Tryz.isAgg145
 z22:=Tryz.sizeOf145
 v22:=Tryz.zeroValue145
 t25:=Tryz.underlying255
 a25:=Tryz.isAgg255
 z25:=Tryz.sizeOf255
 v25:=Tryz.zeroValue255
 t39:=Tryz.underlying260
 a39:=Tryz.isAgg260
 z39:=Tryz.sizeOf260
 v39:=Tryz.zeroValue260
 t45:=Tryz.underlying289
 a45:=Tryz.isAgg289
 z45:=Tryz.sizeOf289
 v45:=Tryz.zeroValue289
 t46:=Tryz.underlying290
 a46:=Tryz.isAgg290
 z46:=Tryz.sizeOf290
 v46:=Tryz.zeroValue290
 t50:=Tryz.underlying142
 a50:=Tryz.isAgg142
 z50:=Tryz.sizeOf142
 v50:=Tryz.zeroValue142
 t53:=Tryz.underlying297
 a53:=Tryz.isAgg297
 z53:=Tryz.sizeOf297
 v53:=Tryz.zeroValue297
 t55:=Tryz.underlying102
 a55:=Tryz.isAgg102
 z55:=Tryz.sizeOf102
 v55:=Tryz.zeroValue102
 t66:=Tryz.underlying317
 a66:=Tryz.isAgg317
 z66:=Tryz.sizeOf317
 v66:=Tryz.zeroValue317
 t70:=Tryz.underlying321
 a70:=Tryz.isAgg321
 z70:=Tryz.sizeOf321
 v70:=Tryz.zeroValue321
 t76:=Tryz.underlying340
 a76:=Tryz.isAgg340
 z76:=Tryz.sizeOf340
 v76:=Tryz.zeroValue340
 t77:=Tryz.underlying312
 a77:=Tryz.isAgg312
 z77:=Tryz.sizeOf312
 v77:=Tryz.zeroValue312}
abbrev Tm':={t:Tm//t.1.length<=536870912/\t.2.length<=536870912}
instance:Inhabited Tm':=⟨⟨([],[]),by simp,by simp⟩⟩
def qcH (x:Tm'):List Value:=[.string ⟨x.1.1.toArray⟩,.string ⟨x.1.2.toArray⟩]
def cfS (x y:Tm'):Int:=qaz (qae x.1) (qae y.1)
theorem qxx {x y:Nm}:qaz x y<0↔x<y:=by
 unfold qaz;by_cases h:x<y
 ·simp [h]
 ·rw [if_neg h]
  split<;>simp [h]
theorem qhU (x y:Tm'):ltOf cfS x y=decide (qae x.1<qae y.1):=by
 unfold ltOf cfS;rw [Bool.eq_iff_iff,decide_eq_true_iff,decide_eq_true_iff];exact qxx
theorem qxy:SWO (ltOf cfS):=by
 refine ⟨fun x=> ?_,fun x y z h1 h2=> ?_,fun x y z h1 h2=> ?_⟩
 ·rw [qhU];simp
 ·rw [qhU,decide_eq_true_iff] at*;exact qcR h1 h2
 ·rw [qhU,decide_eq_false_iff_not] at*
  intro h3;rcases qdR (qae x.1) (qae y.1) with e|e|e
  ·exact h1 e
  ·rw [e] at h3;exact h2 h3
  ·exact h2 (qcR e h3)
theorem qxz (blk off size:Nat) (w:World):CmpLays Tryz.prog 152 #[] qcH 2 cfS blk off size w:=by
 intro m os dk hs x y;obtain ⟨⟨x1,x2⟩,hx1,hx2⟩:=x;obtain ⟨⟨y1,y2⟩,hy1,hy2⟩:=y;have sz:∀ l:Nm,(⟨l.toArray⟩:ByteArray).size=l.length:=fun l=>by simp [ByteArray.size]
 have h:=qxw ⟨x1.toArray⟩ ⟨x2.toArray⟩ ⟨y1.toArray⟩ ⟨y2.toArray⟩ (sortWorldK qcH 2 w blk off m dk os) (by rw [sz];simp at hx1;omega) (by rw [sz];simp at hx2;omega) (by rw [sz];simp at hy1;omega) (by rw [sz];simp at hy2;omega);exact h
theorem qpm (ts:List Tm'):(flatK qcH 2 ts.toArray).toList=flds (ts.map (·.1)):=by
 apply List.ext_getElem?;intro j;have hsz:(flatK qcH 2 ts.toArray).toList.length=ts.length*2:=by rw [Array.length_toList,size_flatK];simp
 have hf:(flds (ts.map (·.1))).length=ts.length*2:=by rw [qfc,List.length_map]
 by_cases hj:j<ts.length*2
 ·have h1:=get_flatK qcH 2 ts.toArray j (by simpa using hj)
  have hk:j/2<ts.length:=by omega
  obtain ⟨g1,g2⟩:=qiA (l:=ts.map (·.1)) (k:=j/2) (by simpa using hk);have hgd:ts.toArray[j/2]! =ts[j/2]:=by rw [getElem!_pos _ _ (by simpa using hk)];simp
  rw [hgd] at h1;rw [List.getElem?_eq_getElem (by omega)];have h2:(flatK qcH 2 ts.toArray).toList[j]'(by omega)=(flatK qcH 2 ts.toArray)[j]! :=by
   rw [getElem!_pos _ _ (by rw [size_flatK];simpa using hj)];simp
  rw [h2,h1];rcases Nat.mod_two_eq_zero_or_one j with e|e
  ·have e3:(flds (ts.map (·.1)))[j]?=(flds (ts.map (·.1)))[j/2*2]?:=congrArg (fun k=>(flds (ts.map (·.1)))[k]?) (by omega)
   rw [e3,g1,e];simp [qcH]
  ·have e3:(flds (ts.map (·.1)))[j]?=(flds (ts.map (·.1)))[j/2*2+1]?:=congrArg (fun k=>(flds (ts.map (·.1)))[k]?) (by omega)
   rw [e3,g2,e];simp [qcH]
 ·rw [List.getElem?_eq_none (by omega),List.getElem?_eq_none (by omega)]
theorem qxA {w:World} {g n:Nat} {os:Array Obj} {cur:Array Value} {e:TypeId} {fr:Nat × Nat} (F:Array Value) (hb:w.heap[g]?=some (.cells cur e fr)):
  (grow (putRow id (Sort.ahead w n) g 0 F) os).heap[g]?=some (.cells (putCells id 0 F cur) e fr):=by
 have hg:g<w.heap.size:=(Array.getElem?_eq_some_iff.1 hb).1;rw [heap_grow_old _ _ (by simpa using hg)];simp [putRow,mapBlock,Sort.ahead,Array.getElem?_modify,hb,onCells]
theorem qxB {w:World} {g n:Nat} {os:Array Obj} (F:Array Value):w.grownBy (grow (putRow id (Sort.ahead w n) g 0 F) os) (some g):=by
 refine ⟨rfl,rfl,rfl,by simp,fun k hk hne=> ?_⟩;rw [heap_grow_old _ _ (by simpa using hk)];have :g≠k:=fun e=>hne (by rw [e])
 simp [putRow,mapBlock,Sort.ahead,Array.getElem?_modify,this]
theorem qxC (cur F:Array Value) (h:F.size<=cur.size):(putCells id 0 F cur).toList.take F.size=F.toList:=by
 apply List.ext_getElem?;intro j;by_cases hj:j<F.size
 ·rw [List.getElem?_take_of_lt hj,Array.getElem?_toList]
  simp [putCells,hj,show j<cur.size by omega]
 ·rw [List.getElem?_take_eq_none (by omega),List.getElem?_eq_none (by simp;omega)]
theorem qxD (base:Nat) (v:Value) (ts:List Tm) (w:World) (ho:qbI base w v ts) (hb:base<=w.heap.size) (hf:∀ t∈ts,t.1.length<=536870912/\t.2.length<=536870912) (hbig:ts.length<=1073741824):
  Calls Tryz.prog 186 #[v,.func (.func 152) #[] #[]] w fun e w'=>e= .returned (.tuple #[])/\∃ ts':List Tm,ts'.Perm ts/\(ts'.Pairwise fun s t=>¬ qae t<qae s)/\qbI base w' v ts'/\Below base w w':=by
 rcases ho.2 with ⟨rfl,h0⟩|⟨g,cap,cur,rfl,hbase,hh,h1,h2,h3,h4⟩
 ·obtain rfl:ts=[]:=List.eq_nil_of_length_eq_zero h0
  exact (AnyF.slices_SortFunc_none (ρ:=qkm) qpl none 0 _ w).mono fun e w' ⟨he,hw⟩=>⟨he,[],List.Perm.refl _,List.Pairwise.nil,by rw [hw];exact qbI.nil,by rw [hw];exact Below.refl _ _⟩
 ·obtain ⟨us,hus⟩:∃ us:List Tm',us.map (·.1)=ts:=⟨ts.attach.map fun x=>⟨x.1,hf x.1 x.2⟩,by rw [List.map_map];exact List.attach_map_subtype_val ts⟩
  have hul:us.length=ts.length:=by rw [<- hus,List.length_map]
  have hH:HoldsK qcH 2 w g 0 us.toArray:=by
   unfold HoldsK;intro j hj;rw [size_flatK] at hj;have hj':j<ts.length*2:=by simpa [hul] using hj
   refine ⟨?_,by simp [World.frozen?,hh]⟩;have e1:(flatK qcH 2 us.toArray)[j]?=(flds ts)[j]?:=by rw [<- Array.getElem?_toList,qpm,hus]
   have e2:(flds ts)[j]?=cur[j]?:=by
    rw [<- h4,List.getElem?_take_of_lt hj',Array.getElem?_toList]
   have e3:(flatK qcH 2 us.toArray)[j]?=some (flatK qcH 2 us.toArray)[j]! :=by rw [getElem!_pos _ _ (by rw [size_flatK];exact hj),Array.getElem?_eq_getElem]
   simp only [World.cell?,hh,Nat.zero_add,Option.isSome_none,Bool.false_eq_true,if_false,id];rw [<- e3,e1,e2]
  have hsort:=AnyQ.slices_SortFunc (ρ:=qkm) qpl 2 Tryz.isAgg69 Tryz.sizeOf69 qcH (fun _=>rfl) (fun x u hu=>by simp [qcH] at hu;rcases hu with rfl|rfl<;>rfl) cfS qxy 152 #[] g 0 cap us.toArray w (enters_of Tryz.func152 (by kernel_rfl) rfl) (qxz _ _ _ _) hH (Array.getElem?_eq_some_iff.1 hh).1 (by simp [hul];omega)
  rw [show us.toArray.size=ts.length by simp [hul]] at hsort;refine hsort.mono fun e w' ⟨he,d',n,os,hp,hs,hw⟩=>⟨he,d'.toList.map (·.1),?_,?_,?_,?_⟩
  ·obtain ⟨p1,p2,p3⟩:=hp
   have q1:d'.size=ts.length:=by rw [p1];simp [hul]
   rw [show d'.extract 0 ts.length=d' by rw [<- q1];simp,show us.toArray.extract 0 ts.length=us.toArray by rw [<- hul];simp] at p3;rw [<- hus];exact p3.map _
  ·have q1:d'.size=ts.length:=by rw [hp.1];simp [hul]
   rw [List.pairwise_map,List.pairwise_iff_getElem];intro i j hi hj hij;have :=hs i j (Nat.zero_le _) hij (by rw [<- q1];simpa using hj);rw [qhU,decide_eq_false_iff_not,getElem!_pos d' j (by simpa using hj),getElem!_pos d' i (by simpa using hi)] at this;simpa using this
  ·have q1:d'.size=ts.length:=by rw [hp.1];simp [hul]
   have q2:(flatK qcH 2 d').toList=flds (d'.toList.map (·.1)):=by have :=qpm d'.toList;simpa using this
   have q3:(flatK qcH 2 d').size=ts.length*2:=by rw [size_flatK,q1]
   rw [hw];have hlen:(d'.toList.map (·.1)).length=ts.length:=by simp [q1]
   refine ⟨by rw [qfc],.inr ⟨g,cap,putCells id 0 (flatK qcH 2 d') cur,by rw [hlen],hbase,qxA _ hh,by rw [hlen];exact h1,h2,by simp [putCells,h3],?_⟩⟩;rw [hlen,<- q3,qxC _ _ (by rw [q3,h3];exact Nat.mul_le_mul_right _ h1),q2]
  ·rw [hw]
   exact (Below.refl base w).grown (qxB _) hb (fun j hj=>by cases hj;exact hbase)
theorem qxE (Bx B:Nat) (m:List Ent) (w:World) (hm:qa0 w B m) (hc:w.cell? ⟨Bx,0,none⟩=some (.map (some B))) (hl:m.length<=134217727):
  Calls Tryz.prog 185 #[.func (.func 187) #[] #[.pointer (some ⟨Bx,0,none⟩)]] w (qn5 (m.map (·.1)) w):=by
 have HA:=qH (quO Bx B m w hm hc hl);clear hm hc
 go_enter Tryz.func185,Tryz.ntmps185
 go_wp2_with (go_at_call 220;(with_reducible refine HA.out.mono ?_);rintro e w' ⟨v,ts,rfl,hp,ho,hb⟩)
 go_ret;exact ⟨v,ts,rfl,hp,ho,hb⟩
def qxF (ks:List Tm) (w:World) (e:Ending) (w':World):Prop:=∃ v ts,e= .returned v/\ts.Perm ks/\(ts.Pairwise fun s t=>¬ qae t<qae s)/\qbI w.heap.size w' v ts/\Below w.heap.size w w'
theorem qxG (Bx B:Nat) (m:List Ent) (w:World) (hm:qa0 w B m) (hc:w.cell? ⟨Bx,0,none⟩=some (.map (some B))) (hl:m.length<=134217727) (hf:∀ t∈m.map (·.1),t.1.length<=536870912/\t.2.length<=536870912):
    Calls Tryz.prog 150 #[.func (.func 187) #[] #[.pointer (some ⟨Bx,0,none⟩)],.func (.func 152) #[] #[]] w (qxF (m.map (·.1)) w):=by
  have HA:=qH (qxE Bx B m w hm hc hl);have HF:=qH hf;have hks:(m.map (·.1)).length<=134217727:=by simpa using hl
  obtain ⟨ks,hk⟩:∃ ks,ks=m.map (·.1):=⟨_,rfl⟩;rw [<- hk] at hks HA HF ⊢;clear hm hc hf hk
  go_enter Tryz.func150,Tryz.ntmps150
  go_wp2_with (first
    | (go_at_call 185; (with_reducible refine HA.out.mono ?_); rintro e w1 ⟨v, ts, rfl, hp, ho, hb⟩
       have hlt:ts.length<=134217727:=by rw [hp.length_eq];exact hks
       have HS:=qH (qxD w.heap.size v ts w1 ho hb.size (fun t ht=>HF.out t (hp.mem_iff.1 ht)) (by omega));have HP:=qH hp;have HB:=qH hb;clear hp ho hb)
    |(go_at_call 186;(with_reducible refine HS.out.mono ?_);rintro e w2 ⟨rfl,ts2,hp2,hs2,ho2,hb2⟩))
  go_ret;exact ⟨v,ts2,rfl,hp2.trans HP.out,hs2,ho2,HB.out.trans hb2⟩
def qce (base:Nat) (w:World) (v:Value) (l:List Int):Prop:=w.ownsRow base 3 1 v l.length (qaa l)
theorem qce.nil {base:Nat} {w:World}:qce base w (.slice none 0 0) []:=World.ownsRow_nil _ _ _ _
def qbQ (base:Nat) (w:World) (B:Nat) (g:List Gr):Prop:=∃ m:List Ent,qa0 w B m/\base<=B/\m.length=g.length/\
 (∀ (i:Nat) (e:Ent) (p:Gr),m[i]?=some e->g[i]?=some p->e.1=p.1/\qce base w e.2 p.2)/\
 ∀ (i j:Nat) (e f:Ent) (k:Nat),i≠j->m[i]?=some e->m[j]?=some f->e.2.ownBlock=some k->f.2.ownBlock≠some k
theorem qpn {base:Nat} {w:World} {v:Value} {l:List Int} (h:qce base w v l) {B:Nat} {es:Array MapEntry} {c:Nat} (hB:w.heap[B]?=some (.map es c)):v.ownBlock≠some B:=by
 intro he;rcases h.2 with ⟨rfl,_⟩|⟨g,cap,cur,rfl,_,hh,_⟩
 ·cases he
 ·simp only [Value.ownBlock,Option.some.injEq] at he
  subst he;rw [hh] at hB;cases hB
theorem qbQ.lt {base:Nat} {w:World} {B:Nat} {g:List Gr} (h:qbQ base w B g):B<w.heap.size:=by obtain ⟨m,h1,_⟩:=h;exact (Array.getElem?_eq_some_iff.1 h1).1
theorem qbQ.made (w:World):qbQ w.heap.size (w.alloc (.map #[] 0)) w.heap.size []:=⟨[],heap_alloc_new w _,Nat.le_refl _,rfl,by simp,by simp⟩
theorem qbQ.below {base:Nat} {w w':World} {B:Nat} {g:List Gr} (h:qbQ base w B g) (hb:Below w.heap.size w w'):qbQ base w' B g:=by
 have hlt:=h.lt;obtain ⟨m,h1,h2,h3,h4,h5⟩:=h;exact ⟨m,(hb.block B hlt).trans h1,h2,h3,fun i e p he hp=>⟨(h4 i e p he hp).1,qap (h4 i e p he hp).2 hb⟩,h5⟩
theorem qkn {base:Nat} {w:World}:∀ {m:List Ent} {g:List Gr} (t:Tm),m.length=g.length->(∀ (i:Nat) (e:Ent) (p:Gr),m[i]?=some e->g[i]?=some p->e.1=p.1/\qce base w e.2 p.2)->qce base w (qb2 m t) (qa4 g t)
 |[],g,t,hl,h=>by
  cases g with
  |nil=>exact qce.nil
  |cons p g=>cases hl
 |e::m,g,t,hl,h=>by
  cases g with
  |nil=>cases hl
  |cons p g=>
   obtain ⟨h1,h2⟩:=h 0 e p rfl rfl;have ih:=qkn (m:=m) (g:=g) t (by simpa using hl) fun i e' p' he hp=>h (i+1) e' p' (by simpa using he) (by simpa using hp)
   rw [qa4];by_cases ht:e.1=t
   ·have hp:qam (e::m) t=0:=by unfold qam;rw [List.findIdx_cons];simp [ht]
    have hv:qb2 (e::m) t=e.2:=by unfold qb2;simp [hp]
    rw [if_pos (by rw [<- h1];exact ht),hv];exact h2
   ·have hp:qam (e::m) t=qam m t+1:=by unfold qam;rw [List.findIdx_cons];simp [ht]
    have hv:qb2 (e::m) t=qb2 m t:=by unfold qb2;simp [hp]
    rw [if_neg (by rw [<- h1];exact ht),hv];exact ih
theorem qbQ.look {base:Nat} {w:World} {B:Nat} {g:List Gr} (h:qbQ base w B g) (t:Tm):∃ v,(∃ m,qa0 w B m/\qb2 m t=v)/\qce base w v (qa4 g t):=by
 obtain ⟨m,h1,h2,h3,h4,h5⟩:=h;exact ⟨_,⟨m,h1,rfl⟩,qkn t h3 h4⟩
theorem qpo:∀ {m:List Ent} {g:List Gr} {t:Tm} {a:Int},m.length=g.length->(∀ (i:Nat) (e:Ent) (p:Gr),m[i]?=some e->g[i]?=some p->e.1=p.1)->
  (qbr g t a).length=(qb3 m t).length/\(qbr g t a)[qam m t]?=some (t,qa4 g t++[a])/\∀ i p,i≠qam m t->(qbr g t a)[i]?=some p->g[i]?=some p
 |[],g,t,a,hl,h=>by
  cases g with
  |nil=>refine ⟨by simp [qbr,qb3,qam],by simp [qbr,qam,qa4],fun i p hi hp=> ?_⟩;cases i with|zero=>simp [qam] at hi|succ i=>simp [qbr] at hp
  |cons p g=>cases hl
 |e::m,g,t,a,hl,h=>by
  cases g with
  |nil=>cases hl
  |cons p g=>
   have h1:=h 0 e p rfl rfl;obtain ⟨i1,i2,i3⟩:=qpo (m:=m) (g:=g) (t:=t) (a:=a) (by simpa using hl) fun i e' p' he hp=>h (i+1) e' p' (by simpa using he) (by simpa using hp)
   have hl':m.length=g.length:=by simpa using hl
   rw [qbr];by_cases ht:e.1=t
   ·have hp:qam (e::m) t=0:=by unfold qam;rw [List.findIdx_cons];simp [ht]
    have ht':p.1=t:=by rw [<- h1];exact ht
    rw [if_pos ht',hp];refine ⟨by simp [qb3,hp,hl'],by simp [qa4,ht'],fun i q hi hq=> ?_⟩;cases i with
    |zero=>exact absurd rfl hi
    |succ i=>simpa using hq
   ·have hp:qam (e::m) t=qam m t+1:=by unfold qam;rw [List.findIdx_cons];simp [ht]
    have ht':¬ p.1=t:=by rw [<- h1];exact ht
    have he:(qb3 (e::m) t).length=(qb3 m t).length+1:=by
     unfold qb3;rw [hp];by_cases hq:qam m t<m.length
     ·rw [if_pos hq,if_pos (by simpa using hq)];rfl
     ·rw [if_neg hq,if_neg (by simpa using hq)];simp
    rw [if_neg ht',hp];refine ⟨by rw [he,List.length_cons,i1],by rw [List.getElem?_cons_succ,i2,qa4,if_neg ht'],fun i q hi hq=> ?_⟩;cases i with
    |zero=>simpa using hq
    |succ i=>simpa using i3 i q (by omega) (by simpa using hq)
theorem qbQ.added {base:Nat} {w w3:World} {B:Nat} {g:List Gr} {m:List Ent} {t:Tm} {a:Int} {v':Value}
  (h1:qa0 w B m) (h2:base<=B) (h3:m.length=g.length) (h4:∀ (i:Nat) (e:Ent) (p:Gr),m[i]?=some e->g[i]?=some p->e.1=p.1/\qce base w e.2 p.2)
  (h5:∀ (i j:Nat) (e f:Ent) (k:Nat),i≠j->m[i]?=some e->m[j]?=some f->e.2.ownBlock=some k->f.2.ownBlock≠some k)
  (hk:∀ (k:Nat),k<w.heap.size->k≠B->(qb2 m t).ownBlock≠some k->w3.heap[k]?=w.heap[k]?)
  (hm:∀ hp:qam m t<(qb3 m t).length,qa0 w3 B ((qb3 m t).set (qam m t) ((qb3 m t)[qam m t].1,v'))) (ho:qce base w3 v' (qa4 g t++[a])) (hn:v'.ownBlock=(qb2 m t).ownBlock∨∀ k,v'.ownBlock=some k->w.heap.size<=k):qbQ base w3 B (qbr g t a):=by
 obtain ⟨p1,p2⟩:=qnM m t;obtain ⟨q1,q2,q3⟩:=qpo (a:=a) (t:=t) h3 fun i e p he hp=>(h4 i e p he hp).1
 have hB:B<w.heap.size:=(Array.getElem?_eq_some_iff.1 h1).1;have hp2:(qb3 m t)[qam m t]=(t,qb2 m t):=by rw [List.getElem?_eq_getElem p1] at p2;exact Option.some.inj p2
 have hm':=hm p1;rw [hp2] at hm';have hm2:qa0 w3 B ((qb3 m t).set (qam m t) (t,v')):=hm';have hent:∀ (i:Nat) (e:Ent),i≠qam m t->(qb3 m t)[i]?=some e->m[i]?=some e:=fun i e hi he=>by
  unfold qb3 at he;split at he
  ·exact he
  ·rename_i hlt
   have hle:qam m t<=m.length:=List.findIdx_le_length;rw [List.getElem?_append] at he;split at he
   ·exact he
   ·rename_i h6
    have :i≠m.length:=by omega
    rw [List.getElem?_eq_none (by simp;omega)] at he;cases he
 have hval:∀ (i:Nat) (e:Ent) (k:Nat),i≠qam m t->m[i]?=some e->e.2.ownBlock=some k->(qb2 m t).ownBlock≠some k:=fun i e k hi he hk'=>by
  unfold qb2;split
  ·rename_i hlt
   exact h5 i (qam m t) e _ k hi he (List.getElem?_eq_getElem hlt) hk'
  ·intro hh;cases hh
 refine ⟨_,hm2,h2,by rw [List.length_set,q1],fun i e p he hp=> ?_,fun i j e f k hij he hf hk'=> ?_⟩
 ·rw [List.getElem?_set] at he
  by_cases hi:qam m t=i
  ·subst hi
   rw [if_pos rfl,if_pos p1] at he;rw [q2] at hp;cases he;cases hp;exact ⟨rfl,ho⟩
  ·rw [if_neg hi] at he
   have he':=hent i e (fun h=>hi h.symm) he;have hp':=q3 i p (fun h=>hi h.symm) hp;obtain ⟨r1,r2⟩:=h4 i e p he' hp';refine ⟨r1,qax r2 fun k hk'=> ?_⟩;exact hk k (r2.lt k hk').2 (fun e=>qpn r2 h1 (by rw [hk',e])) (hval i e k (fun h=>hi h.symm) he' hk')
 ·rw [List.getElem?_set] at he hf
  have hother:∀ (x:Nat) (u:Ent),qam m t≠x->(qb3 m t)[x]?=some u->∀ k,u.2.ownBlock=some k->v'.ownBlock≠some k:=fun x u hx hu k hk2 hv=>by
   have hu':=hent x u (fun h=>hx h.symm) hu;rcases hn with hn|hn
   ·rw [hn] at hv
    exact hval x u k (fun h=>hx h.symm) hu' hk2 hv
   ·have hlx:x<g.length:=by rw [<- h3];exact (List.getElem?_eq_some_iff.1 hu').1
    have :=((h4 x u _ hu' (List.getElem?_eq_getElem hlx)).2.lt k hk2).2;have :=hn k hv;omega
  by_cases hi:qam m t=i
  ·subst hi
   rw [if_pos rfl,if_pos p1] at he;cases he;rw [if_neg hij] at hf;intro hf2;exact hother j f hij hf k hf2 hk'
  ·rw [if_neg hi] at he
   by_cases hj:qam m t=j
   ·subst hj
    rw [if_pos rfl,if_pos p1] at hf;cases hf;exact hother i e hi he k hk'
   ·rw [if_neg hj] at hf
    exact h5 i j e f k hij (hent i e (fun h=>hi h.symm) he) (hent j f (fun h=>hj h.symm) hf) hk'
structure qbR (base:Nat) (w w':World):Prop where
 below:Below base w w'
 keep:∀ (k:Nat) (cs:Array Value) (t:TypeId) (fr:Nat × Nat),w.heap[k]?=some (.cells cs t fr)->t≠3->w'.heap[k]?=some (.cells cs t fr)
theorem qbR.refl (base:Nat) (w:World):qbR base w w:=⟨Below.refl _ _,fun _ _ _ _ h _=>h⟩
theorem qbR.trans {base:Nat} {w w1 w2:World} (h:qbR base w w1) (k:qbR base w1 w2):qbR base w w2:=⟨h.below.trans k.below,fun i cs t fr hi ht=>k.keep i cs t fr (h.keep i cs t fr hi ht) ht⟩
theorem qbR.of {base:Nat} {w w1:World} (h:Below w.heap.size w w1) (hb:base<=w.heap.size):qbR base w w1:=⟨h.mono hb,fun k cs t fr hk _=>(h.block k (Array.getElem?_eq_some_iff.1 hk).1).trans hk⟩
theorem qbR.owned {base base':Nat} {w w1:World} {e:TypeId} {size:Nat} {v:Value} {n:Nat} {xs:List Value} (h:qbR base w w1) (ho:w.ownsRow base' e size v n xs) (he:e≠3):w1.ownsRow base' e size v n xs:=by
 refine ⟨ho.1,?_⟩;rcases ho.2 with h1|⟨g,cap,cur,h1,h2,h3,h4⟩
 ·exact .inl h1
 ·exact .inr ⟨g,cap,cur,h1,h2,h.keep g _ _ _ h3 he,h4⟩
theorem qxH {w w':World} {row:Option Nat} (hg:w.grownBy w' row) {p:Addr} {v:Value} (h:w.cell? p=some v) (hne:row≠some p.block):w'.cell? p=some v:=by
 have hb:=hg.block p.block (World.block_lt_of_cell? w _ h) (fun e=>hne e.symm);rw [<- h];simp [World.cell?,hb]
def qxI (base B:Nat) (g:List Gr) (w:World) (e:Ending) (w':World):Prop:=e= .returned (.tuple #[])/\qbQ base w' B g/\qbR base w w'
theorem qxJ (base B Bm:Nat) (g:List Gr) (x y:ByteArray) (a:Int) (w:World) (h:qbQ base w B g) (hc:w.cell? ⟨Bm,0,none⟩=some (.map (some B))) (hbase:base<=w.heap.size) (hlen:(qa4 g (x.data.toList,y.data.toList)).length<=1073741824):
    Calls Tryz.prog 184 #[.agg #[.string x,.string y],.int .i64 a,.pointer (some ⟨Bm,0,none⟩)] w (qxI base B (qbr g (x.data.toList,y.data.toList) a) w):=by
  obtain ⟨i0,hi0,hz0,hz1,hz2⟩:=info_parts qdh;have hB:=h.lt;obtain ⟨m,h1,h2,h3,h4,h5⟩:=h;obtain ⟨t,ht⟩:∃ t:Tm,t=(x.data.toList,y.data.toList):=⟨_,rfl⟩;rw [<- ht] at hlen ⊢;have hown:qce base w (qb2 m t) (qa4 g t):=qkn t h3 h4;obtain ⟨p1,p2⟩:=qnM m t;have hadd:=fun (w3:World) (v':Value)=>qbQ.added (w3:=w3) (a:=a) (v':=v') (t:=t) h1 h2 h3 h4 h5
  obtain ⟨p,hp⟩:∃ p,p=qam m t:=⟨_,rfl⟩;obtain ⟨l,hl⟩:∃ l,l=qa4 g t:=⟨_,rfl⟩;obtain ⟨v,hv⟩:∃ v,v=qb2 m t:=⟨_,rfl⟩;have HADD:=qH hadd;have HT:=qH ht;have HM:=qH h1;have HP:=qH hp;have HL:=qH hl;have HV:=qH hv;have hapart:=qpn hown h1;rw [<- hv,<- hl] at hown;rw [<- hv] at hapart;rw [<- hl] at hlen;rw [<- hp] at p1;clear hadd ht h1 h3 h4 h5 hp hl hv p2;have hcm:=qH (fun w' (hb:Below w.heap.size w w')=>(hb.cell (p:=⟨Bm,0,none⟩) (World.block_lt_of_cell? w _ hc)).trans hc)
  go_enter Tryz.func184,Tryz.ntmps184
  have b0:Below w.heap.size w ((w.alloc (.cells #[.string x,.string y] 69)).alloc (.cells #[.int .i64 a] 3)):=((Below.refl _ w).alloc (Nat.le_refl _) _).alloc (by simp) _;obtain ⟨W1,hW1⟩:∃ W1,W1=(w.alloc (.cells #[.string x,.string y] 69)).alloc (.cells #[.int .i64 a] 3):=⟨_,rfl⟩;rw [<- hW1] at b0;have hM1:qa0 W1 B m:=(b0.block B hB).trans HM.out;have hs1:W1.heap.size=w.heap.size+2:=by rw [hW1];simp
  have hn1:W1.cell? ⟨w.heap.size+1,0,none⟩=some (.int .i64 a):=by
    rw [hW1];simp
  have hown1:qce base W1 v l:=qap hown b0;have hk1:∀ k,k<w.heap.size->W1.heap[k]?=w.heap[k]?:=fun k hk=>b0.block k hk
  have HCB:=hcm.out _ ((Below.refl _ w).alloc (Nat.le_refl _) (.cells #[.string x,.string y] 69));have hy:Value.agg #[.string x,.string y]=tV t:=by rw [HT.out];rfl
  have HW1:=qH hW1;have HY:=qH hy;clear hW1 hy
  go_wp2_with (first
    | (refine quy _ (by rfl) _ _ (by rfl) B m t (by rfl) (by rw [<- HW1.out]; exact hM1) (by rw [<- HY.out]; rfl) ?_
       rw [<- HW1.out,<- HV.out,<- HP.out];intro w2 hM2 hg2;have hown2:qce base w2 v l:=hown1.kept hg2 (.inr hapart);have hs2:W1.heap.size<=w2.heap.size:=hg2.size;have hn2:w2.cell? ⟨w.heap.size+1,0,none⟩=some (.int .i64 a):=qxH hg2 hn1 (by simp;omega))
    | (at_builtin; refine wpList_append_own_at _ rfl _ _ 23 rfl base 3 i0 _ 1 8 Tryz.underlying23 hi0 hz0 hz1 hz2 rfl (by omega) v l.length (qaa l) (by rfl) hown2 ⟨w.heap.size + 1, 0, none⟩ 1 1 [.int .i64 a] (by rfl) rfl (by intro j u hj; match j, hj with | 0, hj => (simp at hj; subst hj; simpa [Addr.add] using hn2)) (by intro u hu; simp at hu; subst hu; rfl) (by unfold maxLen; omega) (by omega) (by omega) ?_
       intro v' w3 hown3 hg3 _ hat3;have hM3:qa0 w3 B (qb3 m t):=(hg3.block B (by omega) (fun e=>hapart e.symm)).trans hM2)
    | (refine quz _ (by rfl) _ _ _ (by rfl) B (qb3 m t) p p1 v' (by rfl) hM3 (by rfl) (by rfl) ?_
       intro w4 hM4 hg4))
  have hsz3:w2.heap.size<=w3.heap.size:=hg3.size;have hB1:B<W1.heap.size:=by omega
  have hk4:∀ (k:Nat),k<W1.heap.size->k≠B->v.ownBlock≠some k->w4.heap[k]?=W1.heap[k]?:=fun k h6 h7 h8=>by
    rw [hg4.block k (by omega) (fun e=>h7 (by cases e;rfl)),hg3.block k (by omega) (fun e=>h8 e.symm),hg2.block k h6 (fun e=>h7 (by cases e;rfl))]
  have hbl:Below base w w4:=⟨hg4.os.trans (hg3.os.trans (hg2.os.trans b0.os)),hg4.tape.trans (hg3.tape.trans (hg2.tape.trans b0.tape)),hg4.output.trans (hg3.output.trans (hg2.output.trans b0.output)),by have :=hg4.size;omega,fun k hk=>by
    rw [hk4 k (by omega) (by omega) (fun e=>by have :=(hown.lt k e).1;omega),hk1 k (by omega)]⟩
  have hnb:v'.ownBlock≠some B:=fun e=>by
    rcases hat3 with h6|h6
    · exact hapart (h6.symm.trans e)
    · rw [h6] at e;cases e;omega
  have hown4:qce base w4 v' (l++[a]):=by
    have h6:=hown3.kept hg4 (.inr hnb);unfold qce;rw [List.length_append];simpa [qaa] using h6
  go_end0
  refine ⟨rfl,HADD.out w4 v' (fun k h6 h7 h8=>by rw [<- HV.out] at h8;rw [hk4 k (by omega) h7 h8,hk1 k h6]) (fun hp=> ?_) (by rw [<- HL.out];exact hown4) ?_,hbl,fun k cs ty fr hk hty=> ?_⟩
  · simp only [<- HP.out]
    exact hM4
  · rw [<- HV.out]
    rcases hat3 with h6|h6
    · exact .inl h6
    · refine .inr fun k h7=> ?_
      rw [h6] at h7;cases h7;omega
  · have hlt:=(Array.getElem?_eq_some_iff.1 hk).1
    rw [hk4 k (by omega) (fun e=> ?_) (fun e=> ?_),hk1 k hlt,hk]
    · subst e
      have :=HM.out;unfold qa0 at this;rw [hk] at this;cases this
    · exact qao hown hk hty e
theorem qko {M:Nat}:∀ l:List Fd,(∀ f∈l,(qaK f.2).length<=M)->(qaP l).length<=l.length*M
 |[],_=>by simp [qaP]
 |f::l,h=>by
  have h1:=h f (List.mem_cons_self ..);have h2:=qko l fun g hg=>h g (List.mem_cons_of_mem _ hg)
  rw [qaP,List.length_append,qgd,List.length_cons,Nat.succ_mul];omega
theorem qxK {w:World} {B:Nat} {u v:Value} {t:TypeId} (h:w.heap[B]?=some (.cells #[u,v] t (0,0))):w.cell? ⟨B,0,none⟩=some u/\w.cell? ⟨B,1,none⟩=some v:=⟨by simp [World.cell?,h],by simp [World.cell?,h]⟩
def qkp (base:Nat) (g:Nat) (Bm:Nat) (J:List (Tm × Int)->World->Prop):Prop:=
 (∀ args w,(callFunc g args).run Tryz.prog w= .ok (.enter g args) w)/\(∀ s W W',J s W->Below W.heap.size W W'->J s W')/\
 ∀ (s:List (Tm × Int)) (x y:ByteArray) (a:Int) (W:World),J s W->base<=W.heap.size->s.length<=104857600->
  Calls Tryz.prog g #[.agg #[.string x,.string y],.int .i64 a,.pointer (some ⟨Bm,0,none⟩)] W fun e W'=>e= .returned (.tuple #[])/\J (s++[((x.data.toList,y.data.toList),a)]) W'/\qbR base W W'
def qxL (l:List Fd) (base:Nat) (J:List (Tm × Int)->World->Prop) (w1:World) (i:Value) (wr:World):Prop:=∃ k:Nat,k<=l.length/\i= .int .i64 (k:Int)/\J (qaP (l.take k)) wr/\qbR base w1 wr
def qxM (s:List (Tm × Int)) (f:Nm) (ws:List Nm) (base:Nat) (J:List (Tm × Int)->World->Prop) (w4:World) (i:Value) (wr:World):Prop:=∃ m:Nat,m<=ws.length/\i= .int .i64 (m:Int)/\J (s++qbW f 0 (ws.take m)) wr/\qbR base w4 wr
theorem qpp (base g Bm:Nat) (J:List (Tm × Int)->World->Prop) (id:Int) (A:Option Addr) (n c:Nat) (l:List Fd) (w:World) (hl:l.length=n) (hr:qaA w base A l) (hbase:base<=w.heap.size) (hn:n<=100)
  (ht:∀ f∈l,f.2.length<=268435456) (hw:∀ f∈l,(qaK f.2).length<=1048576) (hT:qkp base g Bm J) (h0:J [] w):
  Calls Tryz.prog 106 #[qcT id A n c,.func (.func g) #[] #[.pointer (some ⟨Bm,0,none⟩)]] w fun e w'=>e= .returned (.tuple #[])/\J (qaP l) w'/\qbR base w w':=by
 subst hl;obtain ⟨eg,hJ,hT⟩:=hT;have HR:=qH hr;have HT:=qH ht;have HW:=qH hw;have HJ:=qH hJ;have HTT:=qH hT;have HLEN:=qH (qko (M:=1048576));obtain ⟨all,hall⟩:∃ all,all=qaP l:=⟨_,rfl⟩;rw [<- hall];have HALL:=qH hall;obtain ⟨w1,hw1⟩:∃ w1,w1=qbC w id A l.length c:=⟨_,rfl⟩;have hb1:Below w.heap.size w w1:=by rw [hw1];exact qfR _ _ _ _ _
 have hj1:J [] w1:=hJ _ _ _ h0 hb1;have hc1:w1.cell? ⟨w.heap.size,1,none⟩=some (.slice A l.length c):=by rw [hw1];exact (qfQ (Below.refl _ _)).2
 have hs1:=hb1.size;have HB1:=qH hb1;have HJ1:=qH hj1;have HW1:=qH hw1;clear hr ht hw hJ hT hall hb1 hj1 hw1 h0;have hsoft0:qbR base w w1:=qbR.of HB1.out hbase;have HS0:=qH hsoft0;clear hsoft0;have hc1':(qbC w id A l.length c).cell? ⟨w.heap.size,1,none⟩=some (.slice A l.length c):=by rw [<- HW1.out];exact hc1
 go_enter Tryz.func106,Tryz.ntmps106
 go_wp2;rw [show w.alloc _=w1 from HW1.out.symm]
 clear hc1'
 go_loopw [11] (fun i wr=>qxL l base J w1 i wr) (fun i _=>l.length-(intOf i).toNat)
 case atStart=>exact ⟨0,by omega,rfl,by rw [List.take_zero];exact HJ1.out,qbR.refl _ _⟩
 case round=>
  obtain ⟨k,hk,rfl,hj,hso⟩:=hrel;by_cases hlt:k<l.length
  ·have hbw:Below base w wr:=HS0.out.below.trans hso.below
   have hszr:=hso.below.size;obtain ⟨b1,o1,e1,hb1,hf1,hf2⟩:=(HR.out.below hbw).at_ hlt;subst e1;obtain ⟨x,hx,hx2⟩:=qbV l[k].1;obtain ⟨y,hy,hy2⟩:=qbV l[k].2;rw [<- hx] at hf1;rw [<- hy] at hf2;have i0:(0:Int)<=k:=by omega
   have i1:(k:Int)<l.length:=by omega
   have hsy:y.size<=268435456:=by rw [hy,qeM];exact HT.out _ (List.getElem_mem hlt)
   have hwl:=HW.out _ (List.getElem_mem hlt);have hsu:=qsn hlt;have hlen:=HLEN.out (l.take k) fun f hf=>HW.out f (List.mem_of_mem_take hf)
   rw [List.length_take,Nat.min_eq_left (by omega)] at hlen;have hlen2:(qaP (l.take k)).length<=99*1048576:=Nat.le_trans hlen (Nat.mul_le_mul_right _ (by omega));obtain ⟨s,hs⟩:∃ s,s=qaP (l.take k):=⟨_,rfl⟩;obtain ⟨ws,hws⟩:∃ ws,ws=qaK l[k].2:=⟨_,rfl⟩;rw [<- hs] at hj hsu hlen2;rw [<- hws] at hsu hwl;have C1:Hid (∀ w',Calls Tryz.prog 155 #[.string y] w' (qij ws w')):=qH fun w'=>by have :=qlo y w' (by omega);rwa [hy2,<- hws] at this
   obtain ⟨fn,hfn⟩:∃ fn,fn=l[k].1:=⟨_,rfl⟩;rw [<- hfn] at hsu hx2;have HX2:=qH hx2;have HSU:=qH hsu;have HJK:=qH hj;have HSO:=qH hso;obtain ⟨w2,hw2⟩:∃ w2,w2=wr.alloc (.cells #[.string x,.string y] 121):=⟨_,rfl⟩;have hf0:w2.heap[wr.heap.size]?=some (.cells #[.string x,.string y] 121 (0,0)):=by rw [hw2];exact heap_alloc_new _ _
   have hb2:Below wr.heap.size wr w2:=by rw [hw2];exact (Below.refl _ _).alloc (Nat.le_refl _) _
   have hb3:=hb2.size;have HF0:=qH hf0;have HB2:=qH hb2;have HW2:=qH hw2;clear hx hx2 hy hy2 hs hws hfn hsu hj hso hbw hlen hf0 hb2 hw2
   go_wp2_with (go_at_call 155;refine (C1.out _).mono ?_)
   rw [show wr.alloc _=w2 from HW2.out.symm]
   rintro e w4 ⟨v4,rfl,hown4,hb4⟩;obtain ⟨A4,c4,rfl,hlc4,_⟩:=qaT hown4;have hs4:=hb4.size;have hj4:J s w4:=HJ.out _ _ _ HJK.out (HB2.out.trans (hb4.mono (by omega)));have hf4:w4.heap[wr.heap.size]?=some (.cells #[.string x,.string y] 121 (0,0)):=(hb4.block _ (by have :=(Array.getElem?_eq_some_iff.1 HF0.out).1;omega)).trans HF0.out;have hso4:qbR base wr w4:=qbR.of (HB2.out.trans (hb4.mono (by omega))) (by omega);have HJ4:=qH hj4;have HF4:=qH hf4;have HO4:=qH hown4;have HSO4:=qH hso4;clear hj4 hf4 hown4 hso4 hb4;go_wp2
   go_loopw [19] (fun i wx=>qxM s fn ws base J w4 i wx) (fun i _=>ws.length-(intOf i).toNat)
   case atStart=>exact ⟨0,by omega,rfl,by rw [List.take_zero];simpa [qbW] using HJ4.out,qbR.refl _ _⟩
   case round=>
    obtain ⟨m,hm,rfl,hj5,hso5⟩:=hrel;by_cases hmt:m<ws.length
    ·obtain ⟨b2,o2,e2,hb2,hg1⟩:=qfb (qb7 (hso5.owned HO4.out (by decide))) hmt
     subst e2;obtain ⟨z,hz,hz2⟩:=qbV ws[m];rw [<- hz] at hg1;obtain ⟨hx5,_⟩:=qxK (hso5.keep _ _ _ _ HF4.out (by decide));have hsz5:=hso5.below.size;have hsu2:=qsm fn hmt;rw [<- hz2,<- HX2.out] at hsu2;have hl5:(s++qbW fn 0 (ws.take m)).length<=104857600:=by rw [List.length_append,qgd,List.length_take];omega
     have C2:Hid (Calls Tryz.prog g #[.agg #[.string x,.string z],.int .i64 (m:Int),.pointer (some ⟨Bm,0,none⟩)] wr fun e W'=>e= .returned (.tuple #[])/\J (s++qbW fn 0 (ws.take (m+1))) W'/\qbR base wr W'):=qH (by
      have :=HTT.out _ x z (m:Int) wr hj5 (by omega) hl5;rw [List.append_assoc,<- HX2.out,<- hsu2] at this;rwa [<- HX2.out])
     have j0:(0:Int)<=m:=by omega
     have j1:(m:Int)<ws.length:=by omega
     have HSO5:=qH hso5;clear hz hz2 hsu2 hj5 hso5
     go_wp2_with (go_at_fn g;refine C2.out.mono ?_;rintro e w6 ⟨rfl,hj6,hso6⟩)
     exact ⟨⟨m+1,by omega,by go_num,hj6,HSO5.out.trans hso6⟩,by simp [intOf];omega⟩
    ·have hml:m=ws.length:=by omega
     subst hml;rw [List.take_length,<- HSU.out] at hj5;go_wp2;exact ⟨⟨k+1,by omega,by go_num,hj5,HSO.out.trans (HSO4.out.trans hso5)⟩,by simp [intOf];omega⟩
  ·have hkl:k=l.length:=by omega
   subst hkl;rw [List.take_length,<- HALL.out] at hj;have HSO:=qH hso;clear hso;go_wp2
   go_end0
   exact ⟨rfl,hj,HS0.out.trans HSO.out⟩
end Go.Proofs.YtpehcaidjlemiaaGreatDoor
