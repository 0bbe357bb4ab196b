import Derived.Test.YtpehcaidjlemiaaGreatDoorMKZz
import Derived.Shelf.Sort.Plain
import Derived.Shelf.Slices.Clone
import Derived.Shelf.Slices.CompactS
import Derived.Shelf.Slices.In.SortNone
import Derived.Shelf.Strings.Prefix
import Derived.Shelf.Small.Bits
import Derived.Shelf.SlSorted.Search
import Derived.Sort.OwnSorted
import Derived.Sort.Grow
import Derived.Lib.OwnBridge
import Derived.Test.YtpehcaidjlemiaaGreatDoorMKQ03
import Derived.Test.YtpehcaidjlemiaaGreatDoorMKQ05
import Derived.BigCall
import Derived.BigQuiet
import Derived.Deep.QuietTactic
import Derived.Deep.RegionHeld3
import Derived.Deep.AppendLies
import Derived.Test.YtpehcaidjlemiaaGreatDoorMKQ08
set_option maxHeartbeats 4000000
set_option maxRecDepth 100000
set_option linter.unusedVariables false
namespace Go.Proofs.YtpehcaidjlemiaaGreatDoor
open Go.Shelf Go.RowKit Go.Sort
def qxh:Go.Shelf.Ren:=⟨fun |16=>212|n=>n,fun |4=>4|9=>9|24=>40|n=>n,fun |n=>n⟩
theorem qkl:Lays2.n16 Tryz.prog qxh:={
 mixed:=by kernel_rfl
 f16:=Tryz.func212.trans (congrArg some (by kernel_rfl))
 t4:=Tryz.underlying4
 a4:=Tryz.isAgg4
 z4:=Tryz.sizeOf4
 v4:=Tryz.zeroValue4
 t9:=Tryz.underlying9
 a9:=Tryz.isAgg9
 z9:=Tryz.sizeOf9
 v9:=Tryz.zeroValue9
 t24:=Tryz.underlying40
 a24:=Tryz.isAgg40
 z24:=Tryz.sizeOf40
 v24:=Tryz.zeroValue40
 i9:=by kernel_rfl}
def qxi:Go.Shelf.Ren:=⟨fun |125=>158|128=>201|129=>202|190=>109|258=>157|302=>192|303=>193|304=>194|305=>195|306=>196|307=>197|308=>198|309=>199|310=>200|329=>228|330=>229|333=>227|334=>230|335=>231|336=>188|344=>246|n=>n,fun |0=>0|3=>3|4=>4|5=>5|9=>9|31=>40|46=>260|51=>297|53=>102|131=>142|182=>289|183=>290|218=>317|222=>321|228=>340|229=>312|n=>n,fun |n=>n⟩
theorem qph:Lays.n190 Tryz.prog qxi:={
 mixed:=by kernel_rfl
 f125:=Tryz.func158.trans (congrArg some (by kernel_rfl))
 f128:=Tryz.func201.trans (congrArg some (by kernel_rfl))
 f129:=Tryz.func202.trans (congrArg some (by kernel_rfl))
 f190:=Tryz.func109.trans (congrArg some (by kernel_rfl))
 f258:=Tryz.func157.trans (congrArg some (by kernel_rfl))
 f302:=Tryz.func192.trans (congrArg some (by kernel_rfl))
 f303:=Tryz.func193.trans (congrArg some (by kernel_rfl))
 f304:=Tryz.func194.trans (congrArg some (by kernel_rfl))
 f305:=Tryz.func195.trans (congrArg some (by kernel_rfl))
 f306:=Tryz.func196.trans (congrArg some (by kernel_rfl))
 f307:=Tryz.func197.trans (congrArg some (by kernel_rfl))
 f308:=Tryz.func198.trans (congrArg some (by kernel_rfl))
 f309:=Tryz.func199.trans (congrArg some (by kernel_rfl))
 f310:=Tryz.func200.trans (congrArg some (by kernel_rfl))
 f329:=Tryz.func228.trans (congrArg some (by kernel_rfl))
 f330:=Tryz.func229.trans (congrArg some (by kernel_rfl))
 f333:=Tryz.func227.trans (congrArg some (by kernel_rfl))
 f334:=Tryz.func230.trans (congrArg some (by kernel_rfl))
 f335:=Tryz.func231.trans (congrArg some (by kernel_rfl))
 f336:=Tryz.func188.trans (congrArg some (by kernel_rfl))
 f344:=Tryz.func246.trans (congrArg some (by kernel_rfl))
 t0:=Tryz.underlying0
 a0:=Tryz.isAgg0
 z0:=Tryz.sizeOf0
 v0:=Tryz.zeroValue0
 t3:=Tryz.underlying3
 a3:=Tryz.isAgg3
 z3:=Tryz.sizeOf3
 v3:=Tryz.zeroValue3
 t4:=Tryz.underlying4
 a4:=Tryz.isAgg4
 z4:=Tryz.sizeOf4
 v4:=Tryz.zeroValue4
 t5:=Tryz.underlying5
 a5:=Tryz.isAgg5
 z5:=Tryz.sizeOf5
 v5:=Tryz.zeroValue5
 t9:=Tryz.underlying9
 a9:=Tryz.isAgg9
 z9:=Tryz.sizeOf9
 v9:=Tryz.zeroValue9
 t31:=Tryz.underlying40
 a31:=Tryz.isAgg40
 z31:=Tryz.sizeOf40
 v31:=Tryz.zeroValue40
 t46:=Tryz.underlying260
 a46:=Tryz.isAgg260
 z46:=Tryz.sizeOf260
 v46:=Tryz.zeroValue260
 t51:=Tryz.underlying297
 a51:=Tryz.isAgg297
 z51:=Tryz.sizeOf297
 v51:=Tryz.zeroValue297
 t53:=Tryz.underlying102
 a53:=Tryz.isAgg102
 z53:=Tryz.sizeOf102
 v53:=Tryz.zeroValue102
 t131:=Tryz.underlying142
 a131:=Tryz.isAgg142
 z131:=Tryz.sizeOf142
 v131:=Tryz.zeroValue142
 t182:=Tryz.underlying289
 a182:=Tryz.isAgg289
 z182:=Tryz.sizeOf289
 v182:=Tryz.zeroValue289
 t183:=Tryz.underlying290
 a183:=Tryz.isAgg290
 z183:=Tryz.sizeOf290
 v183:=Tryz.zeroValue290
 t218:=Tryz.underlying317
 a218:=Tryz.isAgg317
 z218:=Tryz.sizeOf317
 v218:=Tryz.zeroValue317
 t222:=Tryz.underlying321
 a222:=Tryz.isAgg321
 z222:=Tryz.sizeOf321
 v222:=Tryz.zeroValue321
 t228:=Tryz.underlying340
 a228:=Tryz.isAgg340
 z228:=Tryz.sizeOf340
 v228:=Tryz.zeroValue340
 t229:=Tryz.underlying312
 a229:=Tryz.isAgg312
 z229:=Tryz.sizeOf312
 v229:=Tryz.zeroValue312}
def qxj:Go.Shelf.Ren:=⟨fun |194=>213|n=>n,fun |0=>0|3=>3|4=>4|9=>9|31=>40|n=>n,fun |n=>n⟩
theorem qpi:Lays.n194 Tryz.prog qxj:={
 mixed:=by kernel_rfl
 f194:=Tryz.func213.trans (congrArg some (by kernel_rfl))
 t0:=Tryz.underlying0
 a0:=Tryz.isAgg0
 z0:=Tryz.sizeOf0
 v0:=Tryz.zeroValue0
 t3:=Tryz.underlying3
 a3:=Tryz.isAgg3
 z3:=Tryz.sizeOf3
 v3:=Tryz.zeroValue3
 t4:=Tryz.underlying4
 a4:=Tryz.isAgg4
 z4:=Tryz.sizeOf4
 v4:=Tryz.zeroValue4
 t9:=Tryz.underlying9
 a9:=Tryz.isAgg9
 z9:=Tryz.sizeOf9
 v9:=Tryz.zeroValue9
 t31:=Tryz.underlying40
 a31:=Tryz.isAgg40
 z31:=Tryz.sizeOf40
 v31:=Tryz.zeroValue40}
theorem qxk (A:Option Addr) (n c:Nat) (xs:List Nm) (w:World) (hn:xs.length=n) (hr:Row w w.heap.size A (qae xs)) (hbig:n<=1073741824):
  Calls Tryz.prog 212 #[.slice A n c] w (qe0 xs w):=by
 rcases A with _|a
 ·have h0:xs=[]:=by
   rcases hr with h|⟨_,_,h,_⟩
   ·exact List.eq_nil_of_length_eq_zero (by rw [<- qeV,h];rfl)
   ·cases h
  subst h0;exact (Any.slices_Clone_string_nil qkl n c w).mono fun e w' ⟨he,hw⟩=>⟨_,he,qaJ.nil,by rw [hw];exact Below.refl _ _⟩
 ·by_cases h0:n=0
  ·subst h0
   obtain rfl:xs=[]:=List.eq_nil_of_length_eq_zero hn;exact (Any.slices_Clone_string_zero qkl a c w).mono fun e w' ⟨v,he,ho,_,hb⟩=>⟨v,he,ho,hb⟩
  ·obtain ⟨b,off,ha,hlt,hc⟩:=hr.at_ (by rw [qeV];omega)
   injection ha with ha
   subst ha;refine (Any.slices_Clone_string qkl b off n c (xs.map fun x=>⟨x.toArray⟩) w (by simp;omega) (by omega) (fun j hj=> ?_)).mono fun e w' ⟨v,he,ho,_,hb⟩=>⟨v,he,?_,hb⟩
   ·rw [List.length_map] at hj
    rw [hc j (.string ⟨xs[j].toArray⟩) (by simp [qae,hj])];simp [List.getD,hj]
   ·unfold qaJ
    rw [hn];have e1:((xs.map fun x=>(⟨x.toArray⟩:ByteArray)).take n).map Value.string=qae xs:=by
     rw [List.take_of_length_le (by simp;omega),List.map_map];rfl
    rw [<- e1];exact ho
theorem qxl (base:Nat) (v:Value) (xs:List Nm) (w:World) (ho:qaJ base w v xs) (hb:base<=w.heap.size) (hbig:xs.length<=1073741824):
  Calls Tryz.prog 109 #[v] w fun e w'=>e= .returned (.tuple #[])/\qaJ base w' v (xs.mergeSort fun x y=>decide (x<=y))/\Below base w w':=by
 have hl2:(xs.mergeSort fun x y=>decide (x<=y)).length=xs.length:=List.length_mergeSort xs;rcases ho.2 with ⟨rfl,h0⟩|⟨g,cap,cur,rfl,hbase,hh,h1,h2,h3,h4⟩
 ·obtain rfl:xs=[]:=List.eq_nil_of_length_eq_zero h0
  exact (Any.slices_Sort_string_none qph none 0 w).mono fun e w' ⟨he,hw⟩=>⟨he,by rw [hw];simpa using qaJ.nil,by rw [hw];exact Below.refl _ _⟩
 ·have hH:Holds encStr w g 0 xs.toArray:=holds_of_block hh (by simpa [qae] using h4)
  refine (Any.slices_Sort_string qph g 0 cap xs w hH (lt_of_block hh) (by omega)).mono fun e w' ⟨he,n,os,hw⟩=>⟨he,?_,?_⟩
  ·rw [hw]
   unfold qaJ;rw [hl2];exact ownsRow_sorted hl2 hbase hh h1 h2 h3
  ·rw [hw]
   exact (Below.refl base w).grown (grownBy_sorted _) hb (fun j hj=>by cases hj;exact hbase)
theorem qxm (base:Nat) (v:Value) (xs:List Nm) (w:World) (ho:qaJ base w v xs) (hbig:xs.length<=1073741824):
  Calls Tryz.prog 213 #[v] w fun e w'=>∃ v',e= .returned v'/\qaJ base w' v' (Lib.compact xs)/\Below base w w':=by
 have hle:=Lib.compact_length_le xs;rcases ho.2 with ⟨rfl,h0⟩|⟨g,cap,cur,rfl,hbase,hh,h1,h2,h3,h4⟩
 ·obtain rfl:xs=[]:=List.eq_nil_of_length_eq_zero h0
  exact (Any.slices_Compact_string_empty qpi none 0 w).mono fun e w' ⟨he,hw⟩=>⟨_,he,by rw [hw];exact qaJ.nil,by rw [hw];exact Below.refl _ _⟩
 ·have hH:Holds encStr w g 0 xs.toArray:=holds_of_block hh (by simpa [qae] using h4)
  refine (Any.slices_Compact_string qpi g 0 cap xs w hH (by omega) h1).mono fun e w' ⟨he,q,hw⟩=>⟨_,he,?_,?_⟩
  ·rw [hw]
   have h:=Lib.ownsRow_putRow (q:=q) (k:=(Lib.compact xs).length) (ys:=Lib.compact xs++List.replicate (xs.length-(Lib.compact xs).length) []) ho (by simp;omega) (by omega);rw [List.take_left] at h;exact h
  ·rw [hw]
   exact Lib.below_putRow (Below.refl base w) hbase
theorem qkm (s:ByteArray) (w:World):Calls Tryz.prog 188 #[.string s] w fun e w'=>e= .returned (.bool false)/\w=w':=by
 go_enter Tryz.func188,Tryz.ntmps188
 go_wp2;go_ret;exact ⟨by simp,rfl⟩
theorem qxn (x y:ByteArray) (w:World):Calls Tryz.prog 153 #[.string x,.string y] w fun e w'=>e= .returned (.int .i64 (qaC x.data.toList y.data.toList))/\w=w':=by
 have e1:Op.bytesLess x.toList y.toList=decide (x.data.toList<y.data.toList):=by rw [Lib.toList_data,Lib.toList_data,qgv]
 have e2:(x.toList==y.toList)=decide (x.data.toList=y.data.toList):=by rw [Lib.toList_data,Lib.toList_data,Bool.eq_iff_iff];simp
 by_cases h1:x.data.toList<y.data.toList
 ·have hc:qaC x.data.toList y.data.toList= -1:=by simp [qaC,h1]
  rw [decide_eq_true h1] at e1;rw [hc];clear e2 hc h1
  go_enter Tryz.func153,Tryz.ntmps153
  go_wp2_with (go_at_call 188;refine (qkm _ _).mono ?_;rintro e w' ⟨rfl,rfl⟩)
  go_ret;exact ⟨rfl,rfl⟩
 ·rw [decide_eq_false h1] at e1
  by_cases h2:x.data.toList=y.data.toList
  ·have hc:qaC x.data.toList y.data.toList=0:=by simp [qaC,h2]
   rw [decide_eq_true h2] at e2;rw [hc];clear hc h1 h2
   go_enter Tryz.func153,Tryz.ntmps153
   go_wp2_with (go_at_call 188;refine (qkm _ _).mono ?_;rintro e w' ⟨rfl,rfl⟩)
   go_ret;exact ⟨rfl,rfl⟩
  ·have hc:qaC x.data.toList y.data.toList=1:=by simp [qaC,h1,h2]
   rw [decide_eq_false h2] at e2;rw [hc];clear hc h1 h2
   go_enter Tryz.func153,Tryz.ntmps153
   go_wp2_with (go_at_call 188;refine (qkm _ _).mono ?_;rintro e w' ⟨rfl,rfl⟩)
   go_ret;exact ⟨rfl,rfl⟩
open Go
theorem qaJ.push7 {base:Nat} {w':World} {v':Value} {l:List Nm} {x:Nm} (h:w'.ownsRow base 9 1 v' (l.length+1) (qae l++[.string ⟨x.toArray⟩])):qaJ base w' v' (l++[x]):=by
 unfold qaJ;rw [List.length_append,List.length_singleton];simpa [qae] using h
def qgR:Value->Nat| .slice _ n _=>n|_=>0
theorem qkn {w:World} {B b o c:Nat} {x:Nm} {r:List Nm} {AN:Addr} (h:Row w B (some ⟨b,o,none⟩) (qae (x::r))) (hc:r.length+1<=c) (hA:(if c=1 then some (⟨b,o,none⟩:Addr) else some ⟨b,o+1,none⟩)=some AN):Row w B (some AN) (qae r):=by
 by_cases h1:c=1
 ·have :r=[]:=List.eq_nil_of_length_eq_zero (by omega)
  subst this;exact .inl rfl
 ·rw [if_neg h1] at hA
  rw [<- hA];have :=h.dropped 1;simpa using this
def qgS (ans:List Nm) (N:Nat) (w:World) (u0 u1 u5:Value) (wr:World):Prop:=
 ∃ (a b done:List Nm) (A B:Option Addr) (ca cb:Nat),u0= .slice A a.length ca/\u1= .slice B b.length cb/\a.length<=ca/\ca<=maxLen/\b.length<=cb/\cb<=maxLen/\Row w w.heap.size A (qae a)/\Row w w.heap.size B (qae b)/\
  qaJ w.heap.size wr u5 done/\Below w.heap.size w wr/\ans=done++qcn a b/\done.length+a.length+b.length<=N
theorem qxo (A B:Option Addr) (na ca nb cb:Nat) (a b:List Nm) (w:World) (hna:a.length=na) (hnb:b.length=nb) (ha:na<=ca) (hca:ca<=maxLen) (hb:nb<=cb) (hcb:cb<=maxLen) (hra:Row w w.heap.size A (qae a)) (hrb:Row w w.heap.size B (qae b)) (hN:na+nb<=1048576):
    Calls Tryz.prog 214 #[.slice A na ca,.slice B nb cb] w (qe0 (qcn a b) w):=by
  obtain ⟨i0,hi0,hz0,hz1,hz2⟩:=info_parts qeW;obtain ⟨N,hNe⟩:∃ N,N=na+nb:=⟨_,rfl⟩;have h0:∀ v wr,qaJ w.heap.size wr v []->Below w.heap.size w wr->qgS (qcn a b) N w (.slice A na ca) (.slice B nb cb) v wr:=fun v wr h1 h2=>
    ⟨a,b,[],A,B,ca,cb,by rw [hna],by rw [hnb],by omega,hca,by omega,hcb,hra,hrb,h1,h2,rfl,by simp;omega⟩
  have H0:=qH h0;have hN2:N<=1048576:=by omega
  obtain ⟨ans,hans⟩:∃ ans,ans=qcn a b:=⟨_,rfl⟩;rw [<- hans] at H0;rw [<- hans];clear h0 hans hra hrb hna hnb;obtain ⟨w1,hrun,hown1,hgrow1⟩:=run_make_own (P:=Tryz.prog) w w.heap.size 40 9 i0 _ 1 Tryz.underlying40 hi0 hz0 hz1 .i64 .i64 (na+nb) (by rw [hz2];omega) (by unfold maxLen;omega) (Nat.le_refl _);rw [Int.natCast_add] at hrun;have hs1:(0:Int)<=(na:Int)+(nb:Int):=by omega
  have hs2:(na:Int)+(nb:Int)<=1048576:=by omega
  have hb1:Below w.heap.size w w1:=(Below.refl _ w).grown hgrow1 (Nat.le_refl _) (fun k hk=>by cases hk);have HREL0:=qH (H0.out _ _ hown1 hb1);have HNe:=qH hNe;clear hown1 hgrow1 hb1 H0 hNe
  go_enter Tryz.func214,Tryz.ntmps214
  go_wp2;clear hN ha hb hca hcb hrun hs1 hs2 HNe
  go_loopw [0,1,5] (qgS ans N w) (fun x y _ _=>qgR x+qgR y)
  case atStart=>exact HREL0.out
  case round=>
    obtain ⟨a,b,done,A,B,ca,cb,rfl,rfl,ha,hca,hb,hcb,hra,hrb,hown,hbw,hans,hlen⟩:=hrel;unfold maxLen at hca hcb;obtain ⟨na,hna⟩:∃ n,n=a.length:=⟨_,rfl⟩;obtain ⟨nb,hnb⟩:∃ n,n=b.length:=⟨_,rfl⟩;rw [<- hna,<- hnb] at hlen;rw [<- hna] at ha;rw [<- hnb] at hb;rw [<- hna,<- hnb];have hsz:=hbw.size;cases a with
    |nil=>
      obtain ⟨aa,haa⟩:∃ l,l=([]:List Nm):=⟨_,rfl⟩;obtain ⟨bb,hbb⟩:∃ l,l=b:=⟨_,rfl⟩;rw [<- haa] at hra hna hans;rw [<- hbb] at hrb hnb hans;have hna0:na=0:=by rw [hna,haa];rfl
      have HO:=qH hown;have HBW:=qH hbw;have HNA:=qH hna;have HNB:=qH hnb;have HRA:=qH (hra.later hbw);have HRB0:=qH hrb;have hle:done.length+(na+nb)<=1048576:=by omega
      have HANS:Hid (ans=done++aa++bb):=qH (by rw [hans];rw [haa,qlQ];simp);clear hown hbw hna hnb hra hrb hans
      go_wp2_with (first
        | (at_builtin; refine qhq _ rfl (.tmp 52) (.tmp 53) rfl w.heap.size _ done rfl HO.out A na ca aa rfl HNA.out.symm HRA.out (by omega) HBW.out.size ?_
           intro v1 w5 ho5 hb5;have HO5:=qH ho5;have HB5:=qH hb5;have HB6:=qH (HBW.out.trans hb5);clear ho5 hb5)
        | (at_builtin; refine qhq _ rfl (.tmp 54) (.tmp 55) rfl w.heap.size _ (done ++ aa) rfl HO5.out B nb cb bb rfl HNB.out.symm ((HRB0.out.below HB6.out).more HB6.out.size) (by rw [List.length_append, <- HNA.out]; omega) HB6.out.size ?_
           intro v2 w7 ho7 hb7;have HO7:=qH ho7;have HB7:=qH (HB6.out.trans hb7);clear ho7 hb7))
      go_ret;refine ⟨_,rfl,?_,HB7.out⟩;rw [HANS.out];exact HO7.out
    |cons x a=>
      cases b with
      |nil=>
        obtain ⟨aa,haa⟩:∃ l,l=x::a:=⟨_,rfl⟩;obtain ⟨bb,hbb⟩:∃ l,l=([]:List Nm):=⟨_,rfl⟩;rw [<- haa] at hra hna hans;rw [<- hbb] at hrb hnb hans;have hnb0:nb=0:=by rw [hnb,hbb];rfl
        subst hnb0;have hna0:0<na:=by rw [hna,haa];simp
        have hna1:(0:Int)<(na:Int):=by omega
        have HO:=qH hown;have HBW:=qH hbw;have HNA:=qH hna;have HNB:=qH hnb;have HRA:=qH (hra.later hbw);have HRB0:=qH hrb;have hle:done.length+na<=1048576:=by omega
        have HANS:Hid (ans=done++aa++bb):=qH (by rw [hans];rw [hbb,qlP];simp);clear hown hbw hna hnb hra hrb hans
        go_wp2_with (first
          | (at_builtin; refine qhq _ rfl (.tmp 52) (.tmp 53) rfl w.heap.size _ done rfl HO.out A na ca aa rfl HNA.out.symm HRA.out (by omega) HBW.out.size ?_
             intro v1 w5 ho5 hb5;have HO5:=qH ho5;have HB5:=qH hb5;have HB6:=qH (HBW.out.trans hb5);clear ho5 hb5)
          | (at_builtin; refine qhq _ rfl (.tmp 54) (.tmp 55) rfl w.heap.size _ (done ++ aa) rfl HO5.out B 0 cb bb rfl HNB.out.symm ((HRB0.out.below HB6.out).more HB6.out.size) (by rw [List.length_append, <- HNA.out]; omega) HB6.out.size ?_
             intro v2 w7 ho7 hb7;have HO7:=qH ho7;have HB7:=qH (HB6.out.trans hb7);clear ho7 hb7))
        go_ret;refine ⟨_,rfl,?_,HB7.out⟩;rw [HANS.out];exact HO7.out
      |cons y b=>
        obtain ⟨b1,o1,rfl,hb1,hc1⟩:=hra.at_ (by simp [qae]);obtain ⟨b2,o2,rfl,hb2,hc2⟩:=hrb.at_ (by simp [qae]);have hx0:w.cell? ⟨b1,o1,none⟩=some (.string ⟨x.toArray⟩):=hc1 0 _ rfl;have hy0:w.cell? ⟨b2,o2,none⟩=some (.string ⟨y.toArray⟩):=hc2 0 _ rfl;have hx1:=(hbw.cell (p:=⟨b1,o1,none⟩) hb1).trans hx0;have hy1:=(hbw.cell (p:=⟨b2,o2,none⟩) hb2).trans hy0;have hnap:0<na:=by rw [hna];simp
        have hnbp:0<nb:=by rw [hnb];simp
        have hnap':(0:Int)<(na:Int):=by omega
        have hnbp':(0:Int)<(nb:Int):=by omega
        have hna1:(1:Int)<=(na:Int):=by omega
        have hnb1:(1:Int)<=(nb:Int):=by omega
        have hca1:(na:Int)<=(ca:Int):=by omega
        have hcb1:(nb:Int)<=(cb:Int):=by omega
        obtain ⟨X,hX,hX2⟩:=qbY x;obtain ⟨Y,hY,hY2⟩:=qbY y;rw [<- hX] at hx1;rw [<- hY] at hy1;have hcm:=fun w=>qxn X Y w
        rw [hX2,hY2] at hcm;rw [qcn] at hans;have HX:=qH hX;have HY:=qH hY;have HNA:=qH hna;have HNB:=qH hnb;have HRA:=qH hra;have HRB:=qH hrb;have HO:=qH hown;have HSX:Hid (∀ w',Below w.heap.size wr w'->w'.cell? ⟨b1,o1,none⟩=some (.string X)):=qH fun w' h=>(h.cell (p:=⟨b1,o1,none⟩) hb1).trans hx1
        have HSY:Hid (∀ w',Below w.heap.size wr w'->w'.cell? ⟨b2,o2,none⟩=some (.string Y)):=qH fun w' h=>(h.cell (p:=⟨b2,o2,none⟩) hb2).trans hy1
        have hal:done.length<=1048576:=by omega
        clear hX hX2 hY hY2 hna hnb hra hrb hown hc1 hc2 hx0 hy0;by_cases hxy:x<y
        · have hcv:qaC x y= -1:=by simp [qaC,hxy]
          rw [hcv] at hcm;rw [if_pos hxy] at hans;have HA:=qH hans;have CM:Hid (∀ n,Calls Tryz.prog 153 #[.string X,.string Y] (wr.drewN n) fun e w'=>e= .returned (.int .i64 (-1))/\w'=wr.drewN n):=qH fun n=>(hcm _).mono fun _ _ h=>⟨h.1,h.2.symm⟩
          clear hcv hcm hans hxy;go_wp2
          go_quiet ((go_at_call 153;exact Calls.quiet_of_same (CM.out _)))
          go_wp2;obtain ⟨w5,hw5⟩:∃ w5,w5=wr.drewN nq:=⟨_,rfl⟩;have hbq:Below w.heap.size wr w5:=by rw [hw5];exact ⟨rfl,rfl,rfl,Nat.le_refl _,fun _ _=>rfl⟩
          have hbq2:Below wr.heap.size wr w5:=by rw [hw5];exact ⟨rfl,rfl,rfl,Nat.le_refl _,fun _ _=>rfl⟩
          rw [<- hw5];have HBQ:=qH hbq;have HO5:=qH (HO.out.below hbq2);have hsz5:w.heap.size<=w5.heap.size:=Nat.le_trans hsz hbq.size;obtain ⟨AN,hAN⟩:∃ AN:Addr,(if ca=1 then some (⟨b1,o1,none⟩:Addr) else some ⟨b1,o1+1,none⟩)=some AN:=by split<;>exact ⟨_,rfl⟩
          clear hw5 hbq hbq2
          go_region_held3 (fun w'=>w'.cell? ⟨b1,o1,none⟩=some (.string X))
            (first|exact HSX.out _ (HBQ.out.drew)|exact HSX.out _ (HBQ.out.drew.alloc hsz5 _)|exact HSX.out _ HB6.out)
            (first
              | (refine step_append_lies _ (by rfl) _ _ _ (by rfl) w.heap.size 9 i0 _ 1 16 Tryz.underlying40 hi0 hz0 hz1 hz2 rfl (by omega) _ done.length (qae done) (by rfl) ((HO5.out.alloc _).drew)
                  ⟨w5.heap.size,0,none⟩ 1 1 [.string X] (by rfl) (by rfl) (World.news_of_block (cs:=#[.string X]) (t:=9) (fr:=(0,0)) (heap_alloc_new w5.drew _)) (by intro u hu;simp at hu;subst hu;rfl)
                  (by omega) (by unfold maxLen;omega) (by omega) (by simp;omega) (w5.heap.size+1) (by simp) ?_
                 intro gg cap w6 hown6 hg6 hat hlt6;have hb6:Below w.heap.size wr w6:=(HBQ.out.drew.alloc hsz5 _).grown hg6 (by simp;omega) fun k hk=>(HO5.out.lt k hk).1
                 have HB6:=qH hb6))
          have hrel:qgS ans N w (.slice (some AN) (na-1) (ca-1)) (.slice (some ⟨b2,o2,none⟩) nb cb) (.slice (some ⟨gg,0,none⟩) (done.length+1) cap) w6:=by
            refine ⟨a,y::b,done++[x],some AN,_,ca-1,cb,by rw [HNA.out,List.length_cons,Nat.add_sub_cancel],by rw [HNB.out],?_,by unfold maxLen;omega,by rw [<- HNB.out];omega,by unfold maxLen;omega,qkn HRA.out (by have :=HNA.out;rw [List.length_cons] at this;omega) hAN,HRB.out,?_,hbw.trans HB6.out,?_,?_⟩
            · have :=HNA.out;rw [List.length_cons] at this;omega
            · exact qaJ.push7 (by rw [<- HX.out];exact hown6)
            · rw [HA.out,List.append_assoc];rfl
            · have h1:=HNA.out;have h2:=HNB.out;rw [List.length_cons] at h1 h2;simp only [List.length_append,List.length_cons,List.length_nil];omega
          have HREL:=qH hrel;clear hrel hown6 hg6;go_wp2;go_roundw
          case rel=>exact HREL.out
          case measure=>simp [qgR];omega
        · rw [if_neg hxy] at hans
          by_cases hxe:x=y
          · have hcv:qaC x y=0:=by simp [qaC,hxe]
            rw [hcv] at hcm;rw [if_pos hxe] at hans;have HA:=qH hans;have CM:Hid (∀ n,Calls Tryz.prog 153 #[.string X,.string Y] (wr.drewN n) fun e w'=>e= .returned (.int .i64 0)/\w'=wr.drewN n):=qH fun n=>(hcm _).mono fun _ _ h=>⟨h.1,h.2.symm⟩
            clear hcv hcm hans hxy hxe;obtain ⟨AN,hAN⟩:∃ AN:Addr,(if ca=1 then some (⟨b1,o1,none⟩:Addr) else some ⟨b1,o1+1,none⟩)=some AN:=by split<;>exact ⟨_,rfl⟩
            go_wp2
            go_quiet ((go_at_call 153;exact Calls.quiet_of_same (CM.out _)))
            go_wp2;obtain ⟨w5,hw5⟩:∃ w5,w5=wr.drewN nq:=⟨_,rfl⟩;have hbq:Below w.heap.size wr w5:=by rw [hw5];exact ⟨rfl,rfl,rfl,Nat.le_refl _,fun _ _=>rfl⟩
            have hbq2:Below wr.heap.size wr w5:=by rw [hw5];exact ⟨rfl,rfl,rfl,Nat.le_refl _,fun _ _=>rfl⟩
            try rw [<- hw5]
            have hrel:qgS ans N w (.slice (some AN) (na-1) (ca-1)) (.slice (some ⟨b2,o2,none⟩) nb cb) u5 w5:=by
              refine ⟨a,y::b,done,some AN,_,ca-1,cb,by rw [HNA.out,List.length_cons,Nat.add_sub_cancel],by rw [HNB.out],?_,by unfold maxLen;omega,by rw [<- HNB.out];omega,by unfold maxLen;omega,qkn HRA.out (by have :=HNA.out;rw [List.length_cons] at this;omega) hAN,HRB.out,HO.out.below hbq2,hbw.trans hbq,HA.out,?_⟩
              · have :=HNA.out;rw [List.length_cons] at this;omega
              · have h1:=HNA.out;have h2:=HNB.out;rw [List.length_cons] at h1 h2;simp only [List.length_cons];omega
            have HREL:=qH hrel;clear hrel hw5 hbq hbq2;go_roundw
            case rel=>exact HREL.out
            case measure=>simp [qgR];omega
          · have hcv:qaC x y=1:=by simp [qaC,hxy,hxe]
            rw [hcv] at hcm;rw [if_neg hxe] at hans;have HA:=qH hans;have CM:Hid (∀ n,Calls Tryz.prog 153 #[.string X,.string Y] (wr.drewN n) fun e w'=>e= .returned (.int .i64 1)/\w'=wr.drewN n):=qH fun n=>(hcm _).mono fun _ _ h=>⟨h.1,h.2.symm⟩
            clear hcv hcm hans hxy hxe;go_wp2
            go_quiet ((go_at_call 153;exact Calls.quiet_of_same (CM.out _)))
            go_wp2;obtain ⟨w5,hw5⟩:∃ w5,w5=wr.drewN nq:=⟨_,rfl⟩;have hbq:Below w.heap.size wr w5:=by rw [hw5];exact ⟨rfl,rfl,rfl,Nat.le_refl _,fun _ _=>rfl⟩
            have hbq2:Below wr.heap.size wr w5:=by rw [hw5];exact ⟨rfl,rfl,rfl,Nat.le_refl _,fun _ _=>rfl⟩
            rw [<- hw5];have HBQ:=qH hbq;have HO5:=qH (HO.out.below hbq2);have hsz5:w.heap.size<=w5.heap.size:=Nat.le_trans hsz hbq.size;obtain ⟨AN,hAN⟩:∃ AN:Addr,(if cb=1 then some (⟨b2,o2,none⟩:Addr) else some ⟨b2,o2+1,none⟩)=some AN:=by split<;>exact ⟨_,rfl⟩
            clear hw5 hbq hbq2
            go_region_held3 (fun w'=>w'.cell? ⟨b2,o2,none⟩=some (.string Y))
              (first|exact HSY.out _ (HBQ.out.drew)|exact HSY.out _ (HBQ.out.drew.alloc hsz5 _)|exact HSY.out _ HB6.out)
              (first
                | (refine step_append_lies _ (by rfl) _ _ _ (by rfl) w.heap.size 9 i0 _ 1 16 Tryz.underlying40 hi0 hz0 hz1 hz2 rfl (by omega) _ done.length (qae done) (by rfl) ((HO5.out.alloc _).drew)
                    ⟨w5.heap.size,0,none⟩ 1 1 [.string Y] (by rfl) (by rfl) (World.news_of_block (cs:=#[.string Y]) (t:=9) (fr:=(0,0)) (heap_alloc_new w5.drew _)) (by intro u hu;simp at hu;subst hu;rfl)
                    (by omega) (by unfold maxLen;omega) (by omega) (by simp;omega) (w5.heap.size+1) (by simp) ?_
                   intro gg cap w6 hown6 hg6 hat hlt6;have hb6:Below w.heap.size wr w6:=(HBQ.out.drew.alloc hsz5 _).grown hg6 (by simp;omega) fun k hk=>(HO5.out.lt k hk).1
                   have HB6:=qH hb6))
            have hrel:qgS ans N w (.slice (some ⟨b1,o1,none⟩) na ca) (.slice (some AN) (nb-1) (cb-1)) (.slice (some ⟨gg,0,none⟩) (done.length+1) cap) w6:=by
              refine ⟨x::a,b,done++[y],_,some AN,ca,cb-1,by rw [HNA.out],by rw [HNB.out,List.length_cons,Nat.add_sub_cancel],by rw [<- HNA.out];omega,by unfold maxLen;omega,?_,by unfold maxLen;omega,HRA.out,qkn HRB.out (by have :=HNB.out;rw [List.length_cons] at this;omega) hAN,?_,hbw.trans HB6.out,?_,?_⟩
              · have :=HNB.out;rw [List.length_cons] at this;omega
              · exact qaJ.push7 (by rw [<- HY.out];exact hown6)
              · rw [HA.out,List.append_assoc];rfl
              · have h1:=HNA.out;have h2:=HNB.out;rw [List.length_cons] at h1 h2;simp only [List.length_append,List.length_cons,List.length_nil];omega
            have HREL:=qH hrel;clear hrel hown6 hg6;go_wp2;go_roundw
            case rel=>exact HREL.out
            case measure=>simp [qgR];omega
theorem qxp:qbw []=[]:=rfl
theorem qxq (a:List Nm):qbw [a]=qgt a:=(qlO (qsj a) fun x=>by simp [qsk]).symm
theorem qxr (a b:List (List Nm)):qbw (a++b)=qcn (qbw a) (qbw b):=by
 refine (qlO (qg8 (qfU a) (qfU b)) fun x=> ?_).symm;rw [qfV,qgr,qgr];constructor
 ·rintro (⟨l,h1,h2⟩|⟨l,h1,h2⟩)
  ·exact ⟨l,List.mem_append_left _ h1,h2⟩
  ·exact ⟨l,List.mem_append_right _ h1,h2⟩
 ·rintro ⟨l,h1,h2⟩
  rcases List.mem_append.1 h1 with h1|h1
  ·exact .inl ⟨l,h1,h2⟩
  ·exact .inr ⟨l,h1,h2⟩
theorem qpj (ls:List (List Nm)):(qbw ls).length<=ls.flatten.length:=by
 have :=qgs ls.flatten [];simpa [qbw] using this
theorem qxs (ls:List (List Nm)) (h:Nat):(ls.take h).flatten.length+(ls.drop h).flatten.length=ls.flatten.length:=by
 rw [<- List.length_append,<- List.flatten_append,List.take_append_drop]
theorem qxt (K:Nat):∀ (A:Option Addr) (n c:Nat) (ls:List (List Nm)) (w:World),ls.length=n->n<=K->n<=1000->n<=c->c<=maxLen->qcq w w.heap.size A ls->ls.flatten.length<=100000->
    Calls Tryz.prog 173 #[.slice A n c] w (qe0 (qbw ls) w):=by
  induction K with
  |zero=>
    intro A n c ls w hn hK hk hnc hcm hl ht;obtain rfl:n=0:=by omega
    obtain rfl:ls=[]:=List.eq_nil_of_length_eq_zero hn;rw [qxp];clear hl ht hK
    go_enter Tryz.func173,Tryz.ntmps173
    go_wp2;go_ret;exact ⟨_,rfl,qaJ.nil,Below.refl _ _⟩
  |succ K ih=>
    intro A n c ls w hn hK hk hnc hcm hl ht;by_cases h0:n=0
    · exact ih A n c ls w hn (by omega) hk hnc hcm hl ht
    by_cases h1:n=1
    · subst h1
      obtain ⟨x,rfl⟩:∃ x,ls=[x]:=List.length_eq_one_iff.1 hn;rw [qxq];obtain ⟨b,off,rfl,hb,A',c',hc1,hle,hcm',hrow⟩:=hl.at_ (k:=0) (by simp);rw [Nat.add_zero] at hc1;simp only [zB] at hc1 hle hrow;have hxl:x.length<=100000:=by simpa using ht
      obtain ⟨m,hm⟩:∃ m,m=x.length:=⟨_,rfl⟩;rw [<- hm] at hc1 hle hxl;have C1:=qH (qxk A' m c' x w hm.symm hrow (by omega));have HM:=qH hm;obtain ⟨ans,hans⟩:∃ a,a=qgt x:=⟨_,rfl⟩;rw [<- hans];have HA:=qH hans;have h1c:(1:Int)<=(c:Int):=by omega
      clear hl ht hrow hm hn hK hans h0
      go_enter Tryz.func173,Tryz.ntmps173
      go_wp2_with (first
        | (go_at_call 212; refine (C1.out).mono ?_; rintro e w1 ⟨v, rfl, ho, hb1⟩
           have HO:=qH ho;have HB1:=qH hb1;clear ho hb1)
        | (go_at_call 109; refine (qxl w.heap.size v x _ HO.out HB1.out.size (by rw [<- HM.out]; omega)).mono ?_; rintro e w2 ⟨rfl, ho2, hb2⟩
           have HO2:=qH ho2;have HB2:=qH (HB1.out.trans hb2);clear ho2 hb2)
        | (go_at_call 213; refine (qxm w.heap.size v _ _ HO2.out (by rw [List.length_mergeSort, <- HM.out]; omega)).mono ?_; rintro e w3 ⟨v3, rfl, ho3, hb3⟩
           have HO3:=qH ho3;have HB3:=qH (HB2.out.trans hb3);clear ho3 hb3))
      go_ret;exact ⟨_,rfl,by rw [HA.out];exact HO3.out,HB3.out⟩
    · have e0:((n:Int)==0)=false:=by rw [beq_eq_false_iff_ne];omega
      have e1:((n:Int)==1)=false:=by rw [beq_eq_false_iff_ne];omega
      obtain ⟨h,hh⟩:∃ h:Nat,h=n/2:=⟨_,rfl⟩;have hh2:(n:Int)/2=(h:Int):=by omega
      have hp:0<h:=by omega
      have hlt:h<n:=by omega
      obtain ⟨b,off,rfl,hb,hrest⟩:=hl.at_ (k:=0) (by omega);clear hrest;have hL1:=hl.cut h;have hL2:=hl.drop h;have hft:=qxs ls h;have c1:=fun w' (hb':Below w.heap.size w w')=>ih (some ⟨b,off,none⟩) h c (ls.take h) w' (by rw [List.length_take];omega) (by omega) (by omega) (by omega) hcm (hL1.later hb') (by omega)
      have c2:=fun w' (hb':Below w.heap.size w w')=>ih (some ⟨b,off+h,none⟩) (n-h) (c-h) (ls.drop h) w' (by rw [List.length_drop];omega) (by omega) (by omega) (by omega) (by omega) (hL2.later hb') (by omega)
      have hj1:=qpj (ls.take h);have hj2:=qpj (ls.drop h);have hj:qbw ls=qcn (qbw (ls.take h)) (qbw (ls.drop h)):=by rw [<- qxr,List.take_append_drop]
      obtain ⟨r1,hr1⟩:∃ r,r=qbw (ls.take h):=⟨_,rfl⟩;obtain ⟨r2,hr2⟩:∃ r,r=qbw (ls.drop h):=⟨_,rfl⟩;rw [<- hr1] at c1 hj hj1;rw [<- hr2] at c2 hj hj2;have hN:r1.length+r2.length<=1048576:=by omega
      have C1:=qH c1;have C2:=qH c2;obtain ⟨ans,hans⟩:∃ a,a=qbw ls:=⟨_,rfl⟩;rw [<- hans] at hj;rw [<- hans];have HJ:=qH hj;have k1:(0:Int)<=(h:Int):=by omega
      have k2:(h:Int)<=(n:Int):=by omega
      have k3:(n:Int)<=(c:Int):=by omega
      have hkI:(n:Int)<=1000:=by omega
      have hkI0:(0:Int)<=(n:Int):=by omega
      have k4:h<c:=by omega
      have k6:(h:Int)<=(c:Int):=by omega
      have k7:(h:Int)<(c:Int):=by omega
      have k5:¬ c=h:=by omega
      clear hh hp hL1 hL2 hft c1 c2 hj1 hj2 hj hr1 hr2 hans hl ht ih hn hK h0 h1
      go_enter Tryz.func173,Tryz.ntmps173
      go_wp2
      go_region_held3 (fun w'=>True) (exact trivial)
        (first
          | (go_at_call 173; (with_reducible refine (C1.out _ (by first | exact (Below.refl _ _).drew | exact Below.refl _ _)).mono ?_); rintro e w1 ⟨v1, rfl, ho1, hb1⟩
             have HO1:=qH ho1;have HB1:=qH ((show Below w.heap.size w _ from (by first|exact (Below.refl _ _).drew|exact Below.refl _ _)).trans hb1)
             clear ho1 hb1)
          | (go_at_call 173; (with_reducible refine (C2.out _ (by first | exact HB1.out | exact HB1.out.drew)).mono ?_); rintro e w2 ⟨v2, rfl, ho2, hb2⟩
             obtain ⟨A1,d1,rfl,f1,f2,f3⟩:=(HO1.out.below hb2).room;obtain ⟨A2,d2,rfl,g1,g2,g3⟩:=ho2.room;have CM:=qH (qxo A1 A2 r1.length d1 r2.length d2 r1 r2 w2 rfl rfl f1 f2 g1 g2 f3 g3 hN);have HB2:=qH (HB1.out.trans (hb2.mono HB1.out.size));clear ho2 hb2 f1 f2 f3 g1 g2 g3)
          | (go_at_call 214; (with_reducible refine (CM.out).mono ?_); rintro e w3 ⟨v3, rfl, ho3, hb3⟩
             have HO3:=qH ho3;have HB3:=qH (HB2.out.trans (hb3.mono HB2.out.size));clear ho3 hb3))
      go_wp2;go_ret;exact ⟨_,rfl,by rw [HJ.out];exact HO3.out.low HB2.out.size,HB3.out⟩
theorem qxu (A:Option Addr) (n c:Nat) (ls:List (List Nm)) (w:World) (hn:ls.length=n) (hk:n<=1000) (hc:n<=c) (hcm:c<=maxLen) (hl:qcq w w.heap.size A ls) (ht:ls.flatten.length<=100000):
  Calls Tryz.prog 132 #[.slice A n c] w (qe0 (qbw ls) w):=by
 have C1:=qH (qxt n A n c ls w hn (Nat.le_refl _) hk hc hcm hl ht);clear hl ht hn hc hcm hk
 go_enter Tryz.func132,Tryz.ntmps132
 go_wp2_with (go_at_call 173;refine (C1.out).mono ?_;rintro e w1 ⟨v,rfl,ho,hb⟩)
 go_ret;exact ⟨_,rfl,ho,hb⟩
end Go.Proofs.YtpehcaidjlemiaaGreatDoor
