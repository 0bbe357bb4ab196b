import Derived.Test.YtpehcaidjlemiaaGreatDoorMCZz
import Derived.Test.YtpehcaidjlemiaaGreatDoorMCQ06
import Derived.Test.YtpehcaidjlemiaaGreatDoorMCQ02
import Derived.Deep.RegionLaw
import Derived.Deep.RegionHeld3
import Derived.Deep.AppendLies
import Derived.Shelf.SlSorted.Search
import Derived.Test.YtpehcaidjlemiaaGreatDoorMCQ04
import Derived.BigCall
import Derived.BigQuiet
import Derived.Deep.QuietTactic
import Derived.Test.YtpehcaidjlemiaaGreatDoorMCQ01
import Derived.OneCell
import Derived.Laws.OwnMore
set_option maxHeartbeats 4000000
set_option maxRecDepth 100000
set_option linter.unusedVariables false
namespace Go.Proofs.YtpehcaidjlemiaaGreatDoor
open Go Go.RowKit
def qeB (w:World) (base B:Nat) (l:List Nm) (vs:List Nat):Prop:=
 base<=B/\vs.length=l.length/\∃ v,w.heap[B]?=some (.cells #[v] 229 (0,0))/\w.ownsRow base 232 2 v l.length (qaJ l vs)
theorem qeB.read {w:World} {base B:Nat} {l:List Nm} {vs:List Nat} (h:qeB w base B l vs):
  ∃ A c,w.cell? ⟨B,0,none⟩=some (.slice A l.length c)/\l.length<=c/\c<=maxLen/\Row w w.heap.size A (qaJ l vs)/\(A=none/\l=[]/\c=0∨∃ g,A=some ⟨g,0,none⟩):=by
 obtain ⟨h1,h2,v,h3,h4⟩:=h;have hc:=cell_of_one h3;obtain ⟨A,c,rfl,hn,hr⟩:=qaM h4;refine ⟨A,c,hc,hn,?_,hr,?_⟩
 ·rcases h4.2 with ⟨h0,_⟩|⟨g,cap,cur,hv,_,_,_,h5,_⟩
  ·injection h0 with _ _ h0;omega
  ·injection hv with _ _ hv;omega
 ·rcases h4.2 with ⟨h0,h5⟩|⟨g,cap,cur,hv,_⟩
  ·injection h0 with a1 _ a3
   exact .inl ⟨a1,List.eq_nil_of_length_eq_zero h5,a3⟩
  ·injection hv with a1
   exact .inr ⟨g,a1⟩
def qm9 (l:List Nm) (vs:List Nat) (w:World) (e:Ending) (w':World):Prop:=∃ B,e= .returned (.tuple #[.pointer (some ⟨B,0,none⟩),.int .i64 0])/\qeB w' w.heap.size B l vs/\Below w.heap.size w w'
def qjk (B:Nat) (l:List Nm) (vs:List Nat) (w:World) (i:Value) (wr:World):Prop:=
 ∃ (k:Nat) (v:Value),k<=l.length/\i= .int .i64 (k:Int)/\wr.heap[B]?=some (.cells #[v] 229 (0,0))/\wr.ownsRow w.heap.size 232 2 v k (qaJ (l.take k) (vs.take k))/\Below w.heap.size w wr
theorem qtB {w0 w1:World} {base B n:Nat} {v v':Value} {xs ys:List Value} (hv:w0.heap[B]?=some (.cells #[v] 229 (0,0))) (hown:w0.ownsRow base 232 2 v n xs) (hg:w0.grownBy w1 v.ownBlock) (hown1:w1.ownsRow base 232 2 v' (n+1) ys) (hbase:base<=w0.heap.size) (hB:base<=B):
  w1.heap[B]?=some (.cells #[v] 229 (0,0))/\(w1.setCell ⟨B,0,none⟩ v').heap[B]?=some (.cells #[v'] 229 (0,0))/\(w1.setCell ⟨B,0,none⟩ v').ownsRow base 232 2 v' (n+1) ys/\Below base w0 (w1.setCell ⟨B,0,none⟩ v'):=by
 have h1:w1.heap[B]?=some (.cells #[v] 229 (0,0)):=(hg.block B (lt_of_block hv) (fun e=>qap hown hv (by decide) e.symm)).trans hv;refine ⟨h1,by simpa using one_setCell h1,qm7 hown1 h1 (by decide) _ _,?_⟩;exact (((Below.refl base w0).grown hg hbase fun k hk=>(hown.lt k hk).1)).setCell hB _
theorem qtC (A A2:Option Addr) (n c c2:Nat) (l:List Nm) (vs:List Nat) (w:World) (hr:Row w w.heap.size A (qad l)) (hn:l.length=n) (hl:n<=1048576) (hv:Row w w.heap.size A2 (qbn vs)) (hvn:vs.length=n) (hg:qda l=true):
    Calls Tryz.prog 133 #[.slice A n c,.slice A2 n c2] w (qm9 l vs w):=by
  obtain ⟨i0,hi0,hz0,hz1,hz2⟩:=info_parts qtA;have c1:=qho A n c l w hr hn (by omega);rw [hg] at c1;have C1:=qH c1;have HR:=qH hr;have HV:=qH hv;have HN:=qH hn;have HVN:=qH hvn;clear c1 hr hv hn hvn hg
  go_enter Tryz.func133,Tryz.ntmps133
  go_wp2_with (go_at_call 120;refine (C1.out).mono ?_)
  rintro e w1 ⟨rfl,hb1⟩;obtain ⟨w2,hrun,hown2,hgrow2⟩:=run_make_own (P:=Tryz.prog) w1 w.heap.size 227 232 i0 _ 2 Tryz.underlying227 hi0 hz0 hz1 .i64 .i64 n (by rw [hz2];omega) (by unfold maxLen;omega) hb1.size;have hb2:Below w.heap.size w w2:=hb1.grown hgrow2 hb1.size (fun k hk=>by cases hk);obtain ⟨B,hB⟩:∃ B,B=w2.heap.size:=⟨_,rfl⟩;obtain ⟨w3,hw3⟩:∃ w3,w3=w2.alloc (.cells #[.slice (some ⟨w1.heap.size,0,none⟩) 0 n] 229):=⟨_,rfl⟩;have hrel:qjk B l vs w (.int .i64 ((0:Nat):Int)) w3:=by
    refine ⟨0,.slice (some ⟨w1.heap.size,0,none⟩) 0 n,Nat.zero_le _,rfl,?_,?_,?_⟩
    · rw [hw3,hB];exact heap_alloc_new w2 _
    · rw [hw3];simpa [qe0] using hown2.alloc _
    · rw [hw3];exact hb2.alloc hb2.size _
  have HREL:=qH hrel;have HW3:=qH hw3;have HB:=qH hB;have HBW:Hid (w.heap.size<=B):=qH (by rw [hB];exact hb2.size);clear hrel hown2 hgrow2 hb2 hb1 hw3 hB;go_wp2;rw [<- HW3.out,<- HB.out];clear hrun
  go_loopw [26] (qjk B l vs w) (fun i _=>n-(intOf i).toNat)
  case atStart=>exact HREL.out
  case round=>
    obtain ⟨k,v,hk,rfl,hblk,hown,hbw⟩:=hrel;rw [HN.out] at hk;have hsz:=hbw.size;by_cases hlt:k<n
    · have hkl:k<l.length:=by rw [HN.out];exact hlt
      have hkv:k<vs.length:=by rw [HVN.out];exact hlt
      obtain ⟨b1,o1,e1,hb1,hc1⟩:=qfn (HR.out.below hbw) hkl;obtain ⟨b2,o2,e2,hb2,hc2⟩:=qhp (HV.out.below hbw) hkv;subst e1 e2;obtain ⟨x,hx⟩:∃ x:ByteArray,x=⟨l[k].toArray⟩:=⟨_,rfl⟩;obtain ⟨y,hy⟩:∃ y,y=vs[k]:=⟨_,rfl⟩;rw [<- hx] at hc1;rw [<- hy] at hc2;have hsn:qaJ (l.take (k+1)) (vs.take (k+1))=qaJ (l.take k) (vs.take k)++[.string x,.pointer (some ⟨y,0,none⟩)]:=by
        rw [List.take_succ_eq_append_getElem hkl,List.take_succ_eq_append_getElem hkv,qjg (by simp only [List.length_take];rw [HN.out,HVN.out]),<- hx,<- hy]
      obtain ⟨cs,hcs⟩:∃ cs,cs=qaJ (l.take k) (vs.take k):=⟨_,rfl⟩;rw [<- hcs] at hown hsn;have cB:=cell_of_one hblk;have fB:=free_of_one hblk;have k2:(0:Int)<=(k:Int):=by omega
      have k3:(k:Int)<(n:Int):=by omega
      have hBlt:=lt_of_block hblk;have hal:∀ o,((wr.alloc o).drew).cell? ⟨B,0,none⟩=some v:=fun o=>(((Below.refl _ wr).alloc (Nat.le_refl _) o).cell (p:=⟨B,0,none⟩) hBlt).trans cB
      have HOWN:=qH hown;have HBLK:=qH hblk;have HSN:=qH hsn;clear hx hy hcs hown hblk hsn hkl hkv;go_wp2
      go_region_law (first
        | (refine step_append_lies _ (by rfl) _ _ _ (by rfl) w.heap.size 232 i0 _ 2 24 Tryz.underlying227 hi0 hz0 hz1 hz2 rfl (by omega) v k cs (by rfl) ((HOWN.out.alloc _).drew)
            ⟨wr.heap.size,0,none⟩ 1 1 [.string x,.pointer (some ⟨y,0,none⟩)] (by rfl) (by rfl) (World.news_of_block (cs:=#[.string x,.pointer (some ⟨y,0,none⟩)]) (t:=232) (fr:=(0,0)) (heap_alloc_new wr.drew _)) (by intro u hu;simp at hu;rcases hu with hu|hu<;>(subst hu;rfl))
            (by omega) (by unfold maxLen;omega) (by omega) (by simp;omega) (wr.heap.size+1) (by simp) ?_
           intro gg cap w5 hown5 hg5 hat hlt5;obtain ⟨hB5,hB6,hown6,hb6⟩:=qtB (((Below.refl _ wr).alloc (Nat.le_refl _) _).drew.block B hBlt |>.trans HBLK.out) ((HOWN.out.alloc _).drew) hg5 hown5 (by simp;omega) HBW.out
           have cB5:=cell_of_one hB5;have fB5:=free_of_one hB5))
      all_goals
        have hrel:qjk B l vs w (.int .i64 ((k:Int)+1)) (w5.setCell ⟨B,0,none⟩ (.slice (some ⟨gg,0,none⟩) (k+1) cap)):=by
          refine ⟨k+1,_,by rw [HN.out];omega,by go_num,hB6,?_,?_⟩
          · rw [HSN.out];exact hown6
          · exact hbw.trans ((((Below.refl _ wr).alloc hsz _).drew).trans hb6)
        have HREL:=qH hrel;clear hrel hB6 hown6 hb6 hB5;go_wp2;go_roundw
        case rel=>exact HREL.out
        case measure=>simp [intOf];omega
    · have hkn:k=n:=by omega
      have HFIN:Hid (qm9 l vs w (.returned (.tuple #[.pointer (some ⟨B,0,none⟩),.int .i64 0])) wr):=qH ⟨B,rfl,⟨HBW.out,by rw [HN.out,HVN.out],v,hblk,by
        rw [hkn,List.take_of_length_le (by rw [HN.out];omega),List.take_of_length_le (by rw [HVN.out];omega)] at hown;rw [HN.out];exact hown⟩,hbw⟩
      clear hown hblk hbw;go_wp2;go_ret2;exact HFIN.out
theorem qjl (s:ByteArray) (w:World):Calls Tryz.prog 188 #[.string s] w fun e w'=>e= .returned (.bool false)/\w=w':=by
 go_enter Tryz.func188,Tryz.ntmps188
 go_wp2;go_ret;exact ⟨by simp,rfl⟩
theorem qna (x y:ByteArray) (w:World):Calls Tryz.prog 153 #[.string x,.string y] w fun e w'=>e= .returned (.int .i64 (qaz x.data.toList y.data.toList))/\w=w':=by
 have e1:Op.bytesLess x.toList y.toList=decide (x.data.toList<y.data.toList):=by rw [Lib.toList_data,Lib.toList_data,qgo]
 have e2:(x.toList==y.toList)=decide (x.data.toList=y.data.toList):=by rw [Lib.toList_data,Lib.toList_data,Bool.eq_iff_iff];simp
 by_cases h1:x.data.toList<y.data.toList
 ·have hc:qaz x.data.toList y.data.toList= -1:=by simp [qaz,h1]
  rw [decide_eq_true h1] at e1;rw [hc];clear e2 hc h1
  go_enter Tryz.func153,Tryz.ntmps153
  go_wp2_with (go_at_call 188;refine (qjl _ _).mono ?_;rintro e w' ⟨rfl,rfl⟩)
  go_ret;exact ⟨rfl,rfl⟩
 ·rw [decide_eq_false h1] at e1
  by_cases h2:x.data.toList=y.data.toList
  ·have hc:qaz x.data.toList y.data.toList=0:=by simp [qaz,h2]
   rw [decide_eq_true h2] at e2;rw [hc];clear hc h1 h2
   go_enter Tryz.func153,Tryz.ntmps153
   go_wp2_with (go_at_call 188;refine (qjl _ _).mono ?_;rintro e w' ⟨rfl,rfl⟩)
   go_ret;exact ⟨rfl,rfl⟩
  ·have hc:qaz x.data.toList y.data.toList=1:=by simp [qaz,h1,h2]
   rw [decide_eq_false h2] at e2;rw [hc];clear hc h1 h2
   go_enter Tryz.func153,Tryz.ntmps153
   go_wp2_with (go_at_call 188;refine (qjl _ _).mono ?_;rintro e w' ⟨rfl,rfl⟩)
   go_ret;exact ⟨rfl,rfl⟩
structure qfP (B o b1 b2:Nat) (l:List Nm) (vs:List Nat) (s:ByteArray) (W:World):Prop where
 dict:qbN W B o l vs
 var:W.heap[b1]?=some (.cells #[.pointer (some ⟨B,o,none⟩)] 139 (0,0))
 text:W.heap[b2]?=some (.cells #[.string s] 9 (0,0))
theorem qfP.below {B o b1 b2:Nat} {l:List Nm} {vs:List Nat} {s:ByteArray} {W W':World} (h:qfP B o b1 b2 l vs s W) (hb:Below W.heap.size W W'):qfP B o b1 b2 l vs s W':=
 ⟨h.dict.below hb,(hb.block _ (lt_of_block h.var)).trans h.var,(hb.block _ (lt_of_block h.text)).trans h.text⟩
theorem qtD (B o b1 b2 k:Nat) (l:List Nm) (vs:List Nat) (s:ByteArray) (W:World) (h:qfP B o b1 b2 l vs s W) (hk:k<l.length) (hl:l.length<=1073741824):
  Calls Tryz.prog 178 #[.int .i64 (k:Int),.pointer (some ⟨b1,0,none⟩),.pointer (some ⟨b2,0,none⟩)] W fun e w'=>e= .returned (.int .i64 (qaz l[k] s.data.toList))/\∃ q,w'=W.drewN q:=by
 obtain ⟨b,off,c,h1,h2,h3,h4,h5,h6⟩:=h.dict.ent hk;have hv:=cell_of_one h.var;have ht:=cell_of_one h.text;obtain ⟨x,hx,hx2⟩:=qbW l[k];rw [<- hx] at h5;have hcm:=fun w=>qna x s w
 rw [hx2] at hcm;obtain ⟨z,hz⟩:∃ z,z=qaz l[k] s.data.toList:=⟨_,rfl⟩;rw [<- hz] at hcm ⊢;have CM:Hid (∀ n,Calls Tryz.prog 153 #[.string x,.string s] (W.drewN n) fun e w'=>e= .returned (.int .i64 z)/\w'=W.drewN n):=qH fun n=>(hcm _).mono fun _ _ h=>⟨h.1,h.2.symm⟩
 obtain ⟨n,hn⟩:∃ n,n=l.length:=⟨_,rfl⟩;rw [<- hn] at h1 h2 hl hk;have k2:(0:Int)<=(k:Int):=by omega
 have k3:(k:Int)<(n:Int):=by omega
 clear hx hx2 hz hn h hcm h6
 go_enter Tryz.func178,Tryz.ntmps178
 go_wp2
 go_quiet ((go_at_call 153;exact Calls.quiet_of_same (CM.out _)))
 go_wp2;go_ret;exact ⟨rfl,_,rfl⟩
def qnb (B o b1 b2:Nat) (l:List Nm) (vs:List Nat) (s:ByteArray) (w:World) (u4 u5 u6 u7:Value) (wr:World):Prop:=
 u4= .int .i64 0/\u5= .bool false/\∃ a b:Nat,u6= .int .i64 (a:Int)/\u7= .int .i64 (b:Int)/\a<=b/\b<=l.length/\Below w.heap.size w wr/\
  (∀ j (hj:j<l.length),j<a->l[j]<s.data.toList)/\∀ j (hj:j<l.length),b<=j->s.data.toList<l[j]
theorem qtE (B o b1 b2:Nat) (l:List Nm) (vs:List Nat) (s:ByteArray) (w:World) (h:qfP B o b1 b2 l vs s w) (hr:qaH l) (hl:l.length<=1073741824):
  Calls Tryz.prog 177 #[.int .i64 (l.length:Int),.func (.func 178) #[] #[.pointer (some ⟨b1,0,none⟩),.pointer (some ⟨b2,0,none⟩)]] w
   fun e w'=>e= .returned (.tuple #[.int .i64 (qau l s.data.toList),.bool (isN l s.data.toList)])/\Below w.heap.size w w':=by
 have H:=qH h;have HR:=qH hr;have HL:=qH hl;obtain ⟨n,hn⟩:∃ n,n=l.length:=⟨_,rfl⟩;rw [<- hn] at hl ⊢;have HN:=qH hn;obtain ⟨p,hp⟩:∃ p,p=qau l s.data.toList:=⟨_,rfl⟩;obtain ⟨z,hz⟩:∃ z,z=isN l s.data.toList:=⟨_,rfl⟩;rw [<- hp,<- hz];have HP:=qH hp;have HZ:=qH hz;clear h hr hn hp hz
 go_enter Tryz.func177,Tryz.ntmps177
 go_wp2
 go_loopw [4,5,6,7] (qnb B o b1 b2 l vs s w) (fun _ _ a b _=>(intOf b-intOf a).toNat)
 case atStart=>exact ⟨rfl,rfl,0,n,rfl,rfl,by omega,by have :=HN.out;omega,Below.refl _ _,fun j _ hj=>by omega,fun j hj hnj=>by have :=HN.out;omega⟩
 case round=>
  obtain ⟨rfl,rfl,a,b,rfl,rfl,hab,hbn,hbw,hlo,hhi⟩:=hrel;rw [<- HN.out] at hbn;by_cases hlt:a<b
  ·obtain ⟨m,hm⟩:∃ m:Nat,m=a+(b-a)/2:=⟨_,rfl⟩
   have hmI:(a:Int)+((b:Int)-(a:Int))/2=(m:Int):=by omega
   have hma:a<=m:=by omega
   have hmb:m<b:=by omega
   have hmn:m<l.length:=by rw [<- HN.out];omega
   have C1:=qH (qtD B o b1 b2 m l vs s wr (H.out.below hbw) hmn HL.out);have d1:decide ((a:Int)<(b:Int))=true:=decide_eq_true (by omega);have d1':decide (a<b)=true:=decide_eq_true hlt;have i1:(0:Int)<=(b:Int)-(a:Int):=by omega
   have i2:(b:Int)-(a:Int)<=1073741824:=by omega
   have i3:(0:Int)<=(m:Int):=by omega
   have i4:(m:Int)<=1073741824:=by omega
   have i5:(a:Int)<=1073741824:=by omega
   have HLO:=qH hlo;have HHI:=qH hhi;clear hm hlo hhi;rcases qdY l[m] s.data.toList with hlt'|heq|hgt
   ·have hc:qaz l[m] s.data.toList= -1:=by simp [qaz,hlt']
    rw [hc] at C1;have HLO2:Hid (∀ j (hj:j<l.length),j<m+1->l[j]<s.data.toList):=qH fun j hj hjm=>by
     by_cases e:j=m
     ·subst e;exact hlt'
     ·exact qcY (qed HR.out hmn (by omega)) hlt'
    clear hc hlt'
    go_wp2_with (go_at_call 178;refine (C1.out).mono ?_;rintro e w' ⟨rfl,q,rfl⟩)
    go_roundw
    case rel=>exact ⟨rfl,rfl,m+1,b,by go_num,rfl,by omega,by rw [<- HN.out];omega,hbw.trans ⟨rfl,rfl,rfl,Nat.le_refl _,fun _ _=>rfl⟩,HLO2.out,HHI.out⟩
    case measure=>simp [intOf];omega
   ·have hc:qaz l[m] s.data.toList=0:=by
     unfold qaz;rw [if_neg (by rw [heq];exact qev _),if_pos heq]
    rw [hc] at C1;have hf:=qiy hmn (fun j hj hjm=>by have :=qed HR.out hmn hjm;rwa [heq] at this) heq;have hpm:p=m:=by rw [HP.out];exact hf.1
    have hzt:z=true:=by rw [HZ.out];exact hf.2
    subst hpm hzt;clear hc heq hf
    go_wp2_with (go_at_call 178;refine (C1.out).mono ?_;rintro e w' ⟨rfl,q,rfl⟩)
    go_ret2;exact ⟨rfl,hbw.trans ⟨rfl,rfl,rfl,Nat.le_refl _,fun _ _=>rfl⟩⟩
   ·have hc:qaz l[m] s.data.toList=1:=by
     unfold qaz;rw [if_neg (qgi hgt),if_neg (qiw hgt).symm]
    rw [hc] at C1;have HHI2:Hid (∀ j (hj:j<l.length),m<=j->s.data.toList<l[j]):=qH fun j hj hjm=>by
     by_cases e:m=j
     ·subst e;exact hgt
     ·exact qcY hgt (qed HR.out hj (by omega))
    clear hc hgt
    go_wp2_with (go_at_call 178;refine (C1.out).mono ?_;rintro e w' ⟨rfl,q,rfl⟩)
    go_roundw
    case rel=>exact ⟨rfl,rfl,a,m,rfl,rfl,by omega,by rw [<- HN.out];omega,hbw.trans ⟨rfl,rfl,rfl,Nat.le_refl _,fun _ _=>rfl⟩,HLO.out,HHI2.out⟩
    case measure=>simp [intOf];omega
  ·have hab2:a=b:=by omega
   subst hab2;have hmi:=qlK (s:=s.data.toList) (by rw [<- HN.out];omega) hlo (fun h=>hhi a h (Nat.le_refl _));have hpm:p=a:=by rw [HP.out];exact hmi.1
   have hzt:z=false:=by rw [HZ.out];exact hmi.2
   subst hpm hzt;clear hlo hhi hmi hlt;go_wp2;go_ret2;exact ⟨rfl,hbw⟩
theorem qtF (B o:Nat) (l:List Nm) (vs:List Nat) (s:ByteArray) (w:World) (h:qbN w B o l vs) (hr:qaH l) (hl:l.length<=1073741824):
  Calls Tryz.prog 143 #[.pointer (some ⟨B,o,none⟩),.string s] w fun e w'=>e= .returned (.tuple #[.int .i64 (qau l s.data.toList),.bool (isN l s.data.toList)])/\Below w.heap.size w w':=by
 obtain ⟨w2,hw2⟩:∃ w2,w2=(w.alloc (.cells #[.pointer (some ⟨B,o,none⟩)] 139)).alloc (.cells #[.string s] 9):=⟨_,rfl⟩;have hb2:Below w.heap.size w w2:=by rw [hw2];exact ((Below.refl _ _).alloc (Nat.le_refl _) _).alloc (by simp) _
 have hlk:qfP B o w.heap.size (w.heap.size+1) l vs s w2:=by
  refine ⟨h.below hb2,?_,?_⟩
  ·rw [hw2,Below.heap_alloc _ _ _ (by simp)];exact heap_alloc_new w _
  ·rw [hw2];have :=heap_alloc_new (w.alloc (.cells #[.pointer (some ⟨B,o,none⟩)] 139)) (.cells #[.string s] 9);simpa using this
 have C1:=qH (qji B o l vs w2 hlk.dict);have C2:=qH (qtE B o _ _ l vs s w2 hlk hr hl);have HB:=qH hb2;have cv:=cell_of_one hlk.var;obtain ⟨n,hn⟩:∃ n,n=l.length:=⟨_,rfl⟩;rw [<- hn] at C1 C2;obtain ⟨p,hp⟩:∃ p,p=qau l s.data.toList:=⟨_,rfl⟩;obtain ⟨z,hz⟩:∃ z,z=isN l s.data.toList:=⟨_,rfl⟩;rw [<- hp,<- hz] at C2;rw [<- hp,<- hz];have HW2:=qH hw2;clear hp hz hn h hr hl hb2 hlk hw2
 go_enter Tryz.func143,Tryz.ntmps143
 go_wp2_with (first
  |(go_at_call 98;rw [<- HW2.out];refine (C1.out).mono ?_;rintro e w' ⟨rfl,rfl⟩)
  |(go_at_call 177;refine (C2.out).mono ?_;rintro e w' ⟨rfl,hb⟩))
 go_ret2;exact ⟨rfl,HB.out.trans (hb.mono HB.out.size)⟩
theorem qtG (B o:Nat) (l:List Nm) (vs:List Nat) (s:ByteArray) (w:World) (h:qbN w B o l vs) (hr:qaH l) (hl:l.length<=1073741824):
  Calls Tryz.prog 101 #[.pointer (some ⟨B,o,none⟩),.string s] w
   fun e w'=>e= .returned (.tuple #[.pointer (if isN l s.data.toList=true then some ⟨vs.getD (qau l s.data.toList) 0,0,none⟩ else none),.bool (isN l s.data.toList)])/\Below w.heap.size w w':=by
 have c1:=qtF B o l vs s w h hr hl;have hfd:=qiz (l:=l) (s:=s.data.toList);obtain ⟨p,hp⟩:∃ p,p=qau l s.data.toList:=⟨_,rfl⟩;obtain ⟨z,hz⟩:∃ z,z=isN l s.data.toList:=⟨_,rfl⟩;rw [<- hp,<- hz] at c1 ⊢;rw [<- hz] at hfd;cases z with
 |true=>
  have hpl:p<l.length:=by rw [hp];exact (hfd rfl).1
  have H:=qH h;have C1:=qH c1;have HPL:=qH hpl;rw [if_pos rfl];obtain ⟨y,hy⟩:∃ y,y=vs.getD p 0:=⟨_,rfl⟩;rw [<- hy];have HY:=qH hy;obtain ⟨n,hn⟩:∃ n,n=l.length:=⟨_,rfl⟩;have HN:=qH hn;rw [<- hn] at hl hpl;have k2:(0:Int)<=(p:Int):=by omega
  have k3:(p:Int)<(n:Int):=by omega
  clear h c1 hfd hp hz hn hy
  go_enter Tryz.func101,Tryz.ntmps101
  go_wp2_with (go_at_call 143;refine (C1.out).mono ?_)
  rintro e w1 ⟨rfl,hb⟩;obtain ⟨b,off,c,h1,h2,h3,h4,h5,h6⟩:=(H.out.below hb).ent HPL.out;rw [<- HN.out] at h1 h2;rw [<- HY.out] at h6;have HB:=qH hb;clear h5 hb;go_wp2;go_ret2;exact ⟨rfl,HB.out⟩
 |false=>
  have C1:=qH c1;rw [if_neg (by decide)];clear h c1 hfd hp hz
  go_enter Tryz.func101,Tryz.ntmps101
  go_wp2_with (go_at_call 143;refine (C1.out).mono ?_;rintro e w1 ⟨rfl,hb⟩)
  go_ret2;exact ⟨rfl,hb⟩
structure qfQ (B o b1 b2:Nat) (l:List Nm) (vs:List Nat) (s:ByteArray) (W:World):Prop where
 dict:qbN W B o l vs
 var:W.heap[b1]?=some (.cells #[.pointer (some ⟨B,o,none⟩)] 154 (0,0))
 text:W.heap[b2]?=some (.cells #[.string s] 9 (0,0))
theorem qfQ.below {B o b1 b2:Nat} {l:List Nm} {vs:List Nat} {s:ByteArray} {W W':World} (h:qfQ B o b1 b2 l vs s W) (hb:Below W.heap.size W W'):qfQ B o b1 b2 l vs s W':=
 ⟨h.dict.below hb,(hb.block _ (lt_of_block h.var)).trans h.var,(hb.block _ (lt_of_block h.text)).trans h.text⟩
theorem qtH (B o b1 b2 k:Nat) (l:List Nm) (vs:List Nat) (s:ByteArray) (W:World) (h:qfQ B o b1 b2 l vs s W) (hk:k<l.length) (hl:l.length<=1073741824):
  Calls Tryz.prog 215 #[.int .i64 (k:Int),.pointer (some ⟨b1,0,none⟩),.pointer (some ⟨b2,0,none⟩)] W fun e w'=>e= .returned (.int .i64 (qaz l[k] s.data.toList))/\∃ q,w'=W.drewN q:=by
 obtain ⟨b,off,c,h1,h2,h3,h4,h5,h6⟩:=h.dict.ent hk;have hv:=cell_of_one h.var;have ht:=cell_of_one h.text;obtain ⟨x,hx,hx2⟩:=qbW l[k];rw [<- hx] at h5;have hcm:=fun w=>qna x s w
 rw [hx2] at hcm;obtain ⟨z,hz⟩:∃ z,z=qaz l[k] s.data.toList:=⟨_,rfl⟩;rw [<- hz] at hcm ⊢;have CM:Hid (∀ n,Calls Tryz.prog 153 #[.string x,.string s] (W.drewN n) fun e w'=>e= .returned (.int .i64 z)/\w'=W.drewN n):=qH fun n=>(hcm _).mono fun _ _ h=>⟨h.1,h.2.symm⟩
 obtain ⟨n,hn⟩:∃ n,n=l.length:=⟨_,rfl⟩;rw [<- hn] at h1 h2 hl hk;have k2:(0:Int)<=(k:Int):=by omega
 have k3:(k:Int)<(n:Int):=by omega
 clear hx hx2 hz hn h hcm h6
 go_enter Tryz.func215,Tryz.ntmps215
 go_wp2
 go_quiet ((go_at_call 153;exact Calls.quiet_of_same (CM.out _)))
 go_wp2;go_ret;exact ⟨rfl,_,rfl⟩
theorem qtI (B o b1 b2:Nat) (l:List Nm) (vs:List Nat) (s:ByteArray) (w:World) (h:qfQ B o b1 b2 l vs s w) (hr:qaH l) (hl:l.length<=1073741824):
  Calls Tryz.prog 177 #[.int .i64 (l.length:Int),.func (.func 215) #[] #[.pointer (some ⟨b1,0,none⟩),.pointer (some ⟨b2,0,none⟩)]] w
   fun e w'=>e= .returned (.tuple #[.int .i64 (qau l s.data.toList),.bool (isN l s.data.toList)])/\Below w.heap.size w w':=by
 have H:=qH h;have HR:=qH hr;have HL:=qH hl;obtain ⟨n,hn⟩:∃ n,n=l.length:=⟨_,rfl⟩;rw [<- hn] at hl ⊢;have HN:=qH hn;obtain ⟨p,hp⟩:∃ p,p=qau l s.data.toList:=⟨_,rfl⟩;obtain ⟨z,hz⟩:∃ z,z=isN l s.data.toList:=⟨_,rfl⟩;rw [<- hp,<- hz];have HP:=qH hp;have HZ:=qH hz;clear h hr hn hp hz
 go_enter Tryz.func177,Tryz.ntmps177
 go_wp2
 go_loopw [4,5,6,7] (qnb B o b1 b2 l vs s w) (fun _ _ a b _=>(intOf b-intOf a).toNat)
 case atStart=>exact ⟨rfl,rfl,0,n,rfl,rfl,by omega,by have :=HN.out;omega,Below.refl _ _,fun j _ hj=>by omega,fun j hj hnj=>by have :=HN.out;omega⟩
 case round=>
  obtain ⟨rfl,rfl,a,b,rfl,rfl,hab,hbn,hbw,hlo,hhi⟩:=hrel;rw [<- HN.out] at hbn;by_cases hlt:a<b
  ·obtain ⟨m,hm⟩:∃ m:Nat,m=a+(b-a)/2:=⟨_,rfl⟩
   have hmI:(a:Int)+((b:Int)-(a:Int))/2=(m:Int):=by omega
   have hma:a<=m:=by omega
   have hmb:m<b:=by omega
   have hmn:m<l.length:=by rw [<- HN.out];omega
   have C1:=qH (qtH B o b1 b2 m l vs s wr (H.out.below hbw) hmn HL.out);have d1:decide ((a:Int)<(b:Int))=true:=decide_eq_true (by omega);have d1':decide (a<b)=true:=decide_eq_true hlt;have i1:(0:Int)<=(b:Int)-(a:Int):=by omega
   have i2:(b:Int)-(a:Int)<=1073741824:=by omega
   have i3:(0:Int)<=(m:Int):=by omega
   have i4:(m:Int)<=1073741824:=by omega
   have i5:(a:Int)<=1073741824:=by omega
   have HLO:=qH hlo;have HHI:=qH hhi;clear hm hlo hhi;rcases qdY l[m] s.data.toList with hlt'|heq|hgt
   ·have hc:qaz l[m] s.data.toList= -1:=by simp [qaz,hlt']
    rw [hc] at C1;have HLO2:Hid (∀ j (hj:j<l.length),j<m+1->l[j]<s.data.toList):=qH fun j hj hjm=>by
     by_cases e:j=m
     ·subst e;exact hlt'
     ·exact qcY (qed HR.out hmn (by omega)) hlt'
    clear hc hlt'
    go_wp2_with (go_at_call 215;refine (C1.out).mono ?_;rintro e w' ⟨rfl,q,rfl⟩)
    go_roundw
    case rel=>exact ⟨rfl,rfl,m+1,b,by go_num,rfl,by omega,by rw [<- HN.out];omega,hbw.trans ⟨rfl,rfl,rfl,Nat.le_refl _,fun _ _=>rfl⟩,HLO2.out,HHI.out⟩
    case measure=>simp [intOf];omega
   ·have hc:qaz l[m] s.data.toList=0:=by
     unfold qaz;rw [if_neg (by rw [heq];exact qev _),if_pos heq]
    rw [hc] at C1;have hf:=qiy hmn (fun j hj hjm=>by have :=qed HR.out hmn hjm;rwa [heq] at this) heq;have hpm:p=m:=by rw [HP.out];exact hf.1
    have hzt:z=true:=by rw [HZ.out];exact hf.2
    subst hpm hzt;clear hc heq hf
    go_wp2_with (go_at_call 215;refine (C1.out).mono ?_;rintro e w' ⟨rfl,q,rfl⟩)
    go_ret2;exact ⟨rfl,hbw.trans ⟨rfl,rfl,rfl,Nat.le_refl _,fun _ _=>rfl⟩⟩
   ·have hc:qaz l[m] s.data.toList=1:=by
     unfold qaz;rw [if_neg (qgi hgt),if_neg (qiw hgt).symm]
    rw [hc] at C1;have HHI2:Hid (∀ j (hj:j<l.length),m<=j->s.data.toList<l[j]):=qH fun j hj hjm=>by
     by_cases e:m=j
     ·subst e;exact hgt
     ·exact qcY hgt (qed HR.out hj (by omega))
    clear hc hgt
    go_wp2_with (go_at_call 215;refine (C1.out).mono ?_;rintro e w' ⟨rfl,q,rfl⟩)
    go_roundw
    case rel=>exact ⟨rfl,rfl,a,m,rfl,rfl,by omega,by rw [<- HN.out];omega,hbw.trans ⟨rfl,rfl,rfl,Nat.le_refl _,fun _ _=>rfl⟩,HLO.out,HHI2.out⟩
    case measure=>simp [intOf];omega
  ·have hab2:a=b:=by omega
   subst hab2;have hmi:=qlK (s:=s.data.toList) (by rw [<- HN.out];omega) hlo (fun h=>hhi a h (Nat.le_refl _));have hpm:p=a:=by rw [HP.out];exact hmi.1
   have hzt:z=false:=by rw [HZ.out];exact hmi.2
   subst hpm hzt;clear hlo hhi hmi hlt;go_wp2;go_ret2;exact ⟨rfl,hbw⟩
theorem qtJ (B o:Nat) (l:List Nm) (vs:List Nat) (s:ByteArray) (w:World) (h:qbN w B o l vs) (hr:qaH l) (hl:l.length<=1073741824):
  Calls Tryz.prog 174 #[.pointer (some ⟨B,o,none⟩),.string s] w fun e w'=>e= .returned (.tuple #[.int .i64 (qau l s.data.toList),.bool (isN l s.data.toList)])/\Below w.heap.size w w':=by
 obtain ⟨w2,hw2⟩:∃ w2,w2=(w.alloc (.cells #[.pointer (some ⟨B,o,none⟩)] 154)).alloc (.cells #[.string s] 9):=⟨_,rfl⟩;have hb2:Below w.heap.size w w2:=by rw [hw2];exact ((Below.refl _ _).alloc (Nat.le_refl _) _).alloc (by simp) _
 have hlk:qfQ B o w.heap.size (w.heap.size+1) l vs s w2:=by
  refine ⟨h.below hb2,?_,?_⟩
  ·rw [hw2,Below.heap_alloc _ _ _ (by simp)];exact heap_alloc_new w _
  ·rw [hw2];have :=heap_alloc_new (w.alloc (.cells #[.pointer (some ⟨B,o,none⟩)] 154)) (.cells #[.string s] 9);simpa using this
 have C1:=qH (qm8 B o l vs w2 hlk.dict);have C2:=qH (qtI B o _ _ l vs s w2 hlk hr hl);have HB:=qH hb2;have cv:=cell_of_one hlk.var;obtain ⟨n,hn⟩:∃ n,n=l.length:=⟨_,rfl⟩;rw [<- hn] at C1 C2;obtain ⟨p,hp⟩:∃ p,p=qau l s.data.toList:=⟨_,rfl⟩;obtain ⟨z,hz⟩:∃ z,z=isN l s.data.toList:=⟨_,rfl⟩;rw [<- hp,<- hz] at C2;rw [<- hp,<- hz];have HW2:=qH hw2;clear hp hz hn h hr hl hb2 hlk hw2
 go_enter Tryz.func174,Tryz.ntmps174
 go_wp2_with (first
  |(go_at_call 135;rw [<- HW2.out];refine (C1.out).mono ?_;rintro e w' ⟨rfl,rfl⟩)
  |(go_at_call 177;refine (C2.out).mono ?_;rintro e w' ⟨rfl,hb⟩))
 go_ret2;exact ⟨rfl,HB.out.trans (hb.mono HB.out.size)⟩
theorem qtK (B o:Nat) (l:List Nm) (vs:List Nat) (s:ByteArray) (w:World) (h:qbN w B o l vs) (hr:qaH l) (hl:l.length<=1073741824):
  Calls Tryz.prog 134 #[.pointer (some ⟨B,o,none⟩),.string s] w
   fun e w'=>e= .returned (.tuple #[.pointer (if isN l s.data.toList=true then some ⟨vs.getD (qau l s.data.toList) 0,0,none⟩ else none),.bool (isN l s.data.toList)])/\Below w.heap.size w w':=by
 have c1:=qtJ B o l vs s w h hr hl;have hfd:=qiz (l:=l) (s:=s.data.toList);obtain ⟨p,hp⟩:∃ p,p=qau l s.data.toList:=⟨_,rfl⟩;obtain ⟨z,hz⟩:∃ z,z=isN l s.data.toList:=⟨_,rfl⟩;rw [<- hp,<- hz] at c1 ⊢;rw [<- hz] at hfd;cases z with
 |true=>
  have hpl:p<l.length:=by rw [hp];exact (hfd rfl).1
  have H:=qH h;have C1:=qH c1;have HPL:=qH hpl;rw [if_pos rfl];obtain ⟨y,hy⟩:∃ y,y=vs.getD p 0:=⟨_,rfl⟩;rw [<- hy];have HY:=qH hy;obtain ⟨n,hn⟩:∃ n,n=l.length:=⟨_,rfl⟩;have HN:=qH hn;rw [<- hn] at hl hpl;have k2:(0:Int)<=(p:Int):=by omega
  have k3:(p:Int)<(n:Int):=by omega
  clear h c1 hfd hp hz hn hy
  go_enter Tryz.func134,Tryz.ntmps134
  go_wp2_with (go_at_call 174;refine (C1.out).mono ?_)
  rintro e w1 ⟨rfl,hb⟩;obtain ⟨b,off,c,h1,h2,h3,h4,h5,h6⟩:=(H.out.below hb).ent HPL.out;rw [<- HN.out] at h1 h2;rw [<- HY.out] at h6;have HB:=qH hb;clear h5 hb;go_wp2;go_ret2;exact ⟨rfl,HB.out⟩
 |false=>
  have C1:=qH c1;rw [if_neg (by decide)];clear h c1 hfd hp hz
  go_enter Tryz.func134,Tryz.ntmps134
  go_wp2_with (go_at_call 174;refine (C1.out).mono ?_;rintro e w1 ⟨rfl,hb⟩)
  go_ret2;exact ⟨rfl,hb⟩
theorem qbh {w:World} {base:Nat} {e:TypeId} {size:Nat} {v:Value} {n:Nat} {xs:List Value} (h:w.ownsRow base e size v n xs):∃ A c,v= .slice A n c/\n<=c/\c<=maxLen/\Row w w.heap.size A xs:=by
 obtain ⟨A,c,rfl,hc,hr⟩:=qaM h;refine ⟨A,c,rfl,hc,?_,hr⟩;rcases h.2 with ⟨hv,_⟩|⟨g,cap,cur,hv,_,_,_,hcp,_⟩
 ·injection hv with _ _ e
  rw [e];exact Nat.zero_le _
 ·injection hv with _ _ e
  rw [e];exact hcp
section
variable {α:Type} {f:α->Value} {w w':World} {B B':Nat} {A:Option Addr} {l:List (List α)} {cs:List Value}
def qe1 (f:α->Value) (w:World) (B:Nat) (l:List (List α)) (cs:List Value):Prop:=cs.length=l.length/\∀ i (h:i<l.length),∃ A c,cs[i]?=some (.slice A l[i].length c)/\(l[i].length<=c/\c<=maxLen)/\Row w B A (l[i].map f)
def Lol (f:α->Value) (w:World) (B:Nat) (A:Option Addr) (l:List (List α)):Prop:=∃ cs,qe1 f w B l cs/\Row w B A cs
theorem qe1.below (h:qe1 f w B l cs) (hb:Below B w w'):qe1 f w' B l cs:=⟨h.1,fun i hi=>by obtain ⟨A,c,h1,h2,h3⟩:=h.2 i hi;exact ⟨A,c,h1,h2,h3.below hb⟩⟩
theorem qe1.more (h:qe1 f w B l cs) (hB:B<=B'):qe1 f w B' l cs:=⟨h.1,fun i hi=>by obtain ⟨A,c,h1,h2,h3⟩:=h.2 i hi;exact ⟨A,c,h1,h2,h3.more hB⟩⟩
theorem Lol.below (h:Lol f w B A l) (hb:Below B w w'):Lol f w' B A l:=by obtain ⟨cs,h1,h2⟩:=h;exact ⟨cs,h1.below hb,h2.below hb⟩
theorem Lol.more (h:Lol f w B A l) (hB:B<=B'):Lol f w B' A l:=by obtain ⟨cs,h1,h2⟩:=h;exact ⟨cs,h1.more hB,h2.more hB⟩
theorem Lol.later (h:Lol f w w.heap.size A l) (hb:Below w.heap.size w w'):Lol f w' w'.heap.size A l:=(h.below hb).more hb.size
theorem Lol.at_ (h:Lol f w B A l) {i:Nat} (hi:i<l.length):∃ b off A' c',A=some ⟨b,off,none⟩/\b<B/\w.cell? ⟨b,off+i,none⟩=some (.slice A' l[i].length c')/\(l[i].length<=c'/\c'<=maxLen)/\Row w B A' (l[i].map f):=by
 obtain ⟨cs,h1,h2⟩:=h;obtain ⟨A',c',g1,g2,g3⟩:=h1.2 i hi;obtain ⟨b,off,rfl,hb,hc⟩:=h2.at_ (by rw [h1.1];omega);exact ⟨b,off,A',c',rfl,hb,hc i _ g1,g2,g3⟩
end
def qcG (w:World) (lo hi:Nat) (A:Option Addr) (xs:List Value):Prop:=
 xs=[]∨∃ b off,A=some ⟨b,off,none⟩/\lo<=b/\b<hi/\∀ j u,xs[j]?=some u->w.cell? ⟨b,off+j,none⟩=some u
section
variable {w w':World} {lo hi hi':Nat} {A:Option Addr} {xs:List Value}
theorem qcG.nil:qcG w lo hi A []:= .inl rfl
theorem qcG.row (h:qcG w lo hi A xs):Row w hi A xs:=by
 rcases h with h|⟨b,off,h1,_,h3,h4⟩
 ·exact .inl h
 ·exact .inr ⟨b,off,h1,h3,h4⟩
theorem qcG.more (h:qcG w lo hi A xs) (hB:hi<=hi'):qcG w lo hi' A xs:=by
 rcases h with h|⟨b,off,h1,h2,h3,h4⟩
 ·exact .inl h
 ·exact .inr ⟨b,off,h1,h2,by omega,h4⟩
theorem qcG.keep (h:qcG w lo hi A xs) (hk:∀ b,lo<=b->b<hi->w'.heap[b]?=w.heap[b]?):qcG w' lo hi A xs:=by
 rcases h with h|⟨b,off,h1,h2,h3,h4⟩
 ·exact .inl h
 ·exact .inr ⟨b,off,h1,h2,h3,fun j u hu=>(World.cell?_of_block (a:=⟨b,off+j,none⟩) (hk b h2 h3)).trans (h4 j u hu)⟩
theorem qjm {base:Nat} {e:TypeId} {size n:Nat} {v:Value} (h:w.ownsRow base e size v n xs) (hb:lo<=base):∃ A c,v= .slice A n c/\n<=c/\c<=maxLen/\qcG w lo w.heap.size A xs:=by
 obtain ⟨A,c,rfl,h1,h2,h3⟩:=qbh h;refine ⟨A,c,rfl,h1,h2,?_⟩;rcases h3 with h3|⟨b,off,rfl,h4,h5⟩
 ·exact .inl h3
 ·refine .inr ⟨b,off,rfl,?_,h4,h5⟩
  rcases h.2 with ⟨hv,_⟩|⟨g,cap,cur,hv,hg,_⟩
  ·cases hv
  ·injection hv with hv
   injection hv with hv
   injection hv with hv
   omega
end
section
variable {α:Type} {f:α->Value} {w w':World} {lo hi hi':Nat} {l:List (List α)} {cs:List Value}
def qcb (f:α->Value) (w:World) (lo hi:Nat) (l:List (List α)) (cs:List Value):Prop:=cs.length=l.length/\∀ i (h:i<l.length),∃ A c,cs[i]?=some (.slice A l[i].length c)/\(l[i].length<=c/\c<=maxLen)/\qcG w lo hi A (l[i].map f)
theorem qcb.keep (h:qcb f w lo hi l cs) (hk:∀ b,lo<=b->b<hi->w'.heap[b]?=w.heap[b]?):qcb f w' lo hi l cs:=⟨h.1,fun i hi=>by obtain ⟨A,c,h1,h2,h3⟩:=h.2 i hi;exact ⟨A,c,h1,h2,h3.keep hk⟩⟩
theorem qcb.below (h:qcb f w lo hi l cs) (hb:Below hi w w'):qcb f w' lo hi l cs:=h.keep fun b _ hb2=>hb.block b hb2
theorem qcb.more (h:qcb f w lo hi l cs) (hB:hi<=hi'):qcb f w lo hi' l cs:=⟨h.1,fun i hi=>by obtain ⟨A,c,h1,h2,h3⟩:=h.2 i hi;exact ⟨A,c,h1,h2,h3.more hB⟩⟩
theorem qcb.ahead (h:qcb f w lo hi l cs) {p:Addr} (hp:p.block<lo) (u:Value):qcb f (w.setCell p u) lo hi l cs:=h.keep fun b h1 _=>Below.heap_setCell _ _ _ _ (by omega)
theorem qjn (w:World) (lo hi m:Nat):qcb f w lo hi (List.replicate m []) (List.replicate m (.slice none 0 0)):=
 ⟨by simp,fun i hi=>by
  simp at hi;exact ⟨none,0,by simp [hi],by simp [maxLen],by simpa using qcG.nil⟩⟩
theorem qcb.set (h:qcb f w lo hi l cs) {i:Nat} {x:List α} {A:Option Addr} {c:Nat} (hc:x.length<=c/\c<=maxLen) (hx:qcG w lo hi A (x.map f)):qcb f w lo hi (l.set i x) (cs.set i (.slice A x.length c)):=by
 refine ⟨by simp [h.1],fun j hj=> ?_⟩;rw [List.length_set] at hj;by_cases e:i=j
 ·subst e
  refine ⟨A,c,?_,?_,?_⟩
  ·rw [List.getElem?_set,if_pos rfl,if_pos (by rw [h.1];exact hj)];simp
  ·simpa using hc
  ·simpa using hx
 ·obtain ⟨A',c',h1,h2,h3⟩:=h.2 j hj
  refine ⟨A',c',?_,?_,?_⟩
  ·rw [List.getElem?_set,if_neg e,List.getElem_set_ne e];exact h1
  ·rw [List.getElem_set_ne e];exact h2
  ·rw [List.getElem_set_ne e];exact h3
theorem qcb.lolC (h:qcb f w lo hi l cs):qe1 f w hi l cs:=⟨h.1,fun i hi=>by obtain ⟨A,c,h1,h2,h3⟩:=h.2 i hi;exact ⟨A,c,h1,h2,h3.row⟩⟩
structure qbO (f:α->Value) (t:TypeId) (base D m lo hi:Nat) (w:World) (l:List (List α)) (cs:List Value):Prop where
 own:w.ownsRow base t 1 (.slice (some ⟨D,0,none⟩) m m) m cs
 lt:D<lo
 len:l.length=m
 rows:qcb f w lo hi l cs
 top:hi<=w.heap.size
section
variable {t:TypeId} {base D m:Nat}
theorem qbO.from_ (h:qbO f t base D m lo hi w l cs):base<=D:=by
 rcases h.own.2 with ⟨hv,_⟩|⟨g,cap,cur,hv,hg,_⟩
 ·cases hv
 ·injection hv with hv
  injection hv with hv
  injection hv with hv
  omega
theorem qbO.keep (h:qbO f t base D m lo hi w l cs) (h1:w'.heap[D]?=w.heap[D]?) (hk:∀ b,lo<=b->b<hi->w'.heap[b]?=w.heap[b]?) (hs:w.heap.size<=w'.heap.size):qbO f t base D m lo hi w' l cs:=
 ⟨qav h.own fun g hg=>by simp only [Value.ownBlock,Option.some.injEq] at hg;subst hg;exact h1,h.lt,h.len,h.rows.keep hk,Nat.le_trans h.top hs⟩
theorem qbO.later (h:qbO f t base D m lo hi w l cs) (hb:Below w.heap.size w w'):qbO f t base D m lo hi w' l cs:=by
 have hlt:=h.lt;have hD:D<w.heap.size:=by
  rcases h.own.2 with ⟨hv,_⟩|⟨g,cap,cur,hv,hg,hh,_⟩
  ·cases hv
  ·cases hv
   exact (Array.getElem?_eq_some_iff.1 hh).1
 exact h.keep (hb.block D hD) (fun b _ h2=>hb.block b (Nat.lt_of_lt_of_le h2 h.top)) hb.size
theorem qbO.other (h:qbO f t base D m lo hi w l cs) {p:Addr} (h1:p.block≠D) (h2:p.block<lo) (u:Value):qbO f t base D m lo hi (w.setCell p u) l cs:=
 h.keep (Below.heap_setCell _ _ _ _ fun e=>h1 e.symm) (fun b hb _=>Below.heap_setCell _ _ _ _ (by omega)) (by simp [World.setCell])
theorem qbO.lol (h:qbO f t base D m lo hi w l cs):Lol f w w.heap.size (some ⟨D,0,none⟩) l:=by
 obtain ⟨A,c,e,_,hr⟩:=qaM h.own;injection e with e
 subst e;exact ⟨cs,(h.rows.more h.top).lolC,hr⟩
theorem qbO.set (h:qbO f t base D m lo hi w l cs) {i:Nat} {x:List α} {A:Option Addr} {c:Nat} (hc:x.length<=c/\c<=maxLen) (hx:qcG w lo hi A (x.map f)):qbO f t base D m lo hi (w.setCell ⟨D,i,none⟩ (.slice A x.length c)) (l.set i x) (cs.set i (.slice A x.length c)):=
 ⟨(h.own.stored i _).1,h.lt,by rw [List.length_set,h.len],(h.rows.ahead (p:=⟨D,i,none⟩) h.lt _).set hc (hx.keep fun b h1 _=>Below.heap_setCell _ _ _ _ (by have :=h.lt;simp only;omega)),by simpa [World.setCell] using h.top⟩
end
end
abbrev qaZ:Value:= .slice none 0 0
def upL {α:Type} (L:List α) (k:Nat) (d:α):List α:=L.take k++List.replicate (L.length-k) d
theorem qhq {α:Type} {L:List α} {k:Nat} {d:α} (hk:k<=L.length):(upL L k d).length=L.length:=by simp [upL];omega
theorem qjo {α:Type} (L:List α) (d:α):upL L 0 d=List.replicate L.length d:=by simp [upL]
theorem qnc {α:Type} (L:List α) (d:α):upL L L.length d=L:=by simp [upL]
theorem qgA {α:Type} {a:List α} {n:Nat} {d x:α} (hn:0<n):(a++List.replicate n d).set a.length x=a++x::List.replicate (n-1) d:=by
 obtain ⟨m,rfl⟩:∃ m,n=m+1:=⟨n-1,by omega⟩;rw [List.set_append_right _ _ (Nat.le_refl _),Nat.sub_self,List.replicate_succ,zE,Nat.add_sub_cancel]
theorem qjp {α:Type} {L:List α} {k:Nat} {d:α} (hk:k<L.length):(upL L k d).set k L[k]=upL L (k+1) d:=by
 have h1:(L.take k).length=k:=by rw [List.length_take];omega
 have :=qgA (a:=L.take k) (n:=L.length-k) (d:=d) (x:=L[k]) (by omega);rw [h1] at this;unfold upL;rw [this,List.take_succ_eq_append_getElem hk,List.append_assoc,show L.length-k-1=L.length-(k+1) by omega];rfl
theorem qjq:(Tryz.prog.info? 23).map (fun i=>(i.zero,i.size,i.bytes))=some (some (.slice none 0 0),1,24):=by kernel_rfl
def qa0 (L:List (List Int)) (w:World) (D m lo k:Nat) (wr:World):Prop:=∃ cs0:List Value,cs0.length=k/\k<=m/\L.length=m/\qbO (Value.int .i64) 23 w.heap.size D m lo wr.heap.size wr (upL L k []) (cs0++List.replicate (m-k) qaZ)/\Below w.heap.size w wr
structure qdh (L:List (List Int)) (w:World) (D m lo k Bk j:Nat) (s:List Int) (v:Value) (cs0:List Value) (wx:World):Prop where
 own:wx.ownsRow w.heap.size 23 1 (.slice (some ⟨D,0,none⟩) m m) m (cs0++v::List.replicate (m-k-1) qaZ)
 rows:qcb (Value.int .i64) wx lo Bk (upL L k []) (cs0++List.replicate (m-k) qaZ)
 mine:wx.ownsRow Bk 3 1 v j (qaa (s.take j))
 le:j<=s.length
 low:D<lo/\lo<=Bk
 top:Bk<=wx.heap.size
 below:Below w.heap.size w wx
theorem qa0.begin {L:List (List Int)} {w wr w1:World} {m lo:Nat} (hlo:wr.heap.size<lo/\lo<=w1.heap.size) (hm:L.length=m) (hb:Below w.heap.size w wr) (hown:w1.ownsRow w.heap.size 23 1 (.slice (some ⟨wr.heap.size,0,none⟩) m m) m (List.replicate m qaZ)) (hg:wr.grownBy w1 none):qa0 L w wr.heap.size m lo 0 w1:=by
 refine ⟨[],rfl,Nat.zero_le _,hm,⟨by simpa using hown,hlo.1,by rw [qhq (Nat.zero_le _),hm],?_,Nat.le_refl _⟩,hb.grown hg hb.size (fun k hk=>by cases hk)⟩;rw [qjo,hm];exact qjn _ _ _ _
theorem qa0.mid {L:List (List Int)} {w wr:World} {D m lo k:Nat} {s:List Int} (h:qa0 L w D m lo k wr) (hk:k<m) (hlo:lo<=wr.heap.size):∃ cs0,cs0.length=k/\qdh L w D m lo k wr.heap.size 0 s qaZ cs0 wr:=by
 obtain ⟨cs0,h1,h2,h3,h4,h5⟩:=h;refine ⟨cs0,h1,⟨?_,h4.rows,World.ownsRow_nil _ _ _ _,Nat.zero_le _,⟨h4.lt,hlo⟩,Nat.le_refl _,h5⟩⟩;have :=h4.own;rwa [show m-k=(m-k-1)+1 by omega,List.replicate_succ] at this
section
variable {L:List (List Int)} {w wx wy w6:World} {D m lo k Bk j:Nat} {s:List Int} {v v6:Value} {cs0:List Value}
theorem qdh.later (h:qdh L w D m lo k Bk j s v cs0 wx) (hb:Below wx.heap.size wx wy):qdh L w D m lo k Bk j s v cs0 wy:=
 ⟨qan h.own hb,h.rows.below (hb.mono h.top),qan h.mine hb,h.le,h.low,Nat.le_trans h.top hb.size,h.below.trans (hb.mono h.below.size)⟩
theorem qdh.cell (h:qdh L w D m lo k Bk j s v cs0 wx) (hc:cs0.length=k) (hk:k<m):wx.cell? ⟨D,k,none⟩=some v/\wx.frozen? ⟨D,k,none⟩=false:=by
 refine ⟨?_,h.own.frozenAt k⟩;rw [h.own.cellAt k (by omega),List.getElem?_append_right (by omega),hc,Nat.sub_self];rfl
theorem qdh.grow (h:qdh L w D m lo k Bk j s v cs0 wy) (hc:cs0.length=k) (hk:k<m) (hj:j<s.length) (ho:w6.ownsRow Bk 3 1 v6 (j+1) (qaa (s.take j)++[.int .i64 s[j]])) (hg:wy.grownBy w6 v.ownBlock):
  w6.cell? ⟨D,k,none⟩=some v/\w6.frozen? ⟨D,k,none⟩=false/\qdh L w D m lo k Bk (j+1) s v6 cs0 (w6.setCell ⟨D,k,none⟩ v6):=by
 have hvb:∀ g,v.ownBlock=some g->Bk<=g:=fun g hg2=>(h.mine.lt g hg2).1
 have hD:=(h.own.lt D rfl).2;have hlow:D<Bk:=Nat.lt_of_lt_of_le h.low.1 h.low.2;have h1:w6.ownsRow w.heap.size 23 1 (.slice (some ⟨D,0,none⟩) m m) m (cs0++v::List.replicate (m-k-1) qaZ):=
  qav h.own fun g hg2=>by
   simp only [Value.ownBlock,Option.some.injEq] at hg2;subst hg2;exact hg.block _ hD (fun e=>by have :=hvb _ e.symm;omega)
 have hcell:w6.cell? ⟨D,k,none⟩=some v:=by
  rw [h1.cellAt k (by omega),List.getElem?_append_right (by omega),hc,Nat.sub_self];rfl
 refine ⟨hcell,h1.frozenAt k,?_⟩;have hst:=(h1.stored k v6).1;rw [List.set_append_right _ _ (by omega),hc,Nat.sub_self,zE] at hst;refine ⟨hst,?_,?_,by omega,h.low,?_,?_⟩
 ·refine qcb.ahead (h.rows.keep fun b hb1 hb2=> ?_) (p:=⟨D,k,none⟩) h.low.1 v6
  exact hg.block b (Nat.lt_of_lt_of_le hb2 h.top) (fun e=>by have :=hvb _ e.symm;omega)
 ·rw [show qaa (s.take (j+1))=qaa (s.take j)++[.int .i64 s[j]] by rw [List.take_succ_eq_append_getElem hj,qaa,qaa,List.map_append];rfl]
  exact ownsRow_setCell_other ho (fun e=>by have :=(ho.lt _ e).1;simp only at this;omega) _
 ·simpa [World.setCell] using Nat.le_trans h.top hg.size
 ·have hwD:w.heap.size<=D:=(h.own.lt D rfl).1
  exact (h.below.grown hg h.below.size fun g hg2=>Nat.le_trans hwD (Nat.le_trans (Nat.le_of_lt hlow) (hvb g hg2))).setCell (p:=⟨D,k,none⟩) hwD v6
theorem qdh.done (h:qdh L w D m lo k Bk j s v cs0 wx) (hc:cs0.length=k) (hk:k<m) (hL:L.length=m) (hj:j=s.length) (hs:∀ hk:k<L.length,L[k]=s):qa0 L w D m lo (k+1) wx:=by
 have hkl:k<L.length:=by omega
 have hmine:=h.mine;rw [hj,List.take_length] at hmine;obtain ⟨A,c,e,h1,h2,h3⟩:=qjm (lo:=lo) hmine h.low.2;have hset:=(h.rows.more h.top).set (i:=k) (x:=s) (A:=A) (c:=c) ⟨h1,h2⟩ h3;have e1:(cs0++List.replicate (m-k) qaZ).set k (.slice A s.length c)=(cs0++[v])++List.replicate (m-(k+1)) qaZ:=by
  have :=qgA (a:=cs0) (n:=m-k) (d:=qaZ) (x:=v) (by omega);rw [hc] at this;rw [<- e,this,List.append_assoc,show m-k-1=m-(k+1) by omega];rfl
 rw [e1,show (upL L k []).set k s=upL L (k+1) [] by rw [<- hs hkl];exact qjp hkl] at hset;refine ⟨cs0++[v],by simp [hc],hk,hL,⟨?_,h.low.1,by rw [qhq (by omega),hL],hset,Nat.le_refl _⟩,h.below⟩;have :=h.own;rwa [show cs0++v::List.replicate (m-k-1) qaZ=(cs0++[v])++List.replicate (m-(k+1)) qaZ by rw [List.append_assoc,show m-k-1=m-(k+1) by omega];rfl] at this
end
theorem qa0.all {L:List (List Int)} {w wr:World} {D m lo:Nat} (h:qa0 L w D m lo m wr):Lol (Value.int .i64) wr wr.heap.size (some ⟨D,0,none⟩) L:=by
 obtain ⟨cs0,h1,h2,h3,h4,h5⟩:=h;have :=h4.lol;rwa [<- h3,qnc] at this
theorem qhr (base:Nat) (s:ByteArray):∀ u∈[Value.string s],u.oneCell'=true:=by intro u hu;simp at hu;subst hu;rfl
theorem qhs {ops:Array Oper} {rest:List Oper} {o:Oper} {a:Act} {Q:Exit->Act->World->Prop} (w:World) (hgd:o.guard=none) (s x:Operand)
  (ho:o.op= .call {callee:= .builtin .append,args:=#[s,x],argTypes:=#[40,40]})
  (base:Nat) (v:Value) (l:List Nm) (hs:a.eval s=v) (hown:qaI base w v l) (A:Option Addr) (m c:Nat) (news:List Nm) (hx:a.eval x= .slice A m c) (hl:news.length=m) (hr:Row w w.heap.size A (qad news))
  (hlen:l.length+m<=1073741824) (hbase:base<=w.heap.size)
  (h:∀ v' w',qaI base w' v' (l++news)->Below base w w'->wpList Tryz.prog ops Q rest (a.put o.dst v') w'):wpList Tryz.prog ops Q (o::rest) a w:=by
 obtain ⟨i0,hi0,hz0,hz1,hz2⟩:=info_parts qfl;refine qfG w hgd s x 40 ho base 9 i0 _ 1 16 Tryz.underlying40 hi0 hz0 hz1 hz2 rfl (by decide) v l.length (qad l) hs hown w.heap.size A m c (qad news) hx (by rw [qeQ];omega) hr (qsA _) (by unfold maxLen;omega) (by omega) hbase fun v' w' h1 h2=>h v' w' ?_ ?_
 ·unfold qaI
  rw [List.length_append,hl,qiH];exact h1
 ·exact (Below.refl base w).grown h2 hbase fun k hk=>(hown.lt k hk).1
def qbi (R:Option Addr->List Value->Prop):List (List Nm)->List Value->Prop
 |[],cs=>cs=[]
 |x::r,cs=>∃ A c cs',cs= .slice A x.length c::cs'/\x.length<=c/\c<=maxLen/\R A (qad x)/\qbi R r cs'
section
variable {R R':Option Addr->List Value->Prop}
theorem qbi.len:∀ {l:List (List Nm)} {cs:List Value},qbi R l cs->cs.length=l.length
 |[],cs,h=>by simp only [qbi] at h;subst h;rfl
 |x::r,cs,h=>by
  obtain ⟨A,c,cs',rfl,_,_,_,h'⟩:=h;simp only [List.length_cons,qbi.len h']
theorem qbi.imp:∀ {l:List (List Nm)} {cs:List Value},qbi R l cs->(∀ A xs,R A xs->R' A xs)->qbi R' l cs
 |[],cs,h,_=>h
 |x::r,cs,h,hi=>by
  obtain ⟨A,c,cs',rfl,h1,h2,h3,h'⟩:=h;exact ⟨A,c,cs',rfl,h1,h2,hi _ _ h3,qbi.imp h' hi⟩
theorem qbi.at_:∀ {l:List (List Nm)} {cs:List Value} {k:Nat},qbi R l cs->(hk:k<l.length)->
  ∃ A c,cs[k]?=some (.slice A l[k].length c)/\l[k].length<=c/\c<=maxLen/\R A (qad l[k])
 |[],_,k,_,h=>by simp at h
 |x::r,cs,0,h,_=>by
  obtain ⟨A,c,cs',rfl,h1,h2,h3,h'⟩:=h;exact ⟨A,c,rfl,h1,h2,h3⟩
 |x::r,cs,k+1,h,hk=>by
  obtain ⟨A,c,cs',rfl,h1,h2,h3,h'⟩:=h;have :=qbi.at_ (k:=k) h' (by simpa using hk);simpa using this
theorem qbi.take:∀ {l:List (List Nm)} {cs:List Value} (k:Nat),qbi R l cs->qbi R (l.take k) (cs.take k)
 |_,cs,0,_=>by simp [qbi]
 |[],cs,k+1,h=>by simp only [qbi] at h;subst h;simp [qbi]
 |x::r,cs,k+1,h=>by
  obtain ⟨A,c,cs',rfl,h1,h2,h3,h'⟩:=h;exact ⟨A,c,_,rfl,h1,h2,h3,qbi.take k h'⟩
theorem qbi.drop:∀ {l:List (List Nm)} {cs:List Value} (k:Nat),qbi R l cs->qbi R (l.drop k) (cs.drop k)
 |l,cs,0,h=>by simpa using h
 |[],cs,k+1,h=>by simp only [qbi] at h;subst h;simp [qbi]
 |x::r,cs,k+1,h=>by
  obtain ⟨A,c,cs',rfl,h1,h2,h3,h'⟩:=h;rw [List.drop_succ_cons,List.drop_succ_cons];exact qbi.drop k h'
end
def qcn (w:World) (B:Nat) (A:Option Addr) (l:List (List Nm)):Prop:=∃ cs,qbi (Row w B) l cs/\Row w B A cs
theorem qcn.below {w w':World} {B:Nat} {A:Option Addr} {l:List (List Nm)} (h:qcn w B A l) (hb:Below B w w'):qcn w' B A l:=by
 obtain ⟨cs,h1,h2⟩:=h;exact ⟨cs,h1.imp fun _ _ h=>h.below hb,h2.below hb⟩
theorem qcn.more {w:World} {B B':Nat} {A:Option Addr} {l:List (List Nm)} (h:qcn w B A l) (hB:B<=B'):qcn w B' A l:=by
 obtain ⟨cs,h1,h2⟩:=h;exact ⟨cs,h1.imp fun _ _ h=>h.more hB,h2.more hB⟩
theorem qcn.later {w w':World} {A:Option Addr} {l:List (List Nm)} (h:qcn w w.heap.size A l) (hb:Below w.heap.size w w'):qcn w' w'.heap.size A l:=(h.below hb).more hb.size
theorem qcn.at_ {w:World} {B:Nat} {A:Option Addr} {l:List (List Nm)} (h:qcn w B A l) {k:Nat} (hk:k<l.length):
  ∃ b off,A=some ⟨b,off,none⟩/\b<B/\∃ A' c',w.cell? ⟨b,off+k,none⟩=some (.slice A' l[k].length c')/\l[k].length<=c'/\c'<=maxLen/\Row w B A' (qad l[k]):=by
 obtain ⟨cs,h1,h2⟩:=h;obtain ⟨b,off,rfl,hb,hc⟩:=h2.at_ (by rw [h1.len];omega);obtain ⟨A',c',g2,g3,g4,g5⟩:=h1.at_ hk;exact ⟨b,off,rfl,hb,A',c',hc _ _ g2,g3,g4,g5⟩
theorem qcn.cut {w:World} {B:Nat} {A:Option Addr} {l:List (List Nm)} (h:qcn w B A l) (k:Nat):qcn w B A (l.take k):=by
 obtain ⟨cs,h1,h2⟩:=h;exact ⟨_,h1.take k,h2.cut k⟩
theorem qcn.drop {w:World} {B b off:Nat} {l:List (List Nm)} (h:qcn w B (some ⟨b,off,none⟩) l) (k:Nat):qcn w B (some ⟨b,off+k,none⟩) (l.drop k):=by
 obtain ⟨cs,h1,h2⟩:=h;refine ⟨_,h1.drop k,?_⟩;rcases h2 with rfl|⟨b',o',e,hb,hc⟩
 ·exact .inl (by simp)
 ·injection e with e
  injection e with e1 e2
  subst e1 e2;refine .inr ⟨b,off+k,rfl,hb,fun j u hu=> ?_⟩;have :=hc (k+j) u (by rw [<- hu];simp);rwa [<- Nat.add_assoc] at this
theorem qaI.room {base:Nat} {w:World} {v:Value} {l:List Nm} (h:qaI base w v l):∃ A c,v= .slice A l.length c/\l.length<=c/\c<=maxLen/\Row w w.heap.size A (qad l):=by
 obtain ⟨A,c,rfl,hc,hr⟩:=h.row;refine ⟨A,c,rfl,hc,?_,hr⟩;rcases h.2 with ⟨h4,_⟩|⟨g,cap,cur,h4,_,_,_,h5,_⟩
 ·injection h4 with _ _ h4;omega
 ·injection h4 with _ _ h4;rw [h4];exact h5
end Go.Proofs.YtpehcaidjlemiaaGreatDoor
