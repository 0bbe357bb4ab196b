import Derived.Test.YtpehcaidjlemiaaGreatDoorMKZz
import Derived.Test.YtpehcaidjlemiaaGreatDoorMKQ07
import Derived.Test.YtpehcaidjlemiaaGreatDoorMKQ01
import Derived.OneCell
import Derived.Laws.OwnMore
import Derived.Test.YtpehcaidjlemiaaGreatDoorMKQ02
import Derived.Deep.AppendLies
import Derived.Deep.RegionLaw
import Derived.Shelf.SlSorted.Search
import Derived.Test.YtpehcaidjlemiaaGreatDoorMKQ05
import Derived.BigCall
import Derived.BigQuiet
import Derived.Deep.QuietTactic
import Derived.Deep.RegionHeld3
import Derived.Test.YtpehcaidjlemiaaGreatDoorMKQ06
set_option maxHeartbeats 2000000
set_option maxRecDepth 100000
set_option linter.unusedVariables false
namespace Go.Proofs.YtpehcaidjlemiaaGreatDoor
open Go Go.RowKit
structure qfZ (B o b1 b2:Nat) (l:List Nm) (vs:List Nat) (s:ByteArray) (W:World):Prop where
 dict:qbP W B o l vs
 var:W.heap[b1]?=some (.cells #[.pointer (some ⟨B,o,none⟩)] 154 (0,0))
 text:W.heap[b2]?=some (.cells #[.string s] 9 (0,0))
theorem qfZ.below {B o b1 b2:Nat} {l:List Nm} {vs:List Nat} {s:ByteArray} {W W':World} (h:qfZ B o b1 b2 l vs s W) (hb:Below W.heap.size W W'):qfZ B o b1 b2 l vs s W':=
 ⟨h.dict.below hb,(hb.block _ (lt_of_block h.var)).trans h.var,(hb.block _ (lt_of_block h.text)).trans h.text⟩
theorem qtx (B o b1 b2 k:Nat) (l:List Nm) (vs:List Nat) (s:ByteArray) (W:World) (h:qfZ B o b1 b2 l vs s W) (hk:k<l.length) (hl:l.length<=1073741824):
  Calls Tryz.prog 215 #[.int .i64 (k:Int),.pointer (some ⟨b1,0,none⟩),.pointer (some ⟨b2,0,none⟩)] W fun e w'=>e= .returned (.int .i64 (qaC l[k] s.data.toList))/\∃ q,w'=W.drewN q:=by
 obtain ⟨b,off,c,h1,h2,h3,h4,h5,h6⟩:=h.dict.ent hk;have hv:=cell_of_one h.var;have ht:=cell_of_one h.text;obtain ⟨x,hx,hx2⟩:=qbY l[k];rw [<- hx] at h5;have hcm:=fun w=>qm7 x s w
 rw [hx2] at hcm;obtain ⟨z,hz⟩:∃ z,z=qaC l[k] s.data.toList:=⟨_,rfl⟩;rw [<- hz] at hcm ⊢;have CM:Hid (∀ n,Calls Tryz.prog 153 #[.string x,.string s] (W.drewN n) fun e w'=>e= .returned (.int .i64 z)/\w'=W.drewN n):=qH fun n=>(hcm _).mono fun _ _ h=>⟨h.1,h.2.symm⟩
 obtain ⟨n,hn⟩:∃ n,n=l.length:=⟨_,rfl⟩;rw [<- hn] at h1 h2 hl hk;have k2:(0:Int)<=(k:Int):=by omega
 have k3:(k:Int)<(n:Int):=by omega
 clear hx hx2 hz hn h hcm h6
 go_enter Tryz.func215,Tryz.ntmps215
 go_wp2
 go_quiet ((go_at_call 153;exact Calls.quiet_of_same (CM.out _)))
 go_wp2;go_ret;exact ⟨rfl,_,rfl⟩
theorem qty (B o b1 b2:Nat) (l:List Nm) (vs:List Nat) (s:ByteArray) (w:World) (h:qfZ B o b1 b2 l vs s w) (hr:qaI l) (hl:l.length<=1073741824):
  Calls Tryz.prog 177 #[.int .i64 (l.length:Int),.func (.func 215) #[] #[.pointer (some ⟨b1,0,none⟩),.pointer (some ⟨b2,0,none⟩)]] w
   fun e w'=>e= .returned (.tuple #[.int .i64 (qay l s.data.toList),.bool (isN l s.data.toList)])/\Below w.heap.size w w':=by
 have H:=qH h;have HR:=qH hr;have HL:=qH hl;obtain ⟨n,hn⟩:∃ n,n=l.length:=⟨_,rfl⟩;rw [<- hn] at hl ⊢;have HN:=qH hn;obtain ⟨p,hp⟩:∃ p,p=qay l s.data.toList:=⟨_,rfl⟩;obtain ⟨z,hz⟩:∃ z,z=isN l s.data.toList:=⟨_,rfl⟩;rw [<- hp,<- hz];have HP:=qH hp;have HZ:=qH hz;clear h hr hn hp hz
 go_enter Tryz.func177,Tryz.ntmps177
 go_wp2
 go_loopw [4,5,6,7] (qm8 B o b1 b2 l vs s w) (fun _ _ a b _=>(intOf b-intOf a).toNat)
 case atStart=>exact ⟨rfl,rfl,0,n,rfl,rfl,by omega,by have :=HN.out;omega,Below.refl _ _,fun j _ hj=>by omega,fun j hj hnj=>by have :=HN.out;omega⟩
 case round=>
  obtain ⟨rfl,rfl,a,b,rfl,rfl,hab,hbn,hbw,hlo,hhi⟩:=hrel;rw [<- HN.out] at hbn;by_cases hlt:a<b
  ·obtain ⟨m,hm⟩:∃ m:Nat,m=a+(b-a)/2:=⟨_,rfl⟩
   have hmI:(a:Int)+((b:Int)-(a:Int))/2=(m:Int):=by omega
   have hma:a<=m:=by omega
   have hmb:m<b:=by omega
   have hmn:m<l.length:=by rw [<- HN.out];omega
   have C1:=qH (qtx B o b1 b2 m l vs s wr (H.out.below hbw) hmn HL.out);have d1:decide ((a:Int)<(b:Int))=true:=decide_eq_true (by omega);have d1':decide (a<b)=true:=decide_eq_true hlt;have i1:(0:Int)<=(b:Int)-(a:Int):=by omega
   have i2:(b:Int)-(a:Int)<=1073741824:=by omega
   have i3:(0:Int)<=(m:Int):=by omega
   have i4:(m:Int)<=1073741824:=by omega
   have i5:(a:Int)<=1073741824:=by omega
   have HLO:=qH hlo;have HHI:=qH hhi;clear hm hlo hhi;rcases qdY l[m] s.data.toList with hlt'|heq|hgt
   ·have hc:qaC l[m] s.data.toList= -1:=by simp [qaC,hlt']
    rw [hc] at C1;have HLO2:Hid (∀ j (hj:j<l.length),j<m+1->l[j]<s.data.toList):=qH fun j hj hjm=>by
     by_cases e:j=m
     ·subst e;exact hlt'
     ·exact qcX (qef HR.out hmn (by omega)) hlt'
    clear hc hlt'
    go_wp2_with (go_at_call 215;refine (C1.out).mono ?_;rintro e w' ⟨rfl,q,rfl⟩)
    go_roundw
    case rel=>exact ⟨rfl,rfl,m+1,b,by go_num,rfl,by omega,by rw [<- HN.out];omega,hbw.trans ⟨rfl,rfl,rfl,Nat.le_refl _,fun _ _=>rfl⟩,HLO2.out,HHI.out⟩
    case measure=>simp [intOf];omega
   ·have hc:qaC l[m] s.data.toList=0:=by
     unfold qaC;rw [if_neg (by rw [heq];exact qeA _),if_pos heq]
    rw [hc] at C1;have hf:=qix hmn (fun j hj hjm=>by have :=qef HR.out hmn hjm;rwa [heq] at this) heq;have hpm:p=m:=by rw [HP.out];exact hf.1
    have hzt:z=true:=by rw [HZ.out];exact hf.2
    subst hpm hzt;clear hc heq hf
    go_wp2_with (go_at_call 215;refine (C1.out).mono ?_;rintro e w' ⟨rfl,q,rfl⟩)
    go_ret2;exact ⟨rfl,hbw.trans ⟨rfl,rfl,rfl,Nat.le_refl _,fun _ _=>rfl⟩⟩
   ·have hc:qaC l[m] s.data.toList=1:=by
     unfold qaC;rw [if_neg (qgp hgt),if_neg (qiv hgt).symm]
    rw [hc] at C1;have HHI2:Hid (∀ j (hj:j<l.length),m<=j->s.data.toList<l[j]):=qH fun j hj hjm=>by
     by_cases e:m=j
     ·subst e;exact hgt
     ·exact qcX hgt (qef HR.out hj (by omega))
    clear hc hgt
    go_wp2_with (go_at_call 215;refine (C1.out).mono ?_;rintro e w' ⟨rfl,q,rfl⟩)
    go_roundw
    case rel=>exact ⟨rfl,rfl,a,m,rfl,rfl,by omega,by rw [<- HN.out];omega,hbw.trans ⟨rfl,rfl,rfl,Nat.le_refl _,fun _ _=>rfl⟩,HLO.out,HHI2.out⟩
    case measure=>simp [intOf];omega
  ·have hab2:a=b:=by omega
   subst hab2;have hmi:=qlI (s:=s.data.toList) (by rw [<- HN.out];omega) hlo (fun h=>hhi a h (Nat.le_refl _));have hpm:p=a:=by rw [HP.out];exact hmi.1
   have hzt:z=false:=by rw [HZ.out];exact hmi.2
   subst hpm hzt;clear hlo hhi hmi hlt;go_wp2;go_ret2;exact ⟨rfl,hbw⟩
theorem qtz (B o:Nat) (l:List Nm) (vs:List Nat) (s:ByteArray) (w:World) (h:qbP w B o l vs) (hr:qaI l) (hl:l.length<=1073741824):
  Calls Tryz.prog 174 #[.pointer (some ⟨B,o,none⟩),.string s] w fun e w'=>e= .returned (.tuple #[.int .i64 (qay l s.data.toList),.bool (isN l s.data.toList)])/\Below w.heap.size w w':=by
 obtain ⟨w2,hw2⟩:∃ w2,w2=(w.alloc (.cells #[.pointer (some ⟨B,o,none⟩)] 154)).alloc (.cells #[.string s] 9):=⟨_,rfl⟩;have hb2:Below w.heap.size w w2:=by rw [hw2];exact ((Below.refl _ _).alloc (Nat.le_refl _) _).alloc (by simp) _
 have hlk:qfZ B o w.heap.size (w.heap.size+1) l vs s w2:=by
  refine ⟨h.below hb2,?_,?_⟩
  ·rw [hw2,Below.heap_alloc _ _ _ (by simp)];exact heap_alloc_new w _
  ·rw [hw2];have :=heap_alloc_new (w.alloc (.cells #[.pointer (some ⟨B,o,none⟩)] 154)) (.cells #[.string s] 9);simpa using this
 have C1:=qH (qm5 B o l vs w2 hlk.dict);have C2:=qH (qty B o _ _ l vs s w2 hlk hr hl);have HB:=qH hb2;have cv:=cell_of_one hlk.var;obtain ⟨n,hn⟩:∃ n,n=l.length:=⟨_,rfl⟩;rw [<- hn] at C1 C2;obtain ⟨p,hp⟩:∃ p,p=qay l s.data.toList:=⟨_,rfl⟩;obtain ⟨z,hz⟩:∃ z,z=isN l s.data.toList:=⟨_,rfl⟩;rw [<- hp,<- hz] at C2;rw [<- hp,<- hz];have HW2:=qH hw2;clear hp hz hn h hr hl hb2 hlk hw2
 go_enter Tryz.func174,Tryz.ntmps174
 go_wp2_with (first
  |(go_at_call 135;rw [<- HW2.out];refine (C1.out).mono ?_;rintro e w' ⟨rfl,rfl⟩)
  |(go_at_call 177;refine (C2.out).mono ?_;rintro e w' ⟨rfl,hb⟩))
 go_ret2;exact ⟨rfl,HB.out.trans (hb.mono HB.out.size)⟩
theorem qtA (B o:Nat) (l:List Nm) (vs:List Nat) (s:ByteArray) (w:World) (h:qbP w B o l vs) (hr:qaI l) (hl:l.length<=1073741824):
  Calls Tryz.prog 134 #[.pointer (some ⟨B,o,none⟩),.string s] w
   fun e w'=>e= .returned (.tuple #[.pointer (if isN l s.data.toList=true then some ⟨vs.getD (qay l s.data.toList) 0,0,none⟩ else none),.bool (isN l s.data.toList)])/\Below w.heap.size w w':=by
 have c1:=qtz B o l vs s w h hr hl;have hfd:=qiy (l:=l) (s:=s.data.toList);obtain ⟨p,hp⟩:∃ p,p=qay l s.data.toList:=⟨_,rfl⟩;obtain ⟨z,hz⟩:∃ z,z=isN l s.data.toList:=⟨_,rfl⟩;rw [<- hp,<- hz] at c1 ⊢;rw [<- hz] at hfd;cases z with
 |true=>
  have hpl:p<l.length:=by rw [hp];exact (hfd rfl).1
  have H:=qH h;have C1:=qH c1;have HPL:=qH hpl;rw [if_pos rfl];obtain ⟨y,hy⟩:∃ y,y=vs.getD p 0:=⟨_,rfl⟩;rw [<- hy];have HY:=qH hy;obtain ⟨n,hn⟩:∃ n,n=l.length:=⟨_,rfl⟩;have HN:=qH hn;rw [<- hn] at hl hpl;have k2:(0:Int)<=(p:Int):=by omega
  have k3:(p:Int)<(n:Int):=by omega
  clear h c1 hfd hp hz hn hy
  go_enter Tryz.func134,Tryz.ntmps134
  go_wp2_with (go_at_call 174;refine (C1.out).mono ?_)
  rintro e w1 ⟨rfl,hb⟩;obtain ⟨b,off,c,h1,h2,h3,h4,h5,h6⟩:=(H.out.below hb).ent HPL.out;rw [<- HN.out] at h1 h2;rw [<- HY.out] at h6;have HB:=qH hb;clear h5 hb;go_wp2;go_ret2;exact ⟨rfl,HB.out⟩
 |false=>
  have C1:=qH c1;rw [if_neg (by decide)];clear h c1 hfd hp hz
  go_enter Tryz.func134,Tryz.ntmps134
  go_wp2_with (go_at_call 174;refine (C1.out).mono ?_;rintro e w1 ⟨rfl,hb⟩)
  go_ret2;exact ⟨rfl,hb⟩
theorem qbn {w:World} {base:Nat} {e:TypeId} {size:Nat} {v:Value} {n:Nat} {xs:List Value} (h:w.ownsRow base e size v n xs):∃ A c,v= .slice A n c/\n<=c/\c<=maxLen/\Row w w.heap.size A xs:=by
 obtain ⟨A,c,rfl,hc,hr⟩:=qaR h;refine ⟨A,c,rfl,hc,?_,hr⟩;rcases h.2 with ⟨hv,_⟩|⟨g,cap,cur,hv,_,_,_,hcp,_⟩
 ·injection hv with _ _ e
  rw [e];exact Nat.zero_le _
 ·injection hv with _ _ e
  rw [e];exact hcp
section
variable {α:Type} {f:α->Value} {w w':World} {B B':Nat} {A:Option Addr} {l:List (List α)} {cs:List Value}
def qe7 (f:α->Value) (w:World) (B:Nat) (l:List (List α)) (cs:List Value):Prop:=cs.length=l.length/\∀ i (h:i<l.length),∃ A c,cs[i]?=some (.slice A l[i].length c)/\(l[i].length<=c/\c<=maxLen)/\Row w B A (l[i].map f)
def Lol (f:α->Value) (w:World) (B:Nat) (A:Option Addr) (l:List (List α)):Prop:=∃ cs,qe7 f w B l cs/\Row w B A cs
theorem qe7.below (h:qe7 f w B l cs) (hb:Below B w w'):qe7 f w' B l cs:=⟨h.1,fun i hi=>by obtain ⟨A,c,h1,h2,h3⟩:=h.2 i hi;exact ⟨A,c,h1,h2,h3.below hb⟩⟩
theorem qe7.more (h:qe7 f w B l cs) (hB:B<=B'):qe7 f w B' l cs:=⟨h.1,fun i hi=>by obtain ⟨A,c,h1,h2,h3⟩:=h.2 i hi;exact ⟨A,c,h1,h2,h3.more hB⟩⟩
theorem Lol.below (h:Lol f w B A l) (hb:Below B w w'):Lol f w' B A l:=by obtain ⟨cs,h1,h2⟩:=h;exact ⟨cs,h1.below hb,h2.below hb⟩
theorem Lol.more (h:Lol f w B A l) (hB:B<=B'):Lol f w B' A l:=by obtain ⟨cs,h1,h2⟩:=h;exact ⟨cs,h1.more hB,h2.more hB⟩
theorem Lol.later (h:Lol f w w.heap.size A l) (hb:Below w.heap.size w w'):Lol f w' w'.heap.size A l:=(h.below hb).more hb.size
theorem Lol.at_ (h:Lol f w B A l) {i:Nat} (hi:i<l.length):∃ b off A' c',A=some ⟨b,off,none⟩/\b<B/\w.cell? ⟨b,off+i,none⟩=some (.slice A' l[i].length c')/\(l[i].length<=c'/\c'<=maxLen)/\Row w B A' (l[i].map f):=by
 obtain ⟨cs,h1,h2⟩:=h;obtain ⟨A',c',g1,g2,g3⟩:=h1.2 i hi;obtain ⟨b,off,rfl,hb,hc⟩:=h2.at_ (by rw [h1.1];omega);exact ⟨b,off,A',c',rfl,hb,hc i _ g1,g2,g3⟩
end
def qcI (w:World) (lo hi:Nat) (A:Option Addr) (xs:List Value):Prop:=
 xs=[]∨∃ b off,A=some ⟨b,off,none⟩/\lo<=b/\b<hi/\∀ j u,xs[j]?=some u->w.cell? ⟨b,off+j,none⟩=some u
section
variable {w w':World} {lo hi hi':Nat} {A:Option Addr} {xs:List Value}
theorem qcI.nil:qcI w lo hi A []:= .inl rfl
theorem qcI.row (h:qcI w lo hi A xs):Row w hi A xs:=by
 rcases h with h|⟨b,off,h1,_,h3,h4⟩
 ·exact .inl h
 ·exact .inr ⟨b,off,h1,h3,h4⟩
theorem qcI.more (h:qcI w lo hi A xs) (hB:hi<=hi'):qcI w lo hi' A xs:=by
 rcases h with h|⟨b,off,h1,h2,h3,h4⟩
 ·exact .inl h
 ·exact .inr ⟨b,off,h1,h2,by omega,h4⟩
theorem qcI.keep (h:qcI w lo hi A xs) (hk:∀ b,lo<=b->b<hi->w'.heap[b]?=w.heap[b]?):qcI w' lo hi A xs:=by
 rcases h with h|⟨b,off,h1,h2,h3,h4⟩
 ·exact .inl h
 ·exact .inr ⟨b,off,h1,h2,h3,fun j u hu=>(World.cell?_of_block (a:=⟨b,off+j,none⟩) (hk b h2 h3)).trans (h4 j u hu)⟩
theorem qjj {base:Nat} {e:TypeId} {size n:Nat} {v:Value} (h:w.ownsRow base e size v n xs) (hb:lo<=base):∃ A c,v= .slice A n c/\n<=c/\c<=maxLen/\qcI w lo w.heap.size A xs:=by
 obtain ⟨A,c,rfl,h1,h2,h3⟩:=qbn h;refine ⟨A,c,rfl,h1,h2,?_⟩;rcases h3 with h3|⟨b,off,rfl,h4,h5⟩
 ·exact .inl h3
 ·refine .inr ⟨b,off,rfl,?_,h4,h5⟩
  rcases h.2 with ⟨hv,_⟩|⟨g,cap,cur,hv,hg,_⟩
  ·cases hv
  ·injection hv with hv
   injection hv with hv
   injection hv with hv
   omega
end
section
variable {α:Type} {f:α->Value} {w w':World} {lo hi hi':Nat} {l:List (List α)} {cs:List Value}
def qcf (f:α->Value) (w:World) (lo hi:Nat) (l:List (List α)) (cs:List Value):Prop:=cs.length=l.length/\∀ i (h:i<l.length),∃ A c,cs[i]?=some (.slice A l[i].length c)/\(l[i].length<=c/\c<=maxLen)/\qcI w lo hi A (l[i].map f)
theorem qcf.keep (h:qcf f w lo hi l cs) (hk:∀ b,lo<=b->b<hi->w'.heap[b]?=w.heap[b]?):qcf f w' lo hi l cs:=⟨h.1,fun i hi=>by obtain ⟨A,c,h1,h2,h3⟩:=h.2 i hi;exact ⟨A,c,h1,h2,h3.keep hk⟩⟩
theorem qcf.below (h:qcf f w lo hi l cs) (hb:Below hi w w'):qcf f w' lo hi l cs:=h.keep fun b _ hb2=>hb.block b hb2
theorem qcf.more (h:qcf f w lo hi l cs) (hB:hi<=hi'):qcf f w lo hi' l cs:=⟨h.1,fun i hi=>by obtain ⟨A,c,h1,h2,h3⟩:=h.2 i hi;exact ⟨A,c,h1,h2,h3.more hB⟩⟩
theorem qcf.ahead (h:qcf f w lo hi l cs) {p:Addr} (hp:p.block<lo) (u:Value):qcf f (w.setCell p u) lo hi l cs:=h.keep fun b h1 _=>Below.heap_setCell _ _ _ _ (by omega)
theorem qjk (w:World) (lo hi m:Nat):qcf f w lo hi (List.replicate m []) (List.replicate m (.slice none 0 0)):=
 ⟨by simp,fun i hi=>by
  simp at hi;exact ⟨none,0,by simp [hi],by simp [maxLen],by simpa using qcI.nil⟩⟩
theorem qcf.set (h:qcf f w lo hi l cs) {i:Nat} {x:List α} {A:Option Addr} {c:Nat} (hc:x.length<=c/\c<=maxLen) (hx:qcI w lo hi A (x.map f)):qcf f w lo hi (l.set i x) (cs.set i (.slice A x.length c)):=by
 refine ⟨by simp [h.1],fun j hj=> ?_⟩;rw [List.length_set] at hj;by_cases e:i=j
 ·subst e
  refine ⟨A,c,?_,?_,?_⟩
  ·rw [List.getElem?_set,if_pos rfl,if_pos (by rw [h.1];exact hj)];simp
  ·simpa using hc
  ·simpa using hx
 ·obtain ⟨A',c',h1,h2,h3⟩:=h.2 j hj
  refine ⟨A',c',?_,?_,?_⟩
  ·rw [List.getElem?_set,if_neg e,List.getElem_set_ne e];exact h1
  ·rw [List.getElem_set_ne e];exact h2
  ·rw [List.getElem_set_ne e];exact h3
theorem qcf.lolC (h:qcf f w lo hi l cs):qe7 f w hi l cs:=⟨h.1,fun i hi=>by obtain ⟨A,c,h1,h2,h3⟩:=h.2 i hi;exact ⟨A,c,h1,h2,h3.row⟩⟩
structure qbQ (f:α->Value) (t:TypeId) (base D m lo hi:Nat) (w:World) (l:List (List α)) (cs:List Value):Prop where
 own:w.ownsRow base t 1 (.slice (some ⟨D,0,none⟩) m m) m cs
 lt:D<lo
 len:l.length=m
 rows:qcf f w lo hi l cs
 top:hi<=w.heap.size
section
variable {t:TypeId} {base D m:Nat}
theorem qbQ.from_ (h:qbQ f t base D m lo hi w l cs):base<=D:=by
 rcases h.own.2 with ⟨hv,_⟩|⟨g,cap,cur,hv,hg,_⟩
 ·cases hv
 ·injection hv with hv
  injection hv with hv
  injection hv with hv
  omega
theorem qbQ.keep (h:qbQ f t base D m lo hi w l cs) (h1:w'.heap[D]?=w.heap[D]?) (hk:∀ b,lo<=b->b<hi->w'.heap[b]?=w.heap[b]?) (hs:w.heap.size<=w'.heap.size):qbQ f t base D m lo hi w' l cs:=
 ⟨qat h.own fun g hg=>by simp only [Value.ownBlock,Option.some.injEq] at hg;subst hg;exact h1,h.lt,h.len,h.rows.keep hk,Nat.le_trans h.top hs⟩
theorem qbQ.later (h:qbQ f t base D m lo hi w l cs) (hb:Below w.heap.size w w'):qbQ f t base D m lo hi w' l cs:=by
 have hlt:=h.lt;have hD:D<w.heap.size:=by
  rcases h.own.2 with ⟨hv,_⟩|⟨g,cap,cur,hv,hg,hh,_⟩
  ·cases hv
  ·cases hv
   exact (Array.getElem?_eq_some_iff.1 hh).1
 exact h.keep (hb.block D hD) (fun b _ h2=>hb.block b (Nat.lt_of_lt_of_le h2 h.top)) hb.size
theorem qbQ.other (h:qbQ f t base D m lo hi w l cs) {p:Addr} (h1:p.block≠D) (h2:p.block<lo) (u:Value):qbQ f t base D m lo hi (w.setCell p u) l cs:=
 h.keep (Below.heap_setCell _ _ _ _ fun e=>h1 e.symm) (fun b hb _=>Below.heap_setCell _ _ _ _ (by omega)) (by simp [World.setCell])
theorem qbQ.lol (h:qbQ f t base D m lo hi w l cs):Lol f w w.heap.size (some ⟨D,0,none⟩) l:=by
 obtain ⟨A,c,e,_,hr⟩:=qaR h.own;injection e with e
 subst e;exact ⟨cs,(h.rows.more h.top).lolC,hr⟩
theorem qbQ.set (h:qbQ f t base D m lo hi w l cs) {i:Nat} {x:List α} {A:Option Addr} {c:Nat} (hc:x.length<=c/\c<=maxLen) (hx:qcI w lo hi A (x.map f)):qbQ f t base D m lo hi (w.setCell ⟨D,i,none⟩ (.slice A x.length c)) (l.set i x) (cs.set i (.slice A x.length c)):=
 ⟨(h.own.stored i _).1,h.lt,by rw [List.length_set,h.len],(h.rows.ahead (p:=⟨D,i,none⟩) h.lt _).set hc (hx.keep fun b h1 _=>Below.heap_setCell _ _ _ _ (by have :=h.lt;simp only;omega)),by simpa [World.setCell] using h.top⟩
end
end
abbrev qa5:Value:= .slice none 0 0
def upL {α:Type} (L:List α) (k:Nat) (d:α):List α:=L.take k++List.replicate (L.length-k) d
theorem qhp {α:Type} {L:List α} {k:Nat} {d:α} (hk:k<=L.length):(upL L k d).length=L.length:=by simp [upL];omega
theorem qjl {α:Type} (L:List α) (d:α):upL L 0 d=List.replicate L.length d:=by simp [upL]
theorem qm9 {α:Type} (L:List α) (d:α):upL L L.length d=L:=by simp [upL]
theorem qgH {α:Type} {a:List α} {n:Nat} {d x:α} (hn:0<n):(a++List.replicate n d).set a.length x=a++x::List.replicate (n-1) d:=by
 obtain ⟨m,rfl⟩:∃ m,n=m+1:=⟨n-1,by omega⟩;rw [List.set_append_right _ _ (Nat.le_refl _),Nat.sub_self,List.replicate_succ,zE,Nat.add_sub_cancel]
theorem qjm {α:Type} {L:List α} {k:Nat} {d:α} (hk:k<L.length):(upL L k d).set k L[k]=upL L (k+1) d:=by
 have h1:(L.take k).length=k:=by rw [List.length_take];omega
 have :=qgH (a:=L.take k) (n:=L.length-k) (d:=d) (x:=L[k]) (by omega);rw [h1] at this;unfold upL;rw [this,List.take_succ_eq_append_getElem hk,List.append_assoc,show L.length-k-1=L.length-(k+1) by omega];rfl
theorem qjn:(Tryz.prog.info? 23).map (fun i=>(i.zero,i.size,i.bytes))=some (some (.slice none 0 0),1,24):=by kernel_rfl
def qa6 (L:List (List Int)) (w:World) (D m lo k:Nat) (wr:World):Prop:=∃ cs0:List Value,cs0.length=k/\k<=m/\L.length=m/\qbQ (Value.int .i64) 23 w.heap.size D m lo wr.heap.size wr (upL L k []) (cs0++List.replicate (m-k) qa5)/\Below w.heap.size w wr
structure qdf (L:List (List Int)) (w:World) (D m lo k Bk j:Nat) (s:List Int) (v:Value) (cs0:List Value) (wx:World):Prop where
 own:wx.ownsRow w.heap.size 23 1 (.slice (some ⟨D,0,none⟩) m m) m (cs0++v::List.replicate (m-k-1) qa5)
 rows:qcf (Value.int .i64) wx lo Bk (upL L k []) (cs0++List.replicate (m-k) qa5)
 mine:wx.ownsRow Bk 3 1 v j (qab (s.take j))
 le:j<=s.length
 low:D<lo/\lo<=Bk
 top:Bk<=wx.heap.size
 below:Below w.heap.size w wx
theorem qa6.begin {L:List (List Int)} {w wr w1:World} {m lo:Nat} (hlo:wr.heap.size<lo/\lo<=w1.heap.size) (hm:L.length=m) (hb:Below w.heap.size w wr) (hown:w1.ownsRow w.heap.size 23 1 (.slice (some ⟨wr.heap.size,0,none⟩) m m) m (List.replicate m qa5)) (hg:wr.grownBy w1 none):qa6 L w wr.heap.size m lo 0 w1:=by
 refine ⟨[],rfl,Nat.zero_le _,hm,⟨by simpa using hown,hlo.1,by rw [qhp (Nat.zero_le _),hm],?_,Nat.le_refl _⟩,hb.grown hg hb.size (fun k hk=>by cases hk)⟩;rw [qjl,hm];exact qjk _ _ _ _
theorem qa6.mid {L:List (List Int)} {w wr:World} {D m lo k:Nat} {s:List Int} (h:qa6 L w D m lo k wr) (hk:k<m) (hlo:lo<=wr.heap.size):∃ cs0,cs0.length=k/\qdf L w D m lo k wr.heap.size 0 s qa5 cs0 wr:=by
 obtain ⟨cs0,h1,h2,h3,h4,h5⟩:=h;refine ⟨cs0,h1,⟨?_,h4.rows,World.ownsRow_nil _ _ _ _,Nat.zero_le _,⟨h4.lt,hlo⟩,Nat.le_refl _,h5⟩⟩;have :=h4.own;rwa [show m-k=(m-k-1)+1 by omega,List.replicate_succ] at this
section
variable {L:List (List Int)} {w wx wy w6:World} {D m lo k Bk j:Nat} {s:List Int} {v v6:Value} {cs0:List Value}
theorem qdf.later (h:qdf L w D m lo k Bk j s v cs0 wx) (hb:Below wx.heap.size wx wy):qdf L w D m lo k Bk j s v cs0 wy:=
 ⟨qao h.own hb,h.rows.below (hb.mono h.top),qao h.mine hb,h.le,h.low,Nat.le_trans h.top hb.size,h.below.trans (hb.mono h.below.size)⟩
theorem qdf.cell (h:qdf L w D m lo k Bk j s v cs0 wx) (hc:cs0.length=k) (hk:k<m):wx.cell? ⟨D,k,none⟩=some v/\wx.frozen? ⟨D,k,none⟩=false:=by
 refine ⟨?_,h.own.frozenAt k⟩;rw [h.own.cellAt k (by omega),List.getElem?_append_right (by omega),hc,Nat.sub_self];rfl
theorem qdf.grow (h:qdf L w D m lo k Bk j s v cs0 wy) (hc:cs0.length=k) (hk:k<m) (hj:j<s.length) (ho:w6.ownsRow Bk 3 1 v6 (j+1) (qab (s.take j)++[.int .i64 s[j]])) (hg:wy.grownBy w6 v.ownBlock):
  w6.cell? ⟨D,k,none⟩=some v/\w6.frozen? ⟨D,k,none⟩=false/\qdf L w D m lo k Bk (j+1) s v6 cs0 (w6.setCell ⟨D,k,none⟩ v6):=by
 have hvb:∀ g,v.ownBlock=some g->Bk<=g:=fun g hg2=>(h.mine.lt g hg2).1
 have hD:=(h.own.lt D rfl).2;have hlow:D<Bk:=Nat.lt_of_lt_of_le h.low.1 h.low.2;have h1:w6.ownsRow w.heap.size 23 1 (.slice (some ⟨D,0,none⟩) m m) m (cs0++v::List.replicate (m-k-1) qa5):=
  qat h.own fun g hg2=>by
   simp only [Value.ownBlock,Option.some.injEq] at hg2;subst hg2;exact hg.block _ hD (fun e=>by have :=hvb _ e.symm;omega)
 have hcell:w6.cell? ⟨D,k,none⟩=some v:=by
  rw [h1.cellAt k (by omega),List.getElem?_append_right (by omega),hc,Nat.sub_self];rfl
 refine ⟨hcell,h1.frozenAt k,?_⟩;have hst:=(h1.stored k v6).1;rw [List.set_append_right _ _ (by omega),hc,Nat.sub_self,zE] at hst;refine ⟨hst,?_,?_,by omega,h.low,?_,?_⟩
 ·refine qcf.ahead (h.rows.keep fun b hb1 hb2=> ?_) (p:=⟨D,k,none⟩) h.low.1 v6
  exact hg.block b (Nat.lt_of_lt_of_le hb2 h.top) (fun e=>by have :=hvb _ e.symm;omega)
 ·rw [show qab (s.take (j+1))=qab (s.take j)++[.int .i64 s[j]] by rw [List.take_succ_eq_append_getElem hj,qab,qab,List.map_append];rfl]
  exact ownsRow_setCell_other ho (fun e=>by have :=(ho.lt _ e).1;simp only at this;omega) _
 ·simpa [World.setCell] using Nat.le_trans h.top hg.size
 ·have hwD:w.heap.size<=D:=(h.own.lt D rfl).1
  exact (h.below.grown hg h.below.size fun g hg2=>Nat.le_trans hwD (Nat.le_trans (Nat.le_of_lt hlow) (hvb g hg2))).setCell (p:=⟨D,k,none⟩) hwD v6
theorem qdf.done (h:qdf L w D m lo k Bk j s v cs0 wx) (hc:cs0.length=k) (hk:k<m) (hL:L.length=m) (hj:j=s.length) (hs:∀ hk:k<L.length,L[k]=s):qa6 L w D m lo (k+1) wx:=by
 have hkl:k<L.length:=by omega
 have hmine:=h.mine;rw [hj,List.take_length] at hmine;obtain ⟨A,c,e,h1,h2,h3⟩:=qjj (lo:=lo) hmine h.low.2;have hset:=(h.rows.more h.top).set (i:=k) (x:=s) (A:=A) (c:=c) ⟨h1,h2⟩ h3;have e1:(cs0++List.replicate (m-k) qa5).set k (.slice A s.length c)=(cs0++[v])++List.replicate (m-(k+1)) qa5:=by
  have :=qgH (a:=cs0) (n:=m-k) (d:=qa5) (x:=v) (by omega);rw [hc] at this;rw [<- e,this,List.append_assoc,show m-k-1=m-(k+1) by omega];rfl
 rw [e1,show (upL L k []).set k s=upL L (k+1) [] by rw [<- hs hkl];exact qjm hkl] at hset;refine ⟨cs0++[v],by simp [hc],hk,hL,⟨?_,h.low.1,by rw [qhp (by omega),hL],hset,Nat.le_refl _⟩,h.below⟩;have :=h.own;rwa [show cs0++v::List.replicate (m-k-1) qa5=(cs0++[v])++List.replicate (m-(k+1)) qa5 by rw [List.append_assoc,show m-k-1=m-(k+1) by omega];rfl] at this
end
theorem qa6.all {L:List (List Int)} {w wr:World} {D m lo:Nat} (h:qa6 L w D m lo m wr):Lol (Value.int .i64) wr wr.heap.size (some ⟨D,0,none⟩) L:=by
 obtain ⟨cs0,h1,h2,h3,h4,h5⟩:=h;have :=h4.lol;rwa [<- h3,qm9] at this
theorem qgI (base:Nat) (s:ByteArray):∀ u∈[Value.string s],u.oneCell'=true:=by intro u hu;simp at hu;subst hu;rfl
theorem qhq {ops:Array Oper} {rest:List Oper} {o:Oper} {a:Act} {Q:Exit->Act->World->Prop} (w:World) (hgd:o.guard=none) (s x:Operand)
  (ho:o.op= .call {callee:= .builtin .append,args:=#[s,x],argTypes:=#[40,40]})
  (base:Nat) (v:Value) (l:List Nm) (hs:a.eval s=v) (hown:qaJ base w v l) (A:Option Addr) (m c:Nat) (news:List Nm) (hx:a.eval x= .slice A m c) (hl:news.length=m) (hr:Row w w.heap.size A (qae news))
  (hlen:l.length+m<=1073741824) (hbase:base<=w.heap.size)
  (h:∀ v' w',qaJ base w' v' (l++news)->Below base w w'->wpList Tryz.prog ops Q rest (a.put o.dst v') w'):wpList Tryz.prog ops Q (o::rest) a w:=by
 obtain ⟨i0,hi0,hz0,hz1,hz2⟩:=info_parts qeW;refine qfM w hgd s x 40 ho base 9 i0 _ 1 16 Tryz.underlying40 hi0 hz0 hz1 hz2 rfl (by decide) v l.length (qae l) hs hown w.heap.size A m c (qae news) hx (by rw [qeV];omega) hr (qsr _) (by unfold maxLen;omega) (by omega) hbase fun v' w' h1 h2=>h v' w' ?_ ?_
 ·unfold qaJ
  rw [List.length_append,hl,qiG];exact h1
 ·exact (Below.refl base w).grown h2 hbase fun k hk=>(hown.lt k hk).1
def qbo (R:Option Addr->List Value->Prop):List (List Nm)->List Value->Prop
 |[],cs=>cs=[]
 |x::r,cs=>∃ A c cs',cs= .slice A x.length c::cs'/\x.length<=c/\c<=maxLen/\R A (qae x)/\qbo R r cs'
section
variable {R R':Option Addr->List Value->Prop}
theorem qbo.len:∀ {l:List (List Nm)} {cs:List Value},qbo R l cs->cs.length=l.length
 |[],cs,h=>by simp only [qbo] at h;subst h;rfl
 |x::r,cs,h=>by
  obtain ⟨A,c,cs',rfl,_,_,_,h'⟩:=h;simp only [List.length_cons,qbo.len h']
theorem qbo.imp:∀ {l:List (List Nm)} {cs:List Value},qbo R l cs->(∀ A xs,R A xs->R' A xs)->qbo R' l cs
 |[],cs,h,_=>h
 |x::r,cs,h,hi=>by
  obtain ⟨A,c,cs',rfl,h1,h2,h3,h'⟩:=h;exact ⟨A,c,cs',rfl,h1,h2,hi _ _ h3,qbo.imp h' hi⟩
theorem qbo.at_:∀ {l:List (List Nm)} {cs:List Value} {k:Nat},qbo R l cs->(hk:k<l.length)->
  ∃ A c,cs[k]?=some (.slice A l[k].length c)/\l[k].length<=c/\c<=maxLen/\R A (qae l[k])
 |[],_,k,_,h=>by simp at h
 |x::r,cs,0,h,_=>by
  obtain ⟨A,c,cs',rfl,h1,h2,h3,h'⟩:=h;exact ⟨A,c,rfl,h1,h2,h3⟩
 |x::r,cs,k+1,h,hk=>by
  obtain ⟨A,c,cs',rfl,h1,h2,h3,h'⟩:=h;have :=qbo.at_ (k:=k) h' (by simpa using hk);simpa using this
theorem qbo.take:∀ {l:List (List Nm)} {cs:List Value} (k:Nat),qbo R l cs->qbo R (l.take k) (cs.take k)
 |_,cs,0,_=>by simp [qbo]
 |[],cs,k+1,h=>by simp only [qbo] at h;subst h;simp [qbo]
 |x::r,cs,k+1,h=>by
  obtain ⟨A,c,cs',rfl,h1,h2,h3,h'⟩:=h;exact ⟨A,c,_,rfl,h1,h2,h3,qbo.take k h'⟩
theorem qbo.drop:∀ {l:List (List Nm)} {cs:List Value} (k:Nat),qbo R l cs->qbo R (l.drop k) (cs.drop k)
 |l,cs,0,h=>by simpa using h
 |[],cs,k+1,h=>by simp only [qbo] at h;subst h;simp [qbo]
 |x::r,cs,k+1,h=>by
  obtain ⟨A,c,cs',rfl,h1,h2,h3,h'⟩:=h;rw [List.drop_succ_cons,List.drop_succ_cons];exact qbo.drop k h'
end
def qcq (w:World) (B:Nat) (A:Option Addr) (l:List (List Nm)):Prop:=∃ cs,qbo (Row w B) l cs/\Row w B A cs
theorem qcq.below {w w':World} {B:Nat} {A:Option Addr} {l:List (List Nm)} (h:qcq w B A l) (hb:Below B w w'):qcq w' B A l:=by
 obtain ⟨cs,h1,h2⟩:=h;exact ⟨cs,h1.imp fun _ _ h=>h.below hb,h2.below hb⟩
theorem qcq.more {w:World} {B B':Nat} {A:Option Addr} {l:List (List Nm)} (h:qcq w B A l) (hB:B<=B'):qcq w B' A l:=by
 obtain ⟨cs,h1,h2⟩:=h;exact ⟨cs,h1.imp fun _ _ h=>h.more hB,h2.more hB⟩
theorem qcq.later {w w':World} {A:Option Addr} {l:List (List Nm)} (h:qcq w w.heap.size A l) (hb:Below w.heap.size w w'):qcq w' w'.heap.size A l:=(h.below hb).more hb.size
theorem qcq.at_ {w:World} {B:Nat} {A:Option Addr} {l:List (List Nm)} (h:qcq w B A l) {k:Nat} (hk:k<l.length):
  ∃ b off,A=some ⟨b,off,none⟩/\b<B/\∃ A' c',w.cell? ⟨b,off+k,none⟩=some (.slice A' l[k].length c')/\l[k].length<=c'/\c'<=maxLen/\Row w B A' (qae l[k]):=by
 obtain ⟨cs,h1,h2⟩:=h;obtain ⟨b,off,rfl,hb,hc⟩:=h2.at_ (by rw [h1.len];omega);obtain ⟨A',c',g2,g3,g4,g5⟩:=h1.at_ hk;exact ⟨b,off,rfl,hb,A',c',hc _ _ g2,g3,g4,g5⟩
theorem qcq.cut {w:World} {B:Nat} {A:Option Addr} {l:List (List Nm)} (h:qcq w B A l) (k:Nat):qcq w B A (l.take k):=by
 obtain ⟨cs,h1,h2⟩:=h;exact ⟨_,h1.take k,h2.cut k⟩
theorem qcq.drop {w:World} {B b off:Nat} {l:List (List Nm)} (h:qcq w B (some ⟨b,off,none⟩) l) (k:Nat):qcq w B (some ⟨b,off+k,none⟩) (l.drop k):=by
 obtain ⟨cs,h1,h2⟩:=h;refine ⟨_,h1.drop k,?_⟩;rcases h2 with rfl|⟨b',o',e,hb,hc⟩
 ·exact .inl (by simp)
 ·injection e with e
  injection e with e1 e2
  subst e1 e2;refine .inr ⟨b,off+k,rfl,hb,fun j u hu=> ?_⟩;have :=hc (k+j) u (by rw [<- hu];simp);rwa [<- Nat.add_assoc] at this
theorem qaJ.room {base:Nat} {w:World} {v:Value} {l:List Nm} (h:qaJ base w v l):∃ A c,v= .slice A l.length c/\l.length<=c/\c<=maxLen/\Row w w.heap.size A (qae l):=by
 obtain ⟨A,c,rfl,hc,hr⟩:=h.row;refine ⟨A,c,rfl,hc,?_,hr⟩;rcases h.2 with ⟨h4,_⟩|⟨g,cap,cur,h4,_,_,_,h5,_⟩
 ·injection h4 with _ _ h4;omega
 ·injection h4 with _ _ h4;rw [h4];exact h5
abbrev nmV:Nm->Value:=fun x=> .string ⟨x.toArray⟩
theorem qtB:(Tryz.prog.info? 40).map (fun i=>(i.zero,i.size,i.bytes))=some (some (.slice none 0 0),1,24):=by kernel_rfl
def qd2 (L:List (List Nm)) (w:World) (D m lo k:Nat) (wr:World):Prop:=∃ cs0:List Value,cs0.length=k/\k<=m/\L.length=m/\qbQ nmV 40 w.heap.size D m lo wr.heap.size wr (upL L k []) (cs0++List.replicate (m-k) qa5)/\Below w.heap.size w wr
theorem qd2.all {L:List (List Nm)} {w wr:World} {D m lo:Nat} (h:qd2 L w D m lo m wr):Lol nmV wr wr.heap.size (some ⟨D,0,none⟩) L:=by
 obtain ⟨cs0,h1,h2,h3,h4,h5⟩:=h;have :=h4.lol;rwa [<- h3,qm9] at this
section
variable {L:List (List Nm)} {w wr w':World} {D m lo k:Nat} {s:List Nm} {v:Value}
theorem qd2.begin2 (hown:wr.ownsRow w.heap.size 40 1 (.slice (some ⟨D,0,none⟩) m m) m (List.replicate m qa5)) (hD:D<lo) (hm:L.length=m) (hb:Below w.heap.size w wr):qd2 L w D m lo 0 wr:=by
 refine ⟨[],rfl,Nat.zero_le _,hm,⟨by simpa using hown,hD,by rw [qhp (Nat.zero_le _),hm],?_,Nat.le_refl _⟩,hb⟩;rw [qjl,hm];exact qjk _ _ _ _
theorem qd2.low (h:qd2 L w D m lo k wr):D<lo/\D<wr.heap.size/\Below w.heap.size w wr/\k<=m:=by
 obtain ⟨cs0,h1,h2,h3,h4,h5⟩:=h;exact ⟨h4.lt,(h4.own.lt _ rfl).2,h5,h2⟩
theorem qd2.put (h:qd2 L w D m lo k wr) (hk:k<m) (hlo:lo<=wr.heap.size) (hb:Below wr.heap.size wr w') (hs:∀ hk:k<L.length,L[k]=s) (ho:w'.ownsRow wr.heap.size 9 1 v s.length (qae s)):
  w'.cell? ⟨D,k,none⟩=some qa5/\w'.frozen? ⟨D,k,none⟩=false/\∃ A c,v= .slice A s.length c/\s.length<=c/\c<=maxLen/\qcI (w'.setCell ⟨D,k,none⟩ v) lo w'.heap.size A (qae s)/\qd2 L w D m lo (k+1) (w'.setCell ⟨D,k,none⟩ v):=by
 obtain ⟨hDlo,hDlt,hbw,_⟩:=h.low;obtain ⟨cs0,h1,h2,h3,h4,h5⟩:=h;have hkl:k<L.length:=by omega
 have h6:=h4.later hb;obtain ⟨A,c,rfl,g1,g2,g3⟩:=qjj (lo:=lo) ho hlo;have hcell:w'.cell? ⟨D,k,none⟩=some qa5:=by
  rw [h6.own.cellAt k (by omega),List.getElem?_append_right (by omega),h1,Nat.sub_self,show m-k=(m-k-1)+1 by omega,List.replicate_succ];rfl
 refine ⟨hcell,h6.own.frozenAt k,A,c,rfl,g1,g2,g3.keep fun b hb1 hb2=>Below.heap_setCell _ _ _ _ (by simp only;omega),?_⟩;have hset:=qbQ.set (i:=k) (x:=s) (A:=A) (c:=c) (⟨h6.own,h6.lt,h6.len,h6.rows.more hb.size,Nat.le_refl _⟩:qbQ nmV 40 w.heap.size D m lo w'.heap.size w' _ _) ⟨g1,g2⟩ g3;have e1:(cs0++List.replicate (m-k) qa5).set k (.slice A s.length c)=(cs0++[.slice A s.length c])++List.replicate (m-(k+1)) qa5:=by
  have :=qgH (a:=cs0) (n:=m-k) (d:=qa5) (x:= .slice A s.length c) (by omega);rw [h1] at this;rw [this,List.append_assoc,show m-k-1=m-(k+1) by omega];rfl
 rw [e1,show (upL L k []).set k s=upL L (k+1) [] by rw [<- hs hkl];exact qjm hkl] at hset;have hsz:(w'.setCell ⟨D,k,none⟩ (.slice A s.length c)).heap.size=w'.heap.size:=by simp [World.setCell]
 refine ⟨cs0++[.slice A s.length c],by simp [h1],hk,h3,⟨hset.own,hset.lt,hset.len,by rw [hsz];exact hset.rows,Nat.le_refl _⟩,?_⟩;exact (h5.trans (hb.mono h5.size)).setCell (p:=⟨D,k,none⟩) h4.from_ _
end
theorem qna {R:Option Addr->List Value->Prop}:∀ {l:List (List Nm)} {cs:List Value},cs.length=l.length->(∀ i (h:i<l.length),∃ A c,cs[i]?=some (.slice A l[i].length c)/\(l[i].length<=c/\c<=maxLen)/\R A (qae l[i]))->qbo R l cs
 |[],cs,h,_=>by simpa [qbo] using h
 |x::r,[],h,_=>by simp at h
 |x::r,u::cs,h,hi=>by
  obtain ⟨A,c,h1,⟨h2,h3⟩,h4⟩:=hi 0 (by simp);simp at h1;subst h1;exact ⟨A,c,cs,rfl,h2,h3,h4,qna (by simpa using h) fun i hlt=>by
   obtain ⟨A,c,g1,g2,g3⟩:=hi (i+1) (by simpa using hlt);exact ⟨A,c,by simpa using g1,g2,g3⟩⟩
theorem qtC {w:World} {B:Nat} {A:Option Addr} {l:List (List Nm)} (h:Lol nmV w B A l):qcq w B A l:=by
 obtain ⟨cs,⟨h1,h2⟩,h3⟩:=h;exact ⟨cs,qna h1 h2,h3⟩
structure qcA (e:TypeId) (size lo:Nat) (w:World) (vs:List Value) (ns:List Nat) (xss:List (List Value)):Prop where
 len:ns.length=vs.length
 len2:xss.length=vs.length
 own:∀ q (h:q<vs.length),w.ownsRow lo e size vs[q] (ns[q]'(by omega)) (xss[q]'(by omega))
 apart:∀ q r (hq:q<vs.length) (hr:r<vs.length),q≠r->∀ g,vs[q].ownBlock=some g->vs[r].ownBlock≠some g
section
variable {e:TypeId} {size lo:Nat} {w w':World} {vs:List Value} {ns:List Nat} {xss:List (List Value)}
theorem qjo (e:TypeId) (size lo:Nat) (w:World) (m:Nat):qcA e size lo w (List.replicate m (.slice none 0 0)) (List.replicate m 0) (List.replicate m []):=
 ⟨by simp,by simp,fun q h=>by simpa using World.ownsRow_nil _ _ _ _,fun q r hq hr _ g h=>by simp [Value.ownBlock] at h⟩
theorem qcA.keep (h:qcA e size lo w vs ns xss) (hk:∀ g (t:Array Value),w.heap[g]?=some (.cells t e (0,0))->lo<=g->w'.heap[g]?=some (.cells t e (0,0))):qcA e size lo w' vs ns xss:=
 ⟨h.len,h.len2,fun q hq=>qat (h.own q hq) fun g hg=>by
  have ho:=h.own q hq;rcases ho.2 with ⟨hv,_⟩|⟨g',cap,cur,hv,hlo,hh,_⟩
  ·rw [hv] at hg;cases hg
  ·rw [hv] at hg
   simp only [Value.ownBlock,Option.some.injEq] at hg;subst hg;rw [hk _ _ hh hlo,hh],h.apart⟩
theorem qcA.below (h:qcA e size lo w vs ns xss) (hb:Below w.heap.size w w'):qcA e size lo w' vs ns xss:=
 h.keep fun g t hg _=>by rw [hb.block g (Array.getElem?_eq_some_iff.1 hg).1];exact hg
theorem qcA.low (h:qcA e size lo w vs ns xss) {b:Nat} (hb:b<=lo):qcA e size b w vs ns xss:=by
 refine ⟨h.len,h.len2,fun q hq=> ?_,h.apart⟩;have ho:=h.own q hq;refine ⟨ho.1,?_⟩;rcases ho.2 with hn|⟨g,cap,cur,hv,hg,r⟩
 ·exact .inl hn
 ·exact .inr ⟨g,cap,cur,hv,Nat.le_trans hb hg,r⟩
theorem qcA.other (h:qcA e size lo w vs ns xss) {B i:Nat} {cs:Array Value} {t:TypeId} {fr:Nat × Nat} (hB:w.heap[B]?=some (.cells cs t fr)) (ht:t≠e) (u:Value):qcA e size lo (w.setCell ⟨B,i,none⟩ u) vs ns xss:=
 h.keep fun g t' hg _=>by
  rw [Below.heap_setCell _ _ _ _ (fun e2=> ?_)]
  ·exact hg
  ·simp only at e2
   subst e2;rw [hB] at hg;injection hg with hg
   injection hg with _ hg
   exact ht hg
theorem qcA.grow (h:qcA e size lo w vs ns xss) {q:Nat} (hq:q<vs.length) {v':Value} {n:Nat} {xs:List Value} (ho:w'.ownsRow lo e size v' n xs) (hg:w.grownBy w' vs[q].ownBlock)
  (hv:∀ g,v'.ownBlock=some g->vs[q].ownBlock=some g∨w.heap.size<=g):qcA e size lo w' (vs.set q v') (ns.set q n) (xss.set q xs):=by
 refine ⟨by simp [h.len],by simp [h.len2],fun r hr=> ?_,fun r s hr hs hrs g h1 h2=> ?_⟩
 ·rw [List.length_set] at hr
  by_cases e2:q=r
  ·subst e2
   simpa using ho
  ·rw [List.getElem_set_ne e2,List.getElem_set_ne e2,List.getElem_set_ne e2]
   refine qat (h.own r hr) fun g hg2=>hg.block g ((h.own r hr).lt g hg2).2 (fun e3=> ?_)
   exact h.apart q r hq hr e2 g e3.symm hg2
 ·rw [List.length_set] at hr hs
  have hold:∀ x (hx:x<vs.length),vs[x].ownBlock=some g->g<w.heap.size:=fun x hx hx2=>((h.own x hx).lt g hx2).2
  by_cases e2:q=r
  ·subst e2
   rw [List.getElem_set_self] at h1;rw [List.getElem_set_ne hrs] at h2;rcases hv g h1 with h3|h3
   ·exact h.apart q s hq hs hrs g h3 h2
   ·have :=hold s hs h2;omega
  ·rw [List.getElem_set_ne e2] at h1
   by_cases e3:q=s
   ·subst e3
    rw [List.getElem_set_self] at h2;rcases hv g h2 with h3|h3
    ·exact h.apart r q hr hq hrs g h1 h3
    ·have :=hold r hr h1;omega
   ·rw [List.getElem_set_ne e3] at h2
    exact h.apart r s hr hs hrs g h1 h2
end
abbrev AtO (p:Pl) (i k:Int):Prop:=(p.1:Int)=i/\(p.2:Int)=k
theorem qnb:∀ (o:List Pl) (m:Nat) (p:Pl) (i k:Int),qbi (o++[p]) m i k=if qbi o m i k≠ -1 then qbi o m i k else if AtO p i k then ((m+o.length:Nat):Int) else-1
 |[],m,p,i,k=>by
  by_cases h:(p.1:Int)=i/\(p.2:Int)=k<;>simp [qbi,AtO,h]
 |q::o,m,p,i,k=>by
  rw [List.cons_append,qbi,qbi];by_cases h:(q.1:Int)=i/\(q.2:Int)=k
  ·rw [if_pos h,if_pos h,if_pos (by omega)]
  ·rw [if_neg h,if_neg h,qnb o (m+1) p i k,List.length_cons,show m+1+o.length=m+(o.length+1) by omega]
theorem qnc:∀ {o:List Pl} {m:Nat} {i k:Int},qbi o m i k≠ -1->∃ p∈o,AtO p i k
 |[],m,i,k,h=>by simp [qbi] at h
 |q::o,m,i,k,h=>by
  rw [qbi] at h;split at h
  ·rename_i e;exact ⟨q,List.mem_cons_self ..,e⟩
  ·obtain ⟨p,hp,e⟩:=qnc h
   exact ⟨p,List.mem_cons_of_mem _ hp,e⟩
theorem qtD {o:List Pl} {m:Nat} {i k:Int} (h:∀ p∈o,¬ AtO p i k):qbi o m i k= -1:=by
 apply Classical.byContradiction;intro hn;obtain ⟨p,hp,e⟩:=qnc hn;exact h p hp e
theorem qnd {p q:Pl} {i k:Int} (h:AtO p i k) (h2:AtO q i k):p=q:=by
 obtain ⟨h1,h2'⟩:=h;obtain ⟨h3,h4⟩:=h2;exact Prod.ext (by omega) (by omega)
theorem qne {o:List Pl} (ho:o.Nodup) {j:Nat} (hj:j<o.length) (i k:Int):qbi (o.take (j+1)) 0 i k=if AtO o[j] i k then (j:Int) else qbi (o.take j) 0 i k:=by
 rw [List.take_succ_eq_append_getElem hj,qnb,List.length_take,Nat.min_eq_left (by omega),Nat.zero_add];by_cases h:AtO o[j] i k
 ·have hn:qbi (o.take j) 0 i k= -1:=qtD fun p hp e=>by
   have e2:=qnd e h;subst e2;obtain ⟨x,hx,e3⟩:=List.getElem_of_mem hp;rw [List.getElem_take] at e3;rw [List.length_take] at hx;have :=List.pairwise_iff_getElem.1 ho x j (by omega) hj (by omega);exact this e3
  rw [if_pos h,if_pos h,if_neg (by omega)]
 ·rw [if_neg h,if_neg h]
  split
  ·rfl
  ·rename_i h2
   exact (Classical.not_not.1 h2).symm
def qbR (o:List Pl) (i:Int) (n:Nat):List Int:=(List.range n).map fun (k:Nat)=>qbi o 0 i (k:Int)
end Go.Proofs.YtpehcaidjlemiaaGreatDoor
