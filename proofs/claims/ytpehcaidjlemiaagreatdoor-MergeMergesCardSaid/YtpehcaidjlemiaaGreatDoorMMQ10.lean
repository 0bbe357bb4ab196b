import Derived.Test.YtpehcaidjlemiaaGreatDoorMMQ06
set_option maxHeartbeats 4000000
set_option maxRecDepth 100000
set_option linter.all false
namespace Go.Proofs.YtpehcaidjlemiaaGreatDoor
open Go Go.RowKit
variable {w w' wr:World} {k n b c i j m zz B M N P:Nat} {A A' C:Option Addr} {v u:Value} {xs cs:List Value} {t E:TypeId} {l ks:List (List UInt8)} {L:List (Int × List (List UInt8 × List UInt8) × Int)} {Ls:List (List (Int × List (List UInt8 × List UInt8) × Int))} {rs:List (List Bool)} {fr:Nat × Nat} {R:Array Value}
def qdt (w:World) (m:Nat):wG w (w.drewN m):=⟨rfl,rfl,rfl,aA _,fun _ _=>rfl⟩
def qbh (w:World) (id:Int) (A:Option Addr) (n c:Nat):World:=w.alloc (.cells #[.int .i64 id,.slice A n c] 59)
def qfu {id:Int} (b:Below (qbh w id A n c).heap.size (qbh w id A n c) wr):
  wr.cell? ⟨w.heap.size,0,none⟩=some (.int .i64 id)/\wr.cell? ⟨w.heap.size,1,none⟩=some (.slice A n c):=by
 have a:wr.heap[w.heap.size]?=some (.cells #[.int .i64 id,.slice A n c] 59 (0,0)):=(b.block w.heap.size (by simp [qbh])).trans (jA w _);exact ⟨by simp [World.cell?,a],by simp [World.cell?,a]⟩
def qgq (w:World) (id:Int) (A:Option Addr) (n c:Nat):wG w (qbh w id A n c):=(bA _ w).alloc (aA _) _
def qhM (w:World) (id:Int) (A:Option Addr) (n c:Nat):(qbh w id A n c).heap.size=w.heap.size+1:=by simp [qbh]
def qhN {id:Int} (a:Below (qbh w id A n c).heap.size (qbh w id A n c) wr):wG w wr:=
 (qgq w id A n c).trans (a.mono (by rw [qhM];omega))
open Go.Proofs.Tryz
def qqg (s:Nm) (w:World) (i:Value) (wr:World):Prop:=∃ k:Nat,k<=s.length/\i= .int .i64 (k:Int)/\wG w wr/\∀ j (a:j<s.length),j<k->qer s[j]=true
def qqh (s:ByteArray) (w:World) (F:s.size<=9223372036854775807):
  yG 60 #[.string s] w fun e w'=>e= .returned (.bool (qbL s.data.toList))/\wG w w':=by
 have b:s.data.toList.length=s.size:=wC;have ⟨z,n⟩:=qE (qbL s.data.toList);rw [<- n];have q:=qH n;clear n
 go_enter func60,ntmps60
 go_wp2
 go_loopw [2,3] (fun r i wr=>r= .bool false/\qqg s.data.toList w i wr) (fun _ i _=>s.size-(intOf i).toNat)
 case atStart=>exact ⟨rfl,0,by omega,rfl,bA _ _,fun j _ c=>by omega⟩
 case round=>
  obtain ⟨rfl,k,B,rfl,d,g⟩:=hrel;rw [b] at B;by_cases G:k<s.size
  ·have t:k<s.data.toList.length:=by omega
   have H:(0:Int)<=k:=by omega
   have D:(k:Int)<s.size:=by omega
   have h:s[k]=s.data.toList[k]:=rfl;cases hsm:qer s.data.toList[k] with
   |true=>
    have h2:=hsm;rw [qer,<- h,xA,gC,gC] at h2;have l:(97:Int)<=s[k].toNat:=by omega
    have y:(s[k].toNat:Int)<=122:=by omega
    have x:qI (∀ j (c:j<s.data.toList.length),j<k+1->qer s.data.toList[j]=true):=qH fun j c E=>by
     by_cases e:j=k
     ·subst e;exact hsm
     ·exact g j c (by omega)
    have A:=qH b;clear g hsm h2 h b;go_wp2;go_roundw
    case rel=>exact ⟨rfl,k+1,by have :=A.o;omega,by go_num,d,x.o⟩
    case measure=>simp [intOf];omega
   |false=>
    have h2:=hsm;rw [qer,<- h,Bool.and_eq_false_iff,uF,uF] at h2;have v:z=false:=by rw [q.o];exact qoU t hsm
    subst v;have l:(s[k].toNat:Int)<97\/(97:Int)<=s[k].toNat/\(122:Int)<s[k].toNat:=by omega
    clear g hsm h2 h b;rcases l with l|⟨l,y⟩
    all_goals
     go_wp2;go_ret;exact ⟨rfl,d⟩
  ·have e:=qoV (s:=s.data.toList) (fun j c=>g j c (by omega))
   rw [b,<- q.o] at e;clear g b;by_cases p:1<=s.size
   ·by_cases m:s.size<=12
    ·have a:(decide (1<=s.size)&&decide (s.size<=12))=true:=by simp [p,m]
     rw [a] at e;subst e;clear a;go_wp2;go_ret;exact ⟨qel (yA (by omega)),d⟩
    ·have a:(decide (1<=s.size)&&decide (s.size<=12))=false:=by simp [m]
     have C:12<s.size:=by omega
     rw [a] at e;subst e;clear a m;go_wp2;go_ret;exact ⟨qel (uA (by omega)),d⟩
   ·have a:(decide (1<=s.size)&&decide (s.size<=12))=false:=by simp [p]
    have C:s.size<1:=by omega
    rw [a] at e;subst e;clear a p;go_wp2;go_ret;exact ⟨rfl,d⟩
abbrev Dc:=Int × List Fd
abbrev En:=Int × List Fd × Int
abbrev Pn:=Int × List Int
def qhO (last:Int) (q:En):Int:=if qbC q.2.1≠0 then qbC q.2.1 else if q.2.2<0\/q.2.2<=last then 12 else 0
def qdL (l:List En):Nat:=(l.map fun q=>qft q.2.1).sum
def keysIn (a:List Nm) (ts:List Tm):List Nm:=(ts.map qag).foldl qbw a
def qah (l:List En):List Nm:=l.foldl (fun a q=>keysIn a (qas q.2.1)) []
def qbb (i:Nat) (d:List Fd) (ts:List Tm) (key:Nm):List Pn:=(ts.filter fun t=>decide (qag t=key)).map fun t=>((i:Int),qaZ d t)
def qak:Nat->List En->Nm->List Pn
 |_,[],_=>[]
 |i,q::l,key=>qbb i q.2.1 (qas q.2.1) key++qak (i+1) l key
def qfv (l:List En):Int:=match l.getLast? with|none=> -1|some q=>q.2.2
def qcY (l:List En):Prop:=∀ q∈l,qc9 q.2.1
def qzm {l:List En} (a:qcY l):qdL l<=l.length*500:=by
 unfold qdL
 induction l with
 |nil=>simp
 |cons q l c=>
  have h1:=(a q (eB ..)).weight;have h2:=c fun x b=>a x (oB _ b)
  simp only [xB,List.sum_cons,nA];omega
def qcY.snoc {l:List En} {q:En} (b:qcY l) (a:qc9 q.2.1):qcY (l++[q]):=fun x hx=>by
 rcases aC.1 hx with hx|hx
 ·exact b x hx
 ·rw [yB.1 hx];exact a
def qzn {a:List Nm} {ts:List Tm} (b:j<ts.length):keysIn a (ts.take (j+1))=qbw (keysIn a (ts.take j)) (qag ts[j]):=by
 unfold keysIn;rw [aB b,jC,fF];rfl
def qzo {l:List En} (a:k<l.length):qah (l.take (k+1))=keysIn (qah (l.take k)) (qas l[k].2.1):=by
 unfold qah;rw [aB a,fF];rfl
def qqi (a:List Nm) (ts:List Tm):(keysIn a ts).length<=ts.length+a.length:=by
 have :=qgA (ts.map qag) a;rwa [gB] at this
def qzp {a:List Nm} (b:qaW a) (ts:List Tm):qaW (keysIn a ts):=qjD _ _ b
def qzq {a:List Nm} {ts:List Tm} {x:Nm}:x∈keysIn a ts↔(∃ t∈ts,qag t=x)\/x∈a:=by
 rw [keysIn,qjC,tA]
def qqj:∀ (l:List En) {a:List Nm},qaW a->qaW (l.foldl (fun a q=>keysIn a (qas q.2.1)) a)
 |[],a,b=>b
 |q::l,a,b=>qqj l (qzp b _)
def qgW (l:List En):qaW (qah l):=qqj l List.Pairwise.nil
def qqk:∀ (l:List En) {a:List Nm} {x:Nm},x∈l.foldl (fun a q=>keysIn a (qas q.2.1)) a↔(∃ q∈l,∃ t∈qas q.2.1,qag t=x)\/x∈a
 |[],a,x=>by simp
 |q::l,a,x=>by
  rw [wE,qqk l,qzq];constructor
  ·rintro (⟨b,hq',h⟩|h|h)
   ·exact .inl ⟨b,oB _ hq',h⟩
   ·exact .inl ⟨q,eB ..,h⟩
   ·exact .inr h
  ·rintro (⟨b,hq',h⟩|h)
   ·rcases wA.1 hq' with rfl|hq'
    ·exact .inr (.inl h)
    ·exact .inl ⟨b,hq',h⟩
   ·exact .inr (.inr h)
def qef {l:List En} {x:Nm}:x∈qah l↔∃ q∈l,∃ t∈qas q.2.1,qag t=x:=by
 have :=qqk l (a:=[]) (x:=x);simpa [qah] using this
def qhP:∀ {l:List En} {a:List Nm},(∀ q∈l,(qas q.2.1).length<=M)->(l.foldl (fun a q=>keysIn a (qas q.2.1)) a).length<=l.length*M+a.length
 |[],a,_=>by simp
 |q::l,a,b=>by
  have h1:=qhP (l:=l) (a:=keysIn a (qas q.2.1)) fun x c=>b x (oB _ c)
  have h2:=qqi a (qas q.2.1);have h3:=b q (eB ..);simp only [wE,nA,Nat.add_mul,Nat.one_mul];omega
def qzr {d:List Fd} {ts:List Tm} {key:Nm} (b:j<ts.length):qbb i d (ts.take (j+1)) key=if qag ts[j]=key then qbb i d (ts.take j) key++[((i:Int),qaZ d ts[j])] else qbb i d (ts.take j) key:=by
 unfold qbb;rw [aB b,lF,jC];by_cases a:qag ts[j]=key
 ·simp [a]
 ·simp [a]
def qlm:∀ (l:List En) (i:Nat) (q:En) (key:Nm),qak i (l++[q]) key=qak i l key++qbb (i+l.length) q.2.1 (qas q.2.1) key
 |[],i,q,key=>by simp [qak]
 |x::l,i,q,key=>by
  rw [bC,qak,qak,qlm l (i+1) q key,iB,nA,show i+1+l.length=i+(l.length+1) by omega]
def qzs {l:List En} {key:Nm} (a:k<l.length):qak 0 (l.take (k+1)) key=qak 0 (l.take k) key++qbb k l[k].2.1 (qas l[k].2.1) key:=by
 rw [aB a,qlm,sA,kB,eD (by omega)]
theorem qzt:qfv []= -1:=rfl
def qql (l:List En) (q:En):qfv (l++[q])=q.2.2:=by simp [qfv]
def qzu {l:List En} (a:0<l.length):qfv l=(l[l.length-1]'(by omega)).2.2:=by
 have b:l≠[]:=fun e=>by rw [e] at a;simp at a
 rw [qfv,List.getLast?_eq_some_getLast b,List.getLast_eq_getElem b]
def qcL (l:List Dc) (a:Nat) (start step:Int):List En:=(l.take a).zipIdx.map fun p=>(p.1.1,qfV p.1.2,start+step*(p.2:Int))
def qln (l:List Dc) (a:Nat) (start step:Int):(qcL l a start step).length=min a l.length:=by simp [qcL]
def qzv {l:List Dc} {start step:Int} (a:k<l.length):qcL l (k+1) start step=qcL l k start step++[(l[k].1,qfV l[k].2,start+step*(k:Int))]:=by
 unfold qcL;rw [aB a,List.zipIdx_append,jC,sA,kB,eD (by omega)];rfl
def qzw (l:List Dc) (b:Nat) (start step:Int):∀ q∈qcL l b start step,∃ d,q.2.1=qfV d:=fun q a=>by
 obtain ⟨p,_,rfl⟩:=tA.1 a;exact ⟨p.1.2,rfl⟩
def qlo:∀ {ws:List Nm} {i:Nat},qbZ i ws=0->i<=500->i+ws.length<=500
 |[],i,_,a=>by simpa using a
 |w::ws,i,a,b=>by
  rw [qbZ] at a;split at a
  ·omega
  ·split at a
   ·omega
   ·have :=qlo a (by omega)
    simp only [nA];omega
def qfw (l:List Fd) (k:Nat):List Nm:=(l.take k).map (·.1)
def qqm {l:List Fd} (a:k<l.length):qfw l (k+1)=qfw l k++[l[k].1]:=by
 unfold qfw;rw [aB a,jC];rfl
def qzx {l:List Fd} (c:k<=l.length) (b:j<k):(l[j]'(by omega)).1∈qfw l k:=by
 refine tA.2 ⟨l[j]'(by omega),?_,rfl⟩;have a:j<(l.take k).length:=by rw [sA];omega
 have :=pA a;rwa [List.getElem_take] at this
def qzy {l:List Fd} (e:k<=l.length) {x:Nm} (b:∀ j (a:j<l.length),j<k->l[j].1≠x):x∉qfw l k:=fun d=>by
 obtain ⟨f,c,rfl⟩:=tA.1 d;obtain ⟨j,a,rfl⟩:=nC c;rw [sA] at a;rw [List.getElem_take] at b;exact b j (by omega) (by omega) rfl
def qqn {l:List Fd} (a:k<l.length):qdH ks n (l.drop k)=
  if qbL l[k].1=false then 4 else if l[k].1∈ks then 5 else if qbZ 0 (qaX l[k].2)≠0 then qbZ 0 (qaX l[k].2) else qdH (ks++[l[k].1]) (n+(qaX l[k].2).length) (l.drop (k+1)):=by
 rw [yD a,qdH]
def qqo (l:List Fd) (E:Int) (b:World) (r a i:Value) (wr:World):Prop:=
 r= .int .i64 0/\∃ k m:Nat,k<=l.length/\m<=k*500/\a= .int .i64 (m:Int)/\i= .int .i64 (k:Int)/\wG b wr/\qdH (qfw l k) m (l.drop k)=E
def qzz (l:List Fd) (k:Nat) (wr:World) (r i:Value) (a:World):Prop:=
 r= .int .i64 0/\∃ j:Nat,j<=k/\i= .int .i64 (j:Int)/\wG wr a/\∀ i (b:i<l.length) (c:k<l.length),i<j->l[i].1≠l[k].1
def qzA (id:Int) (A:Option Addr) (n c:Nat) (l:List Fd) (w:World) (bl:l.length=n) (a6:qap w w.heap.size A l) (a4:n<=1073741824) (a5:∀ f∈l,f.1.length<=1073741824/\f.2.length<=268435456):
  yG 61 #[qb8 id A n c] w fun e w'=>e= .returned (.int .i64 (qbC l))/\wG w w':=by
 have ⟨R,ah⟩:=qE (qbC l);rw [<- ah];have a2:=qH ah;have ax:=qH a6;have bn:=qH a5;have ak:qI (∀ C,C=qbh w id A n c->∀ wr,wG C wr->wG w wr/\wr.cell? ⟨w.heap.size,0,none⟩=some (.int .i64 id)/\wr.cell? ⟨w.heap.size,1,none⟩=some (.slice A n c)):=qH fun C e wr I=>by subst e;exact ⟨qhN I,qfu I⟩
 clear ah a6 a5;by_cases bg:8<n
 ·have bj:R=7:=by rw [a2.o,qbC,eA (by omega)]
  subst bj;have B:=qH (ak.o _ rfl _ (bA _ _)).1
  go_enter func61,ntmps61
  go_wp2;go_ret;exact ⟨rfl,B.o⟩
 ·have bt:n<=8:=by omega
  have bf:qI (qdH (qfw l 0) 0 (l.drop 0)=R):=qH (by rw [a2.o,qbC,dA (by omega)];rfl);clear bg;subst bl
  go_enter func61,ntmps61
  go_wp2;have ⟨C,af⟩:=qE (qbh w id A l.length c);have ao:=qH (ak.o C af);rw [show w.alloc _=C from af.symm]
  clear af ak
  go_loopw [2,3,4,5,6,7,8] (fun r a i n j t e wr=>qqo l R C r a i wr) (fun _ _ i _ _ _ _ _=>l.length-(intOf i).toNat)
  case atStart=>exact ⟨rfl,0,0,by omega,by omega,rfl,rfl,bA _ _,bf.o⟩
  case round=>
   obtain ⟨rfl,k,m,K,b4,rfl,rfl,O,b⟩:=hrel;have ⟨h,bp,a3⟩:=ao.o _ O;by_cases M:k<l.length
   ·have ⟨F,G,an,au,X,T⟩:=(ax.o.below h).at_ M
    subst an;rw [qqn M] at b;have am:=bn.o _ (pA M);have ⟨x,W,aj⟩:=qa8 l[k].1;have ⟨y,ad,ar⟩:=qa8 l[k].2;rw [<- W] at X;rw [<- ad] at T;have b1:(0:Int)<=k:=by omega
    have bw:(k:Int)<l.length:=by omega
    have D:=fun w'=>qqh x w' (by rw [W,qdl];have :=am.1;omega)
    rw [aj] at D;have V:=fun w'=>qx2 y w' (by rw [ad,qdl];exact am.2)
    rw [ar] at V;have aw:=qH (And.intro W aj);clear W aj ad ar am;have B:=qH h;clear h;cases hnm:qbL l[k].1 with
    |false=>
     rw [hnm] at D b;rw [eA rfl] at b;subst b;have ac:=qH D;clear D V hnm
     go_wp2_with (go_at_call 60;(with_reducible refine (ac.o _).mono ?_);rintro e aq ⟨rfl,L⟩)
     go_ret;exact ⟨rfl,B.o.trans (L.mono B.o.size)⟩
    |true=>
     rw [hnm] at D b;rw [dA (by decide)] at b;have ac:=qH D;have av:=qH V;have ae:=qH b;clear D V hnm b
     go_wp2_with (go_at_call 60;(with_reducible refine (ac.o _).mono ?_);rintro e aq ⟨rfl,L⟩)
     have P:=O.trans (L.mono O.size);have be:qI (∀ q,wG aq q->wG w q/\q.cell? ⟨w.heap.size,1,none⟩=some (.slice (some ⟨F,G,none⟩) l.length c)/\q.cell? ⟨F,G+k*2,none⟩=some (.string x)/\q.cell? ⟨F,G+k*2+1,none⟩=some (.string y)/\∀ j (al:j<l.length),q.cell? ⟨F,G+j*2,none⟩=some (.string ⟨l[j].1.toArray⟩)):=qH fun q I=>by
      have h2:=P.trans (I.mono P.size);have h3:=ao.o _ h2;have br:=(ao.o _ (bA _ _)).1.size;have az:=(L.mono (by have :=O.size;omega:w.heap.size<=wr.heap.size)).trans (I.mono (by have :=P.size;omega));refine ⟨h3.1,h3.2.2,(az.cell (p:=⟨F,G+k*2,none⟩) au).trans X,(az.cell (p:=⟨F,G+k*2+1,none⟩) au).trans T,fun j al=> ?_⟩;have ⟨bv,b5,ab,_,g,_⟩:=(ax.o.below h3.1).at_ al;injection ab with ab
      injection ab with an e2
      subst an e2;exact g
     have a0:=qH P;clear L P X T bp a3 O;go_wp2
     go_loopw [2,6] (fun r i q=>qzz l k aq r i q) (fun _ i _=>k-(intOf i).toNat)
     case atStart=>exact ⟨rfl,0,by omega,rfl,bA _ _,fun _ _ _ I=>by omega⟩
     case round=>
      obtain ⟨rfl,j,al,rfl,Q,S⟩:=hrel;have ⟨h,a3,X,T,ap⟩:=be.o _ Q;by_cases bb:j<k
      ·have bc:j<l.length:=by omega
       have bk:=ap j bc;clear ap;have ⟨z,d,Y⟩:=qa8 l[j].1;rw [<- d] at bk;have bz:(0:Int)<=j:=by omega
       have bs:(j:Int)<l.length:=by omega
       have b6:(j:Int)<k:=by omega
       by_cases H:l[j].1=l[k].1
       ·have bi:=qeY (s:=z) (t:=x) (by rw [Y,aw.o.2];exact H)
        have bo:R=5:=by rw [<- ae.o,eA (by rw [<- H];exact qzx K bb)]
        subst bo;have N:=qH h;clear H d Y S h;go_wp2
        go_quiet (fail)
        go_wp2;go_ret;exact ⟨rfl,N.o.trans ((qdt _ _).mono N.o.size)⟩
       ·have bi:=qfl (s:=z) (t:=x) (by rw [Y,aw.o.2];exact H)
        have bd:qI (∀ i (aa:i<l.length) (K:k<l.length),i<j+1->l[i].1≠l[k].1):=qH fun i aa K a1=>by
         by_cases e:i=j
         ·subst e;exact H
         ·exact S i aa K (by omega)
        clear H d Y S h;go_wp2
        go_quiet (fail)
        go_wp2;exact ⟨⟨rfl,j+1,by omega,by go_num,Q.trans ((qdt _ _).mono Q.size),bd.o⟩,by simp [intOf];omega⟩
      ·have bh:j=k:=by omega
       subst bh;have b:=ae.o;rw [dA (qzy K fun i aa a1=>S i aa M a1)] at b;have ⟨ws,ai⟩:=qE (qaX l[j].2);have a9:qI (∀ w',yG 102 #[.string y] w' (qfS ws w')):=qH (by rw [ai];exact av.o);rw [<- ai] at b;have N:=qH h;clear S ap h ai ae av
       go_wp2_with (go_at_call 102;refine (a9.o _).mono ?_)
       rintro e w3 ⟨v,rfl,h1,h2,U⟩;have ba:=qH (N.o.trans (U.mono N.o.size));have bq:=qH (Q.trans (U.mono Q.size));by_cases d:qbZ 0 ws=0
       ·obtain ⟨a7,ay,rfl⟩:∃ a7 ay,v= .slice a7 ws.length ay:=by
         rcases (h1 d).2 with ⟨J,a4⟩|⟨g,b2,b0,J,_⟩
         ·exact ⟨none,0,by rw [a4];exact J⟩
         ·exact ⟨_,_,J⟩
        have b3:=qlo d (by omega);rw [dA (by rw [d];decide),<- qqm M] at b;have bm:=qH b;rw [d];have bu:m<=4000:=by omega
        clear h1 h2 d b U;go_wp2;refine ⟨⟨rfl,j+1,m+ws.length,by omega,by omega,?_,by go_num,a0.o.trans (bq.o.mono a0.o.size),bm.o⟩,by simp [intOf];omega⟩
        push_cast
        rfl
       ·rw [eA d] at b
        have ⟨E,Z⟩:=qE (qbZ 0 ws);rw [<- Z] at b d;rw [<- Z];subst b;have J:=h2 (by rw [<- Z];exact d);subst J;clear h1 h2 U Z;go_wp2;go_ret;exact ⟨rfl,ba.o⟩
   ·have a8:k=l.length:=by omega
    subst a8;rw [List.drop_length,qdH] at b;have B:=qH h;clear h;by_cases ag:500<m
    ·rw [eA ag] at b
     subst b;go_wp2;go_ret;exact ⟨rfl,B.o⟩
    ·rw [dA ag] at b
     subst b;have bx:m<=500:=by omega
     clear ag;go_wp2;go_ret;exact ⟨rfl,B.o⟩
def qgX (w:World) (id:Int) (A:Option Addr) (n c:Nat) (f x:ByteArray):World:=(qbh w id A n c).alloc (.cells #[.string f,.string x] 69)
def qzB (w:World) (id:Int) (A:Option Addr) (n c:Nat) (f x:ByteArray):(qgX w id A n c f x).heap.size=w.heap.size+2:=by simp [qgX,qbh]
def qzC {id:Int} {f x:ByteArray} (b:Below (qgX w id A n c f x).heap.size (qgX w id A n c f x) wr):
  wG w wr/\wr.cell? ⟨w.heap.size,0,none⟩=some (.int .i64 id)/\wr.cell? ⟨w.heap.size,1,none⟩=some (.slice A n c)/\wr.cell? ⟨w.heap.size+1,0,none⟩=some (.string f)/\wr.cell? ⟨w.heap.size+1,1,none⟩=some (.string x):=by
 have e:=qzB w id A n c f x;have d:Below (qbh w id A n c).heap.size (qbh w id A n c) (qgX w id A n c f x):=(bA _ _).alloc (aA _) _;have h1:Below (qbh w id A n c).heap.size (qbh w id A n c) wr:=d.trans (b.mono (by rw [e,qhM];omega));have a:wr.heap[w.heap.size+1]?=some (.cells #[.string f,.string x] 69 (0,0)):=(b.block (w.heap.size+1) (by omega)).trans (by have :=jA (qbh w id A n c) (.cells #[.string f,.string x] 69);rwa [qhM] at this);have ⟨g,h⟩:=qfu h1;exact ⟨qhN h1,g,h,by simp [World.cell?,a],by simp [World.cell?,a]⟩
def qzD (w:World) (id:Int) (A:Option Addr) (n c:Nat) (f x:ByteArray):wG w (qgX w id A n c f x):=(qgq w id A n c).alloc (by simp [qbh]) _
def qzE (l:List Fd) (s:Nm) (b:World) (a i:Value) (wr:World):Prop:=
 a= .slice none 0 0/\∃ k:Nat,k<=l.length/\i= .int .i64 (k:Int)/\wG b wr/\∀ j (c:j<l.length),j<k->l[j].1≠s
def qlp (id:Int) (A:Option Addr) (n c:Nat) (l:List Fd) (s:ByteArray) (w:World) (W:l.length=n) (G:qap w w.heap.size A l) (ak:n<=1073741824) (F:∀ f∈l,f.2.length<=268435456):
  yG 126 #[qb8 id A n c,.string s] w (qgJ (qbl l s.data.toList) w):=by
 subst W;have S:=qH G;have U:=qH F;have ⟨ws,r⟩:=qE (qbl l s.data.toList);rw [<- r];have H:=qH r;clear r G F
 go_enter func126,ntmps126
 go_wp2;have ⟨C,B⟩:=qE (qbh w id A l.length c);have K:∀ wr,wG C wr->wG w wr/\wr.cell? ⟨w.heap.size,0,none⟩=some (.int .i64 id)/\wr.cell? ⟨w.heap.size,1,none⟩=some (.slice A l.length c):=fun wr N=>by
  subst B;exact ⟨qhN N,qfu N⟩
 have R:=qH K;clear K;rw [show w.alloc _=C from B.symm]
 clear B
 go_loopw [4,5] (fun a i wr=>qzE l s.data.toList C a i wr) (fun _ i _=>l.length-(intOf i).toNat)
 case atStart=>exact ⟨rfl,0,by omega,rfl,bA _ _,fun j _ m=>by omega⟩
 case round=>
  obtain ⟨rfl,k,ah,rfl,L,d⟩:=hrel;have ⟨b,aj,ag⟩:=R.o _ L;by_cases E:k<l.length
  ·have ⟨ad,ai,V,_,Y,ab⟩:=(S.o.below b).at_ E
   subst V;have J:=U.o _ (pA E);have ⟨x,D,p⟩:=qa8 l[k].1;have ⟨y,q,z⟩:=qa8 l[k].2;rw [<- D] at Y;rw [<- q] at ab;have al:(0:Int)<=k:=by omega
   have ae:(k:Int)<l.length:=by omega
   by_cases g:l[k].1=s.data.toList
   ·have ac:=qeY (s:=x) (t:=s) (by rw [p];exact g)
    have Q:y.size<=268435456:=by rw [q,qdl];omega
    have P:=qH fun w=>qoH y w Q
    have I:qaX y.data.toList=ws:=by rw [z,H.o];exact (qxO E d g).symm
    rw [I] at P;have h:=qH b;clear d g D p q z I J b
    go_wp2_with (go_at_call 144;refine (P.o _).mono ?_)
    rintro e am ⟨v,rfl,M,O⟩;have Z:=qH M;have X:=qH O;clear M O;go_wp2;go_ret;exact ⟨_,rfl,qbk Z.o h.o.size,h.o.trans (X.o.mono h.o.size)⟩
   ·have ac:=qfl (s:=x) (t:=s) (by rw [p];exact g)
    have T:qI (∀ j (m:j<l.length),j<k+1->l[j].1≠s.data.toList):=qH fun j m af=>by
     by_cases e:j=k
     ·subst e;exact g
     ·exact d j m (by omega)
    clear d g D p q z J b;go_wp2;go_roundw
    case rel=>exact ⟨rfl,k+1,by omega,by go_num,L,T.o⟩
    case measure=>simp [intOf];omega
  ·have aa:ws=[]:=by rw [H.o];exact qxP fun j m=>d j m (by omega)
   subst aa;have h:=qH b;clear d b;go_wp2;go_ret;exact ⟨_,rfl,vA _ _ _ _,h.o⟩
def qzF (s:ByteArray) (w:World) (N:s.size<=9223372036854775807):
  yG 145 #[.string s] w fun e w'=>e= .returned (.bool (qbL s.data.toList))/\wG w w':=by
 have b:s.data.toList.length=s.size:=wC;by_cases n:s.size=0
 ·have A:s=ByteArray.empty:=by
   have :s.data.toList=[]:=sB (by omega);cases s with|mk d=>cases d with|mk l=>simp at this;subst this;rfl
  have v:qbL s.data.toList=false:=by rw [A];rfl
  rw [v];subst A;clear v b n
  go_enter func145,ntmps145
  go_wp2;go_ret;exact ⟨rfl,bA _ _⟩
 ·have x:s.data.toList≠[]:=fun I=>n (by rw [<- b,I];rfl)
  have P:(s.toList==[])=false:=by
   rw [Lib.toList_data];simpa using x
  have ⟨z,p⟩:=qE (qbL s.data.toList);rw [<- p];have t:=qH p;clear p x;by_cases K:12<s.size
  ·have H:z=false:=by
    rw [t.o,qbL,b];have d:decide (s.size<=12)=false:=uA (by omega);rw [d];simp
   subst H;clear b n
   go_enter func145,ntmps145
   go_wp2;go_ret;exact ⟨rfl,bA _ _⟩
  ·have B:s.size<=12:=by omega
   have h1:1<=s.size:=by omega
   have c:=qH b;clear b n K
   go_enter func145,ntmps145
   go_wp2
   go_loopw [2,13] (fun r i wr=>r= .bool false/\qqg s.data.toList w i wr) (fun _ i _=>s.size-(intOf i).toNat)
   case atStart=>exact ⟨rfl,0,by omega,rfl,bA _ _,fun j _ a=>by omega⟩
   case round=>
    obtain ⟨rfl,k,G,rfl,q,g⟩:=hrel;rw [c.o] at G;by_cases J:k<s.size
    ·have C:k<s.data.toList.length:=by rw [c.o];exact J
     have O:(0:Int)<=k:=by omega
     have L:(k:Int)<s.size:=by omega
     have h:s[k]=s.data.toList[k]:=rfl;cases hsm:qer s.data.toList[k] with
     |true=>
      have h2:=hsm;rw [qer,<- h,xA,gC,gC] at h2;have m:(97:Int)<=s[k].toNat:=by omega
      have F:(s[k].toNat:Int)<=122:=by omega
      have E:qI (∀ j (a:j<s.data.toList.length),j<k+1->qer s.data.toList[j]=true):=qH fun j a M=>by
       by_cases e:j=k
       ·subst e;exact hsm
       ·exact g j a (by omega)
      clear g hsm h2 h;go_wp2;go_roundw
      case rel=>exact ⟨rfl,k+1,by have :=c.o;omega,by go_num,q,E.o⟩
      case measure=>simp [intOf];omega
     |false=>
      have h2:=hsm;rw [qer,<- h,Bool.and_eq_false_iff,uF,uF] at h2;have D:z=false:=by rw [t.o];exact qoU C hsm
      subst D;have m:(s[k].toNat:Int)<97\/(97:Int)<=s[k].toNat/\(122:Int)<s[k].toNat:=by omega
      clear g hsm h2 h;rcases m with m|⟨m,F⟩
      all_goals
       go_wp2;go_ret;exact ⟨rfl,q⟩
    ·have e:=qoV (s:=s.data.toList) (fun j a=>g j a (by rw [c.o] at a;omega))
     have y:(decide (1<=s.size)&&decide (s.size<=12))=true:=by simp [h1,B]
     rw [c.o,<- t.o,y] at e;subst e;clear g y;go_wp2;go_ret;exact ⟨rfl,q⟩
abbrev GP:=Nm × List Pn
def qcz:List GP->Nm->Pn->List GP
 |[],t,a=>[(t,[a])]
 |p::g,t,a=>if p.1=t then (p.1,p.2++[a])::g else p::qcz g t a
def qb1:List GP->Nm->List Pn
 |[],_=>[]
 |p::g,t=>if p.1=t then p.2 else qb1 g t
def qqp (t u:Nm) (a:Pn):∀ g:List GP,qb1 (qcz g t a) u=if t=u then qb1 g u++[a] else qb1 g u
 |[]=>by by_cases b:t=u<;>simp [qcz,qb1,b]
 |p::g=>by
  rw [qcz];by_cases h1:p.1=t
  ·rw [eA h1,qb1,qb1]
   by_cases h2:t=u
   ·rw [eA h2,eA (h1.trans h2),eA (h1.trans h2)]
   ·rw [dA h2,dA (fun e=>h2 (h1.symm.trans e)),dA (fun e=>h2 (h1.symm.trans e))]
  ·rw [dA h1,qb1,qb1,qqp t u a g]
   by_cases h2:p.1=u
   ·rw [eA h2,eA h2,dA (fun e=>h1 (h2.trans e.symm))]
   ·rw [dA h2,dA h2]
def qlq (t:Nm) (a:Pn):∀ g:List GP,(qcz g t a).map (·.1)=if t∈g.map (·.1) then g.map (·.1) else g.map (·.1)++[t]
 |[]=>by simp [qcz]
 |p::g=>by
  rw [qcz];by_cases h1:p.1=t
  ·rw [eA h1,eA (by simp [h1])]
   simp
  ·rw [dA h1,xB,qlq t a g]
   by_cases h2:t∈g.map (·.1)
   ·rw [eA h2,eA (show t∈(p::g).map (·.1) from oB _ h2)]
    simp
   ·rw [dA h2,dA (by rw [xB,wA];exact fun b=>b.elim (fun e=>h1 e.symm) h2)]
    simp
def qzG {t:Nm} {a:Pn} {g:List GP} {x:Nm}:x∈(qcz g t a).map (·.1)↔x∈g.map (·.1)\/x=t:=by
 rw [qlq];split
 ·rename_i b
  exact ⟨.inl,fun c=>c.elim id fun e=>e▸b⟩
 ·rw [aC,yB]
def qzH {t:Nm} {a:Pn} {g:List GP} (b:(g.map (·.1)).Nodup):((qcz g t a).map (·.1)).Nodup:=by
 rw [qlq];split
 ·exact b
 ·rename_i d
  rw [List.nodup_append];exact ⟨b,by simp,fun x h y c e=>by rw [yB] at c;subst c;subst e;exact d h⟩
def qcs (i:Nat) (d:List Fd) (g:List GP) (ts:List Tm):List GP:=ts.foldl (fun g t=>qcz g (qag t) ((i:Int),qaZ d t)) g
def qzI {d:List Fd} {g:List GP} {ts:List Tm} (a:k<ts.length):qcs i d g (ts.take (k+1))=qcz (qcs i d g (ts.take k)) (qag ts[k]) ((i:Int),qaZ d ts[k]):=by
 unfold qcs;rw [aB a,fF];rfl
def qlr (i:Nat) (d:List Fd) (key:Nm):∀ (ts:List Tm) (g:List GP),qb1 (qcs i d g ts) key=qb1 g key++qbb i d ts key
 |[],g=>by simp [qcs,qbb]
 |t::ts,g=>by
  rw [show qcs i d g (t::ts)=qcs i d (qcz g (qag t) ((i:Int),qaZ d t)) ts from rfl,qlr i d key ts,qqp]
  unfold qbb;by_cases a:qag t=key
  ·rw [eA a,xF (by simpa using a),xB,iB]
   rfl
  ·rw [dA a,yF (by simpa using a)]
def qqq (i:Nat) (d:List Fd):∀ (ts:List Tm) (g:List GP),(g.map (·.1)).Nodup->((qcs i d g ts).map (·.1)).Nodup
 |[],g,a=>a
 |t::ts,g,a=>qqq i d ts _ (qzH a)
def qqr (i:Nat) (d:List Fd) {x:Nm}:∀ (ts:List Tm) (g:List GP),x∈(qcs i d g ts).map (·.1)↔x∈g.map (·.1)\/∃ t∈ts,qag t=x
 |[],g=>by simp [qcs]
 |t::ts,g=>by
  rw [show qcs i d g (t::ts)=qcs i d (qcz g (qag t) ((i:Int),qaZ d t)) ts from rfl,qqr i d ts,qzG]
  constructor
  ·rintro ((h|h)|⟨a,h1,h2⟩)
   ·exact .inl h
   ·exact .inr ⟨t,eB ..,h.symm⟩
   ·exact .inr ⟨a,oB _ h1,h2⟩
  ·rintro (h|⟨a,h1,h2⟩)
   ·exact .inl (.inl h)
   ·rcases wA.1 h1 with rfl|h1
    ·exact .inl (.inr h2.symm)
    ·exact .inr ⟨a,h1,h2⟩
structure qes (g:List GP) (l:List En):Prop where
 posts:∀ key,qb1 g key=qak 0 l key
 nodup:(g.map (·.1)).Nodup
 keys:∀ x,x∈g.map (·.1)↔x∈qah l
def qes.nil:qes [] []:=⟨fun _=>rfl,List.nodup_nil,fun x=>by simp [qah]⟩
def qes.turned {g:List GP} {l:List En} (a:qes g l) (q:En):qes (qcs l.length q.2.1 g (qas q.2.1)) (l++[q]):=by
 refine ⟨fun key=> ?_,qqq _ _ _ _ a.nodup,fun x=> ?_⟩
 ·rw [qlr,a.posts,qlm,kB]
 ·rw [qqr,a.keys,qef,qef]
  constructor
  ·rintro (⟨b,hq',h'⟩|h')
   ·exact ⟨b,List.mem_append_left _ hq',h'⟩
   ·exact ⟨q,by simp,h'⟩
  ·rintro ⟨b,hq',h'⟩
   rcases aC.1 hq' with hq'|hq'
   ·exact .inl ⟨b,hq',h'⟩
   ·rw [yB.1 hq'] at h';exact .inr h'
def qzJ (l:List En):(qah l).Nodup:=List.Pairwise.imp (fun a e=>by subst e;exact absurd a (List.lt_irrefl _)) (qgW l)
def qes.perm {g:List GP} {l:List En} (a:qes g l):(g.map (·.1)).Perm (qah l):=(List.perm_ext_iff_of_nodup a.nodup (qzJ l)).2 a.keys
def qes.length {g:List GP} {l:List En} (a:qes g l):g.length=(qah l).length:=by have :=a.perm.length_eq;rwa [gB] at this
def qzK {l:List En} (d:ks.Perm (qah l)):ks.mergeSort (fun x y=>decide (x<=y))=qah l:=by
 have g:=(List.mergeSort_perm ks (fun x y=>decide (x<=y))).trans d;have e:(ks.mergeSort fun x y=>decide (x<=y)).Pairwise (fun x y:Nm=>x<=y):=by
  have :=List.pairwise_mergeSort (le:=fun x y:Nm=>decide (x<=y)) (fun a b c h1 h2=>by
   simp only [iC] at*;exact List.le_trans h1 h2) (fun a b=>by
   simp only [Bool.or_eq_true,iC];exact List.le_total a b) ks
  exact this.imp fun d=>by simpa using d
 refine g.eq_of_pairwise (le:=fun x y:Nm=>x<=y) (fun a b _ _ h1 h2=>List.le_antisymm h1 h2) e ((qgW l).imp fun d=>Std.le_of_lt d)
def qzL (l:List Nm) (x:Nm) (all:List Int) (b:World) (o i:Value) (wr:World):Prop:=
 ∃ (k:Nat) (a:List Int) (c:Value),c=o/\k<=l.length/\i= .int .i64 (k:Int)/\a.length<=k/\wr.ownsRow b.heap.size 3 1 o a.length (qaa a)/\wG b wr/\a++qb6 k (l.drop k) x=all
def qzM (id:Int) (A:Option Addr) (n c:Nat) (l:List Fd) (f x:ByteArray) (w:World) (J:l.length=n) (H:qap w w.heap.size A l) (ad:n<=1073741824) (G:∀ f∈l,f.2.length<=268435456) (O:∀ s,(qbl l s).length<=1073741824):
  yG 79 #[qb8 id A n c,.agg #[.string f,.string x]] w (qhr (qaZ l (f.data.toList,x.data.toList)) w):=by
 have ⟨af,ai,Y,ab,X⟩:=lG qc4;have B:=fun w' (C:wG w w')=>qlp id A n c l f w' J (H.later C) ad G
 have ⟨ws,r⟩:=qE (qbl l f.data.toList);have ag:=O f.data.toList;rw [<- r] at B ag;have ⟨all,E⟩:=qE (qaZ l (f.data.toList,x.data.toList));rw [<- E];have ae:qI ([]++qb6 0 (ws.drop 0) x.data.toList=all):=qH (by rw [E,r];rfl);have ac:=qH B;clear B r E O G H J
 go_enter func79,ntmps79
 go_wp2_with (go_at_call 126;refine (ac.o _ (qzD w id A n c f x)).mono ?_)
 rintro e F ⟨v,rfl,L,D⟩;obtain ⟨av,ar,rfl,_,N⟩:=qaK L;have K:qI (∀ wr,wG F wr->wG w wr/\wr.cell? ⟨w.heap.size+1,1,none⟩=some (.string x)):=qH fun wr C=>by
  have :=qzC (D.trans (C.mono D.size));exact ⟨this.1,this.2.2.2.2⟩
 have T:=qH N;clear D L N;go_wp2
 go_loopw [5,7] (fun o i wr=>qzL ws x.data.toList all F o i wr) (fun _ i _=>ws.length-(intOf i).toNat)
 case atStart=>exact ⟨0,[],_,rfl,by omega,rfl,by simp,vA _ _ _ _,bA _ _,ae.o⟩
 case round=>
  obtain ⟨k,d,au,rfl,ao,rfl,al,p,b,a⟩:=hrel;have ⟨h,am⟩:=K.o _ b;by_cases P:k<ws.length
  ·have ⟨aj,ap,W,_,V⟩:=qdr (T.o.below b) P
   subst W;rw [qxQ P] at a;have ⟨y,q,m⟩:=qa8 ws[k];rw [<- q] at V;have an:(0:Int)<=k:=by omega
   have ak:(k:Int)<ws.length:=by omega
   by_cases g:ws[k]=x.data.toList
   ·have ah:=qeY (s:=y) (t:=x) (by rw [m];exact g)
    rw [eA g] at a;have z:qI ((d++[(k:Int)])++qb6 (k+1) (ws.drop (k+1)) x.data.toList=all):=qH (by rw [<- a];simp);clear g q m a h;go_wp2
    go_quiet (fail)
    go_wp2_with (at_builtin;refine wB _ rfl (.tmp 25) (.tmp 27) 23 rfl F.heap.size 3 af _ 1 8 underlying23 ai Y ab X rfl (by omega) _ d.length (qaa d) rfl ((qaf p (qdt _ _)).alloc _) ⟨_,0,none⟩ 1 1 [.int .i64 k] rfl rfl (qaH _ [.int .i64 k] 3) (by intro u I;simp at I;subst I;rfl) (by unfold maxLen;omega) (by omega) (by have :=b.size;simp;omega) ?_)
    intro v' aq Q M _;have Z:=((b.trans ((qdt wr nq).mono b.size)).alloc (by have :=b.size;simp;omega) _).grown M (by have :=b.size;simp;omega) (fun j U=>(p.lt j U).1);clear M;go_wp2;go_roundw
    case rel=>exact ⟨k+1,d++[(k:Int)],_,rfl,by omega,by go_num,by simp;omega,by simpa [qaa] using Q,Z,z.o⟩
    case measure=>simp [intOf];omega
   ·have ah:=qfl (s:=y) (t:=x) (by rw [m];exact g)
    rw [dA g] at a;have z:=qH a;clear g q m a h;go_wp2
    go_quiet (fail)
    go_wp2;go_roundw
    case rel=>exact ⟨k+1,d,_,rfl,by omega,by go_num,by omega,qaf p (qdt _ _),b.trans ⟨rfl,rfl,rfl,aA _,fun _ _=>rfl⟩,z.o⟩
    case measure=>simp [intOf];omega
  ·have S:k=ws.length:=by omega
   subst S;rw [List.drop_length] at a;have aa:d=all:=by rw [<- a];simp [qb6]
   subst aa;have R:=qH h;clear a h;go_wp2;go_ret;exact ⟨_,rfl,qbk p (by have :=(K.o _ (bA _ _)).1.size;omega),R.o⟩
def qzN {d:List Fd} (a:qd1 d) (t:Tm):(qaZ d t).length=((qba d).filter fun p=>decide (p.1=t)).length:=by
 rw [<- qpc a t];simp [qdI]
def qqs {d:List Fd} (a:qc9 d) {t:Tm} (c:t∈qas d):0<(qaZ d t).length:=by
 have ⟨p,b,e⟩:=tA.1 ((qhK a.apart t).1 c);rw [qzN a.apart];exact List.length_pos_of_mem (nE.2 ⟨b,by simpa using e⟩)
def qzO {d:List Fd} (a:qc9 d) (t:Tm):(qaZ d t).length<=500:=lA (qiD _ _ _) (a.wordsS _)
def qls {key:Nm}:∀ {l:List En} {i:Nat},(∃ q∈l,∃ t∈qas q.2.1,qag t=key)->0<(qak i l key).length
 |[],i,⟨q,hq,_⟩=>by cases hq
 |q::l,i,⟨x,hx,t,a,e⟩=>by
  rw [qak,iA];rcases wA.1 hx with rfl|hx
  ·have :0<(qbb i x.2.1 (qas x.2.1) key).length:=by
    unfold qbb;rw [gB];exact List.length_pos_of_mem (nE.2 ⟨a,by simpa using e⟩)
   omega
  ·have :=qls (i:=i+1) ⟨x,hx,t,a,e⟩
   omega
def qqt {key:Nm} {p:Pn}:∀ {l:List En} {i:Nat},p∈qak i l key->∃ q∈l,∃ t∈qas q.2.1,p.2=qaZ q.2.1 t
 |[],i,h=>by cases h
 |q::l,i,h=>by
  rw [qak] at h;rcases aC.1 h with h|h
  ·unfold qbb at h
   obtain ⟨t,a,rfl⟩:=tA.1 h;exact ⟨q,eB ..,t,(nE.1 a).1,rfl⟩
  ·have ⟨x,b,t,a,e⟩:=qqt h
   exact ⟨x,oB _ b,t,a,e⟩
def qlt {l:List En} (a:qcY l) {key:Nm}:∀ p∈qak 0 l key,0<p.2.length/\p.2.length<=500:=fun p d=>by
 have ⟨q,b,t,c,e⟩:=qqt d;rw [e];exact ⟨qqs (a q b) c,qzO (a q b) t⟩
def qlu {d:List Fd} (e:qfX d) (key:Nm):qbb i d (qas d) key=[]\/∃ t∈qas d,qbb i d (qas d) key=[((i:Int),qaZ d t)]:=by
 have h1:=qph e;unfold qee qaW at h1;rw [aD] at h1;have h2:=h1.filter (fun t=>decide (qag t=key));unfold qbb
 match hs:(qas d).filter fun t=>decide (qag t=key) with
 |[]=>exact .inl rfl
 |[t]=>exact .inr ⟨t,(nE.1 (hs▸List.mem_singleton_self t)).1,rfl⟩
 |t::u::s=>
  rw [hs] at h2;have h3:=(kC.1 h2).1 u (eB ..);have b:t∈(qas d).filter fun t=>decide (qag t=key):=by rw [hs];exact eB ..
  have c:u∈(qas d).filter fun t=>decide (qag t=key):=by rw [hs];exact oB _ (eB ..)
  have a:qag t=key:=by simpa using (nE.1 b).2
  have g:qag u=key:=by simpa using (nE.1 c).2
  rw [a,g] at h3;exact absurd h3 (List.lt_irrefl _)
def qhQ {l:List En} (a:qcY l) {key:Nm}:∀ (m:List En) (i:Nat),(∀ q∈m,q∈l)->(qak i m key).length<=m.length
 |[],i,_=>by simp [qak]
 |q::m,i,b=>by
  have d:=qhQ a (key:=key) m (i+1) fun x c=>b x (oB _ c)
  rw [qak,iA,nA];rcases qlu (i:=i) (a q (b q (eB ..))).zero key with e|⟨t,_,e⟩<;>rw [e]<;>simp <;>omega
def qgr:∀ {ps:List Int} {x:Int},ps.Pairwise (· <·)->(∀ a∈ps,x<a)->qal x ps=true
 |[],x,_,_=>rfl
 |p::ps,x,b,c=>by
  rw [kC] at b;rw [qal,qgr b.2 b.1,Bool.and_true];exact yA (c p (eB ..))
def qzP {d:List Fd} (g:qc9 d) {t:Tm} (i:t∈qas d):qdk (qaZ d t)=true:=by
 have c:=qqs g i;have b:qaZ d t≠[]:=fun e=>by rw [e] at c;cases c
 rw [qgD];refine ⟨qgr (qk4 _ _ _) fun a l=> ?_,b,?_⟩
 ·have :=qiI _ _ _ a l
  omega
 ·have h:(qaZ d t).getLastD 0∈qaZ d t:=by
   rw [List.getLastD_eq_getLast?,List.getLast?_eq_some_getLast b];exact List.getLast_mem b
  have ⟨k,m,j⟩:=(qpl _ _ _ _).1 h;have n:=(yC.1 j).1;have :=g.wordsS t.1;rw [m];omega
def qlv {key:Nm}:∀ {l:List En} {i:Nat} {last:Int},qcY l->last<i->i+l.length<=2147483648->qa5 last (qak i l key)=true
 |[],i,last,_,_,_=>rfl
 |q::l,i,last,a,k,g=>by
  have c:=a q (eB ..);rw [nA] at g;have b:=fun (last:Int) (h:last<((i+1:Nat):Int))=>qlv (key:=key) (l:=l) (i:=i+1) (last:=last) (fun x j=>a x (oB _ j)) h (by omega)
  rw [qak];rcases qlu (i:=i) c.zero key with e|⟨t,d,e⟩
  ·rw [e,lC]
   exact b last (by push_cast;omega)
  ·rw [e,List.singleton_append,qfj]
   exact ⟨k,by show (i:Int)<2147483648;omega,qzP c d,b _ (by push_cast;omega)⟩
structure qai where
 ids:List Int
 seqs:List Int
 keys:List Nm
 lists:List (List Pn)
deriving DecidableEq
def qcZ (n:Nat) (l:List Pn):Bool:=qa5 (-1) l&&(decide (l.length≠0)&&decide (∀ p,l.getLast?=some p->p.1<(n:Int)))
def qeK (x:qai):Bool:=decide (x.ids.length=x.seqs.length)&&(decide (x.keys.length=x.lists.length)&&(qal (-1) x.seqs&&(qdB x.keys&&x.lists.all (qcZ x.ids.length))))
def qac (l:List En):qai:=⟨l.map (·.1),l.map (·.2.2),qah l,(qah l).map fun k=>qak 0 l k⟩
def atP:List Nm->List (List Pn)->Nm->List Pn
 |k::ks,l::ls,key=>if k=key then l else atP ks ls key
 |_,_,_=>[]
def qlw {key:Nm}:∀ {ks:List Nm} {ls:List (List Pn)},(∀ k∈ks,k≠key)->atP ks ls key=[]
 |[],_,_=>by simp [atP]
 |k::ks,[],_=>by simp [atP]
 |k::ks,l::ls,a=>by rw [atP,dA (a k (eB ..)),qlw fun x b=>a x (oB _ b)]
def qlx {key:Nm}:∀ {ks:List Nm} {ls:List (List Pn)} {i:Nat} (a:i<ks.length) (c:i<ls.length),ks[i]=key->(∀ j (d:j<ks.length),j<i->ks[j]≠key)->atP ks ls key=ls[i]
 |[],_,i,a,_,_,_=>by simp at a
 |k::ks,[],i,_,c,_,_=>by simp at c
 |k::ks,l::ls,0,_,_,b,_=>by simp at b;simp [atP,b]
 |k::ks,l::ls,i+1,a,c,b,g=>by
  have e:=g 0 (by simp) (by omega);simp at e;rw [atP,dA e];simpa using qlx (ks:=ks) (ls:=ls) (i:=i) (by simpa using a) (by simpa using c) (by simpa using b) fun j d h=>by
   have :=g (j+1) (by simpa using d) (by omega);rw [zC] at this;exact this
def qcM (x:qai) (key:Nm):List Pn:=atP x.keys x.lists key
def qqu (f:Nm->List Pn) (key:Nm):∀ ks:List Nm,atP ks (ks.map f) key=if key∈ks then f key else []
 |[]=>by simp [atP]
 |k::ks=>by
  rw [xB,atP,qqu f key ks];by_cases a:k=key
  ·rw [eA a,eA (by rw [a];exact eB ..),a]
  ·rw [dA a]
   by_cases h2:key∈ks
   ·rw [eA h2,eA (oB _ h2)]
   ·rw [dA h2,dA (fun e=>(wA.1 e).elim (fun e=>a e.symm) h2)]
def qly {key:Nm}:∀ {l:List En} {i:Nat},(∀ q∈l,∀ t∈qas q.2.1,qag t≠key)->qak i l key=[]
 |[],i,_=>rfl
 |q::l,i,a=>by
  rw [qak,qly fun x c=>a x (oB _ c),mC];unfold qbb;rw [List.filter_eq_nil_iff.2 fun t b=>by simpa using a q (eB ..) t b];rfl
def qqv (l:List En) (key:Nm):qcM (qac l) key=qak 0 l key:=by
 unfold qcM qac;rw [qqu];split
 ·rfl
 ·rename_i b
  exact (qly fun q a t c e=>b (qef.2 ⟨q,a,t,c,e⟩)).symm
def qa1 (r:List Bool):List Nat:=(List.range r.length).filter fun k=>r.getD k false
def qeL (x:qai) (r:List Bool):List Int:=(qa1 r).map fun k=>x.seqs.getD k 0
def qd2 (f:Nat->qai) (key:Nm):Nat->List Pl->List Pn
 |_,[]=>[]
 |j,p::E=>(((qcM (f p.1) key).filter fun q=>decide (q.1=(p.2:Int))).map fun q=>((j:Int),q.2))++qd2 f key (j+1) E
def qi1 (ps:List qai) (E:List Pl):List Nm:=(qbo (ps.map (·.keys))).filter fun key=>decide (qd2 (fun i=>ps.getD i ⟨[],[],[],[]⟩) key 0 E≠[])
def qd3 (ps:List qai) (E:List Pl):qai:=
 ⟨E.map fun p=>(ps.getD p.1 ⟨[],[],[],[]⟩).ids.getD p.2 0,E.map fun p=>(ps.getD p.1 ⟨[],[],[],[]⟩).seqs.getD p.2 0,qi1 ps E,
  (qi1 ps E).map fun key=>qd2 (fun i=>ps.getD i ⟨[],[],[],[]⟩) key 0 E⟩
def qaV (Ls:List (List En)) (p:Pl):En:=(Ls.getD p.1 []).getD p.2 (0,[],0)
def qqw {key:Nm}:∀ (l:List En) (i k:Nat),(qak i l key).filter (fun q=>decide (q.1=((i+k:Nat):Int)))=if b:k<l.length then qbb (i+k) (l[k]).2.1 (qas (l[k]).2.1) key else []
 |[],i,k=>by simp [qak]
 |q::l,i,k=>by
  rw [qak,lF];cases k with
  |zero=>
   have h1:(qbb i q.2.1 (qas q.2.1) key).filter (fun q=>decide (q.1=((i+0:Nat):Int)))=qbb i q.2.1 (qas q.2.1) key:=by
    refine List.filter_eq_self.2 fun x a=> ?_
    obtain ⟨t,_,rfl⟩:=tA.1 a;simp
   have h2:(qak (i+1) l key).filter (fun q=>decide (q.1=((i+0:Nat):Int)))=[]:=posts_off l (i+1) _ (by omega);rw [h1,h2,mC,dif_pos (by simp)];rfl
  |succ k=>
   have h1:(qbb i q.2.1 (qas q.2.1) key).filter (fun q=>decide (q.1=((i+(k+1):Nat):Int)))=[]:=by
    refine List.filter_eq_nil_iff.2 fun x a=> ?_
    obtain ⟨t,_,rfl⟩:=tA.1 a;simp;omega
   rw [h1,lC,show i+(k+1)=i+1+k by omega,qqw l (i+1) k];simp only [nA,Nat.add_lt_add_iff_right,zC]
where
 posts_off:∀ (l:List En) (i:Nat) (k:Nat),k<i->(qak i l key).filter (fun q=>decide (q.1=(k:Int)))=[]
 |[],i,k,_=>rfl
 |q::l,i,k,b=>by
  rw [qak,lF,posts_off l (i+1) k (by omega),mC];refine List.filter_eq_nil_iff.2 fun x a=> ?_
  obtain ⟨t,_,rfl⟩:=tA.1 a;simp;omega
def qzQ (i j:Nat) (d:List Fd) (ts:List Tm) (key:Nm):(qbb i d ts key).map (fun q=>((j:Int),q.2))=qbb j d ts key:=by
 simp [qbb]
def InE (Ls:List (List En)) (p:Pl):Prop:=p.1<Ls.length/\p.2<(Ls.getD p.1 []).length
def qlz (Ls:List (List En)) (i:Nat):(Ls.map qac).getD i ⟨[],[],[],[]⟩=qac (Ls.getD i []):=by
 rw [mA,uE,mA];cases Ls[i]?<;>rfl
def qlA (Ls:List (List En)) (key:Nm):∀ (E:List Pl) (j:Nat),(∀ p∈E,InE Ls p)->qd2 (fun i=>(Ls.map qac).getD i ⟨[],[],[],[]⟩) key j E=qak j (E.map (qaV Ls)) key
 |[],j,_=>rfl
 |p::E,j,a=>by
  have ⟨h1,h2⟩:=a p (eB ..);rw [qd2,xB,qak,qlA Ls key E (j+1) fun q b=>a q (oB _ b)];congr 1;simp only [qlz];rw [qqv];have :=qqw (key:=key) (Ls.getD p.1 []) 0 p.2;rw [kB] at this;rw [this,dif_pos h2,qzQ,qaV,mA (l:=Ls.getD p.1 []),oA h2];rfl
def qi2 {key:Nm} {l:List En}:qak i l key≠[]↔∃ q∈l,∃ t∈qas q.2.1,qag t=key:=by
 constructor
 ·intro a
  apply Classical.byContradiction;intro b;exact a (qly fun q d t c e=>b ⟨q,d,t,c,e⟩)
 ·intro a e
  have :=qls (i:=i) a;rw [e] at this;simp at this
def qzR (Ls:List (List En)) (E:List Pl) (b:∀ p∈E,InE Ls p):qd3 (Ls.map qac) E=qac (E.map (qaV Ls)):=by
 have i:∀ p∈E,qaV Ls p∈Ls.getD p.1 []/\Ls.getD p.1 []∈Ls:=fun p a=>by
  have ⟨h1,h2⟩:=b p a;have j:Ls.getD p.1 []=Ls[p.1]:=by rw [mA,oA h1];rfl
  constructor
  ·rw [qaV,mA (l:=Ls.getD p.1 []),oA h2]
   exact pA _
  ·rw [j];exact pA _
 have m:qi1 (Ls.map qac) E=qah (E.map (qaV Ls)):=by
  refine qhd (List.Pairwise.filter _ (qga _)) (qgW _) fun x=> ?_
  unfold qi1;rw [nE,qlA Ls x E 0 b,iC,qi2,<- qef,qgz];constructor
  ·exact fun c=>c.2
  ·intro c
   refine ⟨?_,c⟩;have ⟨q,k,t,d,e⟩:=qef.1 c;obtain ⟨p,a,rfl⟩:=tA.1 k;have ⟨h1,h2⟩:=i p a;exact ⟨_,tA.2 ⟨qac (Ls.getD p.1 []),tA.2 ⟨_,h2,rfl⟩,rfl⟩,qef.2 ⟨_,h1,t,d,e⟩⟩
 have h:∀ p∈E,((Ls.map qac).getD p.1 ⟨[],[],[],[]⟩).ids.getD p.2 0=(qaV Ls p).1:=fun p a=>by
  rw [qlz];have ⟨h1,h2⟩:=b p a;simp only [qac,qaV,mA (l:=Ls.getD p.1 []),mA (l:=(Ls.getD p.1 []).map _),uE,oA h2];rfl
 have g:∀ p∈E,((Ls.map qac).getD p.1 ⟨[],[],[],[]⟩).seqs.getD p.2 0=(qaV Ls p).2.2:=fun p a=>by
  rw [qlz];have ⟨h1,h2⟩:=b p a;simp only [qac,qaV,mA (l:=Ls.getD p.1 []),mA (l:=(Ls.getD p.1 []).map _),uE,oA h2];rfl
 unfold qd3;rw [qac,m,List.map_map,List.map_map];congr 1
 ·exact List.map_congr_left h
 ·exact List.map_congr_left g
 ·exact List.map_congr_left fun key _=>qlA Ls key E 0 b
def qf0 (w:World) (B:Nat) (ls:List (List Pn)) (cs:List Value):Prop:=cs.length=ls.length/\∀ i (a:i<ls.length),∃ A c,cs[i]?=some (.slice A ls[i].length c)/\(ls[i].length<=c/\c<=maxLen)/\qbf w B A ls[i]
def qc0 (w:World) (B:Nat) (A:Option Addr) (ls:List (List Pn)):Prop:=∃ cs,qf0 w B ls cs/\Row w B A cs
section
variable {w w':World} {B B':Nat} {A:Option Addr} {ls:List (List Pn)} {cs:List Value}
def qf0.below (a:qf0 w B ls cs) (d:Below B w w'):qf0 w' B ls cs:=⟨a.1,fun i b=>by have ⟨A,c,h1,h2,h3⟩:=a.2 i b;exact ⟨A,c,h1,h2,h3.below d⟩⟩
def qf0.more (a:qf0 w B ls cs) (d:B<=B'):qf0 w B' ls cs:=⟨a.1,fun i b=>by have ⟨A,c,h1,h2,h3⟩:=a.2 i b;exact ⟨A,c,h1,h2,h3.more d⟩⟩
def qc0.below (b:qc0 w B A ls) (a:Below B w w'):qc0 w' B A ls:=by obtain ⟨cs,h1,h2⟩:=b;exact ⟨cs,h1.below a,h2.below a⟩
def qc0.more (b:qc0 w B A ls) (a:B<=B'):qc0 w B' A ls:=by obtain ⟨cs,h1,h2⟩:=b;exact ⟨cs,h1.more a,h2.more a⟩
def qc0.later (b:qc0 w w.heap.size A ls) (a:wG w w'):qc0 w' w'.heap.size A ls:=(b.below a).more a.size
def qc0.at_ (l:qc0 w B A ls) {i:Nat} (e:i<ls.length):∃ b c d a,A=some ⟨b,c,none⟩/\b<B/\w.cell? ⟨b,c+i,none⟩=some (.slice d ls[i].length a)/\(ls[i].length<=a/\a<=maxLen)/\qbf w B d ls[i]:=by
 obtain ⟨cs,h1,h2⟩:=l;have ⟨d,a,m,h,k⟩:=h1.2 i e;obtain ⟨b,c,rfl,j,g⟩:=Row.at_ h2 (by rw [h1.1];omega);exact ⟨b,c,d,a,rfl,j,g _ _ m,h,k⟩
end
abbrev qd4 (g:List En):Prop:=g.Pairwise fun p q=>p.2.2<q.2.2
def qaz (a:List En):List Int:=a.map (·.2.2)
def qzS {a b:List En} (d:qd4 a) (e:qd4 b) (c:∀ x,x∈a↔x∈b):a=b:=
 qig (R:=fun p q:En=>p.2.2<q.2.2) (fun _ c=>yE _ c) (fun _ _ c k=>yE _ (Int.lt_trans c k)) d e c
def qgY {p:Pl}:InO (Ls.map qaz) p↔InE Ls p:=by
 unfold InO InE;rw [gB];refine and_congr_right fun a=> ?_
 rw [mA,uE,oA a,mA,oA a];simp [qaz]
def qqx {p:Pl} (a:InE Ls p):qaA (Ls.map qaz) p=(qaV Ls p).2.2:=by
 obtain ⟨h1,h2⟩:=a;have e:Ls.getD p.1 []=Ls[p.1]:=by rw [mA,oA h1];rfl
 rw [e] at h2;rw [qaA,qaV,e,mA (l:=Ls.map qaz),uE,oA h1];simp [qaz,mA,oA h2]
def qzT {x:En}:(∃ p,InE Ls p/\qaV Ls p=x)↔∃ b∈Ls,x∈b:=by
 constructor
 ·rintro ⟨p,⟨h1,h2⟩,rfl⟩
  have e:Ls.getD p.1 []=Ls[p.1]:=by rw [mA,oA h1];rfl
  rw [e] at h2;refine ⟨Ls[p.1],pA _,?_⟩;rw [qaV,e,mA,oA h2];exact pA _
 ·rintro ⟨b,g,d⟩
  obtain ⟨i,a,rfl⟩:=nC g;obtain ⟨k,c,rfl⟩:=nC d;refine ⟨(i,k),⟨a,?_⟩,?_⟩
  ·simpa [mA,oA a] using c
  ·simp [qaV,mA,oA a,oA c]
def qi3 {o:List Pl} (a:qbS (Ls.map qaz) o):qd4 (o.map (qaV Ls))/\∀ x,x∈o.map (qaV Ls)↔∃ b∈Ls,x∈b:=by
 constructor
 ·refine aD.2 (a.rise.imp_of_mem fun {p q} e d c=> ?_)
  rwa [qqx (qgY.1 ((a.mem p).1 e)),qqx (qgY.1 ((a.mem q).1 d))] at c
 ·intro x
  rw [<- qzT,tA];exact exists_congr fun p=>and_congr_left fun _=>(a.mem p).trans qgY
def qzU {o:List Pl} {g:List En} (a:qbS (Ls.map qaz) o) (c:qd4 g) (d:∀ x,x∈g↔∃ b∈Ls,x∈b):o.map (qaV Ls)=g:=
 qzS (qi3 a).1 c fun x=>((qi3 a).2 x).trans (d x).symm
def qqy {l:List (List Int)} (n:l.flatten.Nodup):¬ qeD l:=by
 have ⟨h1,h2⟩:=List.pairwise_flatten.1 n;rintro ⟨⟨i,k⟩,⟨j,m⟩,q,p,e,h⟩;have ⟨c,b⟩:=qcm.1 q;have ⟨d,a⟩:=qcm.1 p;rw [qeW c b,qeW d a] at e;rcases Nat.lt_trichotomy i j with hij|hij|hij
 ·exact dC.1 h2 i j c d hij _ (pA b) _ (pA a) e
 ·subst hij
  have g:=h1 _ (pA c);rcases Nat.lt_trichotomy k m with hkm|hkm|hkm
  ·exact dC.1 g k m b a hkm e
  ·exact h (by rw [hkm])
  ·exact dC.1 g m k a b hkm e.symm
 ·exact dC.1 h2 j i d c hij _ (pA a) _ (pA b) e.symm
def qde (a:List En) (r:List Bool):List En:=(qa1 r).map fun k=>a.getD k (0,[],0)
def qaT:List (List En)->List (List Bool)->List (List En)
 |L::Ls,r::rs=>qde L r::qaT Ls rs
 |_,_=>[]
def qi4 {r:List Bool} (a:k∈qa1 r):k<r.length:=xE.1 (nE.1 a).1
def qzV {α:Type} (d:α):∀ (a:List α),(List.range a.length).map (fun k=>a.getD k d)=a:=fun a=>by
 apply dD (by simp);intro i h1 h2;simp [mA,oA h2]
def qqz {r:List Bool} (a:r.length=L.length):(qde L r).Sublist L:=by
 have h1:((List.range r.length).filter fun k=>r.getD k false).Sublist (List.range r.length):=List.filter_sublist;have h2:=h1.map fun k=>L.getD k (0,[],0)
 rw [a,qzV] at h2;unfold qde qa1;rw [a];exact h2
def qzW {r:List Bool} (c:r.length=L.length):qeL (qac L) r=qaz (qde L r):=by
 unfold qeL qaz qde qac;rw [List.map_map];refine List.map_congr_left fun k b=> ?_
 have a:k<L.length:=by have :=qi4 b;omega
 simp [mA,oA a]
def qbI:List qai->List (List Bool)->List (List Int)
 |x::xs,r::rs=>qeL x r::qbI xs rs
 |_,_=>[]
inductive qbu:List (List En)->List (List Bool)->Prop
 |nil:qbu [] []
 |cons {L:List En} {r:List Bool} {Ls:List (List En)} {rs:List (List Bool)}:r.length=L.length->qbu Ls rs->qbu (L::Ls) (r::rs)
def qf1:∀ {Ls:List (List En)} {rs:List (List Bool)},qbu Ls rs->qbI (Ls.map qac) rs=(qaT Ls rs).map qaz
 |_,_,.nil=>rfl
 |_,_,.cons h hs=>by rw [xB,qbI,qaT,xB,qzW h,qf1 hs]
def qqA:∀ {Ls:List (List En)} {rs:List (List Bool)},qbu Ls rs->(qaT Ls rs).flatten.Sublist Ls.flatten
 |_,_,.nil=>List.Sublist.refl _
 |_,_,.cons h hs=>by
  rw [qaT,List.flatten_cons,List.flatten_cons];exact (qqz h).append (qqA hs)
def qi5 {x:En}:∀ {Ls:List (List En)} {rs:List (List Bool)},qbu Ls rs->∀ a∈qaT Ls rs,∃ c∈Ls,a.Sublist c
 |_,_,.nil,a,h=>by simp [qaT] at h
 |_,_,.cons h b,a,hL=>by
  rcases wA.1 hL with rfl|hL
  ·exact ⟨_,eB ..,qqz h⟩
  ·have ⟨c,d,b⟩:=qi5 (x:=x) b a hL
   exact ⟨c,oB _ d,b⟩
def qaj (rs:List (List Bool)) (o:List Pl):List Pl:=o.map fun p=>(p.1,(qa1 (rs.getD p.1 [])).getD p.2 0)
def qi6 {p:Pl}:∀ {Ls:List (List En)} {rs:List (List Bool)},qbu Ls rs->InE (qaT Ls rs) p->
  InE Ls (p.1,(qa1 (rs.getD p.1 [])).getD p.2 0)/\qaV Ls (p.1,(qa1 (rs.getD p.1 [])).getD p.2 0)=qaV (qaT Ls rs) p:=by
 obtain ⟨i,k⟩:=p;intro Ls rs a
 induction a generalizing i with
 |nil=>rintro ⟨a,_⟩;simp [qaT] at a
 |@cons L r Ls rs a hs ih=>
  rintro ⟨h1,h2⟩;cases i with
  |succ i=>
   have :=ih i ⟨by simpa [qaT] using h1,by simpa [qaT] using h2⟩;obtain ⟨⟨g,d⟩,e⟩:=this;exact ⟨⟨by simpa using g,by simpa using d⟩,by simpa [qaV,qaT] using e⟩
  |zero=>
   have b:k<(qa1 r).length:=by simpa [qaT,qde] using h2
   have c:(qa1 r)[k]<L.length:=by have :=qi4 (pA b);omega
   refine ⟨⟨by simp,?_⟩,?_⟩
   ·simpa [mA,oA b] using c
   ·simp [qaV,qaT,qde,mA,oA b,oA c]
def qzX (c:qbu Ls rs) {o:List Pl} (b:qbS (qbI (Ls.map qac) rs) o) {g:List En} (e:qd4 g) (h:∀ x,x∈g↔∃ i∈qaT Ls rs,x∈i):
  qd3 (Ls.map qac) (qaj rs o)=qac g:=by
 rw [qf1 c] at b;have d:∀ p∈o,InE (qaT Ls rs) p:=fun p a=>qgY.1 ((b.mem p).1 a)
 rw [qzR Ls (qaj rs o) fun q j=>by
  obtain ⟨p,a,rfl⟩:=tA.1 j;exact (qi6 c (d p a)).1]
 congr 1;rw [<- qzU b e h,qaj,List.map_map];exact List.map_congr_left fun p a=>(qi6 c (d p a)).2
def qdu (tq0:List Int) (a i:Nat):Nat:=((if tq0.getD i 0<0 then-(tq0.getD i 0+1) else tq0.getD i 0)%(a:Int)).toNat
def qeg (tq0:List Int) (a j:Nat) (g:List En):List En:=(g.zipIdx.filter fun p=>decide (qdu tq0 a p.2=j)).map (·.1)
def qcN (g:List En) (tq0:List Int) (a:Nat):List (List En):=(List.range a).map fun j=>qeg tq0 a j g
def qzY (tq0:List Int) (a j:Nat) (g:List En) (q:En):qeg tq0 a j (g++[q])=if qdu tq0 a g.length=j then qeg tq0 a j g++[q] else qeg tq0 a j g:=by
 unfold qeg;rw [List.zipIdx_append,lF,jC];by_cases b:qdu tq0 a g.length=j
 ·simp [b]
 ·simp [b]
def qqB (tq0:List Int) {a:Nat} (c:0<a) (i:Nat):qdu tq0 a i<a:=by
 unfold qdu;have h1:=Int.emod_nonneg (if tq0.getD i 0<0 then-(tq0.getD i 0+1) else tq0.getD i 0) (b:=(a:Int)) (by omega)
 have h2:=Int.emod_lt_of_pos (if tq0.getD i 0<0 then-(tq0.getD i 0+1) else tq0.getD i 0) (b:=(a:Int)) (by omega)
 omega
def qi7 (tq0:List Int) (a j:Nat) (g:List En):(qeg tq0 a j g).Sublist g:=by
 have b:((g.zipIdx.filter fun p=>decide (qdu tq0 a p.2=j)).map (·.1)).Sublist (g.zipIdx.map (·.1)):=List.filter_sublist.map _;rwa [List.zipIdx_map_fst] at b
def qqC {tq0:List Int} {g:List En} {x:En}:x∈qeg tq0 k j g↔∃ i,∃ a:i<g.length,g[i]=x/\qdu tq0 k i=j:=by
 unfold qeg;rw [tA];constructor
 ·rintro ⟨⟨y,i⟩,c,rfl⟩
  have ⟨h1,h2⟩:=nE.1 c;have h3:=List.mem_zipIdx h1;simp only [kB,Nat.sub_zero] at h3;exact ⟨i,h3.2.1,h3.2.2.symm,by simpa using h2⟩
 ·rintro ⟨i,a,rfl,b⟩
  refine ⟨(g[i],i),nE.2 ⟨?_,by simpa using b⟩,rfl⟩;exact List.mem_iff_getElem.2 ⟨i,by simpa using a,by simp⟩
def qzZ {g:List En} (a:qd4 g):(qaz g).Nodup:=aD.2 (a.imp fun a e=>by omega)
def qqD (Ls:List (List En)):(Ls.map qaz).flatten=qaz Ls.flatten:=by
 unfold qaz;rw [List.map_flatten]
def qz0 {tq0:List Int} {g:List En} (c:qd4 g):(qaz (qcN g tq0 n).flatten).Nodup:=by
 rw [<- qqD];refine List.pairwise_flatten.2 ⟨fun l t=> ?_,?_⟩
 ·obtain ⟨z,v,rfl⟩:=tA.1 t
  obtain ⟨j,_,rfl⟩:=tA.1 v;exact qzZ (c.sublist (qi7 tq0 n j g))
 ·refine aD.2 (aD.2 (List.pairwise_lt_range.imp fun {i j} w=> ?_))
  intro a r b q e;obtain ⟨x,s,rfl⟩:=tA.1 r;obtain ⟨y,p,rfl⟩:=tA.1 q;obtain ⟨k,h,rfl,h1⟩:=qqC.1 s;obtain ⟨m,d,rfl,h2⟩:=qqC.1 p;rcases Nat.lt_trichotomy k m with hkm|hkm|hkm
  ·have :=dC.1 c k m h d hkm;omega
  ·subst hkm;omega
  ·have :=dC.1 c m k d h hkm;omega
def qqE (a:qbu Ls rs) (b:(qaz Ls.flatten).Nodup):¬ qeD (qbI (Ls.map qac) rs):=by
 rw [qf1 a];refine qqy ?_;rw [qqD];exact b.sublist ((qqA a).map _)
def qgZ {x y z:Value} (a:w.heap[b]?=some (.cells #[x,y,z,u] t (0,0))):w.cell? ⟨b,0,none⟩=some x/\w.cell? ⟨b,1,none⟩=some y/\w.cell? ⟨b,2,none⟩=some z/\w.cell? ⟨b,3,none⟩=some u:=by
 simp [World.cell?,a]
def qqF (w:World) (V:Array Value) (wr:World):Prop:=wG w wr/\w.heap.size+1<=wr.heap.size/\wr.heap[w.heap.size]?=some (.cells V 43 (0,0))
def qz1 (w:World) (V:Array Value):qqF w V (w.alloc (.cells V 43)):=
 ⟨(bA _ w).alloc (aA _) _,by simp,jA w _⟩
def qz2 (w:World) (V:Array Value) (ks:List Nm) (key:ByteArray) (r i:Value) (wr:World):Prop:=
 r= .slice none 0 0/\∃ k:Nat,k<=ks.length/\i= .int .i64 (k:Int)/\qqF w V wr/\∀ j (a:j<ks.length),j<k->ks[j]≠key.data.toList
def qfx {x y z:Value} (a:w.heap[b]?=some (.cells #[x,y,z] t (0,0))):w.cell? ⟨b,0,none⟩=some x/\w.cell? ⟨b,1,none⟩=some y/\w.cell? ⟨b,2,none⟩=some z:=by
 simp [World.cell?,a]
def qdv (t:TypeId) (w:World) (A:Option Addr):Prop:=A=none\/∃ b a cs fr,A=some ⟨b,a,none⟩/\w.heap[b]?=some (.cells cs t fr)
section
variable {t:TypeId} {w w':World} {A:Option Addr}
def qdv.keep (a:qdv t w A) (d:∀ (k:Nat) (cs:Array Value) (fr:Nat × Nat),w.heap[k]?=some (.cells cs t fr)->w'.heap[k]?=some (.cells cs t fr)):qdv t w' A:=by
 rcases a with a|⟨b,g,cs,fr,e,c⟩
 ·exact .inl a
 ·exact .inr ⟨b,g,cs,fr,e,d _ _ _ c⟩
def qdv.below (b:qdv t w A) (c:wG w w'):qdv t w' A:=b.keep fun k _ _ a=>(c.block k (gA.1 a).1).trans a
def qdv.row {B':Nat} (c:qdv t w A) (g:Row w B A xs) (p:B<=B') (n:∀ (k:Nat) (cs:Array Value) (fr:Nat × Nat),w.heap[k]?=some (.cells cs t fr)->w'.heap[k]?=some (.cells cs t fr)):Row w' B' A xs:=by
 rcases g with g|⟨b,h,e,r,l⟩
 ·exact .inl g
 ·rcases c with c|⟨s,q,cs,fr,d,i⟩
  ·rw [e] at c;cases c
  ·rw [e] at d
   injection d with d
   injection d with e1 e2
   subst e1;exact .inr ⟨b,h,e,by omega,fun j u m=>(tC (a:=⟨b,h+j,none⟩) ((n _ _ _ i).trans i.symm)).trans (l j u m)⟩
def qlB {size:Nat} (d:w.ownsRow zz t size (.slice A n c) m xs):qdv t w A:=by
 rcases d.2 with ⟨a,_⟩|⟨g,h,e,a,_,b,_⟩
 ·injection a with a;exact .inl a
 ·injection a with a;exact .inr ⟨g,0,_,_,a,b⟩
end
def qz3 (w:World) (S:Nat):Prop:=∀ (b c a:Option Addr) (j h g i e d:Nat),w.heap[S]?=some (.cells #[.slice b j h,.slice c g i,.slice a e d] 110 (0,0))->qdv 3 w b/\qdv 3 w c/\qdv 177 w a
structure qg0 (x:qai):Prop where
 ids:x.ids.length<=1048576
 keys:x.keys.length<=1048576
 lists:∀ l∈x.lists,l.length<=1000/\qaG l<=40000000000
structure qbN (w:World) (S:Nat) (x:qai):Prop where
 cells:∃ A1 c1 A2 c2 A3 c3,w.heap[S]?=some (.cells #[.slice A1 x.ids.length c1,.slice A2 x.seqs.length c2,.slice A3 x.keys.length c3] 110 (0,0))/\x.ids.length<=c1/\x.seqs.length<=c2/\Row w w.heap.size A1 (qaa x.ids)/\Row w w.heap.size A2 (qaa x.seqs)
 dict:∃ bl:List Nat,qce w S 2 x.keys bl/\∀ i (h:i<x.lists.length),∃ zz,LAt w zz (bl.getD i 0) (qae (-1) x.lists[i]) x.lists[i]
 may:qeK x=true
 small:qg0 x
 typ:qz3 w S
section
variable {w w':World} {S:Nat} {x:qai}
def qbN.lt (a:qbN w S x):S<w.heap.size:=by have ⟨bl,a,_⟩:=a.dict;exact a.lt
def qbN.below (b:qbN w S x) (a:wG w w'):qbN w' S x:=by
 have c:=b.lt;obtain ⟨⟨y,r,G,A,g,B,h1,h2,h3,E,I⟩,⟨bl,J,e⟩,F,t,n⟩:=b;refine ⟨⟨y,r,G,A,g,B,(a.block S c).trans h1,h2,h3,Row.later E a,Row.later I a⟩,⟨bl,J.below a,fun i l=> ?_⟩,F,t,fun v C p s H D d m h q=> ?_⟩
 ·have ⟨zz,b⟩:=e i l
  exact ⟨zz,b.below a⟩
 ·have ⟨k,z,j⟩:=n v C p s H D d m h ((a.block S c).symm.trans q)
  exact ⟨k.below a,z.below a,j.below a⟩
def qfy {x:qai}:qeK x=true↔x.ids.length=x.seqs.length/\x.keys.length=x.lists.length/\qal (-1) x.seqs=true/\qdB x.keys=true/\∀ l∈x.lists,qcZ x.ids.length l=true:=by
 simp [qeK]
def qi8 {l:List Pn} (a:qcZ n l=true):qa5 (-1) l=true/\l≠[]:=by
 simp only [qcZ,xA,iC] at a;exact ⟨a.1,fun e=>a.2.1 (by rw [e];rfl)⟩
def qbN.seqs (a:qbN w S x):x.ids.length=x.seqs.length:=(qfy.1 a.may).1
def qbN.keys (a:qbN w S x):x.keys.length=x.lists.length:=(qfy.1 a.may).2.1
end
def qd5 (l:List Int) (i:Int):Int:=if 0<=i/\i<(l.length:Int) then l.getD i.toNat 0 else-1
def qqG (A:Option Addr) (n c:Nat) (i:Int) (l:List Int) (w:World) (d:Row w w.heap.size A (qaa l)) (g:l.length=n):
  yG 82 #[.slice A n c,.int .i64 i] w fun e w'=>e= .returned (.int .i64 (qd5 l i))/\wG w w':=by
 by_cases j:i<0
 ·have a:qd5 l i= -1:=dA (by omega)
  rw [a];clear a d g
  go_enter func82,ntmps82
  go_wp2;go_ret;exact ⟨rfl,bA _ _⟩
 ·have r:decide (i<0)=false:=uA j
  by_cases h1:(n:Int)<=i
  ·have a:qd5 l i= -1:=dA (by omega)
   rw [a];clear a d g
   go_enter func82,ntmps82
   go_wp2;go_ret;exact ⟨rfl,bA _ _⟩
  ·have v:decide ((n:Int)<=i)=false:=uA h1
   obtain ⟨k,rfl⟩:∃ k:Nat,i=(k:Int):=⟨i.toNat,by omega⟩;have h:k<l.length:=by omega
   obtain ⟨b,s,rfl,t,p⟩:=qbR d h;have a:qd5 l (k:Int)=l[k]:=by
    unfold qd5;rw [eA ⟨by omega,by omega⟩];simp [mA,h]
   rw [a];have ⟨y,m⟩:=qE (l[k]);rw [<- m] at p ⊢;have x:(0:Int)<=k:=by omega
   have q:(k:Int)<n:=by omega
   clear a m d j h1 h g
   go_enter func82,ntmps82
   go_wp2;go_ret;exact ⟨rfl,bA _ _⟩
def qz4 (l:List Int) (w:World) (r last i:Value) (wr:World):Prop:=r= .bool false/\∃ (k:Nat) (x:Int),k<=l.length/\i= .int .i64 (k:Int)/\last= .int .i64 x/\qal x (l.drop k)=qal (-1) l/\wG w wr
def qz5 (A:Option Addr) (n c:Nat) (l:List Int) (w:World) (p:Row w w.heap.size A (qaa l)) (z:l.length=n) (I:n<=9223372036854775807):
  yG 111 #[.slice A n c] w fun e w'=>e= .returned (.bool (qal (-1) l))/\wG w w':=by
 have B:=qH p;clear p;have ⟨v,m⟩:=qE (qal (-1) l);rw [<- m];have q:=qH m;have d:=qH z;clear m z
 go_enter func111,ntmps111
 go_wp2
 go_loopw [2,3,8] (fun r last i wr=>qz4 l w r last i wr) (fun _ _ i _=>n-(intOf i).toNat)
 case atStart=>exact ⟨rfl,0, -1,kA _,rfl,rfl,rfl,bA _ _⟩
 case round=>
  obtain ⟨rfl,k,x,D,rfl,rfl,a,h⟩:=hrel;rw [d.o] at D;by_cases F:k<n
  ·have b:k<l.length:=by rw [d.o];exact F
   obtain ⟨H,K,rfl,_,C⟩:=qbR (B.o.below h) b;have t:l.drop k=l[k]::l.drop (k+1):=yD b;rw [t,qal] at a;have ⟨y,s⟩:=qE (l[k]);rw [<- s] at C a;have L:(0:Int)<=k:=by omega
   have J:(k:Int)<n:=by omega
   clear s t;by_cases g:y<=x
   ·have j:v=false:=by rw [q.o,<- a,uA (by omega)];rfl
    have G:decide (y<=x)=true:=yA g;subst j;clear a b g;go_wp2;go_ret;exact ⟨rfl,h⟩
   ·have G:decide (y<=x)=false:=uA g
    rw [yA (by omega),sD] at a;have E:=qH a;clear a b g;go_wp2;go_roundw
    case rel=>exact ⟨rfl,k+1,y,by rw [d.o];omega,by go_num,rfl,E.o,h⟩
    case measure=>simp [intOf];omega
  ·have j:v=true:=by
    rw [q.o,<- a,pC (by rw [d.o];omega)];rfl
   subst j;clear a;go_wp2;go_ret;exact ⟨rfl,h⟩
section
variable {w:World} {S:Nat} {x:qai}
def qqH (a:qbN w S x):yG 20 #[.pointer (some ⟨S,0,none⟩)] w fun e w'=>e= .returned (.int .i64 (x.ids.length:Int))/\wG w w':=by
 have ⟨g,i,h,k,d,b,h1,_⟩:=a.cells;have ⟨c,j,q2⟩:=qfx h1;clear a h1
 go_enter func20,ntmps20
 go_wp2;go_ret;exact ⟨rfl,bA _ _⟩
def qz6 (b:qbN w S x) (i:Int):yG 39 #[.pointer (some ⟨S,0,none⟩),.int .i64 i] w fun e w'=>e= .returned (.int .i64 (qd5 x.ids i))/\wG w w':=by
 have ⟨g,h,n,q,l,k,h1,h2,h3,a,j⟩:=b.cells;have ⟨m,p,q2⟩:=qfx h1;have c:=qH (qqG g _ h i x.ids w a rfl);clear b h1 h2 h3 a j
 go_enter func39,ntmps39
 go_wp2_with (go_at_call 82;refine c.o.mono ?_;rintro e w' ⟨rfl,d⟩)
 go_ret;exact ⟨rfl,d⟩
def qqI (a:qbN w S x) (i:Int):yG 40 #[.pointer (some ⟨S,0,none⟩),.int .i64 i] w fun e w'=>e= .returned (.int .i64 (qd5 x.seqs i))/\wG w w':=by
 have ⟨n,p,h,j,l,k,h1,h2,h3,d,b⟩:=a.cells;have ⟨m,q,q2⟩:=qfx h1;have c:=qH (qqG h _ j i x.seqs w b rfl);clear a h1 h2 h3 d b
 go_enter func40,ntmps40
 go_wp2_with (go_at_call 82;refine c.o.mono ?_;rintro e w' ⟨rfl,g⟩)
 go_ret;exact ⟨rfl,g⟩
end
def qg1 (x:qai):Prop:=x.ids.length<=9223372036854775807/\x.seqs.length<=9223372036854775807/\x.keys.length<=9223372036854775807/\x.lists.length<=9223372036854775807/\∀ l∈x.lists,l.length<=9223372036854775807/\∀ p∈l,p.2.length<=9223372036854775807
structure PAt (w:World) (B:Nat) (A1 A2 A3 A4:Option Addr) (x:qai):Prop where
 ids:Row w B A1 (qaa x.ids)
 seqs:Row w B A2 (qaa x.seqs)
 keys:Row w B A3 (qad x.keys)
 lists:qc0 w B A4 x.lists
def PAt.later {c:Option Addr} {x:qai} (b:PAt w w.heap.size A A' C c x) (a:wG w w'):PAt w' w'.heap.size A A' C c x:=
 ⟨Row.later b.ids a,Row.later b.seqs a,Row.later b.keys a,b.lists.later a⟩
def qe9 (w:World) (V a:Array Value) (wr:World):Prop:=wG w wr/\w.heap.size+1+1<=wr.heap.size/\wr.heap[w.heap.size]?=some (.cells V 43 (0,0))/\wr.heap[w.heap.size+1]?=some (.cells a 43 (0,0))
def qe9.below {V:Array Value} (b:qe9 w V R wr) (a:wG wr w'):qe9 w V R w':=by
 obtain ⟨c,h1,h2,h3⟩:=b;exact ⟨c.trans (a.mono (by omega)),by have :=a.size;omega,(a.block _ (by omega)).trans h2,(a.block _ (by omega)).trans h3⟩
def qz7 (w:World) (V a:Array Value):qe9 w V a ((w.alloc (.cells V 43)).alloc (.cells a 43)):=by
 refine ⟨((bA _ w).alloc (aA _) _).alloc (by simp) _,by simp,?_,?_⟩
 ·rw [pB _ _ _ (by simp)]
  exact jA w _
 ·simpa using jA (w.alloc (.cells V 43)) (.cells a 43)
def qz8 (w:World) (V b:Array Value) (ls a:List (List Pn)) (r i:Value) (wr:World):Prop:=
 r= .bool false/\∃ k:Nat,k<=ls.length/\i= .int .i64 (k:Int)/\qe9 w V b wr/\∀ j (c:j<ls.length) (d:j<a.length),j<k->ls[j]=a[j]
def qz9 {x y:qai} (h1:x.ids=y.ids) (h2:x.seqs=y.seqs) (h3:x.keys=y.keys) (a:x.lists=y.lists):x=y:=by
 cases x;cases y;simp only at h1 h2 h3 a;subst h1 h2 h3 a;rfl
def qAa (K G P ai Q L A ae:Option Addr) (D S F ad J X l aj E T C U I W c af:Nat) (x y:qai) (w:World)
    (a9:x.ids.length=D) (bd:x.seqs.length=F) (bc:x.keys.length=J) (an:x.lists.length=l) (ay:y.ids.length=E) (az:y.seqs.length=C) (a3:y.keys.length=I) (au:y.lists.length=c)
    (ah:PAt w w.heap.size K G P ai x) (ag:PAt w w.heap.size Q L A ae y) (ab:qg1 x) (Z:qg1 y):
    yG 16 #[.agg #[.slice K D S,.slice G F ad,.slice P J X,.slice ai l aj],.agg #[.slice Q E T,.slice L C U,.slice A I W,.slice ae c af]] w fun e w'=>e= .returned (.bool (decide (x=y)))/\wG w w':=by
  have ⟨V,b6⟩:=qE (#[.slice K D S,.slice G F ad,.slice P J X,.slice ai l aj]:Array Value);have ⟨Y,br⟩:=qE (#[.slice Q E T,.slice L C U,.slice A I W,.slice ae c af]:Array Value);have ⟨z,t⟩:=qE (decide (x=y));have ⟨ao,d⟩:=qE (decide (x.ids=y.ids));have ⟨ap,m⟩:=qE (decide (x.seqs=y.seqs));have ⟨aq,q⟩:=qE (decide (x.keys=y.keys));have b3:qI (∀ a,wG w a->yG 24 #[.slice K D S,.slice Q E T] a fun e w'=>e= .returned (.bool ao)/\wG a w'):=qH fun a b=>by
    rw [d];exact qkz K Q D E S T x.ids y.ids a a9 ay (ah.later b).ids (ag.later b).ids (a9▸ab.1) (ay▸Z.1)
  have bn:qI (∀ a,wG w a->yG 24 #[.slice G F ad,.slice L C U] a fun e w'=>e= .returned (.bool ap)/\wG a w'):=qH fun a b=>by
    rw [m];exact qkz G L F C ad U x.seqs y.seqs a bd az (ah.later b).seqs (ag.later b).seqs (bd▸ab.2.1) (az▸Z.2.1)
  have bt:qI (∀ a,wG w a->yG 45 #[.slice P J X,.slice A I W] a fun e w'=>e= .returned (.bool aq)/\wG a w'):=qH fun a b=>by
    rw [q];exact qus P A J I X W x.keys y.keys a bc a3 (ah.later b).keys (ag.later b).keys (bc▸ab.2.2.1) (a3▸Z.2.2.1)
  have cu:=qH ah.lists;have b9:=qH ag.lists;have a0:=qH an;have bs:=qH au;have cf:=qH ab.2.2.2.2;have ci:=qH Z.2.2.2.2;have c4:l<=9223372036854775807:=an▸ab.2.2.2.1;have c0:c<=9223372036854775807:=au▸Z.2.2.2.1;have bl:=qH b6;have b5:=qH br;have cm:=qH t;have cx:qI (ao=false->z=false):=qH fun b=>by rw [t];exact uA fun e=>vF (d.symm.trans b) (by rw [e])
  have cy:qI (ap=false->z=false):=qH fun b=>by rw [t];exact uA fun e=>vF (m.symm.trans b) (by rw [e])
  have cg:qI (aq=false->z=false):=qH fun b=>by rw [t];exact uA fun e=>vF (q.symm.trans b) (by rw [e])
  have cw:qI (l≠c->z=false):=qH fun b=>by rw [t];exact uA fun e=>b (by rw [<- an,<- au,e])
  have ch:qI (ao=true->ap=true->aq=true->x.lists=y.lists->z=true):=qH fun h1 h2 h3 cj=>by
    rw [t];exact yA (qz9 (mD (d.symm.trans h1)) (mD (m.symm.trans h2)) (mD (q.symm.trans h3)) cj)
  rw [<- t];clear b6 br t d m q ah ag ab Z a9 bd bc an ay az a3 au;have ⟨a,a5⟩:=qE ((w.alloc (.cells #[.slice K D S,.slice G F ad,.slice P J X,.slice ai l aj] 43)).alloc (.cells #[.slice Q E T,.slice L C U,.slice A I W,.slice ae c af] 43));have a2:qe9 w V Y a:=by rw [a5,bl.o,b5.o];exact qz7 w _ _
  have cr:=qH a5;have b4:=qH a2;clear a5 a2;have ar:qI (∀ wr,qe9 w V Y wr->(wr.cell? ⟨w.heap.size,0,none⟩=some (.slice K D S)/\wr.cell? ⟨w.heap.size,1,none⟩=some (.slice G F ad)/\wr.cell? ⟨w.heap.size,2,none⟩=some (.slice P J X)/\wr.cell? ⟨w.heap.size,3,none⟩=some (.slice ai l aj))/\
      wr.cell? ⟨w.heap.size+1,0,none⟩=some (.slice Q E T)/\wr.cell? ⟨w.heap.size+1,1,none⟩=some (.slice L C U)/\wr.cell? ⟨w.heap.size+1,2,none⟩=some (.slice A I W)/\wr.cell? ⟨w.heap.size+1,3,none⟩=some (.slice ae c af)):=qH fun wr b=>by
    obtain ⟨_,_,h2,h3⟩:=b;rw [bl.o] at h2;rw [b5.o] at h3;exact ⟨qgZ h2,qgZ h3⟩
  go_enter func16,ntmps16
  go_wp2_with (go_at_call 24;rw [show (w.alloc _).alloc _=a from cr.o.symm];refine (b3.o _ b4.o.1).mono ?_)
  rintro e cz ⟨rfl,a7⟩;have bg:qI (qe9 w V Y cz):=qH (b4.o.below a7);clear a7 b3;have ⟨⟨O,B,q2,q3⟩,R,H,v,h⟩:=ar.o _ bg.o
  go_wp2_with (go_at_call 24;refine (bn.o _ bg.o.1).mono ?_)
  rintro e w3 ⟨rfl,bm⟩;have a8:qI (qe9 w V Y w3):=qH (bg.o.below bm);clear bm bn O B q2 q3 R H v h;have ⟨⟨O,B,q2,q3⟩,R,H,v,h⟩:=ar.o _ a8.o
  go_wp2_with (go_at_call 45;refine (bt.o _ a8.o.1).mono ?_)
  rintro e cd ⟨rfl,bw⟩;have ac:qI (qe9 w V Y cd):=qH (a8.o.below bw);clear bw bt O B q2 q3 R H v h;have ⟨⟨O,B,q2,q3⟩,R,H,v,h⟩:=ar.o _ ac.o;rcases d:ao with _|_
  · have g:=cx.o d
    subst d g;go_wp2;go_ret;exact ⟨rfl,ac.o.1⟩
  rcases m:ap with _|_
  · have g:=cy.o m
    subst d m g;go_wp2;go_ret;exact ⟨rfl,ac.o.1⟩
  rcases q:aq with _|_
  · have g:=cg.o q
    subst d m q g;go_wp2;go_ret;exact ⟨rfl,ac.o.1⟩
  subst d m q;by_cases ba:c=l
  · subst ba
    go_wp2;clear O B q2 q3 R H v h
    go_loopw [4,8,9] (fun r i s wr=>qz8 w V Y x.lists y.lists r i wr) (fun _ i _ _=>c-(intOf i).toNat)
    case atStart=>exact ⟨rfl,0,kA _,rfl,ac.o,fun j _ _ bf=>by omega⟩
    case round=>
      obtain ⟨rfl,k,c2,rfl,n,b2⟩:=hrel;have ⟨⟨O,B,q2,q3⟩,R,H,v,h⟩:=ar.o _ n;have c5:=n.2.1;have bq:=qH b2;clear b2 O B q2 R H v;by_cases b0:k<c
      · have bu:k<x.lists.length:=by rw [a0.o];exact b0
        have bv:k<y.lists.length:=by rw [bs.o];exact b0
        have ⟨am,a4,bh,be,ct,a2,av,ck,bz⟩:=(cu.o.below n.1).at_ bu;have ⟨ak,a6,B',bi,ca,a7,al,cb,b1⟩:=(b9.o.below n.1).at_ bv;subst ct ca;have c3:(0:Int)<=k:=by omega
        have c6:(k:Int)<c:=by omega
        have ⟨N,ax⟩:=qE (x.lists[k].length);have ⟨M,aw⟩:=qE (y.lists[k].length);rw [<- ax] at av;rw [<- aw] at al;have ⟨b8,bb⟩:=qE (decide (x.lists[k]=y.lists[k]));have a1:=cf.o _ (pA bu);have bk:=ci.o _ (pA bv);have cs:qI (∀ a,wG wr a->yG 46 #[.slice bh N be,.slice B' M bi] a fun e w'=>e= .returned (.bool b8)/\wG a w'):=qH fun a h1=>by
          rw [bb];exact qvW bh B' N M be bi _ _ a ax.symm aw.symm (qbf.later (bz.more (by omega)) h1) (qbf.later (b1.more (by omega)) h1) (ax▸a1.1) (aw▸bk.1) a1.2 bk.2
        have bo:=qH bb;have bj:=qH n;clear ax aw bb a1 bk bz b1 ck cb n;go_wp2
        go_region_held3 (fun w'=>w'.cell? ⟨w.heap.size,3,none⟩=some (.slice (some ⟨am,a4,none⟩) c aj)/\w'.cell? ⟨w.heap.size+1,3,none⟩=some (.slice (some ⟨ak,a6,none⟩) c af)/\w'.cell? ⟨am,a4+k,none⟩=some (.slice bh N be)/\w'.cell? ⟨ak,a6+k,none⟩=some (.slice B' M bi))
          (first|exact ⟨q3,h,av,al⟩|exact ⟨cl,cq,ce,cv⟩)
          (first
            | (go_at_call 46; refine (cs.o _ (bA _ _).drew).mono ?_; rintro e cp ⟨rfl, bx⟩
               have aa:wG wr cp:=(bA wr.heap.size wr).drew.trans bx;have cl:=(aa.cell (p:=⟨w.heap.size,3,none⟩) (by show w.heap.size<_;omega)).trans q3;have cq:=(aa.cell (p:=⟨w.heap.size+1,3,none⟩) (by show w.heap.size+1<_;omega)).trans h;have ce:=(aa.cell (p:=⟨am,a4+k,none⟩) (by show am<_;omega)).trans av;have cv:=(aa.cell (p:=⟨ak,a6+k,none⟩) (by show ak<_;omega)).trans al;have co:=qH aa;clear bx aa))
        have bp:=qH (bj.o.below (co.o.trans ⟨rfl,rfl,rfl,aA _,fun _ _=>rfl⟩));clear av al q3 h;rcases hzkc:b8 with _|_
        · have g:z=false:=by
            rw [cm.o];exact uA fun e=>vF (bo.o.symm.trans hzkc) (by subst e;rfl)
          subst hzkc g;go_wp2;go_ret;exact ⟨rfl,bp.o.1⟩
        · have cc:qI (∀ j (bf:j<x.lists.length) (b7:j<y.lists.length),j<k+1->x.lists[j]=y.lists[j]):=qH fun j bf b7 c1=>by
            by_cases e:j=k
            · subst e
              exact mD (bo.o.symm.trans hzkc)
            · exact bq.o j bf b7 (by omega)
          subst hzkc;go_wp2;go_roundw
          case rel=>exact ⟨rfl,k+1,by omega,by go_num,bp.o,cc.o⟩
          case measure=>simp [intOf];omega
      · have cn:z=true:=ch.o (by trivial) (by trivial) (by trivial) (dD (a0.o.trans bs.o.symm) fun j h1 h2=>bq.o j h1 h2 (by have :=a0.o;omega))
        subst cn;have bj:=qH n;clear n;go_wp2;go_ret;exact ⟨rfl,bj.o.1⟩
  · have g:z=false:=cw.o fun e=>ba e.symm
    subst g;have c7:((l:Int) != (c:Int))=true:=by simp;omega
    clear ba;go_wp2;go_ret;exact ⟨rfl,ac.o.1⟩
def qet (w:World) (A:Option Addr) (Ls:List (List En)):Prop:=∃ a:List Nat,a.length=Ls.length/\Row w w.heap.size A (qbD a)/\∀ i (b:i<Ls.length),qbN w (a.getD i 0) (qac Ls[i])
def qfa (w:World) (A:Option Addr) (rs:List (List Bool)):Prop:=∃ a:List Nat,a.length=rs.length/\Row w w.heap.size A (qbD a)/\∀ i (b:i<rs.length),∃ zz,qbd w zz (a.getD i 0) rs[i]
section
variable {w w':World} {A:Option Addr} {Ls:List (List En)} {rs:List (List Bool)}
def qet.below (c:qet w A Ls) (a:wG w w'):qet w' A Ls:=by
 obtain ⟨b,h1,h2,h3⟩:=c;exact ⟨b,h1,(h2.below a).more a.size,fun i d=>(h3 i d).below a⟩
def qfa.below (a:qfa w A rs) (b:wG w w'):qfa w' A rs:=by
 obtain ⟨c,h1,h2,h3⟩:=a;exact ⟨c,h1,(h2.below b).more b.size,fun i d=>by have ⟨zz,a⟩:=h3 i d;exact ⟨zz,a.below b⟩⟩
def qet.at_ (k:qet w A Ls) {i:Nat} (g:i<Ls.length):∃ b a S,A=some ⟨b,a,none⟩/\b<w.heap.size/\w.cell? ⟨b,a+i,none⟩=some (.pointer (some ⟨S,0,none⟩))/\qbN w S (qac Ls[i]):=by
 obtain ⟨e,h1,h2,h3⟩:=k;have c:i<e.length:=by omega
 obtain ⟨b,a,rfl,j,h⟩:=qiw h2 c;have d:=h3 i g;rw [mA,oA c] at d;exact ⟨b,a,e[i],rfl,j,h,d⟩
def qfa.at_ (k:qfa w A rs) {i:Nat} (g:i<rs.length):∃ b a B zz,A=some ⟨b,a,none⟩/\b<w.heap.size/\w.cell? ⟨b,a+i,none⟩=some (.pointer (some ⟨B,0,none⟩))/\qbd w zz B rs[i]:=by
 obtain ⟨e,h1,h2,h3⟩:=k;have c:i<e.length:=by omega
 obtain ⟨b,a,rfl,j,h⟩:=qiw h2 c;have ⟨zz,d⟩:=h3 i g;rw [mA,oA c] at d;exact ⟨b,a,e[i],zz,rfl,j,h,d⟩
end
def qgs:∀ {Ls:List (List En)} {rs:List (List Bool)},qbu Ls rs↔Ls.length=rs.length/\∀ i (h1:i<Ls.length) (h2:i<rs.length),rs[i].length=Ls[i].length
 |[],[]=>⟨fun _=>⟨rfl,fun i a=>by simp at a⟩,fun _=> .nil⟩
 |[],r::rs=>⟨fun a=>(by cases a),fun a=>by simp at a⟩
 |L::Ls,[]=>⟨fun a=>(by cases a),fun a=>by simp at a⟩
 |L::Ls,r::rs=>by
  constructor
  ·intro a
   cases a with
   |cons a d=>
    have ⟨h1,h2⟩:=qgs.1 d;refine ⟨by simp [h1],fun i=> ?_⟩;cases i with
    |zero=>intro _ _;exact a
    |succ i=>intro c b;exact h2 i (by simpa using c) (by simpa using b)
  ·rintro ⟨h1,h2⟩
   exact .cons (h2 0 (by simp) (by simp)) (qgs.2 ⟨by simpa using h1,fun i c b=>h2 (i+1) (by simpa using c) (by simpa using b)⟩)
def qqJ (a:List En):(qac a).ids.length=a.length:=by simp [qac]
def qqK (Ls:List (List En)) (rs:List (List Bool)) (w:World) (a:Value) (wr:World):Prop:=∃ k:Nat,k<=Ls.length/\a= .int .i64 (k:Int)/\(∀ i (h1:i<Ls.length) (h2:i<rs.length),i<k->rs[i].length=Ls[i].length)/\wG w wr
def qAb (A Y:Option Addr) (m c l af:Nat) (Ls:List (List En)) (rs:List (List Bool)) (w:World) (I:qet w A Ls) (M:qfa w Y rs) (N:Ls.length=m) (L:rs.length=l) (aq:m<=1000000):
  yG 37 #[.slice A m c,.slice Y l af] w fun e w'=>∃ z:Bool,e= .returned (.bool z)/\(z=true↔qbu Ls rs)/\wG w w':=by
 have ag:=qH I;have ab:=qH M;have d:=qH N;have r:=qH L;clear I M N L;by_cases q:m=l
 ·subst q
  go_enter func37,ntmps37
  go_wp2
  go_loopw [5,6,14] (fun u5 u6 C wr=>qqK Ls rs w C wr) (fun _ _ C _=>m-(intOf C).toNat)
  case atStart=>exact ⟨0,kA _,rfl,fun i _ _ a=>by omega,bA _ _⟩
  case round=>
   obtain ⟨k,ae,rfl,W,h⟩:=hrel;rw [d.o] at ae;have X:=qH W;clear W;by_cases T:k<m
   ·have P:k<Ls.length:=by rw [d.o];exact T
    have Q:k<rs.length:=by rw [r.o];exact T
    obtain ⟨b,aj,S,rfl,al,am,K⟩:=((ag.o).below h).at_ P;obtain ⟨ai,ak,B,zz,rfl,ap,q2,U⟩:=((ab.o).below h).at_ Q;have G:=qH (quN zz B rs[k] wr U);have j:=qH (qqH K);rw [qqJ] at j;have ⟨x,E⟩:=qE (rs[k].length);have ⟨y,t⟩:=qE (Ls[k].length);rw [<- E] at G;rw [<- t] at j;have V:=qH E;have O:=qH t;have p:=qH h;have an:(k:Int)<(m:Int):=by omega
    clear E t U K h;by_cases n:x=y
    ·have R:∀ v,wG wr v->qqK Ls rs w (.int .i64 ((k:Int)+1)) v:=fun v ad=>⟨k+1,by rw [d.o];omega,rfl,fun i h1 h2 ao=>by
      by_cases e:i=k
      ·subst e;rw [<- V.o,<- O.o,n]
      ·exact X.o i h1 h2 (by omega),(p.o).trans (ad.mono (p.o).size)⟩
     have ac:=qH R;subst n;clear R
     go_wp2_with (first
      |(go_at_call 80;refine (G.o).mono ?_;rintro e F ⟨rfl,H⟩;obtain rfl:wr=F:=H)
      |(go_at_call 20;refine (j.o).mono ?_;rintro e aa ⟨rfl,s⟩))
     go_roundw
     case rel=>exact ac.o _ s
     case measure=>simp [intOf];omega
    ·have g:¬ qbu Ls rs:=fun a=>n (by rw [V.o,O.o];exact (qgs.1 a).2 k P Q)
     have D:=qH g;have ah:((x:Int)==(y:Int))=false:=nD.2 (by omega);clear g n
     go_wp2_with (first
      |(go_at_call 80;refine (G.o).mono ?_;rintro e F ⟨rfl,H⟩;obtain rfl:wr=F:=H)
      |(go_at_call 20;refine (j.o).mono ?_;rintro e aa ⟨rfl,s⟩))
     go_ret;exact ⟨false,rfl,⟨fun a=>(by cases a),fun a=>absurd a D.o⟩,(p.o).trans (s.mono (p.o).size)⟩
   ·have J:qbu Ls rs:=qgs.2 ⟨by rw [d.o,r.o],fun i h1 h2=>X.o i h1 h2 (by have :=d.o;omega)⟩
    have Z:=qH J;clear J;go_wp2;go_ret;exact ⟨true,rfl,⟨fun _=>Z.o,fun _=>rfl⟩,h⟩
 ·have g:¬ qbu Ls rs:=fun a=>q (by rw [<- d.o,<- r.o];exact (qgs.1 a).1)
  have D:=qH g;have ah:((m:Int)==(l:Int))=false:=nD.2 (by omega);clear g q
  go_enter func37,ntmps37
  go_wp2;go_ret;exact ⟨false,rfl,⟨fun a=>(by cases a),fun a=>absurd a D.o⟩,bA _ _⟩
def qhR:∀ (o:List Pl) (m:Nat) (i k:Int),qbB o m i k= -1\/∃ j,∃ b:j<o.length,qbB o m i k=((m+j:Nat):Int)/\AtO o[j] i k
 |[],m,i,k=> .inl rfl
 |q::o,m,i,k=>by
  rw [qbB];by_cases a:(q.1:Int)=i/\(q.2:Int)=k
  ·rw [eA a]
   exact .inr ⟨0,by simp,by simp,a⟩
  ·rw [dA a]
   rcases qhR o (m+1) i k with e|⟨j,b,e,c⟩
   ·exact .inl e
   ·exact .inr ⟨j+1,by simpa using b,by rw [e];omega,by simpa using c⟩
def qAc {o:List Pl} (g:o.Nodup) {j:Nat} (c:j<o.length):qbB o 0 (o[j].1:Int) (o[j].2:Int)=(j:Int):=by
 have p:=qm5 g c (o[j].1:Int) (o[j].2:Int);rw [eA ⟨rfl,rfl⟩] at p;rcases qhR o 0 (o[j].1:Int) (o[j].2:Int) with e|⟨m,h,e,s⟩
 ·exfalso
  have h2:qbB (o.take (j+1)) 0 (o[j].1:Int) (o[j].2:Int)≠ -1:=by rw [p];omega
  have h3:∀ (a b:List Pl) (n:Nat) (i k:Int),qbB (a++b) n i k= -1->qbB a n i k= -1:=by
   intro a
   induction a with
   |nil=>intro b n i k _;rfl
   |cons q a r=>
    intro b n i k d;rw [bC,qbB] at d;rw [qbB];split at d
    ·omega
    ·rename_i e
     rw [dA e];exact r b _ i k d
  exact h2 (h3 (o.take (j+1)) (o.drop (j+1)) 0 _ _ (by rw [gD];exact e))
 ·rw [e,kB]
  have l:o[m]=o[j]:=qm4 s ⟨rfl,rfl⟩;rcases Nat.lt_trichotomy m j with hmj|hmj|hmj
  ·exact absurd l (dC.1 g m j h c hmj)
  ·rw [hmj]
  ·exact absurd l.symm (dC.1 g j m c h hmj)
def qdM (E:List Pl) (i:Nat) (l:List Pn):List Pn:=l.filterMap fun q=>if qbB E 0 (i:Int) q.1<0 then none else some (qbB E 0 (i:Int) q.1,q.2)
def qg2 {E:List Pl} (d:E.Nodup) {i:Nat} {l:List Pn} {x:Pn}:x∈qdM E i l↔∃ j,∃ a:j<E.length,∃ q∈l,AtO E[j] (i:Int) q.1/\x=((j:Int),q.2):=by
 unfold qdM;rw [List.mem_filterMap];constructor
 ·rintro ⟨q,c,e⟩
  rcases qhR E 0 (i:Int) q.1 with b|⟨j,a,b,g⟩
  ·rw [b,eA (by omega)] at e;cases e
  ·rw [b,dA (by omega)] at e
   injection e with e
   exact ⟨j,a,q,c,g,by rw [<- e,kB]⟩
 ·rintro ⟨j,a,q,c,⟨h1,h2⟩,rfl⟩
  refine ⟨q,c,?_⟩;have :=qAc d a;rw [h1,h2] at this;rw [this,dA (by omega)]
def qhS {key:Nm} {x:Pn}:∀ {l:List En} {i:Nat},x∈qak i l key↔∃ k,∃ b:k<l.length,x∈qbb (i+k) (l[k]).2.1 (qas (l[k]).2.1) key
 |[],i=>by simp [qak]
 |q::l,i=>by
  rw [qak,aC,qhS (l:=l) (i:=i+1)];constructor
  ·rintro (a|⟨k,b,a⟩)
   ·exact ⟨0,by simp,a⟩
   ·exact ⟨k+1,by simpa using b,by rw [show i+(k+1)=i+1+k by omega];simpa using a⟩
  ·rintro ⟨k,b,a⟩
   cases k with
   |zero=>exact .inl a
   |succ k=>exact .inr ⟨k,by simpa using b,by rw [show i+1+k=i+(k+1) by omega];simpa using a⟩
def qg3 {d:List Fd} {ts:List Tm} {key:Nm} {x:Pn}:x∈qbb i d ts key↔x.1=(i:Int)/\((0:Int),x.2)∈qbb 0 d ts key:=by
 unfold qbb;rw [tA,tA];constructor
 ·rintro ⟨t,a,rfl⟩
  exact ⟨rfl,t,a,rfl⟩
 ·rintro ⟨b,t,a,e⟩
  injection e with _ e
  exact ⟨t,a,Prod.ext b.symm e⟩
structure qdN (Ls:List (List En)) (E:List Pl):Prop where
 ins:∀ p∈E,InE Ls p
 rise:qd4 (E.map (qaV Ls))
 good:∀ L∈Ls,qcY L/\qd4 L/\L.length<=1000
def qdN.nodup {E:List Pl} (a:qdN Ls E):E.Nodup:=(aD.1 a.rise).imp fun a e=>by rw [e] at a;exact yE _ a
def qaI {α:Type} {d:α} {l:List α} (a:i<l.length):l.getD i d=l[i]:=by rw [mA,oA a];rfl
def qdN.up {E:List Pl} (b:qdN Ls E) {j m:Nat} (g:j<E.length) (h:m<E.length) (c:E[j].1=E[m].1) (s:E[j].2<E[m].2):j<m:=by
 apply Classical.byContradiction;intro p;have ⟨e,d⟩:=b.ins _ (pA g);have ⟨k,a⟩:=b.ins _ (pA h);rw [qaI e] at d;rw [qaI k] at a;have ⟨_,l,_⟩:=b.good _ (pA e);have q:qaV Ls E[j]=(Ls[E[j].1])[E[j].2]:=by rw [qaV,qaI e,qaI d]
 have n:qaV Ls E[m]=(Ls[E[m].1])[E[m].2]:=by rw [qaV,qaI k,qaI a]
 have r:(Ls[E[m].1])[E[m].2]=(Ls[E[j].1])[E[m].2]'(by simp only [c];exact a):=by simp only [c]
 have i:=dC.1 l E[j].2 E[m].2 d (by simp only [c];exact a) s;rw [<- r,<- q,<- n] at i;rcases Nat.lt_or_eq_of_le (Nat.le_of_not_lt p) with hmj|hmj
 ·have :=dC.1 b.rise m j (by simpa using h) (by simpa using g) hmj
  rw [eC,eC] at this;exact yE _ (Int.lt_trans this i)
 ·subst hmj
  omega
def qAd:∀ {l:List Pn} {last:Int},qa5 last l=true->l.Pairwise (fun p q=>p.1<q.1)/\∀ p∈l,last<p.1:=by
 intro l
 induction l with
 |nil=>intro last _;exact ⟨List.Pairwise.nil,fun p a=>by simp at a⟩
 |cons p l c=>
  intro last a;have ⟨h1,_,_,h2⟩:=qfj.1 a;have ⟨d,b⟩:=c h2;refine ⟨kC.2 ⟨b,d⟩,fun q hq=> ?_⟩;rcases wA.1 hq with rfl|hq
  ·exact h1
  ·exact Int.lt_trans h1 (b q hq)
def qAe (a:qcY L) (b:L.length<=1000) (key:Nm):(qak 0 L key).Pairwise (fun p q=>p.1<q.1)/\∀ p∈qak 0 L key, -1<p.1:=
 qAd (qlv (last:= -1) a (by omega) (by omega))
def qqL {E:List Pl} (g:qdN Ls E) {i:Nat} (t:i<Ls.length) (key:Nm):(qdM E i (qak 0 Ls[i] key)).Pairwise (fun p q=>p.1<q.1)/\∀ p∈qdM E i (qak 0 Ls[i] key), -1<p.1:=by
 have ⟨r,_,v⟩:=g.good _ (pA t);have ⟨h1,h2⟩:=qAe r v key;constructor
 ·unfold qdM
  refine List.Pairwise.filterMap _ (fun p q x b d c a=> ?_) h1;rcases qhR E 0 (i:Int) p.1 with e|⟨j,l,e,h⟩
  ·rw [e,eA (by omega)] at d;cases d
  ·rcases qhR E 0 (i:Int) q.1 with k|⟨m,s,k,n⟩
   ·rw [k,eA (by omega)] at a;cases a
   ·rw [e,dA (by omega)] at d
    rw [k,dA (by omega)] at a;injection d with d
    injection a with a
    subst d a;have :=g.up l s (by have :=h.1;have :=n.1;omega) (by have :=h.2;have :=n.2;omega);simp only;omega
 ·intro p w
  obtain ⟨j,l,q,y,h,rfl⟩:=(qg2 g.nodup).1 w;simp only;omega
def qAf {E:List Pl} (e:qdN Ls E) {key:Nm} {x:Pn}:x∈qak 0 (E.map (qaV Ls)) key↔∃ i,∃ l:i<Ls.length,x∈qdM E i (qak 0 Ls[i] key):=by
 rw [qhS];constructor
 ·rintro ⟨j,b,a⟩
  rw [gB] at b;rw [eC,qg3,kB] at a;have ⟨d,c⟩:=e.ins _ (pA b);rw [qaI d] at c;refine ⟨E[j].1,d,(qg2 e.nodup).2 ⟨j,b,((E[j].2:Int),x.2),qhS.2 ⟨E[j].2,c,?_⟩,⟨rfl,rfl⟩,Prod.ext a.1 rfl⟩⟩;rw [qg3,kB];have h:qaV Ls E[j]=(Ls[E[j].1])[E[j].2]:=by rw [qaV,qaI d,qaI c]
  rw [h] at a;exact ⟨rfl,a.2⟩
 ·rintro ⟨i,l,a⟩
  obtain ⟨j,b,q,n,⟨t,s⟩,rfl⟩:=(qg2 e.nodup).1 a;have ⟨k,r,g⟩:=qhS.1 n;rw [qg3,kB] at g;have m:E[j].2=k:=by have :=g.1;omega
  have p:E[j].1=i:=by omega
  refine ⟨j,by simpa using b,?_⟩;rw [eC,qg3,kB];have h:qaV Ls E[j]=(Ls[i])[k]:=by
   rw [qaV,p,m,qaI l,qaI r]
  rw [h];exact ⟨rfl,g.2⟩
def qdn (Ls:List (List En)) (E:List Pl) (key:Nm) (own:List Nat):List (List Pn):=own.map fun i=>qdM E i (qak 0 (Ls.getD i []) key)
def qbO (ps:List (List Pn)):List (List Int):=ps.map fun l=>l.map (·.1)
def qbv (Ls:List (List En)) (key:Nm):List Nat:=(List.range Ls.length).filter fun i=>decide (key∈qah (Ls.getD i []))
def qg4 {key:Nm}:i∈qbv Ls key↔i<Ls.length/\key∈qah (Ls.getD i []):=by
 unfold qbv;rw [nE,xE,iC]
def qAg (Ls:List (List En)) (key:Nm):(qbv Ls key).Pairwise (· <·):=List.Pairwise.filter _ List.pairwise_lt_range
def qAh {E:List Pl} (d:qdN Ls E) (key:Nm):∀ s∈qbO (qdn Ls E key (qbv Ls key)),qal (-1) s=true:=by
 intro s c;obtain ⟨l,g,rfl⟩:=tA.1 c;obtain ⟨i,b,rfl⟩:=tA.1 g;have ⟨b,_⟩:=qg4.1 b;rw [qaI b];have ⟨h1,h2⟩:=qqL d b key;refine qgr (aD.2 h1) fun a e=> ?_
 obtain ⟨p,h,rfl⟩:=tA.1 e;exact h2 p h
def qAi {E:List Pl} (d:qdN Ls E) (key:Nm):¬ qeD (qbO (qdn Ls E key (qbv Ls key))):=by
 refine qqy (List.pairwise_flatten.2 ⟨fun l v=> ?_,?_⟩)
 ·obtain ⟨m,g,rfl⟩:=tA.1 v
  obtain ⟨i,c,rfl⟩:=tA.1 g;have ⟨c,_⟩:=qg4.1 c;rw [qaI c];exact (aD.2 (qqL d c key).1).imp fun d e=>by omega
 ·refine aD.2 (aD.2 ((qAg Ls key).imp_of_mem fun {a b} D C A=> ?_))
  intro x t y k e;subst e;have ⟨p,w,n⟩:=tA.1 t;have ⟨q,s,h⟩:=tA.1 k;obtain ⟨j,z,F,_,⟨h1,_⟩,rfl⟩:=(qg2 d.nodup).1 w;obtain ⟨m,g,B,_,⟨h2,_⟩,rfl⟩:=(qg2 d.nodup).1 s;simp only at n h;have r:j=m:=by omega
  subst r;omega
def qi9 {E:List Pl} (g:qdN Ls E) {key:Nm} {o:List Pl} (n:qbS (qbO (qdn Ls E key (qbv Ls key))) o):
  o.map (fun p=>((qdn Ls E key (qbv Ls key)).getD p.1 []).getD p.2 (0,[]))=qak 0 (E.map (qaV Ls)) key:=by
 have ⟨ps,w⟩:=qE (qdn Ls E key (qbv Ls key));rw [<- w] at n ⊢;have D:∀ i,i<ps.length->(qbO ps).getD i []=(ps.getD i []).map (·.1):=fun i c=>by
  rw [qaI c,qaI (l:=qbO ps) (by simpa [qbO] using c)];simp [qbO]
 have z:∀ p,InO (qbO ps) p↔p.1<ps.length/\p.2<(ps.getD p.1 []).length:=fun p=>by
  unfold InO;rw [show (qbO ps).length=ps.length by simp [qbO]];refine and_congr_right fun hp=> ?_
  rw [D _ hp,gB]
 have C:∀ p,InO (qbO ps) p->qaA (qbO ps) p=((ps.getD p.1 []).getD p.2 (0,[])).1:=fun p hp=>by
  have ⟨h1,h2⟩:=(z p).1 hp;unfold qaA;rw [D _ h1,qaI (d:=(0,[])) h2,qaI (by simpa using h2)];simp
 have N:qcY (E.map (qaV Ls)):=fun q h=>by
  obtain ⟨p,hp,rfl⟩:=tA.1 h;have ⟨y,v⟩:=g.ins p hp;rw [qaI y] at v;have G:qaV Ls p=(Ls[p.1])[p.2]:=by rw [qaV,qaI y,qaI v]
  rw [G];exact (g.good _ (pA y)).1 _ (pA v)
 have F:(qak 0 (E.map (qaV Ls)) key).Pairwise (fun p q=>p.1<q.1):=by
  have H:∀ (l:List En) (i:Nat),(∀ q∈l,qc9 q.2.1)->(qak i l key).Pairwise (fun p q=>p.1<q.1)/\∀ p∈qak i l key,(i:Int)<=p.1:=by
   intro l
   induction l with
   |nil=>intro i _;exact ⟨List.Pairwise.nil,fun p g=>by simp [qak] at g⟩
   |cons q l O=>
    intro i h;have ⟨J,A⟩:=O (i+1) fun x m=>h x (oB _ m)
    rw [qak];have B:∀ p∈qbb i q.2.1 (qas q.2.1) key,p.1=(i:Int):=fun p hp=>(qg3.1 hp).1
    refine ⟨List.pairwise_append.2 ⟨?_,J,fun a r b s=>by have :=B a r;have :=A b s;omega⟩,fun p hp=> ?_⟩
    ·rcases qlu (i:=i) (h q (eB ..)).zero key with e|⟨t,_,e⟩
     ·rw [e];exact List.Pairwise.nil
     ·rw [e];exact List.pairwise_singleton _ _
    ·rcases aC.1 hp with hp|hp
     ·rw [B p hp];omega
     ·have :=A p hp;omega
  exact (H _ 0 N).1
 refine qig (R:=fun p q:Pn=>p.1<q.1) (fun _ g=>yE _ g) (fun _ _ g k=>yE _ (Int.lt_trans g k)) ?_ F fun x=> ?_
 ·refine aD.2 (n.rise.imp_of_mem fun {p q} hp h M=> ?_)
  rwa [C p ((n.mem p).1 hp),C q ((n.mem q).1 h)] at M
 ·rw [tA,qAf g]
  constructor
  ·rintro ⟨p,hp,rfl⟩
   have ⟨h1,h2⟩:=(z p).1 ((n.mem p).1 hp);rw [qaI h1] at h2;rw [qaI h1,qaI h2];have ⟨x,m⟩:=qE (ps[p.1]);have I:x∈qdn Ls E key (qbv Ls key):=by rw [<- w,m];exact pA h1
   have ⟨i,c,e⟩:=tA.1 I;rw [m] at e;have ⟨c,_⟩:=qg4.1 c;rw [qaI c] at e;exact ⟨i,c,by rw [e];exact pA h2⟩
  ·rintro ⟨i,c,m⟩
   have K:i∈qbv Ls key:=by
    refine qg4.2 ⟨c,?_⟩;rw [qaI c];have ⟨j,S,q,h,_⟩:=(qg2 g.nodup).1 m;refine qef.2 ((qi2 (i:=0)).1 fun e=> ?_)
    rw [e] at h;simp at h
   have L:qdM E i (qak 0 Ls[i] key)∈ps:=by
    rw [w];refine tA.2 ⟨i,K,?_⟩;rw [qaI c]
   have ⟨a,r,Q⟩:=nC L;rw [<- Q] at m;have ⟨b,s,P⟩:=nC m;refine ⟨(a,b),(n.mem _).2 ((z _).2 ⟨r,by rw [qaI r];exact s⟩),?_⟩;rw [qaI r,qaI s,P]
def PoK (t:TypeId):Prop:=t=74\/t=3
structure qay (b0:Nat) (w w':World):Prop where
 size:w.heap.size<=w'.heap.size
 low:∀ k,k<b0->w'.heap[k]?=w.heap[k]?
 kinds:∀ (k:Nat) (cs:Array Value) (t:TypeId) (fr:Nat × Nat),w.heap[k]?=some (.cells cs t fr)->PoK t->w'.heap[k]?=some (.cells cs t fr)
section
variable {b0 zz:Nat} {w w' w'':World} {A:Option Addr} {xs:List Value} {t:TypeId}
def qay.trans (b:qay b0 w w') (k:qay b0 w' w''):qay b0 w w'':=⟨lA b.size k.size,fun i a=>(k.low i a).trans (b.low i a),fun i cs t fr a c=>k.kinds i cs t fr (b.kinds i cs t fr a c) c⟩
def qay.of_below (b:wG w w') (c:b0<=w.heap.size):qay b0 w w':=⟨b.size,fun k a=>b.block k (by omega),fun k cs t fr a _=>(b.block k (gA.1 a).1).trans a⟩
def qay.setCell {o:Nat} {cs:Array Value} (c:w.heap[P]?=some (.cells cs t fr)) (g:b0<=P) (b:¬ PoK t) (v:Value):qay b0 w (w.setCell ⟨P,o,none⟩ v):=
 ⟨by simp,fun k a=>rA _ _ _ _ (by show k≠P;omega),fun k cs' i h a d=>(rA _ _ _ _ (by rintro rfl;rw [c] at a;injection a with a;injection a with _ e _;subst e;exact b d)).trans a⟩
def qay.grown {size:Nat} (c:w.ownsRow zz E size v n xs) (h:b0<=zz) (g:¬ PoK E) (b:w.grownBy w' v.ownBlock) (i:zz<=w.heap.size):qay b0 w w':=
 ⟨b.size,fun k a=>b.block k (by omega) (fun e=>by have :=(c.lt k e.symm).1;omega),fun k cs t fr a d=>(b.block k (gA.1 a).1 (fun e=>qan c a (fun e=>g (e▸d)) e.symm)).trans a⟩
def qat (b0:Nat) (t:TypeId) (w:World) (A:Option Addr) (xs:List Value):Prop:=xs=[]\/∃ b a,A=some ⟨b,a,none⟩/\b<w.heap.size/\(b<b0\/∃ cs fr,w.heap[b]?=some (.cells cs t fr))/\∀ j u,xs[j]?=some u->w.cell? ⟨b,a+j,none⟩=some u
def qat.keep (d:qat b0 t w A xs) (k:PoK t) (g:qay b0 w w'):qat b0 t w' A xs:=by
 rcases d with d|⟨b,h,e,l,c,m⟩
 ·exact .inl d
 ·have i:w'.heap[b]?=w.heap[b]?:=by
   rcases c with c|⟨cs,fr,c⟩
   ·exact g.low b c
   ·rw [g.kinds b cs t fr c k,c]
  exact .inr ⟨b,h,e,tB l g.size,c.imp id fun ⟨cs,fr,c⟩=>⟨cs,fr,by rw [i,c]⟩,fun j u n=>by rw [tC (a:=⟨b,h+j,none⟩) i];exact m j u n⟩
def qat.row (a:qat b0 t w A xs):Row w w.heap.size A xs:=by
 rcases a with a|⟨b,g,e,c,_,d⟩
 ·exact .inl a
 ·exact .inr ⟨b,g,e,c,d⟩
def qat.of_own {size:Nat} (a:w.ownsRow zz t size (.slice A n c) n xs):qat b0 t w A xs:=by
 rcases a.2 with ⟨d,i⟩|⟨g,r,q,d,m,j,_⟩
 ·exact .inl (sB (by rw [a.1,i];simp))
 ·injection d with h1 h2 h3
  subst h1;rcases qbx a with h|⟨b,p,e,l,k⟩
  ·exact .inl h
  ·injection e with e
   injection e with e1 e2
   subst e1 e2;exact .inr ⟨g,0,rfl,l,.inr ⟨_,_,j⟩,k⟩
def qat.of_safe (a:qcU 0 w A xs):qat b0 3 w A xs:=by
 rcases a with a|⟨b,d,e,⟨h1,h2⟩,c⟩
 ·exact .inl a
 ·exact .inr ⟨b,d,e,h1,.inr (h2.resolve_left (Nat.not_lt_zero _)),c⟩
def qbn (b0:Nat) (w:World) (A:Option Addr) (l:List Pn):Prop:=∃ cs,qao (qat b0 3 w) l cs/\qat b0 74 w A cs
def qbn.keep {l:List Pn} (a:qbn b0 w A l) (b:qay b0 w w'):qbn b0 w' A l:=by
 obtain ⟨cs,h1,h2⟩:=a;exact ⟨cs,h1.imp fun _ _ a=>a.keep (.inr rfl) b,h2.keep (.inl rfl) b⟩
def qbn.posts {l:List Pn} (a:qbn b0 w A l):qbf w w.heap.size A l:=by
 obtain ⟨cs,h1,h2⟩:=a;exact ⟨cs,h1.imp fun _ _ a=>a.row,h2.row⟩
def qbn.of_new {l:List Pn} (a:qbH b w v l):∃ A c,v= .slice A l.length c/\(l.length<=c/\c<=maxLen)/\qbn b0 w A l:=by
 obtain ⟨cs,h1,h2⟩:=a;obtain ⟨A,c,rfl,d,e⟩:=qeo h1;exact ⟨A,c,rfl,d,cs,h2.imp fun _ _ a=> .of_safe a.1,.of_own h1⟩
def LG (b0:Nat) (w:World) (ls:List (List Pn)) (cs:List Value):Prop:=cs.length=ls.length/\∀ i (a:i<ls.length),∃ A c,cs[i]?=some (.slice A ls[i].length c)/\(ls[i].length<=c/\c<=maxLen)/\qbn b0 w A ls[i]
def LG.nil:LG b0 w [] []:=⟨rfl,fun i a=>by simp at a⟩
def LG.keep {ls:List (List Pn)} (a:LG b0 w ls cs) (d:qay b0 w w'):LG b0 w' ls cs:=⟨a.1,fun i b=>by have ⟨A,c,h1,h2,h3⟩:=a.2 i b;exact ⟨A,c,h1,h2,h3.keep d⟩⟩
def LG.cells {ls:List (List Pn)} (a:LG b0 w ls cs):qf0 w w.heap.size ls cs:=⟨a.1,fun i b=>by have ⟨A,c,h1,h2,h3⟩:=a.2 i b;exact ⟨A,c,h1,h2,h3.posts⟩⟩
def LG.snoc {ls:List (List Pn)} (a:LG b0 w ls cs) {l:List Pn} {A:Option Addr} {c:Nat} (h:l.length<=c/\c<=maxLen) (n:qbn b0 w A l):LG b0 w (ls++[l]) (cs++[.slice A l.length c]):=by
 refine ⟨by simp [a.1],fun i g=> ?_⟩;by_cases b:i<ls.length
 ·have ⟨j,k,h1,h2,h3⟩:=a.2 i b
  rw [cF b,fD (by rw [a.1];exact b)];exact ⟨j,k,h1,h2,h3⟩
 ·have p:i<ls.length+1:=by simpa using g
  have e:i=ls.length:=by omega
  subst e;have m:(ls++[l])[ls.length]'(by simp)=l:=by simp
  have d:(cs++[Value.slice A l.length c])[ls.length]?=some (.slice A l.length c):=by rw [<- a.1];simp
  rw [m];exact ⟨A,c,d,h,n⟩
def qg5 {v1 v2:Value} (h1:w.ownsRow k t b v1 i xs) (h2:w.ownsRow n E c v2 j cs) (h:E≠t) (d:w.grownBy w' v2.ownBlock):w'.ownsRow k t b v1 i xs:=
 qaq h1 fun g a=>d.block g (h1.lt g a).2 fun e=>qeU h2 h1 h a e.symm
end
theorem qhT:(prog.info? 71).map (fun i=>(i.zero,i.size,i.bytes))=some (some (.slice none 0 0),1,24):=by kernel_rfl
structure qbU (T:TypeId) (b0 zz:Nat) (P:Nat) (v1 v2 v3 v4:Value) (ks:List Nm) (ls:List (List Pn)) (w:World):Prop where
 cells:w.heap[P]?=some (.cells #[v1,v2,v3,v4] T (0,0))
 le:b0<=P
 hbase:b0<=zz
 size:zz<=w.heap.size
 keys:w.ownsRow zz 9 1 v3 ks.length (qad ks)
 lists:∃ cs,w.ownsRow zz 71 1 v4 ls.length cs/\LG b0 w ls cs
section
variable {T:TypeId} {b0 zz P:Nat} {v1 v2 v3 v4:Value} {ks:List Nm} {ls:List (List Pn)} {w w':World}
def qaw {x y z:Value} (a:w.heap[b]?=some (.cells #[x,y,z,u] t (0,0))):
  (w.cell? ⟨b,0,none⟩=some x/\w.cell? ⟨b,1,none⟩=some y/\w.cell? ⟨b,2,none⟩=some z/\w.cell? ⟨b,3,none⟩=some u)/\
   w.frozen? ⟨b,0,none⟩=false/\w.frozen? ⟨b,1,none⟩=false/\w.frozen? ⟨b,2,none⟩=false/\w.frozen? ⟨b,3,none⟩=false:=by
 simp [World.cell?,World.frozen?,a]
def qbU.lt (a:qbU T b0 zz P v1 v2 v3 v4 ks ls w):P<w.heap.size:=(gA.1 a.cells).1
def qbU.below (b:qbU T b0 zz P v1 v2 v3 v4 ks ls w) (a:wG w w'):qbU T b0 zz P v1 v2 v3 v4 ks ls w':=by
 have c:=b.lt;obtain ⟨h1,h2,h3,d,g,cs,h,e⟩:=b;exact ⟨(a.block P c).trans h1,h2,h3,lA d a.size,qaf g a,cs,qaf h a,e.keep (.of_below a (by omega))⟩
def qbU.key (q:qbU T b0 zz P v1 v2 v3 v4 ks ls w) (x:¬ PoK T) (l:T≠9) (E:T≠71) {v':Value} {k:Nm} (n:w'.ownsRow zz 9 1 v' (ks.length+1) (qad ks++[.string ⟨k.toArray⟩])) (a:w.grownBy w' v3.ownBlock):
  w'.heap[P]?=some (.cells #[v1,v2,v3,v4] T (0,0))/\qbU T b0 zz P v1 v2 v' v4 (ks++[k]) ls (w'.setCell ⟨P,2,none⟩ v')/\Below b0 w (w'.setCell ⟨P,2,none⟩ v')/\KeepsOthers w (w'.setCell ⟨P,2,none⟩ v')/\∀ (k:Nat) (cs:Array Value) (t:TypeId) (fr:Nat × Nat),k≠P->w.heap[k]?=some (.cells cs t fr)->t≠9->(w'.setCell ⟨P,2,none⟩ v').heap[k]?=some (.cells cs t fr):=by
 have D:=q.lt;obtain ⟨h1,h2,h3,r,b,cs,F,y⟩:=q;have d:w'.heap[P]?=some (.cells #[v1,v2,v3,v4] T (0,0)):=(a.block P D (fun e=>qan b h1 l e.symm)).trans h1;have m:qay b0 w w':=qay.grown b h3 (by unfold PoK;decide) a r;have A:qay b0 w' (w'.setCell ⟨P,2,none⟩ v'):=qay.setCell d h2 x v';refine ⟨d,⟨by simpa using lB w' P 2 _ _ v' d,h2,h3,by have :=m.size;simp;omega,?_,cs,?_,y.keep (m.trans A)⟩,(((bA b0 w).grown a (lA h3 r) fun k c=>by have :=(b.lt k c).1;omega).setCell (p:=⟨P,2,none⟩) h2 v'),(KeepsOthers.of_grownBy a fun j o z h=>by
   have ⟨cs',G,C⟩:=qd0 b z;rw [C] at h;injection h with h;rw [<- h];rfl).trans (KeepsOthers.setCell _ _ _),fun k cs' t fr B c v=>(rA _ _ _ _ (show k≠P from B)).trans ((a.block k (gA.1 c).1 (fun e=>qan b c v e.symm)).trans c)⟩
 ·rw [iA,bB]
  have :=qaq (w':=w'.setCell ⟨P,2,none⟩ v') n fun g i=>rA _ _ _ _ (fun e=>qan n d l (by rw [i,e]))
  simpa [qad] using this
 ·have s:=qg5 F b (by decide) a
  exact qaq s fun g i=>rA _ _ _ _ (fun e=>qan s d E (by rw [i,e]))
def qbU.list (s:qbU T b0 zz P v1 v2 v3 v4 ks ls w) (z:¬ PoK T) (C:T≠9) (x:T≠71) {v':Value} {l:List Pn} {A:Option Addr} {c:Nat} (D:l.length<=c/\c<=maxLen) (H:qbn b0 w A l) {cs:List Value} (b:w.ownsRow zz 71 1 v4 ls.length cs) (B:LG b0 w ls cs)
  (r:w'.ownsRow zz 71 1 v' (ls.length+1) (cs++[.slice A l.length c])) (a:w.grownBy w' v4.ownBlock):
  w'.heap[P]?=some (.cells #[v1,v2,v3,v4] T (0,0))/\qbU T b0 zz P v1 v2 v3 v' ks (ls++[l]) (w'.setCell ⟨P,3,none⟩ v')/\Below b0 w (w'.setCell ⟨P,3,none⟩ v')/\KeepsOthers w (w'.setCell ⟨P,3,none⟩ v')/\∀ (k:Nat) (cs:Array Value) (t:TypeId) (fr:Nat × Nat),k≠P->w.heap[k]?=some (.cells cs t fr)->t≠71->(w'.setCell ⟨P,3,none⟩ v').heap[k]?=some (.cells cs t fr):=by
 have J:=s.lt;obtain ⟨h1,h2,h3,v,K,_⟩:=s;have h:w'.heap[P]?=some (.cells #[v1,v2,v3,v4] T (0,0)):=(a.block P J (fun e=>qan b h1 x e.symm)).trans h1;have q:qay b0 w w':=qay.grown b h3 (by unfold PoK;decide) a v;have F:qay b0 w' (w'.setCell ⟨P,3,none⟩ v'):=qay.setCell h h2 z v';refine ⟨h,⟨by simpa using lB w' P 3 _ _ v' h,h2,h3,by have :=q.size;simp;omega,?_,cs++[.slice A l.length c],?_,(B.snoc D H).keep (q.trans F)⟩,(((bA b0 w).grown a (lA h3 v) fun k d=>by have :=(b.lt k d).1;omega).setCell (p:=⟨P,3,none⟩) h2 v'),(KeepsOthers.of_grownBy a fun j o E i=>by
   have ⟨cs',L,I⟩:=qd0 b E;rw [I] at i;injection i with i;rw [<- i];rfl).trans (KeepsOthers.setCell _ _ _),fun k cs' t fr G d y=>(rA _ _ _ _ (show k≠P from G)).trans ((a.block k (gA.1 d).1 (fun e=>qan b d y e.symm)).trans d)⟩
 ·have n:=qg5 K b (by decide) a
  exact qaq n fun g m=>rA _ _ _ _ (fun e=>qan n h C (by rw [m,e]))
 ·rw [iA,bB]
  exact qaq r fun g m=>rA _ _ _ _ (fun e=>qan r h x (by rw [m,e]))
def qbU.firm (x:b0<=N):qaE N (fun W=>qbU T b0 zz P v1 v2 v3 v4 ks ls W):=fun W l o c z p h b=>by
 obtain ⟨h1,h2,h3,q,r,cs,w,m⟩:=b;have a:∀ (k:Nat) (cs:Array Value) (t:TypeId) (fr:Nat × Nat),W.heap[k]?=some (.cells cs t fr)->(W.putObj l c).heap[k]?=some (.cells cs t fr):=fun k cs t fr a=>(World.putObj_heap_other (by rintro rfl;rw [p] at a;injection a with a;rw [a] at h;cases h)).trans a
 have j:qay b0 W (W.putObj l c):=⟨by simp,fun k a=>World.putObj_heap_other (by omega),fun k cs t fr b _=>a k cs t fr b⟩;have d:∀ {E:TypeId} {s n:Nat} {v:Value} {xs:List Value},W.ownsRow zz E s v n xs->(W.putObj l c).ownsRow zz E s v n xs:=fun b=>qaq b fun g i=>by
  have ⟨cs',y,e⟩:=qd0 b i;rw [e,a _ _ _ _ e]
 exact ⟨a _ _ _ _ h1,h2,h3,by simpa using q,d r,cs,d w,m.keep j⟩
def qbU.rows (d:qbU T b0 zz P v1 v2 (.slice A k n) (.slice A' b c) ks ls w):Row w w.heap.size A (qad ks)/\qc0 w w.heap.size A' ls:=by
 obtain ⟨_,_,_,_,e,cs,g,a⟩:=d;exact ⟨qbx e,cs,a.cells,qbx g⟩
def qbU.setOther (n:qbU T b0 zz P v1 v2 v3 v4 ks ls w) {R o:Nat} {cs:Array Value} {t:TypeId} {fr:Nat × Nat} (b:w.heap[R]?=some (.cells cs t fr)) (i:b0<=R) (k:R≠P) (j:¬ PoK t) (p:t≠9) (h:t≠71) (v:Value):qbU T b0 zz P v1 v2 v3 v4 ks ls (w.setCell ⟨R,o,none⟩ v):=by
 obtain ⟨h1,h2,h3,m,c,cs',d,l⟩:=n;exact ⟨(rA _ _ _ _ (show P≠R from Ne.symm k)).trans h1,h2,h3,by simpa using m,qaq c fun g a=>rA _ _ _ _ (fun e=>qan c b p (by rw [a,e])),cs',
  qaq d fun g a=>rA _ _ _ _ (fun e=>qan d b h (by rw [a,e])),l.keep (qay.setCell b i j v)⟩
def qbU.read (j:qbU T b0 zz P v1 v2 v3 v4 ks ls w):∃ c a b d,v3= .slice c ks.length a/\v4= .slice b ls.length d/\ks.length<=a/\ls.length<=d/\Row w w.heap.size c (qad ks)/\qc0 w w.heap.size b ls:=by
 obtain ⟨_,_,_,_,k,cs,m,h⟩:=j;obtain ⟨c,a,rfl,g,l⟩:=qaK k;obtain ⟨b,d,rfl,e,i⟩:=qaK m;exact ⟨c,a,b,d,rfl,rfl,g,e,l,cs,h.cells,i⟩
end
def qAj {l:List Pn} (a:j+1=l.length):l.getLast?=some (l.getD j (0,[])):=by
 rw [List.getLast?_eq_getElem?,mA,<- a];simp;rw [oA (by omega)];rfl
def qAk {l:List Pn} (a:j+1=l.length):qcZ n l=(qa5 (-1) l&&decide ((l.getD j (0,[])).1<(n:Int))):=by
 unfold qcZ;rw [qAj a];have :l.length≠0:=by omega
 simp [this]
def qAl {l:List Pn} (a:l.length=0):qcZ n l=false:=by
 have :l=[]:=sB a;subst this;rfl
def qAm (i a:Nat) (A:Option Addr) (n c:Nat) (l:List Pn) (w:World) (v:w.heap[i]?=some (.cells #[.int .i64 (a:Int)] 3 (0,0))) (D:l.length=n) (V:n<=9223372036854775807) (t:qbf w w.heap.size A l) (B:∀ p∈l,p.2.length<=9223372036854775807):
    yG 160 #[.slice A n c,.pointer (some ⟨i,0,none⟩)] w fun e w'=>e= .returned (.bool (!qcZ a l))/\wG w w':=by
  have X:=kG v;rcases sF n with h0|h0
  · have g:qcZ a l=false:=qAl (by omega)
    rw [g];subst h0;clear t B D g
    go_enter func160,ntmps160
    go_wp2
    go_quiet (fail)
    go_wp2;go_ret;exact ⟨rfl,⟨rfl,rfl,rfl,aA _,fun _ _=>rfl⟩⟩
  · obtain ⟨j,R⟩:∃ j,j+1=n:=⟨n-1,by omega⟩
    have Y:((n:Int)==0)=false:=by rw [nD];omega
    have g:=qAk (n:=a) (l:=l) (j:=j) (by omega);have x:=qH (qoE A n c l w.drew D V t B);have ⟨q,r,T,Q,M,_⟩:=t.at_ (k:=j) (by omega);subst T;have ⟨y,J⟩:=qE ((l.getD j (0,[])).1);rw [<- J] at g M;have ⟨m,I⟩:=qE (qa5 (-1) l);rw [<- I] at g x;have ⟨z,L⟩:=qE (qcZ a l);rw [<- L] at g ⊢;have ae:IntKind.i64.wrap ((n:Int)-1)=(j:Int):=by rw [iG _ (by omega)];omega
    have aa:(0:Int)<=j:=by omega
    have ad:(j:Int)<n:=by omega
    have H:=qH g;have P:=mG v;have K:qI (∀ w',wG w w'->w'.cell? ⟨i,0,none⟩=some (.int .i64 (a:Int))/\w'.cell? ⟨q,r+j*2,none⟩=some (.int .i64 y)):=qH fun w' G=>⟨(G.cell (p:=⟨i,0,none⟩) P).trans X,(G.cell (p:=⟨q,r+j*2,none⟩) Q).trans M⟩
    have s:qI (wG w w.drew):=qH ⟨rfl,rfl,rfl,aA _,fun _ _=>rfl⟩;clear J I L R g t B D v;cases m with
    |false=>
      have U:z=false:=H.o;subst U
      go_enter func160,ntmps160
      go_upto_region 1 with fail
      refine wp_region_noPanic ?_;refine wp_region_held_drew (S:=fun _=>True) (by kernel_rfl) (trivial) (fun ac=> ?_)
      refine tk 0 (.slice (some ⟨q,r,none⟩) n c) rfl (Or.inl ⟨by rfl,fun b d=>by go_simp⟩) ?_
      try simp only [Act.put,zA,zB,zD,zE,zF]
      refine tk 1 (.int .i64 (n:Int)) rfl (Or.inl ⟨by rfl,fun b d=>by go_simp⟩) ?_
      try simp only [Act.put,zA,zB,zC,zD,zE,zF]
      refine tk 2 (.bool false) rfl (Or.inl ⟨by rfl,fun b d=>by go_simp⟩) ?_
      try simp only [Act.put,zA,zB,zC,zD,zE,zF]
      refine tk 3 (.bool false) rfl (Or.inl ⟨by rfl,fun b d=>by go_simp⟩) ?_
      try simp only [Act.put,zA,zB,zC,zD,zE,zF]
      refine tk 4 (.slice (some ⟨q,r,none⟩) n c) rfl (Or.inl ⟨by rfl,fun b d=>by go_simp⟩) ?_
      try simp only [Act.put,zA,zB,zC,zD,zE,zF]
      refine tkr (rs:=[5]) (by kernel_rfl) (by simp) ?_;refine tkc rfl (fun W F=> ?_) tkn
      try simp only [zA,zB,zC]
      go_simp
      go_at_call 115
      (with_reducible refine x.o.mono ?_)
      rintro e C ⟨rfl,E⟩;have h:qI (wG w C):=qH (s.o.trans E)
      go_wp2_with fail
      refine F.out _ _ ?_ (fun Z=> ?_)
      · exact trivial
      clear F W
      try simp only [Act.put,zA,zB,zC,zD,zE,zF]
      refine tk 6 (.bool true) rfl (Or.inl ⟨by rfl,fun b d=>by go_simp⟩) ?_
      try simp only [Act.put,zA,zB,zC,zD,zE,zF]
      refine tk 7 (.bool true) rfl (Or.inl ⟨by rfl,fun b d=>by go_simp⟩) ?_
      try simp only [Act.put,zA,zB,zC,zD,zE,zF]
      refine tk 8 (.bool true) rfl (Or.inl ⟨by rfl,fun b d=>by go_simp⟩) ?_
      try simp only [Act.put,zA,zB,zC,zD,zE,zF]
      refine tk 9 undef rfl (Or.inr ⟨by rfl,rfl⟩) ?_
      try simp only [Act.put,zA,zB,zC,zD,zE,zF]
      refine tk 10 undef rfl (Or.inr ⟨by rfl,rfl⟩) ?_
      try simp only [Act.put,zA,zB,zC,zD,zE,zF]
      refine tk 11 undef rfl (Or.inr ⟨by rfl,rfl⟩) ?_
      try simp only [Act.put,zA,zB,zC,zD,zE,zF]
      refine tk 12 undef rfl (Or.inr ⟨by rfl,rfl⟩) ?_
      try simp only [Act.put,zA,zB,zC,zD,zE,zF]
      refine tk 13 undef rfl (Or.inr ⟨by rfl,rfl⟩) ?_
      try simp only [Act.put,zA,zB,zC,zD,zE,zF]
      refine tk 14 undef rfl (Or.inr ⟨by rfl,rfl⟩) ?_
      try simp only [Act.put,zA,zB,zC,zD,zE,zF]
      refine tk 15 undef rfl (Or.inr ⟨by rfl,rfl⟩) ?_
      try simp only [Act.put,zA,zB,zC,zD,zE,zF]
      refine tk 16 undef rfl (Or.inr ⟨by rfl,rfl⟩) ?_
      try simp only [Act.put,zA,zB,zC,zD,zE,zF]
      refine tk 17 undef rfl (Or.inr ⟨by rfl,rfl⟩) ?_
      try simp only [Act.put,zA,zB,zC,zD,zE,zF]
      refine tk 18 (.bool true) rfl (Or.inl ⟨by rfl,fun b d=>by go_simp⟩) ?_
      try simp only [Act.put,zA,zB,zC,zD,zE,zF]
      refine tk 19 (.bool true) rfl (Or.inl ⟨by rfl,fun b d=>by go_simp⟩) ?_
      try simp only [Act.put,zA,zB,zC,zD,zE,zF]
      refine tkd (by kernel_rfl) ?_ _;refine NoPanic.normal ?_;go_wp2;go_ret;exact ⟨rfl,h.o⟩
    |true=>
      have N:z=decide (y<(a:Int)):=by rw [H.o,sD]
      have ab:decide ((a:Int)<=y)= !z:=by
        rw [N];by_cases O:y<(a:Int)
        · rw [yA O,uA (by omega)];rfl
        · rw [uA O,yA (by omega)];rfl
      clear N
      go_enter func160,ntmps160
      go_wp2
      go_region_held3 (fun w'=>(w'.cell? ⟨i,0,none⟩=some (.int .i64 (a:Int))/\w'.cell? ⟨q,r+j*2,none⟩=some (.int .i64 y))/\wG w w')
        (first|exact ⟨K.o _ s.o,s.o⟩|exact ⟨K.o _ h.o,h.o⟩)
        (first
          | (go_at_call 115; (with_reducible refine x.o.mono ?_); rintro e C ⟨rfl, E⟩
             have h:qI (wG w C):=qH (s.o.trans E)))
      go_wp2;go_ret;exact ⟨rfl,h.o⟩
def asJ (ks:List (List Nm)) (i j:Nat) (a:Nm):List Nat:=((List.range i).filter fun x=>decide (a∈ks.getD x []))++(if a∈(ks.getD i []).take j then [i] else [])
def qqM (ks:List (List Nm)) (a:Nm):asJ ks 0 0 a=[]:=by simp [asJ]
def qAn {ks:List (List Nm)} (g:qaW (ks.getD i [])) (d:j<(ks.getD i []).length) (a:Nm):asJ ks i (j+1) a=if a=(ks.getD i [])[j] then asJ ks i j a++[i] else asJ ks i j a:=by
 have ⟨l,m⟩:=qE (ks.getD i []);unfold asJ;simp only [<- m] at g d ⊢;rw [aB d];by_cases c:a=l[j]
 ·have h:a∉l.take j:=fun b=>by
   have ⟨x,k,e⟩:=nC b;rw [List.getElem_take] at e;rw [sA] at k;have :=dC.1 g x j (by omega) d (by omega);rw [e,c] at this;exact nm_irrefl11 _ this
  rw [eA c,dA h,eA (List.mem_append_right _ (yB.2 c)),mC]
 ·rw [dA c]
  congr 1;by_cases b:a∈l.take j
  ·rw [eA b,eA (List.mem_append_left _ b)]
  ·rw [dA b,dA (fun h2=>(aC.1 h2).elim b (fun h3=>c (yB.1 h3)))]
where
 nm_irrefl11 (x:Nm):¬ x<x:=List.lt_irrefl x
def qAo {ks:List (List Nm)} (c:j=(ks.getD i []).length) (b:Nm):asJ ks i j b=asJ ks (i+1) 0 b:=by
 unfold asJ;rw [c,fC,List.take_zero,dA (by simp :¬ b∈([]:List Nm)),mC,List.range_succ,lF];congr 1;by_cases a:b∈ks.getD i []
 ·rw [eA a,xF (by simpa using a)];rfl
 ·rw [dA a,yF (by simpa using a)];rfl
def qAp (Ls:List (List En)) (b:Nm):asJ (Ls.map qah) Ls.length 0 b=qbv Ls b:=by
 unfold asJ qbv;rw [List.take_zero,dA (by simp :¬ b∈([]:List Nm)),mC];refine List.filter_congr fun x a=> ?_
 rw [xE] at a;rw [qaI (by simpa using a),qaI a,eC]
theorem qAq:(prog.info? 157).map (fun i=>(i.zero,i.size,i.bytes))=some (some (.pointer none),1,8):=by kernel_rfl
def qeM (l:List Nat):List Value:=qaa (qaL l)
structure qeN (lo:Nat) (names:List Nm) (Gs:List Nat) (ao:Nm->List Nat) (vs:List Value) (w:World):Prop where
 glen:Gs.length=names.length
 vlen:vs.length=names.length
 cells:∀ q (h:q<Gs.length) (h2:q<vs.length),w.heap[Gs[q]]?=some (.cells #[vs[q]] 159 (0,0))
 many:qcV 3 1 lo w vs (names.map fun n=>(ao n).length) (names.map fun n=>qeM (ao n))
 once:Gs.Nodup
section
variable {lo:Nat} {names:List Nm} {Gs:List Nat} {ao:Nm->List Nat} {vs:List Value} {w w' w7:World}
def qeN.below (a:qeN lo names Gs ao vs w) (b:wG w w'):qeN lo names Gs ao vs w':=
 ⟨a.glen,a.vlen,fun q h1 h2=>by
  have :=a.cells q h1 h2;rw [b.block _ (gA.1 this).1,this],a.many.below b,a.once⟩
def qeN.step (a:qeN lo names Gs ao vs w) (l:qaW names) {q i:Nat} (c:q<names.length) {v':Value} {h:Nm->List Nat} (z:∀ n,h n=if n=names[q] then ao n++[i] else ao n)
  (G:w7.ownsRow lo 3 1 v' ((ao names[q]).length+1) (qeM (ao names[q])++[.int .i64 (i:Int)])) (C:w.grownBy w7 (vs[q]'(by rw [a.vlen];exact c)).ownBlock)
  (hv:v'.ownBlock=(vs[q]'(by rw [a.vlen];exact c)).ownBlock\/v'.ownBlock=some w.heap.size):
  w7.heap[Gs[q]'(by rw [a.glen];exact c)]?=some (.cells #[vs[q]'(by rw [a.vlen];exact c)] 159 (0,0))/\
   qeN lo names Gs h (vs.set q v') (w7.setCell ⟨Gs[q]'(by rw [a.glen];exact c),0,none⟩ v'):=by
 have m:q<vs.length:=by rw [a.vlen];exact c
 have v:q<Gs.length:=by rw [a.glen];exact c
 have F:=a.many.own q m;have B:∀ (k:Nat) (cs:Array Value),w.heap[k]?=some (.cells cs 159 (0,0))->w7.heap[k]?=some (.cells cs 159 (0,0)):=fun k cs s=>by
  rw [C.block k (gA.1 s).1 ?_,s];intro e;rcases F.2 with ⟨t,_⟩|⟨g,H,I,t,_,d,_⟩
  ·rw [t] at e;cases e
  ·rw [t] at e
   simp only [Value.ownBlock,jB] at e;subst e;rw [s] at d;injection d with d
   injection d with _ d
   exact absurd d (by decide)
 have p:=B _ _ (a.cells q v m);have A:∀ r (l:r<names.length),r≠q->names[r]≠names[q]:=fun r x D e=>by
  rcases Nat.lt_or_gt_of_ne D with h1|h1
  ·have :=dC.1 l r q x c h1
   rw [e] at this;exact List.lt_irrefl _ this
  ·have :=dC.1 l q r c x h1
   rw [e] at this;exact List.lt_irrefl _ this
 refine ⟨p,a.glen,by rw [uC];exact a.vlen,fun r h1 h2=> ?_,?_,a.once⟩
 ·rw [uC] at h2
  by_cases e:r=q
  ·subst e
   rw [List.getElem_set_self];exact rG p
  ·rw [jE (fun b=>e b.symm),rA _ _ _ _ (fun b=> ?_)]
   ·exact B _ _ (a.cells r h1 h2)
   ·simp only at b
    rcases Nat.lt_or_gt_of_ne e with h3|h3
    ·exact dC.1 a.once r q h1 v h3 b
    ·exact dC.1 a.once q r v h1 h3 b.symm
 ·have y:=a.many.grow m G C (fun g j=>by
   rcases hv with hv|hv
   ·exact .inl (by rw [<- hv];exact j)
   ·rw [hv] at j
    injection j with j
    exact .inr (by omega))
  have E:(names.map fun n=>(ao n).length).set q ((ao names[q]).length+1)=names.map fun n=>(h n).length:=by
   refine dD (by simp) fun r h1 h2=> ?_
   rw [gB] at h2;rw [oF,eC,eC,z];by_cases e:q=r
   ·subst e;rw [eA rfl,eA rfl];simp
   ·rw [dA e,dA (A r h2 (fun b=>e b.symm))]
  have b:(names.map fun n=>qeM (ao n)).set q (qeM (ao names[q])++[.int .i64 (i:Int)])=names.map fun n=>qeM (h n):=by
   refine dD (by simp) fun r h1 h2=> ?_
   rw [gB] at h2;rw [oF,eC,eC,z];by_cases e:q=r
   ·subst e;rw [eA rfl,eA rfl];simp [qeM,qaa,qaL]
   ·rw [dA e,dA (A r h2 (fun b=>e b.symm))]
  rw [E,b] at y;exact y.other p (by decide) v'
end
def qfs.keep {vs:List Nat} (h:qfs w zz B l vs) (e:∀ (k:Nat) (cs:Array Value) (t:TypeId),w.heap[k]?=some (.cells cs t (0,0))->(t=229\/t=232)->w'.heap[k]?=some (.cells cs t (0,0))):qfs w' zz B l vs:=by
 obtain ⟨h1,h2,v,h3,d⟩:=h;refine ⟨h1,h2,v,e _ _ _ h3 (.inl rfl),qaq d fun g a=> ?_⟩;rcases d.2 with ⟨b,_⟩|⟨m,j,i,b,_,c,_⟩
 ·rw [b] at a;cases a
 ·rw [b] at a
  simp only [Value.ownBlock,jB] at a;subst a;rw [e _ _ _ c (.inr rfl),c]
def qfs.dictR {vs:List Nat} (a:qfs w zz B l vs):qce w B 0 l vs:=by
 have b:=a.read;obtain ⟨h1,h2,v,h3,c⟩:=a;exact ⟨(gA.1 h3).1,h2,b⟩
def qau (Ls:List (List En)) (E:List Pl):List En:=E.map (qaV Ls)
def qct (Ls:List (List En)):List Nm:=qbo (Ls.map qah)
def qbV (Ls:List (List En)) (E:List Pl) (n:Nat):List Nm:=((qct Ls).take n).filter fun k=>decide (qak 0 (qau Ls E) k≠[])
def qdw (Ls:List (List En)) (E:List Pl) (n:Nat):List (List Pn):=(qbV Ls E n).map fun k=>qak 0 (qau Ls E) k
def qlC (Ls:List (List En)) (E:List Pl):qbV Ls E 0=[]:=by simp [qbV]
def qqN {E:List Pl} (b:n<(qct Ls).length):qbV Ls E (n+1)=if qak 0 (qau Ls E) (qct Ls)[n]≠[] then qbV Ls E n++[(qct Ls)[n]] else qbV Ls E n:=by
 unfold qbV;rw [aB b,lF];by_cases a:qak 0 (qau Ls E) (qct Ls)[n]≠[]
 ·rw [eA a,xF (by simpa using a)];rfl
 ·rw [dA a,yF (by simpa using a)];simp
def qqO {E:List Pl} (c:qdN Ls E) {q:En} (d:q∈qau Ls E):∃ i,∃ g:i<Ls.length,q∈Ls[i]:=by
 obtain ⟨p,e,rfl⟩:=tA.1 d;have ⟨b,a⟩:=c.ins p e;rw [qaI b] at a;refine ⟨p.1,b,?_⟩;rw [qaV,qaI b,qaI a];exact pA a
def qqP {E:List Pl} (g:qdN Ls E):qbV Ls E (qct Ls).length=qah (qau Ls E):=by
 unfold qbV;rw [fC];refine qhd (List.Pairwise.filter _ (qga _)) (qgW _) fun x=> ?_
 rw [nE,iC,qct,qgz];constructor
 ·rintro ⟨_,h2⟩
  exact qef.2 ((qi2 (i:=0)).1 h2)
 ·intro a
  refine ⟨?_,(qi2 (i:=0)).2 (qef.1 a)⟩;have ⟨q,h,t,b,e⟩:=qef.1 a;have ⟨i,c,d⟩:=qqO g h;exact ⟨qah Ls[i],tA.2 ⟨_,pA c,rfl⟩,qef.2 ⟨q,d,t,b,e⟩⟩
def qAr {E:List Pl} (a:qdN Ls E):qdw Ls E (qct Ls).length=(qah (qau Ls E)).map fun k=>qak 0 (qau Ls E) k:=by
 unfold qdw;rw [qqP a]
def qgt (Ls:List (List En)) (E:List Pl):List (List Int):=(List.range Ls.length).map fun (i:Nat)=>qcc E (i:Int) (Ls.getD i []).length
def qqQ (Ls:List (List En)) (E:List Pl):(qgt Ls E).length=Ls.length:=by simp [qgt]
def qqR {E:List Pl} (a:i<Ls.length) (h2:i<(qgt Ls E).length):(qgt Ls E)[i]=qcc E (i:Int) Ls[i].length:=by
 simp only [qgt,eC,List.getElem_range,qaI a]
def qAs {E:List Pl} {l:List Pn} (m:∀ q∈l,0<=q.1/\q.1<(n:Int)):qc6 (qcc E (i:Int) n) l=qdM E i l:=by
 unfold qc6 qdM;have k:∀ {f g:Pn->Option Pn} {l:List Pn},(∀ q∈l,f q=g q)->l.filterMap f=l.filterMap g:=by
  intro f g l b
  induction l with
  |nil=>rfl
  |cons x r h=>rw [List.filterMap_cons,List.filterMap_cons,b x (eB ..),h fun q a=>b q (oB _ a)]
 refine k fun q a=> ?_
 have ⟨h1,h2⟩:=m q a;obtain ⟨j,c⟩:∃ j:Nat,q.1=(j:Int):=⟨q.1.toNat,by omega⟩;have d:j<n:=by omega
 have e:(qcc E (i:Int) n).getD q.1.toNat 0=qbB E 0 (i:Int) q.1:=by
  rw [c,rD,mA,qgS d];rfl
 rw [e]
