import Derived.Deep.DeepCutAuto
import Derived.Test.YtpehcaidjlemiaaGreatDoorMMQ12
set_option maxHeartbeats 4000000
set_option maxRecDepth 100000
set_option linter.all false
namespace Go.Proofs.YtpehcaidjlemiaaGreatDoor
open Go Go.RowKit Go.Proofs.Tryz
variable {w w' W wr:World} {k n b c m zz B M:Nat} {A:Option Addr} {v v' u:Value} {xs cs:List Value} {t:TypeId} {l ks:List (List UInt8)} {S:Nat → Prop} {H:List (List UInt8 × List UInt8)}
def qa2 (p:Nat->Prop) (w:World) (A:Option Addr) (xs:List Value):Prop:=xs=[]\/∃ b a,A=some ⟨b,a,none⟩/\p b/\∀ j u,xs[j]?=some u->w.cell? ⟨b,a+j,none⟩=some u
section
variable {p q:Nat->Prop} {w w':World} {A:Option Addr} {xs:List Value}
def qa2.keep (c:qa2 p w A xs) (i:∀ b,p b->w'.heap[b]?=w.heap[b]?):qa2 p w' A xs:=by
 rcases c with c|⟨b,d,e,g,h⟩
 ·exact .inl c
 ·refine .inr ⟨b,d,e,g,fun j u k=> ?_⟩
  rw [tC (a:=⟨b,d+j,none⟩) (i b g)];exact h j u k
def qa2.imp (a:qa2 p w A xs) (g:∀ b,p b->q b):qa2 q w A xs:=by
 rcases a with a|⟨b,c,e,h,d⟩
 ·exact .inl a
 ·exact .inr ⟨b,c,e,g b h,d⟩
def qa2.row (a:qa2 p w A xs) (c:∀ b,p b->b<B):Row w B A xs:=a.imp c
end
structure qd6 (α:Type) where
 p:Nat
 r:Nat
 pre:α->List Value
 mid:α->List Fd
 post:α->List Value
 hp:∀ q,(pre q).length=p
 hr:∀ q,(post q).length=r
def qd6.size {α:Type} (s:qd6 α):Nat:=s.p+1+s.r
section
variable {α:Type} {s:qd6 α} {R R':Option Addr->List Value->Prop}
def qc1 (s:qd6 α) (R:Option Addr->List Value->Prop):List α->List Value->Prop
 |[],cs=>cs=[]
 |q::l,cs=>∃ A c cs',cs=s.pre q++(.slice A (s.mid q).length c::(s.post q++cs'))/\(s.mid q).length<=c/\c<=maxLen/\R A (flds (s.mid q))/\qc1 s R l cs'
def qc1.imp:∀ {l:List α} {cs:List Value},qc1 s R l cs->(∀ A xs,R A xs->R' A xs)->qc1 s R' l cs
 |[],cs,a,_=>a
 |q::l,cs,a,b=>by
  obtain ⟨A,c,cs',rfl,h1,h2,h3,d⟩:=a;exact ⟨A,c,cs',rfl,h1,h2,b _ _ h3,qc1.imp d b⟩
def qAt {q:α} {cs':List Value} (i:Nat):(s.pre q++(.slice A (s.mid q).length c::(s.post q++cs')))[(k+1)*s.size+i]?=cs'[k*s.size+i]?:=by
 have b:=s.hp q;have a:=s.hr q;have e:(k+1)*s.size+i=s.p+(1+(s.r+(k*s.size+i))):=by rw [Nat.add_mul,Nat.one_mul];unfold qd6.size;omega
 rw [e,oC (by omega),b,Nat.add_sub_cancel_left,Nat.add_comm 1,dF,oC (by omega),a,Nat.add_sub_cancel_left]
def qc1.at_:∀ {l:List α} {cs:List Value} {k:Nat},qc1 s R l cs->(d:k<l.length)->
  ∃ A c,cs[k*s.size+s.p]?=some (.slice A (s.mid l[k]).length c)/\(s.mid l[k]).length<=c/\c<=maxLen/\R A (flds (s.mid l[k]))/\
   (∀ i u,(s.pre l[k])[i]?=some u->cs[k*s.size+i]?=some u)/\(∀ i u,(s.post l[k])[i]?=some u->cs[k*s.size+s.p+1+i]?=some u)
 |[],_,k,_,h=>by simp at h
 |q::l,cs,0,h,_=>by
  obtain ⟨A,c,cs',rfl,h1,h2,h3,b⟩:=h;have v:=s.hp q;refine ⟨A,c,?_,h1,h2,h3,fun i u a=> ?_,fun i u a=> ?_⟩
  ·rw [oC (by omega)]
   simp [v]
  ·have :i<(s.pre q).length:=by
    rcases Nat.lt_or_ge i (s.pre q).length with h|h
    ·exact h
    ·simp only [zB] at a
     rw [sC h] at a;cases a
   rw [Nat.zero_mul,kB,fD this];exact a
  ·have :i<(s.post q).length:=by
    rcases Nat.lt_or_ge i (s.post q).length with h|h
    ·exact h
    ·simp only [zB] at a
     rw [sC h] at a;cases a
   rw [oC (by omega),show 0*s.size+s.p+1+i-(s.pre q).length=i+1 by omega,dF,fD this];exact a
 |q::l,cs,k+1,h,d=>by
  obtain ⟨A,c,cs',rfl,h1,h2,h3,b⟩:=h;have skip:=qAt (s:=s) (q:=q) (A:=A) (c:=c) (cs':=cs') (k:=k);have ⟨m,p,r,g,n,j,t,e⟩:=qc1.at_ (k:=k) b (by simpa using d);refine ⟨m,p,?_,g,n,j,fun i u a=> ?_,fun i u a=> ?_⟩
  ·rw [skip];exact r
  ·rw [skip];exact t i u a
  ·rw [show (k+1)*s.size+s.p+1+i=(k+1)*s.size+(s.p+1+i) by omega,skip,show k*s.size+(s.p+1+i)=k*s.size+s.p+1+i by omega]
   exact e i u a
def qc1.snoc:∀ {l:List α} {cs:List Value} {A:Option Addr} {c:Nat} {q:α},qc1 s R l cs->(s.mid q).length<=c->c<=maxLen->R A (flds (s.mid q))->qc1 s R (l++[q]) (cs++(s.pre q++(.slice A (s.mid q).length c::s.post q)))
 |[],cs,A,c,q,a,h1,h2,h3=>by
  simp only [qc1] at a;subst a;exact ⟨A,c,[],by simp,h1,h2,h3,rfl⟩
 |y::l,cs,A,c,q,a,h1,h2,h3=>by
  obtain ⟨d,g,cs',rfl,i,b,e,h⟩:=a;exact ⟨d,g,_,by simp,i,b,e,qc1.snoc h h1 h2 h3⟩
def qdx (s:qd6 α) (p:Nat->Prop) (w:World) (A:Option Addr) (l:List α):Prop:=∃ cs,qc1 s (qa2 p w) l cs/\qa2 p w A cs
end
section
variable {α:Type} {s:qd6 α} {p q:Nat->Prop} {w w':World} {A:Option Addr} {l:List α}
def qdx.nil:qdx s p w A []:=⟨[],rfl,.inl rfl⟩
def qdx.keep (a:qdx s p w A l) (c:∀ b,p b->w'.heap[b]?=w.heap[b]?):qdx s p w' A l:=by
 obtain ⟨cs,h1,h2⟩:=a;exact ⟨cs,h1.imp fun _ _ a=>a.keep c,h2.keep c⟩
def qdx.imp (a:qdx s p w A l) (c:∀ b,p b->q b):qdx s q w A l:=by
 obtain ⟨cs,h1,h2⟩:=a;exact ⟨cs,h1.imp fun _ _ a=>a.imp c,h2.imp c⟩
def qdx.at_ (t:qdx s p w A l) {k:Nat} (x:k<l.length):
  ∃ b a d c,A=some ⟨b,a,none⟩/\p b/\w.cell? ⟨b,a+k*s.size+s.p,none⟩=some (.slice d (s.mid l[k]).length c)/\(s.mid l[k]).length<=c/\c<=maxLen/\qa2 p w d (flds (s.mid l[k]))/\
   (∀ i u,(s.pre l[k])[i]?=some u->w.cell? ⟨b,a+k*s.size+i,none⟩=some u)/\(∀ i u,(s.post l[k])[i]?=some u->w.cell? ⟨b,a+k*s.size+s.p+1+i,none⟩=some u):=by
 obtain ⟨cs,h1,h2⟩:=t;have ⟨d,c,h,m,r,n,v,j⟩:=h1.at_ x;rcases h2 with rfl|⟨b,a,rfl,q,e⟩
 ·simp at h
 ·refine ⟨b,a,d,c,rfl,q,by have :=e _ _ h;rwa [<- uB] at this,m,r,n,fun i u g=> ?_,fun i u g=> ?_⟩
  ·have :=e _ _ (v i u g);rwa [<- uB] at this
  ·have :=e _ _ (j i u g)
   rwa [show a+(k*s.size+s.p+1+i)=a+k*s.size+s.p+1+i by omega] at this
abbrev qb9 (s:qd6 α) (w:World) (B:Nat) (A:Option Addr) (l:List α):Prop:=qdx s (fun b=>b<B) w A l
def qb9.below (c:qb9 s w B A l) (a:Below B w w'):qb9 s w' B A l:=c.keep fun b d=>a.block b d
def qb9.more {B':Nat} (a:qb9 s w B A l) (c:B<=B'):qb9 s w B' A l:=a.imp fun b d=>tB d c
def qb9.later (b:qb9 s w w.heap.size A l) (a:wG w w'):qb9 s w' w'.heap.size A l:=qb9.more (qb9.below b a) a.size
end
def qja:qd6 Dc:=⟨1,0,fun q=>[.int .i64 q.1],fun q=>q.2,fun _=>[],fun _=>rfl,fun _=>rfl⟩
def enS:qd6 En:=⟨1,1,fun q=>[.int .i64 q.1],fun q=>q.2.1,fun q=>[.int .i64 q.2.2],fun _=>rfl,fun _=>rfl⟩
def qjb {p:Nat->Prop} {l:List En} (n:qdx enS p w A l) {k:Nat} (r:k<l.length):
  ∃ b a d c,A=some ⟨b,a,none⟩/\p b/\w.cell? ⟨b,a+k*3,none⟩=some (.int .i64 l[k].1)/\w.cell? ⟨b,a+k*3+1,none⟩=some (.slice d l[k].2.1.length c)/\w.cell? ⟨b,a+k*3+2,none⟩=some (.int .i64 l[k].2.2)/\
   l[k].2.1.length<=c/\c<=maxLen/\qa2 p w d (flds l[k].2.1):=by
 have ⟨b,a,d,c,e,j,s,h,m,i,q,g⟩:=n.at_ r;exact ⟨b,a,d,c,e,j,q 0 _ rfl,s,g 0 _ rfl,h,m,i⟩
def qAu {p:Nat->Prop} {l:List Dc} (m:qdx qja p w A l) {k:Nat} (q:k<l.length):
  ∃ b a d c,A=some ⟨b,a,none⟩/\p b/\w.cell? ⟨b,a+k*2,none⟩=some (.int .i64 l[k].1)/\w.cell? ⟨b,a+k*2+1,none⟩=some (.slice d l[k].2.length c)/\l[k].2.length<=c/\c<=maxLen/\qa2 p w d (flds l[k].2):=by
 have ⟨b,a,d,c,e,i,r,g,j,h,n,_⟩:=m.at_ q;exact ⟨b,a,d,c,e,i,n 0 _ rfl,r,g,j,h⟩
theorem qlD:(prog.info? 61).map (fun i=>(i.zero,i.size,i.bytes))=some (some (.agg #[.int .i64 0,.slice none 0 0,.int .i64 0]),3,40):=by kernel_rfl
def qdy (w:World) (id:Int) (A:Option Addr) (n c:Nat) (v:Value) (wr:World):Prop:=
 wG w wr/\w.heap.size+4<=wr.heap.size/\wr.heap[w.heap.size]?=some (.cells #[.int .i64 id,.slice A n c] 59 (0,0))/\wr.heap[w.heap.size+1]?=some (.cells #[.int .i64 0,.slice none 0 0] 59 (0,0))/\
  wr.heap[w.heap.size+1+1]?=some (.cells #[.int .i64 id,v] 59 (0,0))/\wr.heap[w.heap.size+1+1+1]?=some (.cells #[.string ⟨#[116]⟩,.string ⟨#[117]⟩,.string ⟨#[118]⟩,.string ⟨#[119]⟩] 9 (0,0))
def qdy.below {id:Int} (e:qdy w id A n c v wr) (a:wG wr w'):qdy w id A n c v w':=by
 obtain ⟨b,h1,h2,h3,d,g⟩:=e;exact ⟨b.trans (a.mono (by omega)),by have :=a.size;omega,(a.block _ (by omega)).trans h2,(a.block _ (by omega)).trans h3,(a.block _ (by omega)).trans d,(a.block _ (by omega)).trans g⟩
def qdy.cells {id:Int} (b:qdy w id A n c v wr):
  wr.cell? ⟨w.heap.size,0,none⟩=some (.int .i64 id)/\wr.cell? ⟨w.heap.size,1,none⟩=some (.slice A n c)/\wr.cell? ⟨w.heap.size+1+1,0,none⟩=some (.int .i64 id)/\wr.cell? ⟨w.heap.size+1+1,1,none⟩=some v:=by
 obtain ⟨_,_,h2,_,a,_⟩:=b;exact ⟨by simp [World.cell?,h2],by simp [World.cell?,h2],by simp [World.cell?,a],by simp [World.cell?,a]⟩
def qdy.pool {id:Int} (a:qdy w id A n c v wr) {k:Nat} (d:k<4):wr.cell? ⟨w.heap.size+1+1+1,k,none⟩=some (.string ⟨(qhH k).toArray⟩):=by
 obtain ⟨_,_,_,_,_,b⟩:=a;have :k=0\/k=1\/k=2\/k=3:=by omega
 rcases this with rfl|rfl|rfl|rfl<;>simp [World.cell?,b,qhH]
def qAv (w:World) (id:Int) (A:Option Addr) (n c:Nat):qdy w id A n c (.slice none 0 0) ((((w.alloc (.cells #[.int .i64 id,.slice A n c] 59)).alloc (.cells #[.int .i64 0,.slice none 0 0] 59)).alloc (.cells #[.int .i64 id,.slice none 0 0] 59)).alloc (.cells #[.string ⟨#[116]⟩,.string ⟨#[117]⟩,.string ⟨#[118]⟩,.string ⟨#[119]⟩] 9)):=by
 refine ⟨((((bA _ w).alloc (aA _) _).alloc (by simp) _).alloc (by simp;try omega) _).alloc (by simp;try omega) _,by simp,?_,?_,?_,?_⟩
 ·rw [pB _ _ _ (by simp;try omega),pB _ _ _ (by simp;try omega),pB _ _ _ (by simp)]
  exact jA w _
 ·rw [pB _ _ _ (by simp;try omega),pB _ _ _ (by simp)]
  simpa using jA (w.alloc (.cells #[.int .i64 id,.slice A n c] 59)) (.cells #[.int .i64 0,.slice none 0 0] 59)
 ·rw [pB _ _ _ (by simp)]
  simpa using jA ((w.alloc (.cells #[.int .i64 id,.slice A n c] 59)).alloc (.cells #[.int .i64 0,.slice none 0 0] 59)) (.cells #[.int .i64 id,.slice none 0 0] 59)
 ·simpa using jA (((w.alloc (.cells #[.int .i64 id,.slice A n c] 59)).alloc (.cells #[.int .i64 0,.slice none 0 0] 59)).alloc (.cells #[.int .i64 id,.slice none 0 0] 59)) (.cells #[.string ⟨#[116]⟩,.string ⟨#[117]⟩,.string ⟨#[118]⟩,.string ⟨#[119]⟩] 9)
def qdo {cs:Array Value} (a:w.heap[b]?=some (.cells cs t (0,0))):(w.setCell ⟨b,k,none⟩ v).heap[b]?=some (.cells (cs.setIfInBounds k v) t (0,0)):=by
 have c:=mG a;have d:w.heap[b]= .cells cs t (0,0):=by simpa [Array.getElem?_eq_getElem c] using a
 show (w.heap.modify b _)[b]?=_;rw [Array.getElem?_eq_getElem (by simpa using c),Array.getElem_modify_self,d];rfl
def qc2 {x y:Value} (a:w.heap[b]?=some (.cells #[x,y] t (0,0))):
  w.cell? ⟨b,0,none⟩=some x/\w.cell? ⟨b,1,none⟩=some y/\w.frozen? ⟨b,0,none⟩=false/\w.frozen? ⟨b,1,none⟩=false:=by
 simp [World.cell?,World.frozen?,a]
def qAw (y:ByteArray):y.extract 0 (min (y.size:Int) 40).toNat=⟨(y.data.toList.take 40).toArray⟩:=by
 have b:y.data.toList.length=y.size:=wC;have e:(y.extract 0 (min (y.size:Int) 40).toNat).data=y.data.extract 0 (min (y.size:Int) 40).toNat:=ByteArray.data_extract;apply ByteArray.ext;apply Array.ext';rw [e,Array.toList_extract,List.extract_eq_take_drop,List.drop_zero,Nat.sub_zero];show List.take _ _=List.take 40 _;by_cases a:y.size<=40
 ·rw [nB (by omega),nB (by omega)]
 ·rw [show (min (y.size:Int) 40).toNat=40 by omega]
def qeh {d:Nat} (a:b≠d):(w.setCell ⟨b,k,none⟩ v).heap[d]?=w.heap[d]?:=by
 show (w.heap.modify b _)[d]?=_;rw [Array.getElem?_modify];simp [a]
def qdy.put {id:Int} (a:qdy w id A n c v wr) (v':Value):qdy w id A n c v' ((wr.setCell ⟨w.heap.size+1+1,0,none⟩ (.int .i64 id)).setCell ⟨w.heap.size+1+1,1,none⟩ v'):=by
 obtain ⟨b,h1,h2,h3,d,e⟩:=a;refine ⟨(b.setCell (by simp;omega) _).setCell (by simp;omega) _,by simpa using h1,?_,?_,?_,?_⟩
 ·rw [qeh (by omega),qeh (by omega)];exact h2
 ·rw [qeh (by omega),qeh (by omega)];exact h3
 ·rw [qdo (qdo d)];rfl
 ·rw [qeh (by omega),qeh (by omega)];exact e
def qqS (i:Nat) (f:Fd):(qfU i f).1.length<=12:=by
 unfold qfU;by_cases a:qbL f.1=true
 ·rw [eA a]
  rw [qbL,xA,xA,gC,gC] at a;exact a.2.2
 ·rw [dA a];simp [qhH]
def qjc (l:List Fd):∀ k,∀ f∈qc7 l k,f.1.length<=12
 |0,f,h=>by cases h
 |k+1,f,h=>by
  rw [qc7] at h;split at h
  ·rcases aC.1 h with h|h
   ·exact qjc l k f h
   ·rw [yB.1 h];exact qqS _ _
  ·exact qjc l k f h
def qAx (l:List Fd) (w:World) (id:Int) (A:Option Addr) (n c:Nat) (i:Value) (wr:World):Prop:=
 ∃ (k:Nat) (v:Value),k<=n/\k<=4/\i= .int .i64 (k:Int)/\qdy w id A n c v wr/\qa0 (w.heap.size+4) wr v (qc7 l k)
def qAy (id:Int) (A:Option Addr) (n c:Nat) (l:List Fd) (w:World) (bj:l.length=n) (br:qap w w.heap.size A l) (ds:n<=9223372036854775807) (bp:∀ f∈l,f.1.length<=9223372036854775807/\f.2.length<=9223372036854775807):
    yG 28 #[qb8 id A n c] w fun e w'=>∃ v,e= .returned (.agg #[.int .i64 id,v])/\qa0 w.heap.size w' v (qfV l)/\wG w w':=by
  have b9:=qH br;have cz:=qH bp;have bc:=qH bj;clear br bp bj
  go_enter func28,ntmps28
  go_wp2;have ⟨cr,ag⟩:=qE (((((w.alloc (.cells #[.int .i64 id,.slice A n c] 59)).alloc (.cells #[.int .i64 0,.slice none 0 0] 59)).alloc (.cells #[.int .i64 id,.slice none 0 0] 59)).alloc (.cells #[.string ⟨#[116]⟩,.string ⟨#[117]⟩,.string ⟨#[118]⟩,.string ⟨#[119]⟩] 9)));have L:qI (qdy w id A n c (.slice none 0 0) cr):=qH (by rw [ag];exact qAv w id A n c);rw [<- ag];clear ag
  go_loopw [5,6,7,8] (fun i a b d wr=>qAx l w id A n c i wr) (fun i _ _ _ _=>n-(intOf i).toNat)
  case atStart=>exact ⟨0,_,by omega,by omega,rfl,L.o,qa0.nil⟩
  case round=>
    obtain ⟨k,v,dh,dn,rfl,s,F⟩:=hrel;obtain ⟨q,r,rfl,bm,ab⟩:=F.row;have a8:=qkZ l k;have ⟨up,D⟩:=qE (qc7 l k);rw [<- D] at F bm ab s a8;have K:=qH D;have cw:=qH ab;clear D ab;have ⟨m,aw⟩:=qE up.length;rw [<- aw] at bm s a8 F;have aj:=qH aw;clear aw;have ⟨cv,df,q2,q3⟩:=s.cells;by_cases bg:k<n/\k<4
    · obtain ⟨b7,ch⟩:=bg
      have W:k<l.length:=by rw [bc.o];exact b7
      have ⟨X,af,c0,db,cn,bz⟩:=(b9.o.below s.1).at_ W;subst c0;have bt:=cz.o _ (pA W);have ⟨x,ah,av⟩:=qa8 l[k].1;have ⟨y,bb,a4⟩:=qa8 l[k].2;rw [<- ah] at cn;rw [<- bb] at bz;have dt:(0:Int)<=k:=by omega
      have dm:(k:Int)<n:=by omega
      have di:(k:Int)<4:=by omega
      have a1:=fun w'=>qqh x w' (by rw [ah,qdl];exact bt.1)
      rw [av] at a1;have a9:qI (∀ w',yG 60 #[.string x] w' fun e ak=>e= .returned (.bool (qbL l[k].1))/\wG w' ak):=qH a1;have a7:=qH s;have b0:=qH F;have ⟨z,h⟩:=qE (qbL l[k].1);rw [<- h] at a9;have ⟨g,a0⟩:=qE (qfU k l[k]);have au:qI (g=(if z=true then x.data.toList else qhH k,y.data.toList.take 40)):=qH (by rw [a0,qfU,h,av,a4])
      have L:=qH a0;clear a1 s ah av bb a4 F h bt a0
      go_upto_if 33 with (first
        | (go_at_call 60; (with_reducible refine (a9.o _).mono ?_); rintro e U ⟨rfl, N⟩
           have bl:qdy w id (some ⟨X,af,none⟩) n c (.slice q m r) U:=a7.o.below (((bA _ wr).alloc (aA _) _).trans (N.mono (by simp)));have am:U.heap[wr.heap.size]?=some (.cells #[.string x,.string y] 121 (0,0)):=(N.block wr.heap.size (by simp)).trans (jA wr _);have ci:qI (wG wr U):=qH (((bA _ wr).alloc (aA _) _).trans (N.mono (by simp)));have dr:=bl.pool ch;have h:=qc2 am;have c5:=h.1;have c9:=h.2.2.1;have ba:=qH am;clear bl am N h))
      have bu:qI (wG wr U):=qH ci.o
      go_cut [] from 32 to 38 (fun p=>wG wr p/\p.heap[wr.heap.size]?=some (.cells #[.string ⟨g.1.toArray⟩,.string y] 121 (0,0)))
      case first=>
        cases z with
        |true=>
          go_wp2_with fail
          go_meet;exact ⟨bu.o,by rw [au.o];exact ba.o⟩
        |false=>
          go_wp2_with fail
          go_meet;refine ⟨bu.o.setCell (aA _) _,?_⟩;rw [qdo ba.o,au.o];rfl
      case rest=>
        obtain ⟨a3,V⟩:=hcut;have h:=qc2 V;have c7:=h.2.1;have c8:=h.2.2.2;have b2:=qH a3;have cd:=qH V;clear a3 V h
        go_upto_region 10 with fail
        go_cut [] from 39 to 46 (fun p=>wG wr p/\p.heap[wr.heap.size]?=some (.cells #[.string ⟨g.1.toArray⟩,.string ⟨g.2.toArray⟩] 121 (0,0)))
        case first=>
          go_wp2_with fail
          go_meet;refine ⟨b2.o.setCell (aA _) _,?_⟩;rw [qdo cd.o,au.o,qAw];rfl
        case rest=>
          obtain ⟨Y,az⟩:=hcut;obtain ⟨j,rfl⟩:=qE wc;have ao:=a7.o.below Y;have bd:=ao.cells;have cv:=bd.1;have h:=qc2 az;have a6:=qH Y;have be:=qH az;have O:=qH ao;clear Y az ao bd h;have cx:qI (wr.heap.size<j.heap.size):=qH (mG be.o);have cb:qI (qa0 (w.heap.size+4) j (.slice q m r) up):=qH (b0.o.below a6.o);have ck:qI (qap j j.heap.size q up):=qH (cw.o.later a6.o)
          go_upto_region 12 with fail
          go_cut [] from 50 to 55 (fun p=>∃ v',wG j p/\p.heap[j.heap.size]?=some (.cells #[.int .i64 id,v'] 59 (0,0))/\qa0 (j.heap.size+1) p v' up)
          case first=>
            have c3:qI ((j.alloc (.cells #[.int .i64 id,.slice none 0 0] 59)).heap[j.heap.size]?=some (.cells #[.int .i64 id,.slice none 0 0] 59 (0,0))):=qH (jA j _);have bs:=(O.o.below ((bA _ j).alloc (aA _) (.cells #[.int .i64 id,.slice none 0 0] 59))).cells;have dp:=bs.2.2.2;clear bs
            go_wp2_with (first
              | (at_builtin; refine qpA _ rfl (.tmp 51) (.tmp 53) rfl (j.heap.size + 1) _ [] rfl qa0.nil q m r up rfl aj.o.symm ((ck.o).later ((bA _ j).alloc (aA _) _)) (by simp; omega) (by simp) ?_
                 intro dq bn an ai _;obtain ⟨dv,dc,rfl,_,_⟩:=an.row;have ca:=qH (((bA _ j).alloc (aA _) (.cells #[.int .i64 id,.slice none 0 0] 59)).trans (ai.mono (by omega)));have bk:qI (bn.heap[j.heap.size]?=some (.cells #[.int .i64 id,.slice none 0 0] 59 (0,0))):=qH ((ai.block j.heap.size (by omega)).trans c3.o);have c1:qI (qa0 (j.heap.size+1) bn _ up):=qH an;have h:=qc2 bk.o;have ae:=h.2.1;have cf:=h.2.2.2;clear an ai h))
            go_meet;refine ⟨_,ca.o.setCell (aA _) _,by rw [qdo bk.o];rfl,?_⟩;exact aF c1.o (a:=⟨j.heap.size,1,none⟩) (by simp) _
          case rest=>
            obtain ⟨M,rfl⟩:=qE wc;obtain ⟨dx,al,S,aq⟩:=hcut;obtain ⟨cc,cu,rfl,_,_⟩:=aq.row;have bw:M.heap[wr.heap.size]?=some (.cells #[.string ⟨g.1.toArray⟩,.string ⟨g.2.toArray⟩] 121 (0,0)):=(al.block _ (by have :=cx.o;omega)).trans be.o;have cs:=qH al;have cy:=qH S;have b4:=qH aq;have h:=qc2 bw;have h:=qc2 S;have ae:=h.2.1;have cm:=mG S;clear al S aq bw h
            go_upto_region 13 with fail
            go_cut [] from 56 to 61 (fun p=>∃ v',wG j p/\p.heap[j.heap.size]?=some (.cells #[.int .i64 id,v'] 59 (0,0))/\qa0 (j.heap.size+1) p v' (up++[g]))
            case first=>
              go_wp2_with (first
                | (at_builtin; refine qpA _ rfl (.tmp 57) (.tmp 59) rfl (j.heap.size + 1) _ up rfl (b4.o.below ((bA _ _).alloc (aA _) _)) _ 1 1 [g] rfl rfl (qpy _ g 121) (by have := aj.o; omega) (by simp; omega) ?_
                   intro d0 Z ap ac _;obtain ⟨dg,dy,rfl,_,_⟩:=ap.row;have co:qI (wG j Z):=qH (cs.o.trans ((((bA _ M).alloc (aA _) _).mono (by omega)).trans (ac.mono (by omega))));have bi:qI (Z.heap[j.heap.size]?=some (.cells #[.int .i64 id,.slice cc up.length cu] 59 (0,0))):=qH ((ac.block j.heap.size (by omega)).trans ((((bA M.heap.size M).alloc (aA _) _).block j.heap.size cm).trans cy.o));have b5:qI (qa0 (j.heap.size+1) Z _ (up++[g])):=qH ap;have h:=qc2 bi.o;have ae:=h.2.1;have cf:=h.2.2.2;clear ap ac h))
              go_meet;refine ⟨_,co.o.setCell (aA _) _,by rw [qdo bi.o];rfl,?_⟩;rw [show up.length+1=(up++[g]).length by simp];exact aF b5.o (a:=⟨j.heap.size,1,none⟩) (by simp) _
            case rest=>
              obtain ⟨cl,rfl⟩:=qE wc;obtain ⟨c6,a2,I,T⟩:=hcut;obtain ⟨J,G,rfl,_,bf⟩:=T.row;have ⟨P,R⟩:=qE ((up++[g]).length);rw [<- R] at I T;have ax:qI (∀ w',wG cl w'->yG 61 #[qb8 id J P G] w' fun e ak=>e= .returned (.int .i64 (qbC (up++[g])))/\wG w' ak):=qH fun w' c2=>
                qzA id J _ G (up++[g]) w' R.symm (bf.later c2) (by rw [R];simp;have :=aj.o;omega) fun f hf=>by
                  rcases aC.1 hf with hf|hf
                  · have cp:=qjc l k f (by rw [<- K.o];exact hf)
                    have bx:=qiF l k f (by rw [<- K.o];exact hf);omega
                  · rw [yB.1 hf,L.o]
                    have cp:=qqS k l[k];have bx:=qoZ k l[k];omega
              have h:=qc2 I;have dk:=h.1;have ae:=h.2.1;have ay:qI (qc7 l (k+1)=if qbC (up++[g])=0 then up++[g] else up):=qH (by
                rw [qc7,<- K.o,L.o,mA,oA W];rfl)
              have E:=qH a2;have b1:=qH T;have bo:=mG I;have bv:=qH I;have ⟨ce,a5⟩:=qE (qbC (up++[g]));rw [<- a5] at ax ay;clear a2 I T bf h a5 R;have du:=O.o.2.1;by_cases bh:ce=0
              · subst bh
                have ad:qI (qc7 l (k+1)=up++[g]):=qH (by rw [ay.o,eA rfl])
                go_wp2_with (first
                | (go_at_call 61; (with_reducible refine (ax.o _ (bA _ _)).mono ?_); rintro e C ⟨rfl, t⟩
                   have B:qdy w id (some ⟨X,af,none⟩) n c (.slice q m r) C:=O.o.below (E.o.trans (t.mono E.o.size));have H:C.heap[j.heap.size]?=some (.cells #[.int .i64 id,.slice J P G] 59 (0,0)):=(t.block _ bo).trans bv.o;have b6:qI (qa0 (j.heap.size+1) C (.slice J P G) (up++[g])):=qH (b1.o.below t);have h:=qc2 H;have h:=qc2 B.2.2.2.2.1;have da:=h.1;have dj:=h.2.1;have de:=h.2.2.1;have dw:=h.2.2.2;have aa:=qH B;clear B H t h))
                refine ⟨⟨k+1,_,by omega,by omega,by go_num,aa.o.put _,?_⟩,by simp [intOf];omega⟩;rw [ad.o];exact (show qa0 (j.heap.size+1) _ _ _ from aF (aF b6.o (a:=⟨w.heap.size+1+1,0,none⟩) (by simp;omega) _) (a:=⟨w.heap.size+1+1,1,none⟩) (by simp;omega) _).low (by omega)
              · have ad:qI (qc7 l (k+1)=up):=qH (by rw [ay.o,dA bh])
                go_wp2_with (first
                | (go_at_call 61; (with_reducible refine (ax.o _ (bA _ _)).mono ?_); rintro e C ⟨rfl, t⟩
                   have B:qdy w id (some ⟨X,af,none⟩) n c (.slice q m r) C:=O.o.below (E.o.trans (t.mono E.o.size));have H:C.heap[j.heap.size]?=some (.cells #[.int .i64 id,.slice J P G] 59 (0,0)):=(t.block _ bo).trans bv.o;have cj:qI (qa0 (w.heap.size+4) C (.slice q m r) up):=qH (cb.o.below (E.o.trans (t.mono E.o.size)));have h:=qc2 H;have h:=qc2 B.2.2.2.2.1;have aa:=qH B;clear B H t h))
                refine ⟨⟨k+1,_,by omega,by omega,by go_num,aa.o,?_⟩,by simp [intOf];omega⟩;rw [ad.o];exact cj.o
    · have bq:min l.length 4=k:=by rw [bc.o];omega
      have D:qfV l=up:=by rw [qfV,bq,K.o]
      have b3:=qH D;have h:=qc2 s.2.2.2.2.1;have h:=qc2 s.2.2.2.1;have dz:=h.1;have dl:=h.2.1;have c4:=h.2.2.1;have dd:=h.2.2.2;have h1:(n:Int)<=k\/(k:Int)<n/\(4:Int)<=k:=by omega
      clear bg h bq D;rcases h1 with h1|⟨h1,h2⟩
      all_goals
        go_wp2;have ⟨ar,Q⟩:=qE ((wr.setCell ⟨w.heap.size+1,0,none⟩ (.int .i64 id)).setCell ⟨w.heap.size+1,1,none⟩ (.slice q m r));have h3:ar.heap[w.heap.size+1]?=some (.cells #[.int .i64 id,.slice q m r] 59 (0,0)):=by rw [Q,qdo (qdo s.2.2.2.1)];rfl
        have cg:wG w ar:=by rw [Q];exact (s.1.setCell (by simp) _).setCell (by simp) _
        have cq:qa0 w.heap.size ar (.slice q m r) up:=by
          rw [Q];exact (show qa0 (w.heap.size+4) _ _ _ from aF (aF F (a:=⟨w.heap.size+1,0,none⟩) (by simp) _) (a:=⟨w.heap.size+1,1,none⟩) (by simp) _).low (by omega)
        rw [<- Q];have ⟨ct,b8,_,_⟩:=qc2 h3;exact pE (v:= .agg #[.int .i64 id,.slice q m r]) (by simp [results,Tryz.results28,go_sem,ct,b8]) rfl ⟨_,rfl,by rw [b3.o];exact cq,cg⟩
def qg6 (w:World) (f x:ByteArray):World:=w.alloc (.cells #[.string f,.string x] 69)
def qAz {f x:ByteArray} (a:Below (qg6 w f x).heap.size (qg6 w f x) wr):wG w wr/\wr.cell? ⟨w.heap.size,0,none⟩=some (.string f)/\wr.cell? ⟨w.heap.size,1,none⟩=some (.string x):=by
 have b:wr.heap[w.heap.size]?=some (.cells #[.string f,.string x] 69 (0,0)):=(a.block w.heap.size (by simp [qg6])).trans (jA w _);exact ⟨((bA _ w).alloc (aA _) _).trans (a.mono (by simp [qg6])),by simp [World.cell?,b],by simp [World.cell?,b]⟩
def qqT (zz:Nat) (l:List Tm) (w:World) (e:Ending) (w':World):Prop:=∃ v,e= .returned v/\qaR zz w' v l/\wG w w'
def qfb (l:List Tm):Prop:=∀ t∈l,t.1.length<=536870912/\t.2.length<=536870912
def qAA (l:List Tm) (t:Tm) (a:World) (i:Value) (wr:World):Prop:=∃ k:Nat,k<=l.length/\i= .int .i64 (k:Int)/\wG a wr/\qby l t k=qby l t l.length
def qAB (zz:Nat) (v:Value) (l:List Tm) (f x:ByteArray) (w:World) (be:qaR zz w v l) (az:zz<=w.heap.size) (cf:l.length<=1048576) (br:qfb l) (ct:f.size<=536870912) (co:x.size<=536870912):
    yG 127 #[v,.agg #[.string f,.string x]] w (qqT zz (qb7 l (f.data.toList,x.data.toList)) w):=by
  obtain ⟨A,c,rfl,b9,bz⟩:=be.row;have bu:=qH be;have aw:=qH bz;have ca:=qH br;have ⟨n,a6⟩:=qE l.length;have ⟨t,ah⟩:=qE ((f.data.toList,x.data.toList):Tm);rw [<- ah];have av:qI (∀ w':World,qap (w'.alloc (.cells #[.string f,.string x] 69)) (w'.alloc (.cells #[.string f,.string x] 69)).heap.size (some ⟨w'.heap.size,0,none⟩) [t]):=qH fun w'=>by rw [ah];exact qpy w' (f.data.toList,x.data.toList) 69
  have b0:qI (∀ J,J=qg6 w f x->∀ wr,wG J wr->wG w wr/\wr.cell? ⟨w.heap.size,0,none⟩=some (.string f)/\wr.cell? ⟨w.heap.size,1,none⟩=some (.string x)):=qH fun J e wr a1=>by subst e;exact qAz a1
  have bl:=qH ah;have W:=qH a6;rw [<- a6] at b9 cf;rw [<- a6];clear be bz br ah a6
  go_enter func127,ntmps127
  go_wp2;have ⟨J,bh⟩:=qE (qg6 w f x);have b4:=qH (b0.o J bh);rw [show w.alloc _=J from bh.symm]
  clear bh b0
  go_loopw [5] (fun i wr=>qAA l t J i wr) (fun i _=>(intOf i).toNat)
  case atStart=>exact ⟨n,by rw [W.o];omega,rfl,bA _ _,by rw [W.o]⟩
  case round=>
    obtain ⟨k,bt,rfl,ae,a3⟩:=hrel;rw [<- W.o] at bt;have ⟨T,d,h⟩:=b4.o _ ae;by_cases b1:k=0
    · subst b1
      have aj:=qH T;have an:qI (qby l t l.length=0):=qH (by rw [<- a3];rfl);have ad:qI (qb7 l t=l.take 0++t::l.drop 0):=qH (by rw [qb7,an.o];simp [qgT]);have ac:qI ((l.take 0).length=0):=qH (by simp);have ao:qI ((l.drop 0).length=n):=qH (by rw [W.o];simp);have ap:qI (([]++l.take 0).length+1<=1073741824):=qH (by simp);have ak:qI (([]++l.take 0++[t]).length+n<=1073741824):=qH (by simp;omega);have am:qI (qap w w.heap.size A (l.take 0)):=qH (aw.o.cut 0);have ai:qI (qap w w.heap.size A (l.drop 0)):=qH (by simpa using aw.o);clear a3 T;rcases bu.o.2 with ⟨a0,bv⟩|⟨g,cr,cq,b8,_⟩
      · injection a0 with hA a0 hc
        have bf:n=0:=by rw [W.o];exact bv
        clear bv a0;subst hA hc bf;go_wp2
        go_quiet (fail)
        obtain ⟨B,af,T,d,h⟩:∃ B,B=wr.drewN nq/\wG w B/\B.cell? ⟨w.heap.size,0,none⟩=some (.string f)/\B.cell? ⟨w.heap.size,1,none⟩=some (.string x):=⟨_,rfl,aj.o.trans ((qdt _ _).mono aj.o.size),d,h⟩;rw [<- af];have G:=qH T;clear af T ae;go_wp2
        go_quiet (fail)
        obtain ⟨a,I,F,d,h⟩:∃ a,a=B.drewN nq/\wG w a/\a.cell? ⟨w.heap.size,0,none⟩=some (.string f)/\a.cell? ⟨w.heap.size,1,none⟩=some (.string x):=⟨_,rfl,G.o.trans ((qdt _ _).mono G.o.size),d,h⟩;rw [<- I];have b:=qH F;have N:qI (w.heap.size<a.heap.size):=qH (vC a _ d);clear I F
        go_wp2_with (first
          | (at_builtin; refine qdJ _ rfl (.tmp 36) (.tmp 39) rfl a.heap.size _ [] rfl qaR.nil _ 0 _ (l.take 0) rfl ac.o ((am.o).later b.o) (by simp <;> omega) (aA _) ?_
             intro a2 ba S r;have aa:=qH S;have C:=qH r;have d:=(r.cell (p:=⟨w.heap.size,0,none⟩) N.o).trans d;have h:=(r.cell (p:=⟨w.heap.size,1,none⟩) N.o).trans h;clear S r)
          | (at_builtin; refine qdJ _ rfl (.tmp 41) (.tmp 43) rfl a.heap.size _ ([] ++ l.take 0) rfl (aa.o.below ((bA _ _).alloc (aA _) _)) _ 1 1 [t] rfl rfl (av.o _) ap.o (by have := C.o.size; simp; omega) ?_
             intro a9 w3 R M;have X:=qH R;have D:=qH (C.o.trans (((bA _ _).alloc (aA _) _).mono C.o.size |>.trans M))
             clear R M)
          | (at_builtin; refine qdJ _ rfl (.tmp 45) (.tmp 48) rfl a.heap.size _ ([] ++ l.take 0 ++ [t]) rfl X.o _ _ _ (l.drop 0) rfl (by have := ao.o; omega) ((ai.o).later (b.o.trans (D.o.mono b.o.size))) (by have := ak.o; omega) D.o.size ?_
             intro Z H Q q;have Y:=qH Q;have ab:=qH (D.o.trans q);clear Q q))
        go_ret;refine ⟨_,rfl,?_,b.o.trans (ab.o.mono b.o.size)⟩;rw [ad.o];exact (by simpa using Y.o:qaR a.heap.size H Z _).low (lA az b.o.size)
      · injection b8 with hA a0 hc
        subst hA;clear a0 hc;by_cases cl:c=0
        · have bf:n=0:=by omega
          subst cl bf;go_wp2
          go_quiet (fail)
          obtain ⟨B,af,T,d,h⟩:∃ B,B=wr.drewN nq/\wG w B/\B.cell? ⟨w.heap.size,0,none⟩=some (.string f)/\B.cell? ⟨w.heap.size,1,none⟩=some (.string x):=⟨_,rfl,aj.o.trans ((qdt _ _).mono aj.o.size),d,h⟩;rw [<- af];have G:=qH T;clear af T ae;go_wp2
          go_quiet (fail)
          obtain ⟨a,I,F,d,h⟩:∃ a,a=B.drewN nq/\wG w a/\a.cell? ⟨w.heap.size,0,none⟩=some (.string f)/\a.cell? ⟨w.heap.size,1,none⟩=some (.string x):=⟨_,rfl,G.o.trans ((qdt _ _).mono G.o.size),d,h⟩;rw [<- I];have b:=qH F;have N:qI (w.heap.size<a.heap.size):=qH (vC a _ d);clear I F
          go_wp2_with (first
            | (at_builtin; refine qdJ _ rfl (.tmp 36) (.tmp 39) rfl a.heap.size _ [] rfl qaR.nil _ 0 _ (l.take 0) rfl ac.o ((am.o).later b.o) (by simp <;> omega) (aA _) ?_
               intro a2 ba S r;have aa:=qH S;have C:=qH r;have d:=(r.cell (p:=⟨w.heap.size,0,none⟩) N.o).trans d;have h:=(r.cell (p:=⟨w.heap.size,1,none⟩) N.o).trans h;clear S r)
            | (at_builtin; refine qdJ _ rfl (.tmp 41) (.tmp 43) rfl a.heap.size _ ([] ++ l.take 0) rfl (aa.o.below ((bA _ _).alloc (aA _) _)) _ 1 1 [t] rfl rfl (av.o _) ap.o (by have := C.o.size; simp; omega) ?_
               intro a9 w3 R M;have X:=qH R;have D:=qH (C.o.trans (((bA _ _).alloc (aA _) _).mono C.o.size |>.trans M))
               clear R M)
            | (at_builtin; refine qdJ _ rfl (.tmp 45) (.tmp 48) rfl a.heap.size _ ([] ++ l.take 0 ++ [t]) rfl X.o _ _ _ (l.drop 0) rfl (by have := ao.o; omega) ((ai.o).later (b.o.trans (D.o.mono b.o.size))) (by have := ak.o; omega) D.o.size ?_
               intro Z H Q q;have Y:=qH Q;have ab:=qH (D.o.trans q);clear Q q))
          go_ret;refine ⟨_,rfl,?_,b.o.trans (ab.o.mono b.o.size)⟩;rw [ad.o];exact (by simpa using Y.o:qaR a.heap.size H Z _).low (lA az b.o.size)
        · have a5:0<c:=by omega
          go_wp2
          go_quiet (fail)
          obtain ⟨B,af,T,d,h⟩:∃ B,B=wr.drewN nq/\wG w B/\B.cell? ⟨w.heap.size,0,none⟩=some (.string f)/\B.cell? ⟨w.heap.size,1,none⟩=some (.string x):=⟨_,rfl,aj.o.trans ((qdt _ _).mono aj.o.size),d,h⟩;rw [<- af];have G:=qH T;clear af T ae;go_wp2
          go_quiet (fail)
          obtain ⟨a,I,F,d,h⟩:∃ a,a=B.drewN nq/\wG w a/\a.cell? ⟨w.heap.size,0,none⟩=some (.string f)/\a.cell? ⟨w.heap.size,1,none⟩=some (.string x):=⟨_,rfl,G.o.trans ((qdt _ _).mono G.o.size),d,h⟩;rw [<- I];have b:=qH F;have N:qI (w.heap.size<a.heap.size):=qH (vC a _ d);clear I F
          go_wp2_with (first
            | (at_builtin; refine qdJ _ rfl (.tmp 36) (.tmp 39) rfl a.heap.size _ [] rfl qaR.nil _ 0 _ (l.take 0) rfl ac.o ((am.o).later b.o) (by simp <;> omega) (aA _) ?_
               intro a2 ba S r;have aa:=qH S;have C:=qH r;have d:=(r.cell (p:=⟨w.heap.size,0,none⟩) N.o).trans d;have h:=(r.cell (p:=⟨w.heap.size,1,none⟩) N.o).trans h;clear S r)
            | (at_builtin; refine qdJ _ rfl (.tmp 41) (.tmp 43) rfl a.heap.size _ ([] ++ l.take 0) rfl (aa.o.below ((bA _ _).alloc (aA _) _)) _ 1 1 [t] rfl rfl (av.o _) ap.o (by have := C.o.size; simp; omega) ?_
               intro a9 w3 R M;have X:=qH R;have D:=qH (C.o.trans (((bA _ _).alloc (aA _) _).mono C.o.size |>.trans M))
               clear R M)
            | (at_builtin; refine qdJ _ rfl (.tmp 45) (.tmp 48) rfl a.heap.size _ ([] ++ l.take 0 ++ [t]) rfl X.o _ _ _ (l.drop 0) rfl (by have := ao.o; omega) ((ai.o).later (b.o.trans (D.o.mono b.o.size))) (by have := ak.o; omega) D.o.size ?_
               intro Z H Q q;have Y:=qH Q;have ab:=qH (D.o.trans q);clear Q q))
          go_ret;refine ⟨_,rfl,?_,b.o.trans (ab.o.mono b.o.size)⟩;rw [ad.o];exact (by simpa using Y.o:qaR a.heap.size H Z _).low (lA az b.o.size)
    · obtain ⟨j,rfl⟩:∃ j,k=j+1:=⟨k-1,by omega⟩
      have ax:j<l.length:=by have :=W.o;omega
      have ⟨L,O,ck,bq,a5,bb⟩:=aw.o.at_ ax;subst ck;have cm:=ca.o _ (pA ax);have ⟨y,bg,bc⟩:=qa8 l[j].1;have ⟨z,bm,bj⟩:=qa8 l[j].2;rw [<- bg] at a5;rw [<- bm] at bb;have b6:y.size<=1073741824:=by rw [bg,qdl];omega
      have cj:z.size<=1073741824:=by rw [bm,qdl];omega
      have ay:qI (∀ w',yG 78 #[.agg #[.string f,.string x]] w' fun e bi=>e= .returned (.string (qcJ f x))/\wG w' bi):=qH fun w'=>qh9 f x w' (by omega) (by omega)
      have au:qI (∀ w',yG 78 #[.agg #[.string y,.string z]] w' fun e bi=>e= .returned (.string (qcJ y z))/\wG w' bi):=qH fun w'=>qh9 y z w' (by omega) (by omega)
      have bk:qI ((qcJ f x).data.toList=qag t):=qH (by rw [qge,bl.o];rfl);have bd:qI ((qcJ y z).data.toList=qag (atT l j)):=qH (by rw [qge,bc,bj,qe7 ax];rfl);have ⟨b3,bs⟩:=qE (qcJ f x);have ⟨bw,bn⟩:=qE (qcJ y z);rw [<- bs] at ay bk;rw [<- bn] at au bd;have bo:qI (l[j]=(y.data.toList,z.data.toList)):=qH (by rw [bc,bj]);have ci:(0:Int)<((j+1:Nat):Int):=by omega
      have cg:decide ((0:Int)<((j+1:Nat):Int))=true:=yA (by omega);have b7:decide (0<j+1)=true:=yA (by omega);have ce:IntKind.i64.wrap (((j+1:Nat):Int)-1)=(j:Int):=by rw [iG _ (by omega)];omega
      have cn:(0:Int)<=j:=by omega
      have cp:(j:Int)<n:=by omega
      have E:qI (∀ w',Below J.heap.size wr w'->wG w w'/\w'.cell? ⟨w.heap.size,0,none⟩=some (.string f)/\w'.cell? ⟨w.heap.size,1,none⟩=some (.string x)/\w'.cell? ⟨L,O+j*2,none⟩=some (.string y)/\w'.cell? ⟨L,O+j*2+1,none⟩=some (.string z)):=qH fun w' a1=>by
        have h2:=b4.o _ (ae.trans a1);exact ⟨h2.1,h2.2.1,h2.2.2,(h2.1.cell (p:=⟨L,O+j*2,none⟩) bq).trans a5,(h2.1.cell (p:=⟨L,O+j*2+1,none⟩) bq).trans bb⟩
      have ⟨T,d,h,a5,bb⟩:=E.o _ (bA _ _);have ag:=ae.size;have cc:=qH ae;have b2:=qH a3;have ⟨m,a7⟩:=qE (j+1);rw [<- a7] at ci ce bt cg b7;rw [<- a7];have a8:=qH a7;clear cm bg bm bc bj bs bn b6 cj T ae a3 a7 b1;by_cases al:qag t<qag (atT l j)
      · have cd:=qjW (s:=b3) (t:=bw) (by rw [bk.o,bd.o];exact al)
        have an:qI (qby l t j=qby l t l.length):=qH (by rw [<- b2.o,qby,eA al]);clear al;go_wp2
        go_region_held3 (fun w'=>w'.cell? ⟨w.heap.size,0,none⟩=some (.string f)/\w'.cell? ⟨w.heap.size,1,none⟩=some (.string x)/\w'.cell? ⟨L,O+j*2,none⟩=some (.string y)/\w'.cell? ⟨L,O+j*2+1,none⟩=some (.string z))
          (first|exact (E.o _ (bA _ _).drew).2|exact (E.o _ K.o).2|exact (E.o _ P.o).2)
          (first
            | (go_at_call 78; (with_reducible refine (ay.o _).mono ?_); rintro e H ⟨rfl, q⟩
               have K:qI (Below J.heap.size wr H):=qH (((bA _ wr).drew.trans q).mono ag);clear q)
            | (go_at_call 78; (with_reducible refine (au.o _).mono ?_); rintro e U ⟨rfl, V⟩
               have P:qI (Below J.heap.size wr U):=qH (K.o.trans (V.mono (lA ag K.o.size)));clear V))
        all_goals
          go_wp2;exact ⟨⟨j,by omega,rfl,cc.o.trans P.o,an.o⟩,by have :=a8.o;simp [intOf];omega⟩
      · have cd:=qjX (s:=b3) (t:=bw) (by rw [bk.o,bd.o];exact al)
        have an:qI (qby l t l.length=m):=qH (by rw [<- b2.o,a8.o,qby,dA al]);clear al;by_cases aq:atT l j=t
        · have ar:(y.data.toList,z.data.toList)=(f.data.toList,x.data.toList):=by rw [<- bo.o,<- qe7 ax,aq,bl.o]
          have a4:=qeY (s:=y) (t:=f) (congrArg Prod.fst ar);have bx:=qeY (s:=z) (t:=x) (congrArg Prod.snd ar);have ad:qI (qb7 l t=l):=qH (by
            rw [qb7,an.o,qgT,show m-1=j by have :=a8.o;omega,yA aq,yA (show 0<m by omega)];rfl)
          clear aq ar;go_wp2
          go_region_held3 (fun w'=>w'.cell? ⟨w.heap.size,0,none⟩=some (.string f)/\w'.cell? ⟨w.heap.size,1,none⟩=some (.string x)/\w'.cell? ⟨L,O+j*2,none⟩=some (.string y)/\w'.cell? ⟨L,O+j*2+1,none⟩=some (.string z))
            (first|exact (E.o _ (bA _ _).drew).2|exact (E.o _ K.o).2|exact (E.o _ P.o).2)
            (first
              | (go_at_call 78; (with_reducible refine (ay.o _).mono ?_); rintro e H ⟨rfl, q⟩
                 have K:qI (Below J.heap.size wr H):=qH (((bA _ wr).drew.trans q).mono ag);clear q)
              | (go_at_call 78; (with_reducible refine (au.o _).mono ?_); rintro e U ⟨rfl, V⟩
                 have P:qI (Below J.heap.size wr U):=qH (K.o.trans (V.mono (lA ag K.o.size)));clear V))
          all_goals
            go_wp2;have G:qI (wG w U):=qH (E.o _ P.o).1;have ⟨_,d,h,bp,b5⟩:=E.o _ P.o
            go_quiet (fail)
            obtain ⟨a,I,F,d,h⟩:∃ a,a=U.drewN nq/\wG w a/\a.cell? ⟨w.heap.size,0,none⟩=some (.string f)/\a.cell? ⟨w.heap.size,1,none⟩=some (.string x):=⟨_,rfl,G.o.trans ((qdt _ _).mono G.o.size),d,h⟩;rw [<- I];have b:=qH F;clear I F;go_wp2;go_ret;refine ⟨_,rfl,?_,b.o⟩;rw [ad.o,W.o];exact bu.o.below b.o
        · have ar:¬ ((y.data.toList,z.data.toList)=(f.data.toList,x.data.toList)):=fun a1=>aq (by rw [qe7 ax,bo.o,a1,bl.o])
          have ah:(y.toList==f.toList)=false\/(y.toList==f.toList)=true/\(z.toList==x.toList)=false:=by
            by_cases h1:y.data.toList=f.data.toList
            · exact .inr ⟨qeY h1,qfl fun h2=>ar (Prod.ext h1 h2)⟩
            · exact .inl (qfl h1)
          have ad:qI (qb7 l t=l.take m++t::l.drop m):=qH (by
            rw [qb7,an.o,qgT,show m-1=j by have :=a8.o;omega,uA aq,Bool.and_false];rfl)
          have ac:qI ((l.take m).length=m):=qH (by rw [sA,<- W.o];omega);have ao:qI ((l.drop m).length=n-m):=qH (by rw [rB,<- W.o]);have ap:qI (([]++l.take m).length+1<=1073741824):=qH (by have :=ac.o;simp only [lC];omega);have ak:qI (([]++l.take m++[t]).length+(n-m)<=1073741824):=qH (by have :=ac.o;simp only [lC,iA,bB];omega);have am:qI (qap w w.heap.size (some ⟨L,O,none⟩) (l.take m)):=qH (aw.o.cut m);clear aq ar;by_cases ch:c=m
          · have cb:n=m:=by omega
            have ai:qI (∀ A,qap w w.heap.size A (l.drop m)):=qH fun A=> .inl (by rw [pC (by rw [<- W.o];omega)];rfl)
            subst ch;subst cb;rcases ah with a4|⟨a4,bx⟩
            all_goals
              go_wp2
              go_region_held3 (fun w'=>w'.cell? ⟨w.heap.size,0,none⟩=some (.string f)/\w'.cell? ⟨w.heap.size,1,none⟩=some (.string x)/\w'.cell? ⟨L,O+j*2,none⟩=some (.string y)/\w'.cell? ⟨L,O+j*2+1,none⟩=some (.string z))
                (first|exact (E.o _ (bA _ _).drew).2|exact (E.o _ K.o).2|exact (E.o _ P.o).2)
                (first
                  | (go_at_call 78; (with_reducible refine (ay.o _).mono ?_); rintro e H ⟨rfl, q⟩
                     have K:qI (Below J.heap.size wr H):=qH (((bA _ wr).drew.trans q).mono ag);clear q)
                  | (go_at_call 78; (with_reducible refine (au.o _).mono ?_); rintro e U ⟨rfl, V⟩
                     have P:qI (Below J.heap.size wr U):=qH (K.o.trans (V.mono (lA ag K.o.size)));clear V))
              all_goals
                go_wp2;have G:qI (wG w U):=qH (E.o _ P.o).1;have ⟨_,d,h,bp,b5⟩:=E.o _ P.o
                go_quiet (fail)
                obtain ⟨a,I,F,d,h⟩:∃ a,a=U.drewN nq/\wG w a/\a.cell? ⟨w.heap.size,0,none⟩=some (.string f)/\a.cell? ⟨w.heap.size,1,none⟩=some (.string x):=⟨_,rfl,G.o.trans ((qdt _ _).mono G.o.size),d,h⟩;rw [<- I];have b:=qH F;have N:qI (w.heap.size<a.heap.size):=qH (vC a _ d);clear I F
                go_wp2_with (first
                  | (at_builtin; refine qdJ _ rfl (.tmp 36) (.tmp 39) rfl a.heap.size _ [] rfl qaR.nil _ n _ (l.take n) rfl ac.o ((am.o).later b.o) (by simp <;> omega) (aA _) ?_
                     intro a2 ba S r;have aa:=qH S;have C:=qH r;have d:=(r.cell (p:=⟨w.heap.size,0,none⟩) N.o).trans d;have h:=(r.cell (p:=⟨w.heap.size,1,none⟩) N.o).trans h;clear S r)
                  | (at_builtin; refine qdJ _ rfl (.tmp 41) (.tmp 43) rfl a.heap.size _ ([] ++ l.take n) rfl (aa.o.below ((bA _ _).alloc (aA _) _)) _ 1 1 [t] rfl rfl (av.o _) ap.o (by have := C.o.size; simp; omega) ?_
                     intro a9 w3 R M;have X:=qH R;have D:=qH (C.o.trans (((bA _ _).alloc (aA _) _).mono C.o.size |>.trans M))
                     clear R M)
                  | (at_builtin; refine qdJ _ rfl (.tmp 45) (.tmp 48) rfl a.heap.size _ ([] ++ l.take n ++ [t]) rfl X.o _ _ _ (l.drop n) rfl (by have := ao.o; omega) (((ai.o _)).later (b.o.trans (D.o.mono b.o.size))) (by have := ak.o; omega) D.o.size ?_
                     intro Z H Q q;have Y:=qH Q;have ab:=qH (D.o.trans q);clear Q q))
                go_ret;refine ⟨_,rfl,?_,b.o.trans (ab.o.mono b.o.size)⟩;rw [ad.o];exact (by simpa using Y.o:qaR a.heap.size H Z _).low (lA az b.o.size)
          · have ai:qI (qap w w.heap.size (some ⟨L,O+m*2,none⟩) (l.drop m)):=qH (aw.o.dropped m)
            have cs:m<c:=by omega
            rcases ah with a4|⟨a4,bx⟩
            all_goals
              go_wp2
              go_region_held3 (fun w'=>w'.cell? ⟨w.heap.size,0,none⟩=some (.string f)/\w'.cell? ⟨w.heap.size,1,none⟩=some (.string x)/\w'.cell? ⟨L,O+j*2,none⟩=some (.string y)/\w'.cell? ⟨L,O+j*2+1,none⟩=some (.string z))
                (first|exact (E.o _ (bA _ _).drew).2|exact (E.o _ K.o).2|exact (E.o _ P.o).2)
                (first
                  | (go_at_call 78; (with_reducible refine (ay.o _).mono ?_); rintro e H ⟨rfl, q⟩
                     have K:qI (Below J.heap.size wr H):=qH (((bA _ wr).drew.trans q).mono ag);clear q)
                  | (go_at_call 78; (with_reducible refine (au.o _).mono ?_); rintro e U ⟨rfl, V⟩
                     have P:qI (Below J.heap.size wr U):=qH (K.o.trans (V.mono (lA ag K.o.size)));clear V))
              all_goals
                go_wp2;have G:qI (wG w U):=qH (E.o _ P.o).1;have ⟨_,d,h,bp,b5⟩:=E.o _ P.o
                go_quiet (fail)
                obtain ⟨a,I,F,d,h⟩:∃ a,a=U.drewN nq/\wG w a/\a.cell? ⟨w.heap.size,0,none⟩=some (.string f)/\a.cell? ⟨w.heap.size,1,none⟩=some (.string x):=⟨_,rfl,G.o.trans ((qdt _ _).mono G.o.size),d,h⟩;rw [<- I];have b:=qH F;have N:qI (w.heap.size<a.heap.size):=qH (vC a _ d);clear I F
                go_wp2_with (first
                  | (at_builtin; refine qdJ _ rfl (.tmp 36) (.tmp 39) rfl a.heap.size _ [] rfl qaR.nil _ m _ (l.take m) rfl ac.o ((am.o).later b.o) (by simp <;> omega) (aA _) ?_
                     intro a2 ba S r;have aa:=qH S;have C:=qH r;have d:=(r.cell (p:=⟨w.heap.size,0,none⟩) N.o).trans d;have h:=(r.cell (p:=⟨w.heap.size,1,none⟩) N.o).trans h;clear S r)
                  | (at_builtin; refine qdJ _ rfl (.tmp 41) (.tmp 43) rfl a.heap.size _ ([] ++ l.take m) rfl (aa.o.below ((bA _ _).alloc (aA _) _)) _ 1 1 [t] rfl rfl (av.o _) ap.o (by have := C.o.size; simp; omega) ?_
                     intro a9 w3 R M;have X:=qH R;have D:=qH (C.o.trans (((bA _ _).alloc (aA _) _).mono C.o.size |>.trans M))
                     clear R M)
                  | (at_builtin; refine qdJ _ rfl (.tmp 45) (.tmp 48) rfl a.heap.size _ ([] ++ l.take m ++ [t]) rfl X.o _ _ _ (l.drop m) rfl (by have := ao.o; omega) ((ai.o).later (b.o.trans (D.o.mono b.o.size))) (by have := ak.o; omega) D.o.size ?_
                     intro Z H Q q;have Y:=qH Q;have ab:=qH (D.o.trans q);clear Q q))
                go_ret;refine ⟨_,rfl,?_,b.o.trans (ab.o.mono b.o.size)⟩;rw [ad.o];exact (by simpa using Y.o:qaR a.heap.size H Z _).low (lA az b.o.size)
def qlE (f:Fd):List Value:=[.string ⟨f.1.toArray⟩,.string ⟨f.2.toArray⟩]
def qAC {o:Nat} (d:qap w B (some ⟨b,o,none⟩) H):∀ j,j<H.length->∀ i v,(qlE H[j]!)[i]?=some v->w.cell? ⟨b,o+j*2+i,none⟩=some v:=fun j c i v a=>by
 have ⟨_,_,e,_,h1,h2⟩:=d.at_ c;cases e;rw [iF H j c] at a
 match i,a with
 |0,a=>cases a;exact h1
 |1,a=>cases a;exact h2
 |i+2,a=>simp [qlE] at a
def qeO (a:List Nm) (f:Fd):Nat × Int:=if qbL f.1=false then (0,4) else if f.1∈a then (0,5) else if qbZ 0 (qaX f.2)≠0 then (0,qbZ 0 (qaX f.2)) else ((qaX f.2).length,0)
def qAD {l:List Fd} (a:k<l.length):qdH ks n (l.drop k)=if (qeO ks l[k]).2≠0 then (qeO ks l[k]).2 else qdH (ks++[l[k].1]) (n+(qeO ks l[k]).1) (l.drop (k+1)):=by
 rw [qqn a,qeO];by_cases h1:qbL l[k].1=false
 ·simp [h1]
 ·by_cases h2:l[k].1∈ks
  ·simp [h1,h2]
  ·by_cases h3:qbZ 0 (qaX l[k].2)=0
   ·simp [h1,h2,h3]
   ·simp [h1,h2,h3]
def qAE {f:Fd}:(qeO l f).1<=500:=by
 unfold qeO;split
 ·exact kA _
 ·split
  ·exact kA _
  ·split
   ·exact kA _
   ·rename_i a
    have :=qlo (Classical.not_not.1 a) (by omega);show (qaX f.2).length<=500;omega
def qAF (B:Nat) (x:ByteArray) (f:Fd) (w:World) (c:w.cell? ⟨B,0,none⟩=some (.string x)):
  yG 147 #[.agg #[.string ⟨f.1.toArray⟩,.string ⟨f.2.toArray⟩],.pointer (some ⟨B,0,none⟩)] w fun e w'=>e= .returned (.bool (decide (f.1=x.data.toList)))/\wG w w':=by
 have l:∀ o,(w.alloc o).cell? ⟨B,0,none⟩=some (.string x):=fun o=>Lib.cell?_alloc_some _ c
 have ⟨y,d,g⟩:=qa8 f.1;have ⟨z,a⟩:=qE (decide (f.1=x.data.toList));rw [<- a,<- d];rw [<- g] at a;have h:qI (∀ o,wG w (w.alloc o)):=qH fun o=>(bA _ _).alloc (aA _) o
 clear c d g;by_cases b:y.data.toList=x.data.toList
 ·have j:=qeY b
  rw [b] at a;have i:z=true:=by rw [a];exact yA rfl
  subst i;clear b a
  go_enter func147,ntmps147
  go_wp2;go_ret;exact ⟨rfl,h.o _⟩
 ·have j:=qfl b
  have k:z=false:=by rw [a];exact uA b
  subst k;clear b a
  go_enter func147,ntmps147
  go_wp2;go_ret;exact ⟨rfl,h.o _⟩
def qAG (B:Nat) (x:ByteArray) (b o k c:Nat) (a:List Fd) (w:World) (l:w.cell? ⟨B,0,none⟩=some (.string x)) (j:B<w.heap.size) (q:a.length=k) (m:b<w.heap.size) (i:qap w w.heap.size (some ⟨b,o,none⟩) a) (n:k<=1073741824):
  yG 146 #[.slice (some ⟨b,o,none⟩) k c,.func (.func 147) #[] #[.pointer (some ⟨B,0,none⟩)]] w fun e w'=>e= .returned (.bool (decide (x.data.toList∈a.map (·.1))))/\wG w w':=by
 have e:(a.take k).any (fun f=>decide (f.1=x.data.toList))=decide (x.data.toList∈a.map (·.1)):=by
  rw [nB (by omega),kD,List.any_eq_true,gC,tA];constructor
  ·rintro ⟨f,h,g⟩;exact ⟨f,h,mD g⟩
  ·rintro ⟨f,h,g⟩;exact ⟨f,h,yA g⟩
 rw [<- e];exact AnyQ.slices_ContainsFunc qs2 2 Tryz.isAgg121 Tryz.sizeOf121 qlE (fun _=>rfl) (fun f=>decide (f.1=x.data.toList)) 147 #[.pointer (some ⟨B,0,none⟩)] (enters_of func147 (by kernel_rfl) rfl) b o k c a w
  (fun W f d=>(qAF B x f W ((d.cell (p:=⟨B,0,none⟩) j).trans l)).mono fun e w' ⟨h1,h2⟩=>⟨h1,d.trans (h2.mono d.size)⟩) (by omega) (by omega) m (qAC i)
def qAH (x y:ByteArray) (b o k c:Nat) (d:List Fd) (w:World) (m:d.length=k) (Y:b<w.heap.size) (K:qap w w.heap.size (some ⟨b,o,none⟩) d) (ad:k<=1073741824) (ac:x.size<=9223372036854775807) (Z:y.size<=268435456):
    yG 103 #[.agg #[.string x,.string y],.slice (some ⟨b,o,none⟩) k c] w fun e w'=>
      e= .returned (.tuple #[.int .i64 ((qeO (d.map (·.1)) (x.data.toList,y.data.toList)).1:Int),.int .i64 (qeO (d.map (·.1)) (x.data.toList,y.data.toList)).2])/\wG w w':=by
  have ⟨h,p⟩:=qE (w.alloc (.cells #[.string x,.string y] 121));have S:h.heap[w.heap.size]?=some (.cells #[.string x,.string y] 121 (0,0)):=by rw [p];exact jA _ _
  have H:wG w h:=by rw [p];exact (bA _ _).alloc (aA _) _
  have X:h.heap.size=w.heap.size+1:=by rw [p];simp
  have s:qI (∀ w',wG h w'->wG w w'/\w'.cell? ⟨w.heap.size,0,none⟩=some (.string x)/\w'.cell? ⟨w.heap.size,1,none⟩=some (.string y)/\w.heap.size<w'.heap.size/\b<w'.heap.size/\qap w' w'.heap.size (some ⟨b,o,none⟩) d):=qH fun w' t=>by
    have I:=H.trans (t.mono H.size);have m:w'.heap[w.heap.size]?=some (.cells #[.string x,.string y] 121 (0,0)):=(t.block _ (by omega)).trans S;exact ⟨I,by simp [World.cell?,m],by simp [World.cell?,m],mG m,by have :=I.size;omega,K.later I⟩
  have A:=qH p;have z:qI (∀ w',yG 145 #[.string x] w' fun e C=>e= .returned (.bool (qbL x.data.toList))/\wG w' C):=qH fun w'=>qzF x w' ac
  have G:qI (∀ w',wG h w'->yG 146 #[.slice (some ⟨b,o,none⟩) k c,.func (.func 147) #[] #[.pointer (some ⟨w.heap.size,0,none⟩)]] w' fun e C=>e= .returned (.bool (decide (x.data.toList∈d.map (·.1))))/\wG w' C):=qH fun w' t=>by
    have ⟨_,h1,_,h2,h3,af⟩:=s.o w' t;exact qAG w.heap.size x b o k c d w' h1 h2 m h3 af ad
  have V:qI (∀ w',yG 148 #[.string y] w' (qfS (qaX y.data.toList) w')):=qH fun w'=>qyb y w' Z
  have ⟨r,a⟩:=qE (qeO (d.map (·.1)) (x.data.toList,y.data.toList));rw [<- a];unfold qeO at a;simp only at a;have ⟨aa,P⟩:=qE (qbL x.data.toList);have ⟨Q,J⟩:=qE (decide (x.data.toList∈d.map (·.1)));rw [<- P] at z a;rw [<- J] at G;have O:x.data.toList∈d.map (·.1)↔Q=true:=by rw [J,gC]
  simp only [O] at a;have ⟨ws,N⟩:=qE (qaX y.data.toList);rw [<- N] at V a;clear p S H X P J O N Y K m;cases aa with
  |false=>
    rw [eA rfl] at a;subst a
    go_enter func103,ntmps103
    go_wp2_with (go_at_call 145;rw [show w.alloc _=h from A.o.symm];(with_reducible refine (z.o _).mono ?_);rintro e W ⟨rfl,l⟩)
    go_ret2;exact ⟨rfl,(s.o _ l).1⟩
  |true=>
    rw [dA (by decide)] at a;cases Q with
    |true=>
      rw [eA rfl] at a;subst a
      go_enter func103,ntmps103
      go_wp2_with (first
        | (go_at_call 145; rw [show w.alloc _ = h from A.o.symm]; (with_reducible refine (z.o _).mono ?_); rintro e W ⟨rfl, l⟩
           have j:=qH l;clear l)
        | (go_at_call 146; (with_reducible refine (G.o _ j.o).mono ?_); rintro e w3 ⟨rfl, n⟩
           have q:=qH (j.o.trans (n.mono j.o.size));clear n))
      go_ret2;exact ⟨rfl,(s.o _ q.o).1⟩
    |false=>
      rw [dA (by decide)] at a;have F:=qH a;clear a
      go_enter func103,ntmps103
      go_wp2_with (first
        | (go_at_call 145; rw [show w.alloc _ = h from A.o.symm]; (with_reducible refine (z.o _).mono ?_); rintro e W ⟨rfl, l⟩
           have j:=qH l;clear l)
        | (go_at_call 146; (with_reducible refine (G.o _ j.o).mono ?_); rintro e w3 ⟨rfl, n⟩
           have q:=qH (j.o.trans (n.mono j.o.size));have ai:=(s.o _ q.o).2.2.1;clear n)
        | (go_at_call 148; (with_reducible refine (V.o _).mono ?_); rintro e ah ⟨v, rfl, h1, h2, U⟩
           have ab:=qH (q.o.trans (U.mono q.o.size));obtain ⟨M,D,R,rfl,T⟩:∃ M D R,v= .slice M D R/\r=(D,qbZ 0 ws):=by
             by_cases i:qbZ 0 ws=0
             · rcases (h1 i).2 with ⟨B,ae⟩|⟨g,ag,aj,B,_⟩
               · exact ⟨none,0,0,B,by rw [F.o,dA (by rw [i];decide),i,ae]⟩
               · exact ⟨_,_,_,B,by rw [F.o,dA (by rw [i];decide),i]⟩
             · exact ⟨none,0,0,h2 i,by rw [F.o,eA i]⟩
           have ⟨E,L⟩:=qE (qbZ 0 ws);rw [<- L] at T ⊢;clear h1 h2 U L))
      go_ret2;rw [T];exact ⟨rfl,(s.o _ ab.o).1⟩
def qAI (id:Int) (A:Option Addr) (n c:Nat) (l:List Fd) (w:World) (am:l.length=n) (U:qap w w.heap.size A l) (a3:n<=1073741824) (aw:n<=c) (T:∀ f∈l,f.1.length<=1073741824/\f.2.length<=268435456):
    yG 62 #[qb8 id A n c] w fun e w'=>e= .returned (.int .i64 (qbC l))/\wG w w':=by
  have ⟨R,H⟩:=qE (qbC l);rw [<- H];have aa:=qH H;have Z:=qH U;have aj:=qH T;have G:qI (∀ g,g=qbh w id A n c->∀ wr,wG g wr->wG w wr/\wr.cell? ⟨w.heap.size,0,none⟩=some (.int .i64 id)/\wr.cell? ⟨w.heap.size,1,none⟩=some (.slice A n c)):=qH fun g e wr h=>by subst e;exact ⟨qhN h,qfu h⟩
  clear H U T;by_cases ap:8<n
  · have ah:R=7:=by rw [aa.o,qbC,eA (by omega)]
    subst ah;have v:=qH (G.o _ rfl _ (bA _ _)).1
    go_enter func62,ntmps62
    go_wp2;go_ret;exact ⟨rfl,v.o⟩
  · have ay:n<=8:=by omega
    have ao:qI (qdH (qfw l 0) 0 (l.drop 0)=R):=qH (by rw [aa.o,qbC,dA (by omega)];rfl);clear ap;subst am
    go_enter func62,ntmps62
    go_wp2;have ⟨g,N⟩:=qE (qbh w id A l.length c);have M:=qH (G.o g N);rw [show w.alloc _=g from N.symm]
    clear N G
    go_loopw [2,3,15] (fun r a i wr=>qqo l R g r a i wr) (fun _ _ i _=>l.length-(intOf i).toNat)
    case atStart=>exact ⟨rfl,0,0,by omega,by omega,rfl,rfl,bA _ _,ao.o⟩
    case round=>
      obtain ⟨rfl,k,m,L,ax,rfl,rfl,z,b⟩:=hrel;have ⟨j,a4,a2⟩:=M.o _ z;by_cases C:k<l.length
      · have ⟨p,s,ak,an,al,ae⟩:=(Z.o.below j).at_ C
        subst ak;rw [qAD C] at b;have K:=aj.o _ (pA C);have ⟨x,O,X⟩:=qa8 l[k].1;have ⟨y,I,ab⟩:=qa8 l[k].2;rw [<- O] at al;rw [<- I] at ae;have a5:(0:Int)<=k:=by omega
        have au:(k:Int)<l.length:=by omega
        have a0:(k:Int)<=c:=by omega
        have ⟨d,F⟩:=qE (wr.alloc (.cells #[.string x,.string y] 121));have Q:d.heap[wr.heap.size]?=some (.cells #[.string x,.string y] 121 (0,0)):=by rw [F];exact jA _ _
        have t:wG wr d:=by rw [F];exact (bA _ _).alloc (aA _) _
        have ac:qap d d.heap.size (some ⟨p,s,none⟩) (l.take k):=((Z.o.later j).later t).cut k;have ⟨r,D⟩:=qE (qeO (qfw l k) l[k]);have ai:r.1<=500:=by rw [D];exact qAE
        have W:qI (∀ w',wG d w'->yG 103 #[.agg #[.string x,.string y],.slice (some ⟨p,s,none⟩) k c] w' fun e ag=>e= .returned (.tuple #[.int .i64 (r.1:Int),.int .i64 r.2])/\wG w' ag):=qH fun w' h=>by
          have a6:=j.size;have av:=t.size;have ar:=h.size;have :=qAH x y p s k c (l.take k) w' (by rw [sA];omega) (by omega) (ac.later h) (by omega) (by rw [O,qdl];have :=K.1;omega) (by rw [I,qdl];exact K.2);rw [X,ab] at this;rw [D];exact this
        rw [<- D] at b;have B:qI (∀ w',wG d w'->wG g w'/\w'.cell? ⟨wr.heap.size,0,none⟩=some (.string x)/\w'.cell? ⟨wr.heap.size,1,none⟩=some (.string y)/\w'.cell? ⟨w.heap.size,1,none⟩=some (.slice (some ⟨p,s,none⟩) l.length c)):=qH fun w' h=>by
          have h1:=z.trans ((t.trans (h.mono t.size)).mono z.size);have L:w'.heap[wr.heap.size]?=some (.cells #[.string x,.string y] 121 (0,0)):=(h.block _ (mG Q)).trans Q;exact ⟨h1,by simp [World.cell?,L],by simp [World.cell?,L],(M.o _ h1).2.2⟩
        have ad:=qH F;have J:=qH b;clear O X I ab K F Q t ac D b j an z;obtain ⟨q,E⟩:=r;simp only at ai W J
        go_upto_region 7 with fail
        rw [show wr.alloc _=d from ad.o.symm]
        go_region_held3 (fun w'=>w'.cell? ⟨wr.heap.size,0,none⟩=some (.string x)/\w'.cell? ⟨wr.heap.size,1,none⟩=some (.string y)/\w'.cell? ⟨w.heap.size,1,none⟩=some (.slice (some ⟨p,s,none⟩) l.length c))
          (first|exact (B.o _ (bA _ _).drew).2|exact (B.o _ P.o).2)
          (first
            | (go_at_call 103; (with_reducible refine (W.o _ (bA _ d).drew).mono ?_); rintro e w3 ⟨rfl, Y⟩
               have P:qI (wG d w3):=qH ((bA _ d).drew.trans Y);clear Y))
        by_cases V:E=0
        · subst V
          have b:=J.o;rw [dA (by decide),<- qqm C] at b;have aq:=qH b;have a1:m<=4000:=by omega
          clear b;go_wp2;refine ⟨⟨rfl,k+1,m+q,by omega,by omega,?_,by go_num,(B.o _ P.o).1,aq.o⟩,by simp [intOf];omega⟩
          push_cast
          rfl
        · have b:=J.o
          rw [eA V] at b;subst b;go_wp2;go_ret;exact ⟨rfl,(M.o _ (B.o _ P.o).1).1⟩
      · have af:k=l.length:=by omega
        subst af;rw [List.drop_length,qdH] at b;have v:=qH j;clear j;by_cases S:500<m
        · rw [eA S] at b
          subst b;go_wp2;go_ret;exact ⟨rfl,v.o⟩
        · rw [dA S] at b
          subst b;have az:m<=500:=by omega
          clear S;go_wp2;go_ret;exact ⟨rfl,v.o⟩
open Go.ChangeShapes Go.WideShapes Go.ChangeAt
def qfc (V:Nat->List Value):Nat->List Value
 |0=>[]
 |k+1=>qfc V k++V k
def qqU {V:Nat->List Value} {z:Nat} (a:∀ i,i<n->(V i).length=z):∀ k,k<=n->(qfc V k).length=k*z
 |0,_=>by simp [qfc]
 |k+1,b=>by rw [qfc,iA,qqU a k (by omega),a k (by omega),Nat.add_mul,Nat.one_mul]
def qqV {z:Nat} {V:Nat->List Value} (e:∀ i,i<n->(V i).length=z) (g:∀ i,i<n->∀ j u,(V i)[j]?=some u->w.cell? ⟨b,c+(i*z+j),none⟩=some u):
  ∀ k,k<=n->∀ j u,(qfc V k)[j]?=some u->w.cell? ⟨b,c+j,none⟩=some u
 |0,_,j,u,a=>by simp [qfc] at a
 |k+1,l,j,u,a=>by
  rw [qfc] at a;have d:=qqU e k (by omega);by_cases h:j<k*z
  ·rw [fD (by rw [d];exact h)] at a
   exact qqV e g k (by omega) j u a
  ·rw [oC (by rw [d];omega),d] at a
   have :=g k (by omega) _ _ a;rwa [show k*z+(j-k*z)=j by omega] at this
def qqW {α:Type} {s:qd6 α} {R:Option Addr->List Value->Prop} {V:Nat->List Value} {f:Nat->α} {n:Nat}
  (a:∀ i,i<n->∃ A c,V i=s.pre (f i)++(.slice A (s.mid (f i)).length c::s.post (f i))/\(s.mid (f i)).length<=c/\c<=maxLen/\R A (flds (s.mid (f i)))):∀ k,k<=n->qc1 s R ((List.range k).map f) (qfc V k)
 |0,_=>rfl
 |k+1,e=>by
  have b:=qqW a k (by omega);have ⟨A,c,h1,h2,h3,d⟩:=a k (by omega);rw [List.range_succ,jC,qfc,h1];exact b.snoc h2 h3 d
def qqX {α:Type} (s:qd6 α) (good:α->Prop) (w:World) (a:Option Addr) (len b:Nat) (l:List α):Prop:=
 len<=b/\b<=maxLen/\l.length=len/\qb9 s w w.heap.size a l/\∀ q∈l,good q
def qAJ {α:Type} [Inhabited α] {H:Type} {enc:TypeId × Value->H} {W:World} (s:qd6 α) (good:α->Prop) {t e:TypeId} (L:prog.underlying t=some (.slice e)) (D:prog.cellsOf e=s.size)
  (Q:∀ {B:Nat} {cs:List Value} {x:DataW H × List MemPlace},DataW.trod enc prog W 0 (fun _=>true) true B e cs=some x->
   ∃ (q:α) (A:Option Addr) (c:Nat),cs=s.pre q++(.slice A (s.mid q).length c::s.post q)/\(s.mid q).length<=c/\c<=maxLen/\qap W W.heap.size A (s.mid q)/\good q)
  {B:Nat} {a:Option Addr} {len F:Nat} {x:DataW H × List MemPlace} (h:DataW.trod enc prog W 0 (fun _=>true) true B t [Value.slice a len F]=some x):∃ l,qqX s good W a len F l:=by
 rcases Deep.open_slice L h with ⟨g,_⟩|⟨J,l,c,m,n,ad,Pl,g,_,w,G,E,_,Z⟩
 ·simp at g
  obtain ⟨rfl,rfl,rfl⟩:=g;exact ⟨[],aA _,kA _,rfl,qdx.nil,fun p k=>by cases k⟩
 ·simp at g
  obtain ⟨rfl,rfl,rfl⟩:=g;simp only [if_true] at E;subst E;have R:∀ i,i<m->∃ q:α × List Value,(∃ A c,q.2=s.pre q.1++(.slice A (s.mid q.1).length c::s.post q.1)/\(s.mid q.1).length<=c/\c<=maxLen/\Row W W.heap.size A (flds (s.mid q.1)))/\good q.1/\q.2.length=s.size/\
    ∀ j u,q.2[j]?=some u->W.cell? (J.add (i*s.size+j))=some u:=fun i d=>by
   have ⟨cs',h1,h2⟩:=Z i d;have ⟨_,y,X⟩:=World.cells?_some h1;have ⟨q,A,c,S,P,T,K,N⟩:=Q h2;rw [D] at y;refine ⟨(q,cs'),⟨A,c,S,P,T,K⟩,N,y,fun j u v=> ?_⟩;have O:j<s.size:=by
    rcases Nat.lt_or_ge j s.size with h|h
    ·exact h
    ·rw [sC (by rw [y];exact h)] at v;cases v
   have :=X j (by rw [D];exact O);rw [Deep.add_add,D] at this;rw [this];exact v
  have ⟨f,r⟩:=Deep.choose_lt R;by_cases ae:m=0
  ·have C:len=0:=by omega
   subst C;exact ⟨[],w,G,rfl,qdx.nil,fun p k=>by cases k⟩
  ·have ⟨_,_,C,U⟩:=r 0 (by omega)
   obtain ⟨u0,ab⟩:∃ u,(f 0).2[0]?=some u:=⟨_,oA (by rw [C];unfold qd6.size;omega)⟩;have I:=U 0 u0 ab;obtain ⟨b,M,V⟩:=J;have aa:V=none:=by simpa [Addr.add] using World.cell?_spot I
   subst aa;have Y:b<W.heap.size:=by simpa [cC] using vC W _ I
   refine ⟨(List.range len).map fun i=>(f i).1,w,G,by simp,⟨qfc (fun i=>(f i).2) len,qqW (n:=m) (fun i d=>(r i d).1) len w,.inr ⟨b,M,rfl,Y,qqV (n:=m) (z:=s.size) (fun i d=>(r i d).2.2.1) (fun i d j u v=> ?_) len w⟩⟩,fun p k=> ?_⟩
   ·have :=(r i d).2.2.2 j u v
    rwa [cC] at this
   ·obtain ⟨i,d,rfl⟩:=tA.1 k
    have ac:=xE.1 d;exact (r i (by omega)).2.1
def qlF (l:List Fd):Prop:=∀ f∈l,f.1.length<=maxLen/\f.2.length<=maxLen
def qAK {H:Type} {enc:TypeId × Value->H} {x:DataW H × List MemPlace} (s:DataW.trod enc prog W 0 (fun _=>true) true k 59 cs=some x):
  ∃ (q:Dc) (A:Option Addr) (c:Nat),cs=[.int .i64 q.1,.slice A q.2.length c]/\q.2.length<=c/\c<=maxLen/\qap W W.heap.size A q.2/\qlF q.2:=by
 have ⟨w,y,n,_,b,i,j⟩:=trod_struct2 underlying59 s;rw [qpp] at b;obtain ⟨g,e,rfl⟩:∃ g e,cs=[g,e]:=by
  rcases cs with _|⟨g,_|⟨e,_|⟨z,cs⟩⟩⟩
  ·cases b
  ·cases b
  ·exact ⟨_,_,rfl⟩
  ·simp only [nA] at b;omega
 ·have m:prog.cellsOf 3=1:=by kernel_rfl
  have t:prog.cellsOf 57=1:=by kernel_rfl
  simp [m] at i;simp [t] at j;have ⟨d,h,_,_⟩:=DataW.trod_int underlying3 i;obtain ⟨a,len,p,l,rfl,h1,h2,h3,r,v⟩:=qyd j;simp only [List.cons.injEq,and_true] at h;subst h;exact ⟨(d,l),a,p,by rw [h3],by rw [h3];exact h1,h2,r,v⟩
abbrev qlG:=qqX qja (fun q=>qlF q.2)
def qAL {H:Type} {enc:TypeId × Value->H} {a:Option Addr} {len:Nat} {x:DataW H × List MemPlace}
  (b:DataW.trod enc prog W 0 (fun _=>true) true k 22 (Value.slice a len n).cells.toList=some x):∃ l,qlG W a len n l:=
 qAJ qja (fun q=>qlF q.2) underlying22 qpp (fun b=>qAK b) (by simpa [Value.cells] using b)
def Of (S:Nat->Prop) (t:TypeId) (w:World) (k:Nat):Prop:=S k/\∃ cs fr,w.heap[k]?=some (.cells cs t fr)/\fr=(0,0)
def Of.lt (a:Of S t w k):k<w.heap.size:=by obtain ⟨_,cs,fr,a,_⟩:=a;exact (gA.1 a).1
def Of.keep (a:Of S t w k) (c:w'.heap[k]?=w.heap[k]?):Of S t w' k:=by obtain ⟨h1,cs,fr,a,b⟩:=a;exact ⟨h1,cs,fr,c.trans a,b⟩
def Of.imp {T:Nat->Prop} (a:Of S t w k) (b:S k->T k):Of T t w k:=⟨b a.1,a.2⟩
def qa2.keepO (c:qa2 (Of S t w) w A xs) (b:∀ k,Of S t w k->w'.heap[k]?=w.heap[k]?):qa2 (Of S t w') w' A xs:=(c.keep b).imp fun k a=>a.keep (b k a)
def qfz {e:TypeId} {size:Nat} (c:w.ownsRow zz e size v n xs) {k:Nat} (a:v.ownBlock=some k):∃ cs fr,w.heap[k]?=some (.cells cs e fr):=by
 rcases c.2 with ⟨rfl,_⟩|⟨g,h,d,rfl,_,b,_⟩
 ·cases a
 ·simp only [Value.ownBlock,jB] at a
  subst a;exact ⟨_,_,b⟩
def qAM {e:TypeId} {size:Nat} (c:w.ownsRow zz e size v n xs) {k:Nat} (a:v.ownBlock=some k):∃ cs,w.heap[k]?=some (.cells cs e (0,0)):=by
 rcases c.2 with ⟨rfl,_⟩|⟨g,h,d,rfl,_,b,_⟩
 ·cases a
 ·simp only [Value.ownBlock,jB] at a
  subst a;exact ⟨_,b⟩
def qbW (S:Nat->Prop) (w:World) (v:Value) (l:List Pn):Prop:=∃ cs,w.ownsRow 0 74 2 v l.length cs/\(∀ k,v.ownBlock=some k->S k)/\qao (qa2 (Of S 3 w) w) l cs
def qbW.nil:qbW S w (.slice none 0 0) []:=⟨[],vA _ _ _ _,(fun k a=>by cases a),rfl⟩
def qbW.keep {l:List Pn} (a:qbW S w v l) (b:∀ k,v.ownBlock=some k->w'.heap[k]?=w.heap[k]?) (c:∀ k,Of S 3 w k->w'.heap[k]?=w.heap[k]?):qbW S w' v l:=by
 obtain ⟨cs,h1,h2,h3⟩:=a;exact ⟨cs,qaq h1 b,h2,h3.imp fun _ _ a=>a.keepO c⟩
def qbW.imp {T:Nat->Prop} {l:List Pn} (a:qbW S w v l) (c:∀ k,S k->T k):qbW T w v l:=by
 obtain ⟨cs,h1,h2,h3⟩:=a;exact ⟨cs,h1,fun k b=>c k (h2 k b),h3.imp fun _ _ a=>a.imp fun k b=>b.imp (c k)⟩
def qbW.push {l:List Pn} (h1:w.ownsRow 0 74 2 v l.length cs) (h3:qao (qa2 (Of S 3 w) w) l cs) {A:Option Addr} {c:Nat} {d:Int} {ps:List Int} (m:ps.length<=c) (p:c<=maxLen) (h:qa2 (Of S 3 w) w A (qaa ps))
  (i:w'.ownsRow 0 74 2 v' (l.length+1) (cs++[.int .i64 d,.slice A ps.length c])) (b:w.grownBy w' v.ownBlock) (g:∀ k,v'.ownBlock=some k->S k):qbW S w' v' (l++[(d,ps)]):=by
 have a:∀ k,Of S 3 w k->w'.heap[k]?=w.heap[k]?:=fun k a=>b.block k a.lt fun e=>by
  obtain ⟨_,cs',fr,j,_⟩:=a;exact qan h1 j (by decide) e.symm
 refine ⟨_,?_,g,(h3.imp fun _ _ n=>n.keepO a).snoc m p (h.keepO a)⟩;rw [iA,bB];exact i
def qbP (S:Nat->Prop) (w:World) (M c:Nat) (g:List GP):Prop:=∃ m:List qaS,qbm w M c m/\S M/\m.length=g.length/\
 (∀ (i:Nat) (e:qaS) (p:GP),m[i]?=some e->g[i]?=some p->e.1=p.1/\qbW S w e.2 p.2)/\
 ∀ (i j:Nat) (e f:qaS) (k:Nat),i≠j->m[i]?=some e->m[j]?=some f->e.2.ownBlock=some k->f.2.ownBlock≠some k
def qgu (S:Nat->Prop) (w:World) (M k:Nat):Prop:=k=M\/Of S 74 w k
def qbW.not_map {l:List Pn} (e:qbW S w v l) {B:Nat} {d:Array MapEntry} {c:Nat} (a:w.heap[B]?=some (.map d c)):v.ownBlock≠some B:=by
 intro g;obtain ⟨cs,h1,_⟩:=e;have ⟨cs',fr,b⟩:=qfz h1 g;rw [b] at a;cases a
def qbP.lt {g:List GP} (a:qbP S w M c g):M<w.heap.size:=by obtain ⟨m,h1,_⟩:=a;exact (gA.1 h1).1
def qbP.map {g:List GP} (a:qbP S w M c g):∃ d b,w.heap[M]?=some (.map d b):=by obtain ⟨m,h1,_⟩:=a;exact ⟨_,_,h1⟩
def qbP.keep {g:List GP} (h:qbP S w M c g) (a:∀ k,S k->k<w.heap.size->w'.heap[k]?=w.heap[k]?):qbP S w' M c g:=by
 have n:=h.lt;obtain ⟨m,h1,h2,h3,q,r⟩:=h;refine ⟨m,(a M h2 n).trans h1,h2,h3,fun i e p t v=> ?_,r⟩;have ⟨l,d⟩:=q i e p t v;refine ⟨l,d.keep (fun k j=> ?_) fun k b=>a k b.1 b.lt⟩;obtain ⟨cs,s,q2,_⟩:=d;exact a k (q2 k j) (s.lt k j).2
def qbP.imp {T:Nat->Prop} {g:List GP} (j:qbP S w M c g) (a:∀ k,S k->T k):qbP T w M c g:=by
 obtain ⟨m,h1,h2,h3,b,l⟩:=j;exact ⟨m,h1,a M h2,h3,fun i e p d h=>⟨(b i e p d h).1,(b i e p d h).2.imp a⟩,l⟩
def qjd:∀ {m:List qaS} {g:List GP} (t:Nm),m.length=g.length->(∀ (i:Nat) (e:qaS) (p:GP),m[i]?=some e->g[i]?=some p->e.1=p.1/\qbW S w e.2 p.2)->qbW S w (qda m t) (qb1 g t)
 |[],g,t,c,d=>by
  cases g with
  |nil=>exact qbW.nil
  |cons p g=>cases c
 |e::m,g,t,c,d=>by
  cases g with
  |nil=>cases c
  |cons p g=>
   have ⟨h1,h2⟩:=d 0 e p rfl rfl;have j:=qjd (m:=m) (g:=g) t (by simpa using c) fun i k l n a=>d (i+1) k l (by simpa using n) (by simpa using a)
   rw [qb1];by_cases b:e.1=t
   ·have a:qax (e::m) t=0:=by unfold qax;rw [mE];simp [b]
    have h:qda (e::m) t=e.2:=by unfold qda;simp [a]
    rw [eA (by rw [<- h1];exact b),h];exact h2
   ·have a:qax (e::m) t=qax m t+1:=by unfold qax;rw [mE];simp [b]
    have h:qda (e::m) t=qda m t:=by unfold qda;simp [a]
    rw [dA (by rw [<- h1];exact b),h];exact j
def qbP.look {g:List GP} (a:qbP S w M c g) (t:Nm):∃ v,(∃ m,qbm w M c m/\qda m t=v)/\qbW S w v (qb1 g t):=by
 obtain ⟨m,h1,h2,h3,b,d⟩:=a;exact ⟨_,⟨m,h1,rfl⟩,qjd t h3 b⟩
def qbP.keys {g:List GP} (h:qbP S w M c g):∃ m,qbm w M c m/\m.map (·.1)=g.map (·.1)/\m.length=g.length:=by
 obtain ⟨m,h1,_,h3,d,_⟩:=h;refine ⟨m,h1,dD (by simp [h3]) fun i b a=> ?_,h3⟩;have e:i<m.length:=by simpa using b
 have j:i<g.length:=by simpa using a
 simpa using (d i _ _ (oA e) (oA j)).1
def qqY:∀ {m:List qaS} {g:List GP} {t:Nm} {a:Pn},m.length=g.length->(∀ (i:Nat) (e:qaS) (p:GP),m[i]?=some e->g[i]?=some p->e.1=p.1)->
  (qcz g t a).length=(qds m t).length/\(qcz g t a)[qax m t]?=some (t,qb1 g t++[a])/\∀ i p,i≠qax m t->(qcz g t a)[i]?=some p->g[i]?=some p
 |[],g,t,a,h,l=>by
  cases g with
  |nil=>refine ⟨by simp [qcz,qds,qax],by simp [qcz,qax,qb1],fun i p k c=> ?_⟩;cases i with|zero=>simp [qax] at k|succ i=>simp [qcz] at c
  |cons p g=>cases h
 |e::m,g,t,a,h,l=>by
  cases g with
  |nil=>cases h
  |cons p g=>
   have h1:=l 0 e p rfl rfl;have ⟨s,r,x⟩:=qqY (m:=m) (g:=g) (t:=t) (a:=a) (by simpa using h) fun i w y n c=>l (i+1) w y (by simpa using n) (by simpa using c)
   have v:m.length=g.length:=by simpa using h
   rw [qcz];by_cases j:e.1=t
   ·have c:qax (e::m) t=0:=by unfold qax;rw [mE];simp [j]
    have d:p.1=t:=by rw [<- h1];exact j
    rw [eA d,c];refine ⟨by simp [qds,c,v],by simp [qb1,d],fun i q k b=> ?_⟩;cases i with
    |zero=>exact absurd rfl k
    |succ i=>simpa using b
   ·have c:qax (e::m) t=qax m t+1:=by unfold qax;rw [mE];simp [j]
    have d:¬ p.1=t:=by rw [<- h1];exact j
    have n:(qds (e::m) t).length=(qds m t).length+1:=by
     unfold qds;rw [c];by_cases b:qax m t<m.length
     ·rw [eA b,eA (by simpa using b)];rfl
     ·rw [dA b,dA (by simpa using b)];simp
    rw [dA d,c];refine ⟨by rw [n,nA,s],by rw [dF,r,qb1,dA d],fun i q k b=> ?_⟩;cases i with
    |zero=>simpa using b
    |succ i=>simpa using x i q (by omega) (by simpa using b)
def qbP.added {T:Nat->Prop} {w3:World} {g:List GP} {m:List qaS} {t:Nm} {a:Pn} {v':Value}
  (h1:qbm w M c m) (h2:S M) (h3:m.length=g.length) (A:∀ (i:Nat) (e:qaS) (p:GP),m[i]?=some e->g[i]?=some p->e.1=p.1/\qbW S w e.2 p.2)
  (P:∀ (i j:Nat) (e f:qaS) (k:Nat),i≠j->m[i]?=some e->m[j]?=some f->e.2.ownBlock=some k->f.2.ownBlock≠some k)
  (H:∀ k,S k->T k) (I:∀ (k:Nat),k<w.heap.size->k≠M->(qda m t).ownBlock≠some k->w3.heap[k]?=w.heap[k]?)
  (R:qbm w3 M c ((qds m t).set (qax m t) (t,v'))) (Y:qbW T w3 v' (qb1 g t++[a])) (hn:v'.ownBlock=(qda m t).ownBlock\/∀ k,v'.ownBlock=some k->w.heap.size<=k):qbP T w3 M c (qcz g t a):=by
 have ⟨F,ah⟩:=qyB m t;have ⟨W,q2,q3⟩:=qqY (a:=a) (t:=t) h3 fun i e p b s=>(A i e p b s).1
 have ag:M<w.heap.size:=(gA.1 h1).1;have y:∀ (i:Nat) (e:qaS),i≠qax m t->(qds m t)[i]?=some e->m[i]?=some e:=fun i e d b=>by
  unfold qds at b;split at b
  ·exact b
  ·rename_i z
   have ae:qax m t<=m.length:=List.findIdx_le_length;rw [List.getElem?_append] at b;split at b
   ·exact b
   ·rename_i ai
    have :i≠m.length:=by omega
    rw [sC (by simp;omega)] at b;cases b
 have J:∀ (i:Nat) (e:qaS) (k:Nat),i≠qax m t->m[i]?=some e->e.2.ownBlock=some k->(qda m t).ownBlock≠some k:=fun i e k d b l=>by
  unfold qda;split
  ·rename_i z
   exact P i (qax m t) e _ k d b (oA z) l
  ·intro q;cases q
 refine ⟨_,R,H M h2,by rw [uC,W],fun i e p b s=> ?_,fun i j e f k C b n l=> ?_⟩
 ·rw [aE] at b
  by_cases d:qax m t=i
  ·subst d
   rw [eA rfl,eA F] at b;rw [q2] at s;cases b;cases s;exact ⟨rfl,Y⟩
  ·rw [dA d] at b
   have O:=y i e (fun h=>d h.symm) b;have V:=q3 i p (fun h=>d h.symm) s;have ⟨Q,B⟩:=A i e p O V;have Z:=J i e;have ac:∀ k,e.2.ownBlock=some k->k≠M:=fun k l v=>B.not_map h1 (by rw [l,v])
   refine ⟨Q,qbW.imp (B.keep (fun k l=> ?_) fun k aa=> ?_) H⟩
   ·have z:k<w.heap.size:=by obtain ⟨cs,r,_⟩:=B;exact (r.lt k l).2
    exact I k z (ac k l) (Z k (fun h=>d h.symm) O l)
   ·obtain ⟨_,cs',af,q,_⟩:=aa
    refine I k (gA.1 q).1 (fun v=> ?_) (fun v=> ?_)
    ·subst v;rw [h1] at q;cases q
    ·have ⟨U,r,_⟩:=qjd (S:=S) (w:=w) t h3 A
     exact qan r q (by decide) v
 ·rw [aE] at b n
  have N:∀ (x:Nat) (u:qaS),qax m t≠x->(qds m t)[x]?=some u->∀ k,u.2.ownBlock=some k->v'.ownBlock≠some k:=fun x u L ad k K D=>by
   have G:=y x u (fun h=>L h.symm) ad;rcases hn with hn|hn
   ·rw [hn] at D
    exact J x u k (fun h=>L h.symm) G K D
   ·have X:x<g.length:=by rw [<- h3];exact (yC.1 G).1
    have ⟨U,r,_⟩:=(A x u _ G (oA X)).2;have :=(r.lt k K).2;have :=hn k D;omega
  by_cases d:qax m t=i
  ·subst d
   rw [eA rfl,eA F] at b;cases b;rw [dA C] at n;intro ab;exact N j f C n k ab l
  ·rw [dA d] at b
   by_cases E:qax m t=j
   ·subst E
    rw [eA rfl,eA F] at n;cases n;exact N i e d b k l
   ·rw [dA E] at n
    exact P i j e f k C (y i e (fun h=>d h.symm) b) (y j f (fun h=>E h.symm) n) l
def qeu (a:List Tm) (s:Nm) (ws:List Nm):List Tm:=ws.foldl (fun b x=>qb7 b (s,x)) a
def qev (l:List Fd) (k:Nat):List Tm:=(l.take k).foldl (fun a f=>qeu a f.1 (qbl l f.1)) []
def qlH {l:List Fd} (a:k<l.length):qev l (k+1)=qeu (qev l k) l[k].1 (qbl l l[k].1):=by
 unfold qev;rw [aB a,fF];rfl
def qje (l:List Fd):qev l l.length=qas l:=by rw [qev,fC];rfl
def qAN {a:List Tm} {s:Nm} {ws:List Nm} (b:m<ws.length):qeu a s (ws.take (m+1))=qb7 (qeu a s (ws.take m)) (s,ws[m]):=by
 unfold qeu;rw [aB b,fF];rfl
def qAO (l:List Tm) (t:Tm):(qb7 l t).length<=l.length+1:=by
 have :=qiE l t l.length;unfold qb7;split
 ·omega
 ·simp only [iA,sA,nA,rB]
  omega
def qlI (s:Nm):∀ (ws:List Nm) (a:List Tm),(qeu a s ws).length<=a.length+ws.length
 |[],a=>aA _
 |x::ws,a=>by
  have h1:=qAO a (s,x);have h2:=qlI s ws (qb7 a (s,x));simp only [nA];show (qeu (qb7 a (s,x)) s ws).length<=_;omega
def qhU {l:List Fd} (a:∀ s,(qbl l s).length<=M):∀ k,k<=l.length->(qev l k).length<=k*M
 |0,_=>by simp [qev]
 |k+1,b=>by
  have h1:=qhU a k (by omega);have h2:=qlI (l[k]'(by omega)).1 (qbl l (l[k]'(by omega)).1) (qev l k);have h3:=a (l[k]'(by omega)).1;rw [qlH (by omega),Nat.succ_mul];omega
def qfb.put {l:List Tm} {t:Tm} (b:qfb l) (h1:t.1.length<=536870912) (h2:t.2.length<=536870912):qfb (qb7 l t):=fun s a=>by
 rcases qkY.1 a with a|rfl
 ·exact b s a
 ·exact ⟨h1,h2⟩
def qfb.all {s:Nm} (h1:s.length<=536870912):∀ {ws:List Nm} {a:List Tm},qfb a->(∀ x∈ws,x.length<=536870912)->qfb (qeu a s ws)
 |[],a,b,_=>b
 |x::ws,a,b,h2=>qfb.all h1 (ws:=ws) (b.put h1 (h2 x (eB ..))) fun y c=>h2 y (oB _ c)
def qqZ {l:List Fd} (b:∀ f∈l,f.2.length<=134217728) (s:Nm):∀ x∈qbl l s,x.length<=536870912:=by
 induction l with
 |nil=>intro x a;cases a
 |cons f e d=>
  intro x a;rw [qbl] at a;split at a
  ·have :=qif a
   have :=b f (eB ..);omega
  ·exact d (fun g c=>b g (oB _ c)) x a
def qq0 {l:List Fd} (a:∀ f∈l,f.1.length<=536870912/\f.2.length<=134217728):∀ k,k<=l.length->qfb (qev l k)
 |0,_=>fun t b=>by simp [qev] at b
 |k+1,d=>by
  rw [qlH (by omega)];exact (qq0 a k (by omega)).all (a _ (pA _)).1 (qqZ (fun f c=>(a f c).2) _)
def qAP (l:List Fd) (a:World) (o i:Value) (wr:World):Prop:=∃ k:Nat,k<=l.length/\i= .int .i64 (k:Int)/\qaR a.heap.size wr o (qev l k)/\wG a wr
def qAQ (a:List Tm) (s:Nm) (ws:List Nm) (zz:Nat) (b:World) (o i:Value) (wr:World):Prop:=∃ (m:Nat) (c:Value),c=o/\m<=ws.length/\i= .int .i64 (m:Int)/\qaR zz wr o (qeu a s (ws.take m))/\wG b wr
def qq1 (l:List Tm) (w:World) (e:Ending) (w':World):Prop:=∃ v,e= .returned v/\qaR w.heap.size w' v l/\wG w w'
def qAR (id:Int) (A:Option Addr) (n c:Nat) (l:List Fd) (w:World) (an:l.length=n) (aa:qap w w.heap.size A l) (b0:n<=100) (Z:∀ f∈l,f.1.length<=536870912/\f.2.length<=134217728) (ai:∀ s,(qbl l s).length<=1000):
    yG 76 #[qb8 id A n c] w (qq1 (qas l) w):=by
  have bd:qI (∀ w' (x:ByteArray),wG w w'->yG 126 #[qb8 id A n c,.string x] w' (qgJ (qbl l x.data.toList) w')):=qH fun w' x b=>qlp id A n c l x w' an (aa.later b) (by omega) (fun f ad=>by have :=(Z f ad).2;omega)
  subst an;have a8:=qH aa;have ae:=qH ai;have ab:=qH Z;clear aa Z ai;have ⟨N,ac⟩:=qE (qas l);rw [<- ac];have bb:=qH ac;clear ac
  go_enter func76,ntmps76
  go_wp2;have ⟨h,Q⟩:=qE (qbh w id A l.length c);have F:∀ wr,wG h wr->wG w wr/\wr.cell? ⟨w.heap.size,0,none⟩=some (.int .i64 id)/\wr.cell? ⟨w.heap.size,1,none⟩=some (.slice A l.length c):=fun wr b=>by
    subst Q;exact ⟨qhN b,qfu b⟩
  have I:=qH F;clear F;rw [show w.alloc _=h from Q.symm]
  clear Q
  go_loopw [3,4,5,6] (fun o i x y wr=>qAP l h o i wr) (fun _ i _ _ _=>l.length-(intOf i).toNat)
  case atStart=>exact ⟨0,by omega,rfl,qaR.nil,bA _ _⟩
  case round=>
    obtain ⟨k,bs,rfl,C,B⟩:=hrel;have ⟨v,bo,bi⟩:=I.o _ B;by_cases T:k<l.length
    · have ⟨d,g,bl,F,K,_⟩:=(a8.o.below v).at_ T
      subst bl;have ⟨x,S,ax⟩:=qa8 l[k].1;rw [<- S] at K;have aq:=qH fun w' b=>bd.o w' x b
      have b2:(0:Int)<=k:=by omega
      have bx:(k:Int)<l.length:=by omega
      have X:qI (∀ w',Below h.heap.size wr w'->w'.cell? ⟨w.heap.size,0,none⟩=some (.int .i64 id)/\w'.cell? ⟨w.heap.size,1,none⟩=some (.slice (some ⟨d,g,none⟩) l.length c)/\w'.cell? ⟨d,g+k*2,none⟩=some (.string x)):=qH fun w' b=>by
        have h2:=I.o _ (B.trans b);refine ⟨h2.2.1,h2.2.2,?_⟩;have h3:=(b.mono (by have :=(I.o _ (bA _ _)).1.size;omega:w.heap.size<=h.heap.size)).cell (p:=⟨d,g+k*2,none⟩) F;exact h3.trans K
      have ar:x.size<=536870912:=by rw [S,qdl];exact (ab.o _ (pA T)).1
      have r:=qlH T;have M:=qq0 ab.o k (by omega);have J:=qhU ae.o k (by omega);have ak:=ae.o l[k].1;have H:=qqZ (fun f ad=>(ab.o f ad).2) l[k].1;rw [<- ax] at r ak H;have ⟨ws,am⟩:=qE (qbl l x.data.toList);have ⟨a,a0⟩:=qE (qev l k);rw [<- am] at aq r ak H;rw [<- a0] at r M J C;have b4:a.length<=100000:=lA J (lA (dE _ (by omega:k<=100)) (by omega));have a1:=qH r;have bf:=qH M;have ay:=qH H;have D:=qH v;have a3:=qH C;have bc:=qH B;have bj:=B.size;clear S ax am a0 r M J H v C B;go_wp2
      go_region_held3 (fun w'=>w'.cell? ⟨w.heap.size,0,none⟩=some (.int .i64 id)/\w'.cell? ⟨w.heap.size,1,none⟩=some (.slice (some ⟨d,g,none⟩) l.length c)/\w'.cell? ⟨d,g+k*2,none⟩=some (.string x))
        (first|exact X.o _ (bA _ _).drew|exact X.o _ q.o)
        (first
          | (go_at_call 126; (with_reducible refine (aq.o _ (D.o.trans ((bA _ wr).drew.mono (D.o.size)))).mono ?_); rintro e P ⟨bt, rfl, aj, U⟩
             obtain ⟨bv,bw,rfl,bp,av⟩:=qaK aj;have bh:=qH av;have a9:qI (wG wr P):=qH ((bA _ wr).drew.trans U);have q:qI (Below h.heap.size wr P):=qH (((bA _ wr).drew.trans U).mono bj);clear aj U av))
      all_goals
        go_wp2
        go_loopw [3,6] (fun o i wr=>qAQ a x.data.toList ws h.heap.size P o i wr) (fun _ i _=>ws.length-(intOf i).toNat)
        case atStart=>exact ⟨0,_,rfl,by omega,rfl,a3.o.below a9.o,bA _ _⟩
        case round=>
          obtain ⟨m,be,rfl,b3,rfl,t,j⟩:=hrel;by_cases V:m<ws.length
          · have ⟨E,R,a4,bu,ao⟩:=qdr (bh.o.below j) V
            subst a4;have az:=ay.o _ (pA V);have G:=qAN (a:=a) (s:=x.data.toList) V;have ⟨y,O,af⟩:=qa8 ws[m];rw [<- O] at ao;rw [<- af] at G;have ah:y.size<=536870912:=by rw [O,qdl];exact az
            have L:qfb (qeu a x.data.toList (ws.take m)):=bf.o.all (by rw [show x.data.toList.length=x.size from wC];exact ar) fun z bm=>ay.o z (rF bm)
            have W:(qeu a x.data.toList (ws.take m)).length<=1048576:=by
              have :=qlI x.data.toList (ws.take m) a;rw [sA] at this;omega
            have ⟨ba,aw⟩:=qE (qeu a x.data.toList (ws.take m));rw [<- aw] at G L W t;have PT:qI (∀ w',wG wr w'->yG 127 #[be,.agg #[.string x,.string y]] w' (qqT h.heap.size (qb7 ba (x.data.toList,y.data.toList)) w')):=qH fun w' b=>
              qAB _ _ _ _ _ _ (t.below b) (by have :=b.size;have :=j.size;have :=q.o.size;omega) W L ar ah
            have bz:(0:Int)<=m:=by omega
            have br:(m:Int)<ws.length:=by omega
            have ag:=j.size;have Y:qI (∀ w',wG wr w'->w'.cell? ⟨w.heap.size,0,none⟩=some (.int .i64 id)/\w'.cell? ⟨w.heap.size,1,none⟩=some (.slice (some ⟨d,g,none⟩) l.length c)/\w'.cell? ⟨d,g+k*2,none⟩=some (.string x)/\w'.cell? ⟨E,R+m,none⟩=some (.string y)):=qH fun w' b=>by
              have h2:=X.o w' (q.o.trans ((j.trans (b.mono ag)).mono (by have :=q.o.size;omega)));exact ⟨h2.1,h2.2.1,h2.2.2,(b.cell (p:=⟨E,R+m,none⟩) (by show E<wr.heap.size;omega)).trans ao⟩
            have ⟨b1,bq,q2,q3⟩:=Y.o _ (bA _ _);have a6:=qH G;have a5:=qH j;clear O af aw G L W t az ah j bo bi K;go_wp2
            go_region_held3 (fun w'=>w'.cell? ⟨w.heap.size,0,none⟩=some (.int .i64 id)/\w'.cell? ⟨w.heap.size,1,none⟩=some (.slice (some ⟨d,g,none⟩) l.length c)/\w'.cell? ⟨d,g+k*2,none⟩=some (.string x)/\w'.cell? ⟨E,R+m,none⟩=some (.string y))
              (first|exact Y.o _ (bA _ _).drew|exact Y.o _ ap.o)
              (first
                | (go_at_call 127; (with_reducible refine (PT.o _ (bA _ wr).drew).mono ?_); rintro e bg ⟨b5, rfl, au, al⟩
                   have a7:=qH au;have ap:qI (wG wr bg):=qH ((bA _ wr).drew.trans al);clear au al))
            all_goals
              go_wp2;exact ⟨⟨m+1,_,rfl,by omega,by go_num,by rw [a6.o];exact a7.o,a5.o.trans (ap.o.mono ag)⟩,by simp [intOf];omega⟩
          · have bn:m=ws.length:=by omega
            subst bn;rw [fC,<- a1.o] at t;go_wp2;exact ⟨⟨k+1,by omega,by go_num,t,bc.o.trans (q.o.trans (j.mono (by have :=q.o.size;omega)))⟩,by simp [intOf];omega⟩
    · have a2:k=l.length:=by omega
      subst a2;rw [qje,<- bb.o] at C;have D:=qH v;have bk:=qH (I.o _ (bA _ _)).1.size;clear v;go_wp2;go_ret;exact ⟨_,rfl,C.low bk.o,D.o⟩
def qAS (A:Option Addr) (n c:Nat) (l:List Fd) (w:World) (h:l.length=n) (g:qap w w.heap.size A l) (q:A=none\/∃ b o,A=some ⟨b,o,none⟩) (C:n<=1048576):
  yG 154 #[.slice A n c] w fun e w'=>∃ v,e= .returned v/\qa0 w.heap.size w' v l/\wG w w':=by
 have ⟨y,z,s,t,i⟩:=lG qo3;rcases q with rfl|⟨b,o,rfl⟩
 ·have p:l=[]:=by
   cases l with
   |nil=>rfl
   |cons f l=>have ⟨_,_,e,_⟩:=g.at_ (k:=0) (by simp);cases e
  subst p;refine (AnyE.slices_Clone_nil qmJ n c w).mono ?_;rintro e w' ⟨rfl,rfl⟩;exact ⟨_,rfl,qa0.nil,bA _ _⟩
 ·have a:∀ j u,(flds l)[j]?=some u->w.cell? ⟨b,o+j,none⟩=some u:=fun j u d=>by
   rcases g with x|⟨D,B,e,_,a⟩
   ·rw [x] at d;simp at d
   ·cases e
    exact a j u d
  refine (AnyE.slices_Clone qmJ y _ 2 32 z s t i rfl (by decide) Tryz.sizeOf121 b o n c (flds l) w (by rw [qfW,h]) (by unfold maxLen;omega) (by omega) a (qiG l)).mono ?_;rintro e w' ⟨v,rfl,m,_,r⟩;refine ⟨v,rfl,?_,r⟩;unfold qa0;rw [h];exact m
def qAT (id:Int) (A:Option Addr) (n c:Nat) (l:List Fd) (w:World) (I:l.length=n) (C:qap w w.heap.size A l) (D:A=none\/∃ b o,A=some ⟨b,o,none⟩) (U:n<=1048576):
    yG 105 #[qb8 id A n c] w fun e w'=>∃ v,e= .returned (.agg #[.int .i64 id,v])/\qa0 w.heap.size w' v l/\wG w w':=by
  have ⟨d,i⟩:=qE ((w.alloc (.cells #[.int .i64 id,.slice A n c] 59)).alloc (.cells #[.int .i64 0,.slice none 0 0] 59));have s:wG w d:=by rw [i];exact ((bA _ w).alloc (aA _) _).alloc (by simp) _
  have y:d.heap.size=w.heap.size+2:=by rw [i];simp
  have H:d.heap[w.heap.size]?=some (.cells #[.int .i64 id,.slice A n c] 59 (0,0)):=by
    rw [i,pB _ _ _ (by simp)];exact jA w _
  have J:d.heap[w.heap.size+1]?=some (.cells #[.int .i64 0,.slice none 0 0] 59 (0,0)):=by
    rw [i];simpa using jA (w.alloc (.cells #[.int .i64 id,.slice A n c] 59)) (.cells #[.int .i64 0,.slice none 0 0] 59)
  have B:qI (∀ w',wG d w'->w'.cell? ⟨w.heap.size,0,none⟩=some (.int .i64 id)/\w'.cell? ⟨w.heap.size,1,none⟩=some (.slice A n c)):=qH fun w' q=>by
    have :=(q.block w.heap.size (by omega)).trans H;exact ⟨(qc2 this).1,(qc2 this).2.1⟩
  have G:qI (∀ w',wG d w'->w'.heap[w.heap.size+1]?=some (.cells #[.int .i64 0,.slice none 0 0] 59 (0,0))):=qH fun w' q=>(q.block _ (by omega)).trans J
  have S:qI (∀ w',wG d w'->yG 154 #[.slice A n c] w' fun e F=>∃ v,e= .returned v/\qa0 w'.heap.size F v l/\wG w' F):=qH fun w' q=>qAS A n c l w' I (C.later (s.trans (q.mono s.size))) D U
  have L:=qH i;have E:=qH s;have M:=qH y;clear i s y H J C D I
  go_enter func105,ntmps105
  go_wp2;rw [show (w.alloc _).alloc _=d from L.o.symm]
  go_region_held3 (fun w'=>w'.cell? ⟨w.heap.size,0,none⟩=some (.int .i64 id)/\w'.cell? ⟨w.heap.size,1,none⟩=some (.slice A n c))
    (first|exact B.o _ (bA _ _).drew|exact B.o _ p.o|exact O.o)
    (first
      | (go_at_call 154; (with_reducible refine (S.o _ (bA _ d).drew).mono ?_); rintro e j ⟨v, rfl, z, K⟩
         obtain ⟨g,h,rfl,_,_⟩:=z.row;have p:qI (wG d j):=qH ((bA _ d).drew.trans K);have N:qI (qa0 d.heap.size j (.slice g l.length h) l):=qH z;have m:=qc2 (G.o _ p.o);have Z:=m.1;have W:=m.2.1;have X:=m.2.2.1;have Y:=m.2.2.2;have O:qI (((j.setCell ⟨w.heap.size+1,0,none⟩ (.int .i64 id)).setCell ⟨w.heap.size+1,1,none⟩ (.slice g l.length h)).cell? ⟨w.heap.size,0,none⟩=some (.int .i64 id)/\((j.setCell ⟨w.heap.size+1,0,none⟩ (.int .i64 id)).setCell ⟨w.heap.size+1,1,none⟩ (.slice g l.length h)).cell? ⟨w.heap.size,1,none⟩=some (.slice A n c)):=qH (by
           have R:=B.o _ p.o;have t:∀ (u:World) (k:Nat) (v:Value) (o:Nat),(u.setCell ⟨w.heap.size+1,k,none⟩ v).cell? ⟨w.heap.size,o,none⟩=u.cell? ⟨w.heap.size,o,none⟩:=fun u k v o=>by
             simp only [World.cell?];rw [qeh (by omega)]
           rw [t,t,t,t];exact R)
         clear z K m))
  all_goals
    go_wp2;have ⟨x,r⟩:=qE ((j.setCell ⟨w.heap.size+1,0,none⟩ (.int .i64 id)).setCell ⟨w.heap.size+1,1,none⟩ (.slice g l.length h));have h3:x.heap[w.heap.size+1]?=some (.cells #[.int .i64 id,.slice g l.length h] 59 (0,0)):=by rw [r,qdo (qdo (G.o _ p.o))];rfl
    have T:wG w x:=by rw [r];exact ((E.o.trans (p.o.mono E.o.size)).setCell (by simp) _).setCell (by simp) _
    have y:=M.o;have P:qa0 w.heap.size x (.slice g l.length h) l:=by
      rw [r];exact (show qa0 d.heap.size _ _ _ from aF (aF N.o (a:=⟨w.heap.size+1,0,none⟩) (by simp;omega) _) (a:=⟨w.heap.size+1,1,none⟩) (by simp;omega) _).low (by omega)
    rw [<- r];have ⟨Q,V,_,_⟩:=qc2 h3;exact pE (v:= .agg #[.int .i64 id,.slice g l.length h]) (by simp [results,Tryz.results105,go_sem,Q,V]) rfl ⟨_,rfl,P,T⟩
def qcA {x y z:Value} (a:w.heap[b]?=some (.cells #[x,y,z,u] t (0,0))):
  w.cell? ⟨b,0,none⟩=some x/\w.cell? ⟨b,1,none⟩=some y/\w.cell? ⟨b,2,none⟩=some z/\w.cell? ⟨b,3,none⟩=some u/\
   w.frozen? ⟨b,0,none⟩=false/\w.frozen? ⟨b,1,none⟩=false/\w.frozen? ⟨b,2,none⟩=false/\w.frozen? ⟨b,3,none⟩=false:=by
 simp [World.cell?,World.frozen?,a]
def qcB (S:Nat->Prop) (w:World) (A:Option Addr) (xs:List Value):Prop:=qa2 (Of S 121 w) w A xs/\(A=none\/∃ b o,A=some ⟨b,o,none⟩)
def qcB.keepO (a:qcB S w A xs) (b:∀ k,Of S 121 w k->w'.heap[k]?=w.heap[k]?):qcB S w' A xs:=⟨qa2.keepO a.1 b,a.2⟩
def qcB.impS {T:Nat->Prop} (a:qcB S w A xs) (b:∀ k,S k->T k):qcB T w A xs:=⟨qa2.imp a.1 fun k c=>c.imp (b k),a.2⟩
def qa6 (S:Nat->Prop) (w:World) (v:Value) (l:List En):Prop:=∃ cs,w.ownsRow 0 61 3 v l.length cs/\(∀ k,v.ownBlock=some k->S k)/\qc1 enS (qcB S w) l cs
section
variable {S T:Nat->Prop} {w w':World} {v v':Value} {l:List En}
def qa6.nil:qa6 S w (.slice none 0 0) []:=⟨[],vA _ _ _ _,(fun k a=>by cases a),rfl⟩
def qa6.keep (a:qa6 S w v l) (b:∀ k,v.ownBlock=some k->w'.heap[k]?=w.heap[k]?) (c:∀ k,Of S 121 w k->w'.heap[k]?=w.heap[k]?):qa6 S w' v l:=by
 obtain ⟨cs,h1,h2,h3⟩:=a;exact ⟨cs,qaq h1 b,h2,h3.imp fun _ _ a=>a.keepO c⟩
def qa6.keeps (b:qa6 S w v l) (d:∀ k,S k->k<w.heap.size->w'.heap[k]?=w.heap[k]?):qa6 S w' v l:=by
 refine b.keep (fun k c=> ?_) fun k a=>d k a.1 a.lt
 obtain ⟨cs,e,q2,_⟩:=b;exact d k (q2 k c) (e.lt k c).2
def qa6.imp (a:qa6 S w v l) (b:∀ k,S k->T k):qa6 T w v l:=by
 obtain ⟨cs,h1,h2,h3⟩:=a;exact ⟨cs,h1,fun k c=>b k (h2 k c),h3.imp fun _ _ a=>a.impS b⟩
def qa6.nestP {p:Nat->Prop} (h:qa6 S w v l) (m:∀ k,S k->k<w.heap.size->(∃ cs t fr,w.heap[k]?=some (.cells cs t fr)/\(t=61\/t=121))->p k):∃ A c,v= .slice A l.length c/\(l.length<=c/\c<=maxLen)/\qdx enS p w A l:=by
 obtain ⟨cs,h1,h2,h3⟩:=h;obtain ⟨A,c,rfl,s,q⟩:=qeo h1;refine ⟨A,c,rfl,s,cs,h3.imp fun _ _ h=>h.1.imp fun k i=>m k i.1 i.lt ?_,?_⟩
 ·obtain ⟨_,cs',fr,d,_⟩:=i
  exact ⟨cs',_,fr,d,.inr rfl⟩
 ·rcases h1.2 with ⟨j,a⟩|⟨g,B,z,j,_,d,_⟩
  ·refine .inl (sB ?_)
   rw [h1.1,a]
  ·injection j with e1 e2 e3
   subst e1;have r:=h2 g rfl;rcases q with a|⟨b,y,e,x,n⟩
   ·exact .inl a
   ·injection e with e
    injection e with e4 e5
    subst e4 e5;exact .inr ⟨g,0,rfl,m g r x ⟨_,_,_,d,.inl rfl⟩,n⟩
def qa6.nest (a:qa6 S w v l):∃ A c,v= .slice A l.length c/\(l.length<=c/\c<=maxLen)/\qb9 enS w w.heap.size A l:=a.nestP fun k _ b _=>b
def qa6.push (h1:w.ownsRow 0 61 3 v l.length cs) (h3:qc1 enS (qcB S w) l cs) {A:Option Addr} {c:Nat} {q:En} (j:q.2.1.length<=c) (n:c<=maxLen) (g:qcB S w A (flds q.2.1))
  (h:w'.ownsRow 0 61 3 v' (l.length+1) (cs++[.int .i64 q.1,.slice A q.2.1.length c,.int .i64 q.2.2])) (b:w.grownBy w' v.ownBlock) (d:∀ k,v'.ownBlock=some k->S k):qa6 S w' v' (l++[q]):=by
 have a:∀ k,Of S 121 w k->w'.heap[k]?=w.heap[k]?:=fun k a=>b.block k a.lt fun e=>by
  obtain ⟨_,cs',fr,i,_⟩:=a;exact qan h1 i (by decide) e.symm
 refine ⟨_,?_,d,(h3.imp fun _ _ m=>m.keepO a).snoc (q:=q) j n (g.keepO a)⟩;rw [iA,bB];exact h
def qcB.of_own (a:w.ownsRow zz 121 2 (.slice A n c) n (flds H)) (i:∀ k,zz<=k->k<w.heap.size->S k):qcB S w A (flds H):=by
 rcases a.2 with ⟨d,l⟩|⟨g,x,v,d,h,m,y,r,t,z⟩
 ·injection d with h1 h2 h3
  refine ⟨.inl (sB ?_),.inl h1⟩;rw [a.1,l]
 ·injection d with h1 h2 h3
  subst h1;refine ⟨?_,.inr ⟨g,0,rfl⟩⟩;rcases qbx a with j|⟨b,s,e,q,p⟩
  ·exact .inl j
  ·injection e with e
   injection e with e1 e2
   subst e1 e2;exact .inr ⟨g,0,rfl,⟨i g h q,_,_,m,rfl⟩,p⟩
def qa6.at_ (t:qa6 S w v l) {k:Nat} (p:k<l.length):∃ b z A c,v= .slice (some ⟨b,0,none⟩) l.length z/\S b/\b<w.heap.size/\w.cell? ⟨b,k*3,none⟩=some (.int .i64 l[k].1)/\w.cell? ⟨b,k*3+1,none⟩=some (.slice A l[k].2.1.length c)/\w.cell? ⟨b,k*3+2,none⟩=some (.int .i64 l[k].2.2)/\l[k].2.1.length<=c/\c<=maxLen/\qcB S w A (flds l[k].2.1):=by
 obtain ⟨cs,h1,h2,h3⟩:=t;have ⟨A,c,q,n,s,i,x,r⟩:=h3.at_ p;have e:=x 0 _ rfl;have m:=r 0 _ rfl;rcases h1.2 with ⟨d,C⟩|⟨g,h,E,d,D,y,_⟩
 ·omega
 ·subst d
  have a:∀ {j u},cs[j]?=some u->w.cell? ⟨g,j,none⟩=some u:=fun {j u} B=>by have :=h1.cells (g:=g) rfl _ _ B;simpa [cC] using this
  exact ⟨g,h,A,c,rfl,h2 g rfl,(gA.1 y).1,a e,a q,a m,n,s,i⟩
end
structure qgv (S:Nat->Prop) (w:World) (B:Nat) (l:List En) (up:Int) (v:Value) (M c:Nat) (g:List GP):Prop where
 cells:w.heap[B]?=some (.cells #[v,.map (some M),.int .i64 (qdL l:Int),.int .i64 up] 126 (0,0))
 mine:S B
 own:qa6 S w v l
 map:qbP S w M c g
 stand:qes g l
 good:qcY l
 up1: -1<=up
 last:l≠[]->up=qfv l
 lt:∀ k,S k->k<w.heap.size
def qdf (S:Nat->Prop) (w:World) (B:Nat) (l:List En) (up:Int):Prop:=∃ v M c g,qgv S w B l up v M c g
section
variable {S T:Nat->Prop} {w w':World} {B:Nat} {l:List En} {up:Int}
def qgv.keep {g:List GP} (a:qgv S w B l up v M c g) (d:∀ k,S k->w'.heap[k]?=w.heap[k]?) (e:w.heap.size<=w'.heap.size):qgv S w' B l up v M c g:=
 ⟨(d B a.mine).trans a.cells,a.mine,a.own.keeps fun k b _=>d k b,a.map.keep fun k b _=>d k b,a.stand,a.good,a.up1,a.last,fun k b=>tB (a.lt k b) e⟩
def qdf.keep (a:qdf S w B l up) (b:∀ k,S k->w'.heap[k]?=w.heap[k]?) (d:w.heap.size<=w'.heap.size):qdf S w' B l up:=by
 obtain ⟨v,M,c,g,a⟩:=a;exact ⟨v,M,c,g,a.keep b d⟩
def qgv.below {g:List GP} (a:qgv S w B l up v M c g) (b:wG w w'):qgv S w' B l up v M c g:=a.keep (fun k d=>b.block k (a.lt k d)) b.size
def qdf.below (a:qdf S w B l up) (b:wG w w'):qdf S w' B l up:=by
 obtain ⟨v,M,c,g,a⟩:=a;exact ⟨v,M,c,g,a.below b⟩
def qdf.lt (a:qdf S w B l up):∀ k,S k->k<w.heap.size:=by obtain ⟨v,M,c,g,a⟩:=a;exact a.lt
end
section
variable {id:Int} {A:Option Addr} {n c:Nat} {l:List Fd} {w:World}
def qCR (a:qc9 l) (b:l.length=n) (e:qap w w.heap.size A l) (s:ByteArray):yG 126 #[qb8 id A n c,.string s] w (qgJ (qbl l s.data.toList) w):=
 qlp id A n c l s w b e (by have :=a.len;omega) (fun f d=>by have :=a.texts f d;omega)
def qq2 (a:qc9 l) (d:l.length=n) (e:qap w w.heap.size A l):yG 76 #[qb8 id A n c] w (qq1 (qas l) w):=
 qAR id A n c l w d e (by have :=a.len;omega) (fun f b=>by have :=a.names f b;have :=a.texts f b;omega) (fun s=>by have :=a.wordsS s;omega)
def qAU (a:qc9 l) (b:l.length=n) (e:qap w w.heap.size A l) (f x:ByteArray):yG 79 #[qb8 id A n c,.agg #[.string f,.string x]] w (qhr (qaZ l (f.data.toList,x.data.toList)) w):=
 qzM id A n c l f x w b e (by have :=a.len;omega) (fun f d=>by have :=a.texts f d;omega) (fun s=>by have :=a.wordsS s;omega)
end
def qAV {e:TypeId} {size:Nat} (a:w.ownsRow 0 e size v n xs) (h:∀ k,v.ownBlock=some k->b<=k):w.ownsRow b e size v n xs:=by
 refine ⟨a.1,?_⟩;rcases a.2 with h1|⟨g,d,c,h1,h2,h3⟩
 ·exact .inl h1
 ·exact .inr ⟨g,d,c,h1,h g (by rw [h1];rfl),h3⟩
def qq3 (l:List En) (w:World) (e:Ending) (w':World):Prop:=∃ v,e= .returned v/\qa6 (fun k=>w.heap.size<=k) w' v l/\wG w w'
def qAW (l:List Dc) (start step:Int) (w:World) (o i:Value) (wr:World):Prop:=∃ (k:Nat) (a:Value),a=o/\k<=l.length/\i= .int .i64 (k:Int)/\qa6 (fun k=>w.heap.size<=k) wr a (qcL l k start step)/\wG w wr
def qAX (A:Option Addr) (n c:Nat) (l:List Dc) (a:Nat) (start step:Int) (w:World) (ag:l.length=n) (aj:qb9 qja w w.heap.size A l) (bv:n<=9223372036854775807) (bx:a<=100) (bi:0<=start/\start<=1000) (be:0<=step/\step<=1000)
    (an:∀ q∈l,∀ f∈q.2,f.1.length<=9223372036854775807/\f.2.length<=9223372036854775807):
    yG 10 #[.slice A n c,.int .i64 (a:Int),.int .i64 start,.int .i64 step] w (qq3 (qcL l a start step) w):=by
  have ⟨ap,a5,a2,a3,a9⟩:=lG qlD;have aw:=qH aj;have ay:=qH an;have X:=qH ag;obtain ⟨bq,q2⟩:=bi;obtain ⟨q3,ar⟩:=be;clear aj an ag
  go_enter func10,ntmps10
  go_wp2
  go_loopw [9,10] (fun o i wr=>(qAW l start step w o i wr/\(intOf i)<=a)) (fun _ i _=>n-(intOf i).toNat)
  case atStart=>exact ⟨⟨0,_,rfl,kA _,rfl,qa6.nil,bA _ _⟩,by simp [intOf]⟩
  case round=>
    obtain ⟨⟨k,a4,rfl,d,rfl,y,h⟩,ah⟩:=hrel;obtain ⟨a0,rfl⟩:=qE wr;have bz:k<=a:=by simpa [intOf] using ah
    clear ah;by_cases ab:k<n/\k<a
    · obtain ⟨au,bn⟩:=ab
      have t:k<l.length:=by rw [X.o];exact au
      have ⟨b,bw,bh,bd,bg,bb,a8,az,a7,T,V⟩:=qAu (qb9.later aw.o h) t;subst bg;have Z:=ay.o _ (pA t);have m:=qzv (start:=start) (step:=step) t;have aa:=qH (qAy l[k].1 bh l[k].2.length bd l[k].2 a0 rfl V (by unfold maxLen at T;omega) Z);have ⟨N,P⟩:=qE (l[k].2.length);have ⟨q,B⟩:=qE (l[k].1);have ⟨g,C⟩:=qE (qfV l[k].2);have bp:g.length<=4:=by rw [C];exact lA (qkZ _ _) (by omega)
      rw [<- P,<- B,<- C] at aa;rw [<- P] at az;rw [<- B] at a8;rw [<- B,<- C] at m;have Y:step*(k:Int)<=100000/\0<=step*(k:Int):=by
        refine ⟨?_,Int.mul_nonneg q3 (by omega)⟩;have h1:step*(k:Int)<=1000*(k:Int):=Int.mul_le_mul_of_nonneg_right ar (by omega);omega
      have ⟨z,O⟩:=qE (step*(k:Int));rw [<- O] at Y m;obtain ⟨bj,bm⟩:=Y;have ⟨S,I⟩:=qE (start+z);rw [<- I] at m;have br:IntKind.i64.wrap (start+z)=S:=by rw [I];exact iG _ (by omega)
      have bo:IntKind.i64.wrap (step*(k:Int))=z:=by rw [<- O];exact iG _ (by omega)
      have v:=qln l k start step;rw [eD d] at v;obtain ⟨cs,ai,am,R⟩:=y;have F:=qAV ai am;clear ai am;have ⟨ac,af⟩:=qE (qcL l k start step);rw [<- af] at F R m v;have a6:=qH m;have J:=qH F;have av:=qH R;have G:=qH h;have ak:=qH v;have bk:(0:Int)<=k:=by omega
      have bl:(k:Int)<n:=by omega
      have bu:(k:Int)<a:=by omega
      have K:=h.size;clear V Z P B C O I m F R af v a7 T h bb
      go_wp2_with (first
        | (go_at_call 28; (with_reducible refine aa.o.mono ?_); rintro e w3 ⟨bt, rfl, H, E⟩
           obtain ⟨s,r,rfl,W⟩:=qeo H;have ao:=qH H;have p:=qH E;have U:=qH W;have bc:w.heap.size<=w3.heap.size:=lA K E.size;clear H E W)
        | (at_builtin; refine wB _ rfl (.tmp 22) (.tmp 34) 27 rfl w.heap.size 61 ap _ 3 40 underlying27 a5 a2 a3 a9 rfl (by omega) a4 ac.length cs rfl ((qaf J.o p.o).alloc _) ⟨_, 0, none⟩ 1 1 [.int .i64 q, .slice s g.length r, .int .i64 S] rfl rfl (qaH _ [.int .i64 q, .slice s g.length r, .int .i64 S] 61) (by intro u ad; simp at ad; rcases ad with rfl | rfl | rfl <;> rfl) (by have := ak.o; unfold maxLen; omega) (by have := ak.o; omega) (by simp; omega) ?_
           intro bs ba D L _))
      have x:wG w3 (w3.alloc (.cells #[.int .i64 q,.slice s g.length r,.int .i64 S] 61)):=(bA _ _).alloc (aA _) _;have ae:Below w.heap.size (w3.alloc (.cells #[.int .i64 q,.slice s g.length r,.int .i64 S] 61)) ba:=(bA _ _).grown L (by simp;omega) fun j bf=>(J.o.lt j bf).1
      have ax:=qH (G.o.trans ((p.o.mono K).trans ((x.mono bc).trans ae)));have M:=qa6.push (S:=fun k=>w.heap.size<=k) (l:=ac) (q:=(q,g,S)) (c:=r) (A:=s) (cs:=cs) (qbk ((qaf J.o p.o).alloc _) (kA _)) (av.o.imp fun _ _ Q=>Q.keepO fun k d=>(p.o.trans (x.mono p.o.size)).block k d.lt) U.o.1.1 U.o.1.2 ((qcB.of_own ao.o fun k h1 _=>lA K h1).keepO fun k d=>x.block k d.lt) (qbk D (kA _)) L fun k d=>(D.lt k d).1
      rw [<- a6.o] at M;have aq:=qH M;clear x ae M D L;go_wp2;refine ⟨⟨⟨k+1,_,rfl,t,by go_num,aq.o,ax.o⟩,?_⟩,by simp [intOf];omega⟩;simp [intOf];omega
    · have al:qcL l k start step=qcL l a start step:=by
        unfold qcL;by_cases Q:k=a
        · rw [Q]
        · have :=X.o
          rw [nB (by omega),nB (by omega)]
      rw [al] at y;have a1:=qH y;have G:=qH h;have h1:(n:Int)<=k\/(k:Int)<n/\(a:Int)<=k:=by omega
      clear ab al y h;rcases h1 with h1|⟨h1,h2⟩
      all_goals
        go_wp2;go_ret;exact ⟨_,rfl,a1.o,G.o⟩
def qgw {d:List Fd} (a:qc9 d):(qas d).length<=4000:=by
 have h1:=qhU (l:=d) (M:=500) a.wordsS d.length (aA _);rw [qje] at h1;exact lA h1 (lA (dE _ a.len) (by omega))
def qlJ {d:List Fd} (a:qc9 d) {t:Tm} (c:t∈qas d):t.1.length<=12/\t.2.length<=4096:=by
 have ⟨f,b,h1,h2⟩:=(qgU t d).1 ((qhK a.apart t).1 c);have :=a.names f b;have :=a.texts f b;have :=qif h2;rw [h1];omega
def qAY (l:List En) (w:World) (o i:Value) (wr:World):Prop:=∃ (k:Nat) (a:Value),a=o/\k<=l.length/\i= .int .i64 (k:Int)/\qaB w.heap.size wr a (qah (l.take k))/\wG w wr
def qAZ (a:List Nm) (ts:List Tm) (b:Nat) (e:World) (o i:Value) (c:World):Prop:=∃ (j:Nat) (d:Value),d=o/\j<=ts.length/\i= .int .i64 (j:Int)/\qaB b c d (keysIn a (ts.take j))/\wG e c
def qA0 (A:Option Addr) (n c:Nat) (l:List En) (w:World) (ac:l.length=n) (ae:qb9 enS w w.heap.size A l) (aj:qcY l) (bq:n<=100):
    yG 35 #[.slice A n c] w (qeE (qah l) w):=by
  have au:=qH ae;have U:=qH aj;have X:=qH ac;clear ae aj ac
  go_enter func35,ntmps35
  go_wp2
  go_loopw [3,4,5,6] (fun o i t j wr=>qAY l w o i wr) (fun _ i _ _ _=>n-(intOf i).toNat)
  case atStart=>exact ⟨0,_,rfl,kA _,rfl,qaB.nil,bA _ _⟩
  case round=>
    obtain ⟨k,bm,rfl,bk,rfl,h,B⟩:=hrel;by_cases az:k<n
    · have r:k<l.length:=by rw [X.o];exact az
      have aa:=qb9.later au.o B;have ⟨b,bs,bv,a7,a8,_,a1,av,_,_,_,T⟩:=qjb aa r;subst a8;have O:=qzo r;have v:=U.o _ (pA r);have Y:=qH (qq2 (id:=l[k].1) (c:=a7) v rfl T);have bc:(qah (l.take k)).length<=400000:=by
        have h1:=qhP (l:=l.take k) (a:=[]) (M:=4000) fun q g=>qgw (U.o q (rF g))
        rw [sA] at h1;have h2:min k l.length*4000<=100*4000:=dE _ (by omega);have h3:(qah (l.take k)).length<=min k l.length*4000+([]:List Nm).length:=h1;simp only [vB] at h3;omega
      have ⟨m,L⟩:=qE (l[k].2.1.length);have ⟨q,g⟩:=qE (l[k].1);have E:∀ t∈qas l[k].2.1,t.1.length<=12/\t.2.length<=4096:=fun t a5=>qlJ v a5
      have ad:=qgw v;have ⟨ts,C⟩:=qE (qas l[k].2.1);have ⟨a,R⟩:=qE (qah (l.take k));rw [<- L,<- g,<- C] at Y;rw [<- L] at av;rw [<- g] at a1;rw [<- R] at h bc;rw [<- R,<- C] at O;rw [<- C] at E ad;have bf:=qH E;have ao:=qH O;have bd:=qH h;have br:(0:Int)<=k:=by omega
      have bo:(k:Int)<n:=by omega
      clear aa T L C R g O E h v
      go_wp2_with (go_at_call 76;(with_reducible refine Y.o.mono ?_);rintro e bg ⟨bw,rfl,ah,H⟩)
      obtain ⟨bn,bx,rfl,_,V⟩:=ah.row;have ⟨N,Q⟩:=qE ts.length;rw [<- Q] at ad ⊢;have W:=qH Q;have ar:=qH V;have P:=qH (B.trans (H.mono B.size));have aw:=qH (bd.o.below H);clear ah V H Q;go_wp2
      go_loopw [3,6] (fun o i a3=>qAZ a ts w.heap.size bg o i a3) (fun _ i _=>N-(intOf i).toNat)
      case atStart=>exact ⟨0,_,rfl,kA _,rfl,aw.o,bA _ _⟩
      case round=>
        obtain ⟨j,a6,rfl,bt,rfl,d,p⟩:=hrel;by_cases a2:j<N
        · have s:j<ts.length:=by rw [<- W.o];exact a2
          have ⟨bu,bh,a4,_,an,a0⟩:=(qap.later ar.o p).at_ s;subst a4;have ⟨x,G,af⟩:=qa8 ts[j].1;have ⟨y,F,S⟩:=qa8 ts[j].2;rw [<- G] at an;rw [<- F] at a0;have be:=bf.o _ (pA s);have ai:=qzn (a:=a) s;have al:=qqi a (ts.take j);rw [sA] at al;have ab:=qH (fun w'=>qh9 x y w' (by rw [G,qdl];omega) (by rw [F,qdl];omega));have qaD:(qcJ x y).data.toList=qag ts[j]:=by rw [qge,af,S];rfl
          have ⟨z,ag⟩:=qE (qcJ x y);rw [<- ag] at ab qaD;have a9:=lA P.o.size p.size;have K:=qH d;have bb:=qH ai;have ax:=qH qaD;have bp:(0:Int)<=j:=by omega
          have bi:(j:Int)<N:=by omega
          clear G af F S be ai qaD ag d
          go_wp2_with (first
            | (go_at_call 78; (with_reducible refine (ab.o _).mono ?_); rintro e w3 ⟨rfl, D⟩
               have I:=qH D;have ak:=qH (K.o.below D);clear D)
            | (go_at_call 77; (with_reducible refine (qnW w.heap.size a6 (keysIn a (ts.take j)) z w3 ak.o (lA a9 I.o.size) (by omega)).mono ?_); rintro e bj ⟨bl, rfl, J, Z⟩
               rw [ax.o,<- bb.o] at J;have ba:=qH (p.trans ((I.o.trans (Z.mono I.o.size)).mono p.size));have ay:=qH J;clear J Z))
          exact ⟨⟨j+1,_,rfl,s,by go_num,ay.o,ba.o⟩,by simp [intOf];omega⟩
        · have aq:j=ts.length:=by have :=W.o;omega
          subst aq;rw [fC,<- ao.o] at d;have K:=qH d;have am:=qH (P.o.trans (p.mono P.o.size));clear d;go_wp2;exact ⟨⟨k+1,_,rfl,r,by go_num,K.o,am.o⟩,by simp [intOf];omega⟩
    · have ap:k=l.length:=by have :=X.o;omega
      subst ap;rw [fC] at h;go_wp2;go_ret;exact ⟨_,rfl,h,B⟩
section
variable {S:Nat->Prop} {w:World} {B:Nat} {l:List En} {up:Int}
def qA1 {l:List En} (c:qcY l) (e:l.length<=1000):(qah l).length<=4000000:=by
 have h1:=qhP (l:=l) (a:=[]) (M:=4000) fun q d=>by
  have b:=c q d;have h1:=qhU (l:=q.2.1) (M:=500) b.wordsS q.2.1.length (aA _);rw [qje] at h1;exact lA h1 (lA (dE _ b.len) (by omega))
 have h3:(qah l).length<=l.length*4000+([]:List Nm).length:=h1;simp only [vB] at h3;omega
def qA2 (a:qdf S w B l up) (C:l.length<=1000):yG 31 #[.pointer (some ⟨B,0,none⟩)] w (qeE (qah l) w):=by
  obtain ⟨v,M,c,g,a⟩:=a;have ⟨H,D,F,G,_⟩:=qcA a.cells;have ⟨m,k,q,p⟩:=a.map.keys;have r:(m.map (·.1)).Perm (qah l):=by rw [q];exact a.stand.perm
  have t:m.length<=134217727:=by rw [p,a.stand.length];have :=qA1 a.good C;omega
  have j:=qH k;have x:=qH r;clear a k q p r
  go_enter func31,ntmps31
  go_wp2_with (first
    | (go_at_call 67; (with_reducible refine (qyW M w).mono ?_); rintro e b ⟨rfl, i⟩
       have h:wG w b:=by rw [i];exact (bA _ _).alloc (aA _) _
       have n:b.cell? ⟨w.heap.size,0,none⟩=some (.map (some M)):=by rw [i];simp
       have s:qbm b M c m:=(h.block M (gA.1 j.o).1).trans j.o;have A:=qH (qBe w.heap.size M c m l b s n t x.o);have d:=qH h;clear i h n s)
    |(go_at_call 66;(with_reducible refine A.o.mono ?_);rintro e I ⟨E,rfl,y,z⟩))
  go_ret;exact ⟨_,rfl,y.low d.o.size,d.o.trans (z.mono d.o.size)⟩
end
def qA3 (w:World) (e:Ending) (w':World):Prop:=∃ S B,e= .returned (.pointer (some ⟨B,0,none⟩))/\qdf S w' B [] (-1)/\(∀ k,S k->w.heap.size<=k)/\wG w w'
def qA4 (w:World):qdf (fun k=>k=w.heap.size\/k=w.heap.size+1) ((w.alloc (.map #[] 0)).alloc (.cells #[.slice none 0 0,.map (some w.heap.size),.int .i64 0,.int .i64 (-1)] 126)) (w.heap.size+1) [] (-1):=by
 refine ⟨.slice none 0 0,w.heap.size,0,[],?_,.inr rfl,qa6.nil,⟨[],?_,.inl rfl,rfl,fun i e p a=>(by simp at a),fun i j e f k _ a=>(by simp at a)⟩,qes.nil,fun q a=>(by cases a),by decide,fun a=>absurd rfl a,fun k a=>by simp;omega⟩
 ·simpa [qdL] using jA (w.alloc (.map #[] 0)) (.cells #[.slice none 0 0,.map (some w.heap.size),.int .i64 0,.int .i64 (-1)] 126)
 ·unfold qbm
  rw [pB _ _ _ (by simp)];exact jA w _
def qA5 (w:World):yG 29 #[] w (qA3 w):=by
 have a:=qH (qA4 w);have b:qI (wG w ((w.alloc (.map #[] 0)).alloc (.cells #[.slice none 0 0,.map (some w.heap.size),.int .i64 0,.int .i64 (-1)] 126))):=qH (((bA _ _).alloc (aA _) _).alloc (by simp) _);have d:=@run_makeMap prog
 go_enter func29,ntmps29
 go_wp2;go_ret;exact ⟨_,_,rfl,a.o,fun k c=>by omega,b.o⟩
def qA6 {e:TypeId} {size g:Nat} (c:w.ownsRow zz e size (.slice (some ⟨g,0,none⟩) n b) n xs):(w.setCell ⟨g,k,none⟩ u).ownsRow zz e size (.slice (some ⟨g,0,none⟩) n b) n (xs.set k u):=by
 refine ⟨by rw [uC];exact c.1,?_⟩;rcases c.2 with ⟨a,_⟩|⟨m,l,h,a,d,i,h1,h2,h3,j⟩
 ·cases a
 ·cases a
  refine .inr ⟨g,b,h.setIfInBounds k u,rfl,d,qdo i,h1,h2,by simpa using h3,?_⟩;rw [<- j,Array.toList_setIfInBounds,List.take_set]
def qA7 {e:TypeId} {size g:Nat} (h:w.ownsRow zz e size (.slice (some ⟨g,0,none⟩) n b) n xs) (j:k<n*size):(∃ u,w.cell? ⟨g,k,none⟩=some u)/\w.frozen? ⟨g,k,none⟩=false:=by
 rcases h.2 with ⟨a,_⟩|⟨q,p,c,a,l,d,h1,h2,h3,m⟩
 ·cases a
 ·cases a
  have i:k<c.size:=by
   rw [h3];exact tB j (dE _ h1)
  exact ⟨⟨c[k],by simp [World.cell?,d,i]⟩,by simp [World.frozen?,d]⟩
structure qei (old new:Option Addr->List Value->Prop) (l:List Pn) (j:Nat) (cs:List Value):Prop where
 len:cs.length=l.length*2
 each:∀ i (h:i<l.length),cs[i*2]?=some (.int .i64 l[i].1)/\∃ A c,cs[i*2+1]?=some (.slice A l[i].2.length c)/\l[i].2.length<=c/\c<=maxLen/\(i<j->new A (qaa l[i].2))/\(j<=i->old A (qaa l[i].2))
section
variable {old new old' new':Option Addr->List Value->Prop} {l:List Pn} {j:Nat} {cs:List Value}
def qei.of (a:qao old l cs):qei old new l 0 cs:=⟨a.len,fun i b=>by
 have ⟨h1,A,c,h2,h3,g,d⟩:=a.at_ b;have e:l.getD i (0,[])=l[i]:=by simp [b]
 rw [e] at h1 h2 h3 d;exact ⟨h1,A,c,h2,h3,g,fun a=>by omega,fun _=>d⟩⟩
def qei.imp (a:qei old new l j cs) (g:∀ A xs,old A xs->old' A xs) (d:∀ A xs,new A xs->new' A xs):qei old' new' l j cs:=⟨a.len,fun i b=>by
 have ⟨h1,A,c,h2,h3,e,h,k⟩:=a.each i b;exact ⟨h1,A,c,h2,h3,e,fun a=>d _ _ (h a),fun a=>g _ _ (k a)⟩⟩
def qei.put (a:qei old new l j cs) (q:j<l.length) {A:Option Addr} {c:Nat} (b:l[j].2.length<=c/\c<=maxLen) (e:new A (qaa l[j].2)):qei old new l (j+1) (cs.set (j*2+1) (.slice A l[j].2.length c)):=⟨by rw [uC];exact a.len,fun i d=>by
 have r:=a.len;have ⟨h1,g,m,h2,h3,k,n,p⟩:=a.each i d;rw [List.getElem?_set_ne (by omega)];by_cases h:i=j
 ·subst h
  exact ⟨h1,A,c,List.getElem?_set_self (by omega),b.1,b.2,fun _=>e,fun a=>by omega⟩
 ·rw [List.getElem?_set_ne (by omega)]
  exact ⟨h1,g,m,h2,h3,k,fun a=>n (by omega),fun a=>p (by omega)⟩⟩
def qq4:∀ {l:List Pn} {cs:List Value},cs.length=l.length*2->(∀ i (e:i<l.length),cs[i*2]?=some (.int .i64 l[i].1)/\∃ A c,cs[i*2+1]?=some (.slice A l[i].2.length c)/\l[i].2.length<=c/\c<=maxLen/\new A (qaa l[i].2))->qao new l cs
 |[],cs,d,e=>sB (by simpa using d)
 |q::l,cs,d,e=>by
  rcases cs with _|⟨a,_|⟨b,cs⟩⟩
  ·simp at d
  ·simp at d;omega
  ·have ⟨h1,A,c,h2,h3,h,j⟩:=e 0 (by simp)
   simp at h1 h2;subst h1 h2;refine ⟨A,c,cs,rfl,h3,h,j,qq4 (by simp at d;omega) fun i g=> ?_⟩;have :=e (i+1) (by simpa using g);rw [show (i+1)*2=i*2+1+1 by omega] at this;simpa using this
def qei.all (b:qei old new l l.length cs):qao new l cs:=qq4 b.len fun i a=>by
 have ⟨h1,A,c,h2,h3,d,e,g⟩:=b.each i a;exact ⟨h1,A,c,h2,h3,d,e a⟩
end
def qfA {x y z:Value} (a:w.heap[b]?=some (.cells #[x,y,z] t (0,0))):w.cell? ⟨b,0,none⟩=some x/\w.cell? ⟨b,1,none⟩=some y/\w.cell? ⟨b,2,none⟩=some z:=by
 simp [World.cell?,a]
def qbX (a:Nat) (w:World) (k:Nat):Prop:=a<=k/\k<w.heap.size
def qq5 {ps:List Int} (a:w.ownsRow zz 3 1 (.slice A n c) n (qaa ps)) (i:∀ k,zz<=k->k<w.heap.size->S k):qa2 (Of S 3 w) w A (qaa ps):=by
 rcases a.2 with ⟨d,l⟩|⟨g,x,v,d,h,m,y,r,t,z⟩
 ·refine .inl (sB ?_)
  rw [a.1,l]
 ·injection d with h1 h2 h3
  subst h1;rcases qbx a with j|⟨b,s,e,q,p⟩
  ·exact .inl j
  ·injection e with e
   injection e with e1 e2
   subst e1 e2;exact .inr ⟨g,0,rfl,⟨i g h q,_,_,m,rfl⟩,p⟩
structure qeP (S:Nat->Prop) (M c i:Nat) (d:List Fd) (g:List GP) (ts:List Tm) (V1 V2:Value) (w:World) (j:Nat) (wr:World):Prop where
 map:qbP (fun k=>S k\/qbX w.heap.size wr k) wr M c (qcs i d g (ts.take j))
 only:qcb (qgu S w M) w wr
 terms:qaR w.heap.size wr V1 ts
 stands:qdz w.heap.size w.heap.size wr V2 (ts.map (qaZ d))
section
variable {S:Nat->Prop} {M c i:Nat} {d:List Fd} {g:List GP} {ts:List Tm} {V1 V2:Value} {w:World} {j:Nat} {wr w':World}
def qeP.below (e:qeP S M c i d g ts V1 V2 w j wr) (b:wG wr w'):qeP S M c i d g ts V1 V2 w j w':=
 ⟨(e.map.keep fun k _ a=>b.block k a).imp fun k a=>a.imp id fun a=>⟨a.1,tB a.2 b.size⟩,e.only.trans (qcb.of_below b),e.terms.below b,e.stands.below b⟩
def qeP.places (s:qeP S M c i d g ts V1 V2 w j wr) (q:j<ts.length):∃ b h l a,(∃ n,V2= .slice (some ⟨b,h,none⟩) ts.length n)/\(∃ cs fr,wr.heap[b]?=some (.cells cs 23 fr))/\wr.cell? ⟨b,h+j,none⟩=some (.slice l (qaZ d ts[j]).length a)/\(qaZ d ts[j]).length<=a/\a<=maxLen/\
  qa2 (Of (fun k=>S k\/qbX w.heap.size wr k) 3 wr) wr l (qaa (qaZ d ts[j])):=by
 have ⟨cs,h1,h2,h3⟩:=s.stands;rw [gB] at h1 h2;obtain ⟨A,n,rfl,v,r⟩:=qaK h1;obtain ⟨b,h,rfl,x,t⟩:=Row.at_ r (by omega);have m:=h3 j cs[j] (qaZ d ts[j]) (oA (by omega)) (by rw [uE,oA q];rfl);have ⟨l,a,e,p⟩:=qeo m;have :=t j cs[j] (oA (by omega));rw [e] at this;unfold qcy at m;rw [e] at m;exact ⟨b,h,l,a,⟨n,rfl⟩,qfz h1 rfl,this,p.1.1,p.1.2,qq5 m fun k h1 h2=> .inr ⟨h1,h2⟩⟩
def qeP.put (p:qeP S M c i d g ts V1 V2 w j wr) (ab:j<ts.length) (am:M<w.heap.size):
  ∃ (v:Value) (n:Nat) (cs:List Value) (m:List qaS),qbm wr M c m/\v=qda m (qag ts[j])/\n=(qb1 (qcs i d g (ts.take j)) (qag ts[j])).length/\wr.ownsRow 0 74 2 v n cs/\
   ∀ (D:Option Addr) (y:Nat),qa2 (Of (fun k=>S k\/qbX w.heap.size wr k) 3 wr) wr D (qaa (qaZ d ts[j]))->(qaZ d ts[j]).length<=y->y<=maxLen->
   ∀ (r J:Nat) (s:World),s.ownsRow 0 74 2 (.slice (some ⟨r,0,none⟩) (n+1) J) (n+1) (cs++[.int .i64 i,.slice D (qaZ d ts[j]).length y])->
    (wr.drew.alloc (.cells #[.int .i64 i,.slice D (qaZ d ts[j]).length y] 74)).grownBy s v.ownBlock->(v.ownBlock=some r\/r=wr.heap.size+1)->r<s.heap.size->
    qbm s M c m/\(∀ k,k<wr.heap.size->v.ownBlock≠some k->s.heap[k]?=wr.heap[k]?)/\v.ownBlock≠some M/\
    ∀ q,qbm q M c ((qds m (qag ts[j])).set (qax m (qag ts[j])) (qag ts[j],.slice (some ⟨r,0,none⟩) (n+1) J))->s.grownBy q (some M)->qeP S M c i d g ts V1 V2 w (j+1) q:=by
 have ap:=p.only.size;have ⟨m,h1,h2,h3,W,ak⟩:=p.map;have N:=qjd (qag ts[j]) h3 W;have ⟨v,K⟩:=qE (qda m (qag ts[j]));rw [<- K] at N;have V:=N.not_map h1;have ⟨cs,G,q2,q3⟩:=id N;refine ⟨v,_,cs,m,h1,K,rfl,G,fun D y Z al ag r J s T F R af=> ?_⟩;have E:wG wr (wr.drew.alloc (.cells #[.int .i64 i,.slice D (qaZ d ts[j]).length y] 74)):=(bA _ _).drew.alloc (aA _) _;have ah:=E.size;have ao:=F.size;have Q:∀ k,k<wr.heap.size->v.ownBlock≠some k->s.heap[k]?=wr.heap[k]?:=fun k h z=>(F.block k (tB h ah) (fun e=>z e.symm)).trans (E.block k h)
 have H:qbm s M c m:=(Q M (by omega) V).trans h1;refine ⟨H,Q,V,fun q aa B=> ?_⟩;have an:=B.size;have ad:r≠M:=fun e=>by
  have ⟨cs',fr,t⟩:=qfz T rfl;rw [e] at t;unfold qbm at H;rw [H] at t;cases t
 have I:∀ k,k<wr.heap.size->k≠M->v.ownBlock≠some k->q.heap[k]?=wr.heap[k]?:=fun k h z ac=>(B.block k (by omega) (fun e=>z (by cases e;rfl))).trans (Q k h ac)
 have aj:qbW (fun k=>S k\/qbX w.heap.size q k) q (.slice (some ⟨r,0,none⟩) ((qb1 (qcs i d g (ts.take j)) (qag ts[j])).length+1) J) (qb1 (qcs i d g (ts.take j)) (qag ts[j])++[((i:Int),qaZ d ts[j])]):=by
  have U:∀ {A:Option Addr} {xs:List Value},qa2 (Of (fun k=>S k\/qbX w.heap.size wr k) 3 wr) wr A xs->qa2 (Of (fun k=>S k\/qbX w.heap.size q k) 3 (wr.drew.alloc (.cells #[.int .i64 i,.slice D (qaZ d ts[j]).length y] 74))) (wr.drew.alloc (.cells #[.int .i64 i,.slice D (qaZ d ts[j]).length y] 74)) A xs:=fun p=>(p.keepO fun k h=>E.block k h.lt).imp fun k h=>h.imp fun h=>h.imp id fun h=>⟨h.1,by have :=h.2;omega⟩
  have ae:=qbW.push (S:=fun k=>S k\/qbX w.heap.size q k) (qaf G E) (q3.imp fun _ _ p=>U p) (d:=(i:Int)) al ag (U Z) T F fun k h=>by
   rcases R with e|e
   ·have :=q2 r e
    simp only [Value.ownBlock,jB] at h;subst h;exact this.imp id fun h=>⟨h.1,by omega⟩
   ·simp only [Value.ownBlock,jB] at h
    subst h;exact .inr ⟨by omega,by omega⟩
  refine qbW.keep ae (fun k h=> ?_) fun k h=> ?_
  ·simp only [Value.ownBlock,jB] at h
   subst h;exact B.block _ af fun e=>ad (by cases e;rfl)
  ·refine B.block _ h.lt fun e=> ?_
   cases e;obtain ⟨_,cs',fr,t,_⟩:=h;unfold qbm at H;rw [H] at t;cases t
 refine ⟨?_,⟨?_,?_,?_,by omega,fun k h z=> ?_⟩,?_,?_⟩
 ·rw [qzI ab]
  refine qbP.added h1 h2 h3 W ak (fun k h=>h.imp id fun h=>⟨h.1,by have :=h.2;omega⟩) (fun k a b e=>I k a b (by rw [K];exact e)) aa aj ?_;rw [<- K];rcases R with e|e
  ·exact .inl e.symm
  ·refine .inr fun k h=> ?_
   simp only [Value.ownBlock,jB] at h;omega
 ·exact B.os.trans (F.os.trans (E.os.trans p.only.os))
 ·exact B.tape.trans (F.tape.trans (E.tape.trans p.only.tape))
 ·exact B.output.trans (F.output.trans (E.output.trans p.only.output))
 ·rw [I k (by omega) (fun e=>z (.inl e)) (fun e=>z (.inr ?_)),p.only.block k h z]
  have ⟨cs',t⟩:=qAM G e;rw [p.only.block k h z] at t;refine ⟨?_,cs',_,t,rfl⟩;rcases q2 k e with hs|hs
  ·exact hs
  ·exact absurd hs.1 (by omega)
 ·refine qaq p.terms fun k h=> ?_
  have C:=p.terms.lt k h;exact I k C.2 (by omega) (qeU G p.terms (by decide) h)
 ·have ⟨Y,L,X,P⟩:=p.stands
  refine ⟨Y,qaq L fun k h=> ?_,X,fun x u l O C=>qaq (P x u l O C) fun k h=> ?_⟩
  ·have C:=L.lt k h
   exact I k C.2 (by omega) (qeU G L (by decide) h)
  ·have ai:=(P x u l O C).lt k h
   exact I k ai.2 (by omega) (qeU G (P x u l O C) (by decide) h)
end
