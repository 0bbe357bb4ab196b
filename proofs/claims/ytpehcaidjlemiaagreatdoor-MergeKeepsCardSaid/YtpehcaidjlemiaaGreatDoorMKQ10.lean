import Derived.Test.YtpehcaidjlemiaaGreatDoorMKZz
import Derived.Test.YtpehcaidjlemiaaGreatDoorMKQ06
import Derived.Test.YtpehcaidjlemiaaGreatDoorMKQ09
import Derived.Test.YtpehcaidjlemiaaGreatDoorMKQ01
import Derived.BigQuiet
import Derived.Test.YtpehcaidjlemiaaGreatDoorMKQ08
import Derived.Test.YtpehcaidjlemiaaGreatDoorMKQ02
import Derived.Lib.Hide
import Derived.BigCall
import Derived.Deep.QuietTactic
import Derived.Test.YtpehcaidjlemiaaGreatDoorMKQ05
import Derived.Deep.RegionLaw
import Derived.Deep.CutRange
import Derived.Laws.Rows
import Derived.RangeFuncOwn
set_option maxHeartbeats 2000000
set_option maxRecDepth 100000
set_option linter.unusedVariables false
namespace Go.Proofs.YtpehcaidjlemiaaGreatDoor
open Go Go.RowKit
def qam (R:Option Addr->List Value->Prop):List Po->List Value->Prop
 |[],cs=>cs=[]
 |q::r,cs=>∃ A c cs',cs= .int .i64 q.1:: .slice A q.2.length c::cs'/\q.2.length<=c/\c<=maxLen/\R A (qab q.2)/\qam R r cs'
section
variable {R R':Option Addr->List Value->Prop}
theorem qam.len:∀ {l:List Po} {cs:List Value},qam R l cs->cs.length=l.length*2
 |[],cs,h=>by simp only [qam] at h;subst h;rfl
 |q::r,cs,h=>by
  obtain ⟨A,c,cs',rfl,_,_,_,h'⟩:=h;have :=qam.len h';simp only [List.length_cons,this];omega
theorem qam.imp:∀ {l:List Po} {cs:List Value},qam R l cs->(∀ A xs,R A xs->R' A xs)->qam R' l cs
 |[],cs,h,_=>h
 |q::r,cs,h,hi=>by
  obtain ⟨A,c,cs',rfl,h1,h2,h3,h'⟩:=h;exact ⟨A,c,cs',rfl,h1,h2,hi _ _ h3,qam.imp h' hi⟩
theorem qam.at_:∀ {l:List Po} {cs:List Value} {k:Nat},qam R l cs->k<l.length->
  cs[k*2]?=some (.int .i64 (l.getD k (0,[])).1)/\∃ A c,cs[k*2+1]?=some (.slice A (l.getD k (0,[])).2.length c)/\(l.getD k (0,[])).2.length<=c/\c<=maxLen/\R A (qab (l.getD k (0,[])).2)
 |[],_,k,_,h=>by simp at h
 |q::r,cs,0,h,_=>by
  obtain ⟨A,c,cs',rfl,h1,h2,h3,h'⟩:=h;exact ⟨rfl,A,c,rfl,h1,h2,h3⟩
 |q::r,cs,k+1,h,hk=>by
  obtain ⟨A,c,cs',rfl,h1,h2,h3,h'⟩:=h;have :=qam.at_ (k:=k) h' (by simpa using hk);rw [show (k+1)*2=k*2+1+1 by omega,List.getD_cons_succ];simpa using this
theorem qam.snoc:∀ {l:List Po} {cs:List Value} {A:Option Addr} {c:Nat} {d:Int} {ps:List Int},qam R l cs->ps.length<=c->c<=maxLen->R A (qab ps)->qam R (l++[(d,ps)]) (cs++[.int .i64 d,.slice A ps.length c])
 |[],cs,A,c,d,ps,h,h1,h2,h3=>by
  simp only [qam] at h;subst h;exact ⟨A,c,[],rfl,h1,h2,h3,rfl⟩
 |q::r,cs,A,c,d,ps,h,h1,h2,h3=>by
  obtain ⟨A',c',cs',rfl,g1,g2,g3,h'⟩:=h;exact ⟨A',c',cs'++[.int .i64 d,.slice A ps.length c],rfl,g1,g2,g3,qam.snoc h' h1 h2 h3⟩
theorem qam.take:∀ {l:List Po} {cs:List Value} (k:Nat),qam R l cs->qam R (l.take k) (cs.take (k*2))
 |_,cs,0,_=>by simp [qam]
 |[],cs,k+1,h=>by simp only [qam] at h;subst h;simp [qam]
 |q::r,cs,k+1,h=>by
  obtain ⟨A,c,cs',rfl,h1,h2,h3,h'⟩:=h;rw [List.take_succ_cons,show (k+1)*2=k*2+1+1 by omega,List.take_succ_cons,List.take_succ_cons];exact ⟨A,c,_,rfl,h1,h2,h3,qam.take k h'⟩
theorem qam.drop:∀ {l:List Po} {cs:List Value} (k:Nat),qam R l cs->qam R (l.drop k) (cs.drop (k*2))
 |l,cs,0,h=>by simpa using h
 |[],cs,k+1,h=>by simp only [qam] at h;subst h;simp [qam]
 |q::r,cs,k+1,h=>by
  obtain ⟨A,c,cs',rfl,h1,h2,h3,h'⟩:=h;rw [List.drop_succ_cons,show (k+1)*2=k*2+1+1 by omega,List.drop_succ_cons,List.drop_succ_cons];exact qam.drop k h'
end
def qbG (w:World) (B:Nat) (A:Option Addr) (l:List Po):Prop:=∃ cs,qam (Row w B) l cs/\Row w B A cs
theorem qbG.nil {w:World} {B:Nat} {A:Option Addr}:qbG w B A []:=⟨[],rfl,Row.nil⟩
theorem qbG.below {w w':World} {B:Nat} {A:Option Addr} {l:List Po} (h:qbG w B A l) (hb:Below B w w'):qbG w' B A l:=by
 obtain ⟨cs,h1,h2⟩:=h;exact ⟨cs,h1.imp fun _ _ h=>h.below hb,h2.below hb⟩
theorem qbG.more {w:World} {B B':Nat} {A:Option Addr} {l:List Po} (h:qbG w B A l) (hB:B<=B'):qbG w B' A l:=by
 obtain ⟨cs,h1,h2⟩:=h;exact ⟨cs,h1.imp fun _ _ h=>h.more hB,h2.more hB⟩
theorem qbG.cut {w:World} {B:Nat} {A:Option Addr} {l:List Po} (h:qbG w B A l) (k:Nat):qbG w B A (l.take k):=by
 obtain ⟨cs,h1,h2⟩:=h;exact ⟨_,h1.take k,h2.cut (k*2)⟩
theorem qbG.at_ {w:World} {B:Nat} {A:Option Addr} {l:List Po} (h:qbG w B A l) {k:Nat} (hk:k<l.length):
  ∃ b off,A=some ⟨b,off,none⟩/\b<B/\w.cell? ⟨b,off+k*2,none⟩=some (.int .i64 (l.getD k (0,[])).1)/\
   ∃ A' c',w.cell? ⟨b,off+k*2+1,none⟩=some (.slice A' (l.getD k (0,[])).2.length c')/\(l.getD k (0,[])).2.length<=c'/\c'<=maxLen/\Row w B A' (qab (l.getD k (0,[])).2):=by
 obtain ⟨cs,h1,h2⟩:=h;obtain ⟨b,off,rfl,hb,hc⟩:=h2.at_ (by rw [h1.len];omega);obtain ⟨g1,A',c',g2,g3,g4,g5⟩:=h1.at_ hk;exact ⟨b,off,rfl,hb,hc _ _ g1,A',c',by have :=hc _ _ g2;rwa [<- Nat.add_assoc] at this,g3,g4,g5⟩
theorem qbG.drop {w:World} {B b off:Nat} {l:List Po} (h:qbG w B (some ⟨b,off,none⟩) l) (k:Nat):qbG w B (some ⟨b,off+k*2,none⟩) (l.drop k):=by
 obtain ⟨cs,h1,h2⟩:=h;refine ⟨_,h1.drop k,?_⟩;rcases h2 with rfl|⟨b',o',e,hb,hc⟩
 ·exact .inl (by simp)
 ·injection e with e
  injection e with e1 e2
  subst e1 e2;refine .inr ⟨b,off+k*2,rfl,hb,fun j u hu=> ?_⟩;have :=hc (k*2+j) u (by rw [<- hu];simp);rwa [<- Nat.add_assoc] at this
def qt6 (base:Nat) (w:World) (b:Nat):Prop:=b<w.heap.size/\(b<base∨∃ cs fr,w.heap[b]?=some (.cells cs 3 fr))
def qdx (base:Nat) (w:World) (A:Option Addr) (xs:List Value):Prop:=xs=[]∨∃ b off,A=some ⟨b,off,none⟩/\qt6 base w b/\∀ j u,xs[j]?=some u->w.cell? ⟨b,off+j,none⟩=some u
theorem qdx.of_own {base base':Nat} {w:World} {A:Option Addr} {n c:Nat} {xs:List Value} (h:w.ownsRow base' 3 1 (.slice A n c) n xs):qdx base w A xs:=by
 rcases h.2 with ⟨hv,hn⟩|⟨g,cap,cur,hv,hg,hh,hnc,hcp,hcs,htake⟩
 ·refine .inl (List.eq_nil_of_length_eq_zero ?_)
  rw [h.1,hn]
 ·injection hv with h1 h2 h3
  subst h1;have hrow:=qbv h;rcases hrow with rfl|⟨b,off,e,hb,hc⟩
  ·exact .inl rfl
  ·injection e with e
   injection e with e1 e2
   subst e1 e2;exact .inr ⟨g,0,rfl,⟨(Array.getElem?_eq_some_iff.1 hh).1,.inr ⟨_,_,hh⟩⟩,hc⟩
theorem qdx.grown {base:Nat} {w w':World} {A:Option Addr} {xs ys:List Value} {E:TypeId} {size:Nat} {v:Value} {n:Nat} (h:qdx base w A xs) (hv:w.ownsRow base E size v n ys) (hE:E≠3) (hg:w.grownBy w' v.ownBlock):qdx base w' A xs:=by
 rcases h with rfl|⟨b,off,rfl,⟨hs,hk⟩,hc⟩
 ·exact .inl rfl
 ·have hne:v.ownBlock≠some b:=by
   rcases hk with hk|⟨cs,fr,hk⟩
   ·intro e
    have :=(hv.lt b e).1;omega
   ·intro e
    rcases hv.2 with ⟨rfl,_⟩|⟨g,cap,cur,rfl,_,hh,_⟩
    ·cases e
    ·simp only [Value.ownBlock,Option.some.injEq] at e
     subst e;rw [hh] at hk;simp at hk;exact hE hk.2.1
  have hblk:w'.heap[b]?=w.heap[b]?:=hg.block b hs fun e=>hne e.symm
  refine .inr ⟨b,off,rfl,⟨Nat.lt_of_lt_of_le hs hg.size,hk.imp id fun ⟨cs,fr,h⟩=>⟨cs,fr,hblk.trans h⟩⟩,fun j u hu=> ?_⟩;rw [World.cell?_of_block (a:=⟨b,off+j,none⟩) hblk];exact hc j u hu
theorem qdx.below {base:Nat} {w w':World} {A:Option Addr} {xs:List Value} (h:qdx base w A xs) (hb:Below w.heap.size w w'):qdx base w' A xs:=by
 rcases h with rfl|⟨b,off,rfl,⟨hs,hk⟩,hc⟩
 ·exact .inl rfl
 ·refine .inr ⟨b,off,rfl,⟨Nat.lt_of_lt_of_le hs hb.size,hk.imp id fun ⟨cs,fr,h⟩=>⟨cs,fr,(hb.block b hs).trans h⟩⟩,fun j u hu=> ?_⟩
  rw [World.cell?_of_block (a:=⟨b,off+j,none⟩) (hb.block b hs)];exact hc j u hu
theorem qt7 {l:List UInt8} {k:Nat} (hk:k<9) (hl:k<l.length):∃ q p v:Nat,128^k=q/\qbc (l.take k)=v/\qbc (l.take (k+1))=v+p/\(((l.getD k 0).toNat:Int)%128)*(q:Int)=(p:Int)/\p<=9151314442816847872/\v+p<9223372036854775808/\q<=72057594037927936:=by
 have h1:=qsS hl;have h2:=qmC l (k+1);have h3:=qmF hk;have h4:(128:Nat)^(k+1)<=128^9:=Nat.pow_le_pow_right (by omega) (by omega);have h5:(128:Nat)^9=9223372036854775808:=by decide
 refine ⟨_,(l.getD k 0).toNat%128*128^k,_,rfl,rfl,h1,by simp,?_,by omega,h3⟩;have :(l.getD k 0).toNat%128*128^k<=127*72057594037927936:=Nat.mul_le_mul (by omega) h3;omega
theorem qt8 {k q:Nat} (h:128^k=q) (hk:k<8):128^(k+1)=q*128/\q*128<=72057594037927936:=by
 have h1:=qmF (i:=k+1) (by omega);rw [Nat.pow_succ,h] at h1 ⊢;exact ⟨rfl,h1⟩
theorem qjv {w:World} {B b off m c a:Nat} {l:List UInt8} (h:Row w B (some ⟨b,off,none⟩) (Lib.byteCells l)) (hm:l.length=m) (hc:m<=c) (ha:a<=m) (A:Option Addr) (hA:A=some ⟨b,off,none⟩/\c=a∨A=some ⟨b,off+a,none⟩):Row w B A (Lib.byteCells (l.drop a)):=by
 by_cases h0:a=m
 ·refine .inl ?_
  rw [List.drop_eq_nil_of_le (by omega)];rfl
 ·rcases hA with ⟨_,hA⟩|hA
  ·omega
  ·obtain ⟨b',o',h1,h2,h3⟩:=h.at_ (by rw [Lib.byteCells_length];omega)
   injection h1 with h1
   injection h1 with h1 h4
   subst h1 h4 hA;refine .inr ⟨b,off+a,rfl,h2,fun j u hu=> ?_⟩;have :=h3 (a+j) u (by rw [<- hu];simp [Lib.byteCells]);rwa [<- Nat.add_assoc] at this
def qt9 (z:Int × Int × Int) (w:World) (e:Ending) (w':World):Prop:=e= .returned (.tuple #[.int .i64 z.1,.int .i64 z.2.1,.int .i64 z.2.2])/\Below w.heap.size w w'
theorem qhx (l:List UInt8) (a:Int):(∃ e:Int,qbE l a=(0,0,e)/\(e=1∨e=2))∨∃ n b:Nat,qbE l a=((n:Int),(b:Int),0)/\b<=l.length/\n<9223372036854775808:=by
 by_cases h0:a<0∨(l.length:Int)<a
 ·exact .inl ⟨1,qmI h0,.inl rfl⟩
 ·obtain ⟨k,rfl⟩:∃ k:Nat,a=k:=⟨a.toNat,by omega⟩
  have hbd:=qe4 (l.drop k);rw [List.length_drop] at hbd;by_cases h2:(qas (l.drop k)).2=0
  ·exact .inl ⟨2,qmJ (by omega) h2,.inr rfl⟩
  ·obtain ⟨j,hj⟩:∃ j,(qas (l.drop k)).2=j+1:=⟨(qas (l.drop k)).2-1,by omega⟩
   refine .inr ⟨(qas (l.drop k)).1,k+(j+1),?_,by omega,hbd.1⟩;rw [qiT (n:=(qas (l.drop k)).1) (k:=j) (by omega) (by rw [<- hj])];simp
def qjw:Option (List Int × Nat)->List Int × Int × Int
 |none=>([],0,2)
 |some p=>(p.1,(p.2:Int),0)
theorem qjx {l:List UInt8} {a e:Int} (hz:qbE l a=(0,0,e)) (he:e≠0):qcR l a=([],0,e):=by
 unfold qcR;rw [hz,if_neg (by simpa using he)]
theorem qjy {l:List UInt8} {a:Int} {n b:Nat} (hz:qbE l a=((n:Int),(b:Int),0)):qcR l a=qjw (qcp l n (-1) b []):=by
 unfold qcR;rw [hz];simp only [if_true,Int.toNat_natCast];rcases qcp l n (-1) b [] with _|⟨xs,q⟩<;>rfl
def qua (r:List Int × Int × Int) (w:World) (e:Ending) (w':World):Prop:=
 ∃ v,e= .returned (.tuple #[v,.int .i64 r.2.1,.int .i64 r.2.2])/\w'.ownsRow w.heap.size 3 1 v r.1.length (qab r.1)/\Below w.heap.size w w'
theorem qjz:∀ (many:Nat) (l:List UInt8) (x:Int) (a:Nat) (acc xs:List Int) (b:Nat),qcp l many x a acc=some (xs,b)->a<=l.length->xs.length+a<=acc.length+b/\b<=l.length
 |0,l,x,a,acc,xs,b,h,ha=>by
  simp only [qcp,Option.some.injEq,Prod.mk.injEq] at h;obtain ⟨rfl,rfl⟩:=h;exact ⟨Nat.le_refl _,ha⟩
 |m+1,l,x,a,acc,xs,b,h,ha=>by
  have hbd:=qe4 (l.drop a);rw [List.length_drop] at hbd;rw [qcp] at h;split at h
  ·cases h
  ·have :=qjz m l _ _ _ xs b h (by omega)
   simp only [List.length_append,List.length_singleton] at this;omega
theorem qub (l:List UInt8) (a:Int):(qcR l a).1.length<=l.length:=by
 rcases qhx l a with ⟨e,hz,he⟩|⟨many,b,hz,hb,_⟩
 ·rw [qjx hz (by omega)];simp
 ·rw [qjy hz]
  rcases h:qcp l many (-1) b [] with _|⟨xs,q⟩
  ·simp [qjw]
  ·have :=qjz many l _ _ _ xs q h hb
   simp only [qjw,List.length_nil] at this ⊢;omega
theorem qjA {base:Nat} {w':World} {v':Value} {a b:List UInt8} {m:Nat} (hm:b.length=m) (hown:w'.ownsRow base 5 1 v' (a.length+m) (Lib.byteCells a++Lib.byteCells b)):Own base w' v' (a++b):=by
 unfold Own;rw [Lib.byteCells_append,List.length_append,hm];exact hown
theorem qnq {l:List Po} {k:Nat} (hk:k<l.length):l.drop k=l.getD k (0,[])::l.drop (k+1):=by
 rw [List.drop_eq_getElem_cons hk,List.getD_eq_getElem?_getD,List.getElem?_eq_getElem hk];rfl
theorem quc {w:World} {n:Nat} (B:Nat):Below B w (w.drewN n):=⟨rfl,rfl,rfl,Nat.le_refl _,fun _ _=>rfl⟩
theorem qnr:∀ {l:List Po} {x:Int},0<l.length->qaE x l=(l.getD (l.length-1) (0,[])).1
 |[],_,h=>by simp at h
 |[p],x,_=>rfl
 |p::q::r,x,_=>by
  have ih:=qnr (l:=q::r) (x:=p.1) (by simp);rw [qaE,ih];simp
theorem qud (l:List UInt8) (a:Int):(∃ e:Int,qcR l a=([],0,e)/\e≠0)∨∃ (ps:List Int) (q:Nat),qcR l a=(ps,(q:Int),0)/\q<=l.length/\ps.length<=l.length:=by
 have hlen:=qub l a;rcases qhx l a with ⟨e,hz,he⟩|⟨n,b,hz,hb,_⟩
 ·exact .inl ⟨e,qjx hz (by omega),by omega⟩
 ·rw [qjy hz] at hlen ⊢
  rcases h:qcp l n (-1) b [] with _|⟨xs,q⟩
  ·exact .inl ⟨2,rfl,by omega⟩
  ·rw [h] at hlen
   have :=qjz n l _ _ _ xs q h hb;exact .inr ⟨xs,q,rfl,this.2,hlen⟩
theorem qns:∀ {l:List Po} {n:Nat},(∀ p∈l,p.2.length<=n)->qav l<=l.length*n
 |[],_,_=>by simp [qav]
 |p::r,n,h=>by
  have h1:=h p (by simp);have h2:=qns (l:=r) fun q hq=>h q (by simp [hq])
  rw [qav,List.length_cons,Nat.add_mul,Nat.one_mul];omega
theorem que {l:List Po} {k:Nat} (hk:k<l.length):qav (l.take (k+1))=qav (l.take k)+(l.getD k (0,[])).2.length:=by
 have e:∀ (a b:List Po),qav (a++b)=qav a+qav b:=by
  intro a
  induction a with
  |nil=>intro b;simp [qav]
  |cons p r ih=>intro b;simp [qav,ih,Nat.add_assoc]
 rw [List.take_succ_eq_append_getElem hk,e,List.getD_eq_getElem?_getD,List.getElem?_eq_getElem hk];simp [qav]
theorem qnt {l:List Po} (k:Nat):qav (l.take k)<=qav l:=by
 have e:∀ (a b:List Po),qav (a++b)=qav a+qav b:=by
  intro a
  induction a with
  |nil=>intro b;simp [qav]
  |cons p r ih=>intro b;simp [qav,ih,Nat.add_assoc]
 have h:=e (l.take k) (l.drop k);rw [List.take_append_drop] at h;omega
def qf5 (base:Nat) (w:World) (A:Option Addr) (xs:List Value):Prop:=qdx 0 w A xs/\(xs=[]∨∃ b off,A=some ⟨b,off,none⟩/\base<=b)
theorem qf5.of_own {base base':Nat} {w:World} {A:Option Addr} {n c:Nat} {xs:List Value} (h:w.ownsRow base' 3 1 (.slice A n c) n xs) (hb:base<=base'):qf5 base w A xs:=by
 refine ⟨qdx.of_own h,?_⟩;rcases h.2 with ⟨hv,hn⟩|⟨g,cap,cur,hv,hg,_⟩
 ·exact .inl (List.eq_nil_of_length_eq_zero (by rw [h.1,hn]))
 ·injection hv with h1 h2 h3
  exact .inr ⟨g,0,h1,by omega⟩
def qbp (base:Nat) (w:World) (v:Value) (l:List Po):Prop:=∃ cs,w.ownsRow base 74 2 v l.length cs/\qam (qf5 base w) l cs
section
variable {base:Nat} {w w':World} {v v':Value} {l:List Po}
theorem qbp.nil:qbp base w (.slice none 0 0) []:=⟨[],World.ownsRow_nil _ _ _ _,rfl⟩
theorem qbp.below (h:qbp base w v l) (hb:Below w.heap.size w w'):qbp base w' v l:=by
 obtain ⟨cs,h1,h2⟩:=h;exact ⟨cs,qao h1 hb,h2.imp fun _ _ h=>⟨h.1.below hb,h.2⟩⟩
theorem qbp.push {cs:List Value} (h1:w.ownsRow base 74 2 v l.length cs) (h2:qam (qf5 base w) l cs) {A:Option Addr} {c:Nat} {d:Int} {ps:List Int} (hc:ps.length<=c) (hcx:c<=maxLen) (hr:qf5 base w A (qab ps))
  (hown:w'.ownsRow base 74 2 v' (l.length+1) (cs++[.int .i64 d,.slice A ps.length c])) (hg:w.grownBy w' v.ownBlock):qbp base w' v' (l++[(d,ps)]):=by
 have h0:=qbk h1 (Nat.zero_le base);refine ⟨_,?_,(h2.imp fun _ _ h=>⟨h.1.grown h0 (by decide) hg,h.2⟩).snoc hc hcx ⟨hr.1.grown h0 (by decide) hg,hr.2⟩⟩;rw [List.length_append,List.length_singleton];exact hown
end
theorem qbp.low {base base':Nat} {w:World} {v:Value} {l:List Po} (h:qbp base w v l) (hb:base'<=base):qbp base' w v l:=by
 obtain ⟨cs,h1,h2⟩:=h;exact ⟨cs,qbk h1 hb,h2.imp fun _ _ h=>⟨h.1,h.2.imp id fun ⟨b,off,e,hl⟩=>⟨b,off,e,by omega⟩⟩⟩
def qe9 (l:List Po) (w:World) (e:Ending) (w':World):Prop:=∃ v,e= .returned v/\qbp w.heap.size w' v l/\Below w.heap.size w w'
theorem qeH {w:World} {base:Nat} {e:TypeId} {size:Nat} {v:Value} {n:Nat} {xs:List Value} (h:w.ownsRow base e size v n xs):∃ A c,v= .slice A n c/\(n<=c/\c<=maxLen)/\Row w w.heap.size A xs:=by
 obtain ⟨A,c,rfl,hc,hr⟩:=qaR h;refine ⟨A,c,rfl,⟨hc,?_⟩,hr⟩;rcases h.2 with ⟨hv,_⟩|⟨g,cap,cur,hv,_,_,_,hcp,_⟩
 ·injection hv with _ _ e
  rw [e];exact Nat.zero_le _
 ·injection hv with _ _ e
  rw [e];exact hcp
theorem qf6:(Tryz.prog.info? 74).map (fun i=>(i.zero,i.size,i.bytes))=some (some (.agg #[.int .i64 0,.slice none 0 0]),2,32):=by kernel_rfl
def qcJ (pl:List Int) (l:List Po):List Po:=l.filterMap fun q=>if pl.getD q.1.toNat 0<0 then none else some (pl.getD q.1.toNat 0,q.2)
theorem quf (pl:List Int) (l:List Po) (q:Po):qcJ pl (l++[q])=if pl.getD q.1.toNat 0<0 then qcJ pl l else qcJ pl l++[(pl.getD q.1.toNat 0,q.2)]:=by
 unfold qcJ;rw [List.filterMap_append];by_cases h:pl.getD q.1.toNat 0<0
 ·simp only [List.filterMap_cons,List.filterMap_nil,if_pos h,List.append_nil]
 ·simp only [List.filterMap_cons,List.filterMap_nil,if_neg h]
theorem qug (pl:List Int) (l:List Po):(qcJ pl l).length<=l.length:=List.length_filterMap_le _ _
def qf7 (R:Option Addr->List Value->Prop) (l:List Po) (w:World) (e:Ending) (w':World):Prop:=∃ v cs,e= .returned v/\w'.ownsRow w.heap.size 74 2 v l.length cs/\qam R l cs/\Below w.heap.size w w'
def qjB (R:Option Addr->List Value->Prop) (pl:List Int) (l:List Po) (w:World) (v5 idx:Value) (wr:World):Prop:=∃ (k:Nat) (cs:List Value),k<=l.length/\idx= .int .i64 (k:Int)/\wr.ownsRow w.heap.size 74 2 v5 (qcJ pl (l.take k)).length cs/\qam R (qcJ pl (l.take k)) cs/\Below w.heap.size w wr
theorem quh (R:Option Addr->List Value->Prop) (pcs:List Value) (A A2:Option Addr) (m c n c2:Nat) (l:List Po) (pl:List Int) (w:World) (hpc:qam R l pcs) (hpr:Row w w.heap.size A pcs) (hr:Row w w.heap.size A2 (qab pl)) (hm:l.length=m) (hn:pl.length=n) (hmx:m<=1000000) (hnx:n<=1000000) (hi:∀ q∈l,0<=q.1/\q.1<(n:Int)):
  Calls Tryz.prog 86 #[.slice A m c,.slice A2 n c2] w (qf7 R (qcJ pl l) w):=by
 obtain ⟨t0,hi0,hz0,hz1,hz2⟩:=info_parts qf6;have HPC:=qH hpc;have HPR:=qH hpr;have HR:=qH hr;have HM:=qH hm;have HN:=qH hn;have HI:=qH hi;clear hpc hpr hr hm hn hi
 go_enter Tryz.func86,Tryz.ntmps86
 go_wp2
 go_loopw [5,7,8,11] (fun v5 u7 u8 idx wr=>qjB R pl l w v5 idx wr) (fun _ _ _ idx _=>m-(intOf idx).toNat)
 case atStart=>exact ⟨0,[],Nat.zero_le _,rfl,by simpa [qcJ] using World.ownsRow_nil _ _ _ _,by simp [qcJ,qam],Below.refl _ _⟩
 case round=>
  obtain ⟨k,cs,hk,rfl,hown,hcs,hbw⟩:=hrel;rw [HM.out] at hk;by_cases hkm:k<m
  ·have hkl:k<l.length:=by rw [HM.out];exact hkm
   obtain ⟨g1,A',c',g2,hc1,hc3,hrow⟩:=(HPC.out).at_ hkl;have hgd:l.getD k (0,[])=l[k]:=by rw [List.getD_eq_getElem?_getD,List.getElem?_eq_getElem hkl];rfl
   rw [hgd] at g1 g2 hc1 hrow;obtain ⟨h01,h02⟩:=(HI.out) _ (List.getElem_mem hkl);obtain ⟨b,off,rfl,hb,hcl⟩:=Row.at_ ((HPR.out).below hbw) (by rw [(HPC.out).len];omega);have q1:=hcl _ _ g1;have q2:=hcl _ _ g2;rw [<- Nat.add_assoc] at q2;have hsn:qcJ pl (l.take (k+1))=if pl.getD l[k].1.toNat 0<0 then qcJ pl (l.take k) else qcJ pl (l.take k)++[(pl.getD l[k].1.toNat 0,l[k].2)]:=by
    rw [List.take_succ_eq_append_getElem hkl,quf]
   obtain ⟨j,hj⟩:∃ j:Nat,l[k].1=(j:Int):=⟨l[k].1.toNat,by omega⟩;rw [hj,Int.toNat_natCast] at hsn;rw [hj] at h02 q1;have hjn:j<n:=by omega
   obtain ⟨b2,o2,rfl,hb2,q3⟩:=qcF ((HR.out).below hbw) (k:=j) (by rw [HN.out];exact hjn);have hgj:pl.getD j 0=pl[j]'(by rw [HN.out];exact hjn):=by rw [List.getD_eq_getElem?_getD,List.getElem?_eq_getElem (by rw [HN.out];exact hjn)];rfl
   rw [<- hgj] at q3;obtain ⟨d,hd⟩:∃ d,d=pl.getD j 0:=⟨_,rfl⟩;rw [<- hd] at q3 hsn;obtain ⟨N,hN⟩:∃ N,N=l[k].2.length:=⟨_,rfl⟩;rw [<- hN] at q2 hc1;have hlen:=qug pl (l.take k);rw [List.length_take] at hlen;obtain ⟨M,hM⟩:∃ M,M=(qcJ pl (l.take k)).length:=⟨_,rfl⟩;rw [<- hM] at hown hlen;have hM2:M<=1000000:=by omega
   have hsz:=hbw.size;have hi1:(k:Int)<(m:Int):=by omega
   have hi2:(j:Int)<(n:Int):=by omega
   have HO:=qH hown;have HCS:=qH hcs;have HSN:=qH hsn;have HB:=qH hbw;have HMM:=qH hM;have HNN:=qH hN;have HROW:=qH hrow;have q3A:∀ z,(wr.alloc z).cell? ⟨b2,o2+j,none⟩=some (.int .i64 d):=fun z=>(((Below.refl wr.heap.size wr).alloc (Nat.le_refl _) z).cell (p:=⟨b2,o2+j,none⟩) (by show b2<_;omega)).trans q3
   unfold maxLen at hc3;by_cases hneg:d<0
   ·have d1:decide ((0:Int)<=d)=false:=decide_eq_false (by omega)
    rw [if_pos hneg] at hsn;have HFIN:Hid (∀ z,qjB R pl l w u5 (.int .i64 ((k:Int)+1)) (wr.alloc z)):=qH fun z=>⟨k+1,cs,by omega,rfl,by rw [hsn,<- hM];exact hown.alloc z,by rw [hsn];exact hcs,hbw.alloc hbw.size z⟩
    clear hown hcs hsn hbw hM hN hrow hd hj hcl HO HCS hneg;go_wp2;go_roundw
    case rel=>exact HFIN.out _
    case measure=>simp [intOf];omega
   ·have d1:decide ((0:Int)<=d)=true:=decide_eq_true (by omega)
    rw [if_neg hneg] at hsn;have HS2:=qH hsn;obtain ⟨W,hW⟩:∃ W,W=wr.heap.size:=⟨_,rfl⟩;clear hown hcs hsn hbw hM hN hrow hd hj hcl hneg
    go_wp2_with (at_builtin;refine wpList_append_own _ rfl (.tmp 22) (.tmp 27) 71 rfl w.heap.size 74 t0 _ 2 32 Tryz.underlying71 hi0 hz0 hz1 hz2 rfl (by omega) _ M cs rfl ((HO.out.alloc _).alloc _) ⟨wr.heap.size+1,0,none⟩ 1 1 [.int .i64 d,.slice A' N c'] rfl rfl (by simpa using qaN (wr.alloc _) [.int .i64 d,.slice A' N c'] 74) (by intro u hu;simp at hu;rcases hu with rfl|rfl<;>rfl) (by unfold maxLen;omega) (by omega) (by simp;omega) ?_;intro v7 w7 hown7 hg7 _)
    have hfin:qjB R pl l w v7 (.int .i64 ((k:Int)+1)) w7:=by
     refine ⟨k+1,cs++[.int .i64 d,.slice A' N c'],by omega,rfl,?_,?_,?_⟩
     ·rw [HS2.out,List.length_append,<- HMM.out]
      exact hown7
     ·rw [HS2.out,HNN.out]
      exact (HCS.out).snoc (by rw [<- HNN.out];exact hc1) (by unfold maxLen;omega) HROW.out
     ·exact (((HB.out).alloc (HB.out).size _).alloc (by simp;omega) _).grown hg7 (by simp;omega) fun q hq=>((HO.out).lt q hq).1
    have HFIN:=qH hfin;clear hfin hown7 hg7;go_roundw
    case rel=>exact HFIN.out
    case measure=>simp [intOf];omega
  ·have hkm2:k=l.length:=by have :=HM.out;omega
   subst hkm2;rw [List.take_length] at hown hcs;have HFIN:=qH (show qf7 R (qcJ pl l) w (.returned u5) wr from ⟨_,cs,rfl,hown,hcs,hbw⟩)
   clear hown hcs hbw;go_wp2;go_ret;exact HFIN.out
def qan (Ls:List (List En)) (E:List Pl):List En:=E.map (qa4 Ls)
def qb4 (Ls:List (List En)):List Nm:=qbw (Ls.map qag)
def qbz (Ls:List (List En)) (E:List Pl) (n:Nat):List Nm:=((qb4 Ls).take n).filter fun k=>decide (qal 0 (qan Ls E) k≠[])
def qc0 (Ls:List (List En)) (E:List Pl) (n:Nat):List (List Pn):=(qbz Ls E n).map fun k=>qal 0 (qan Ls E) k
theorem qjC (Ls:List (List En)) (E:List Pl):qbz Ls E 0=[]:=by simp [qbz]
theorem qnu {Ls:List (List En)} {E:List Pl} {n:Nat} (hn:n<(qb4 Ls).length):qbz Ls E (n+1)=if qal 0 (qan Ls E) (qb4 Ls)[n]≠[] then qbz Ls E n++[(qb4 Ls)[n]] else qbz Ls E n:=by
 unfold qbz;rw [List.take_succ_eq_append_getElem hn,List.filter_append];by_cases h:qal 0 (qan Ls E) (qb4 Ls)[n]≠[]
 ·rw [if_pos h,List.filter_cons_of_pos (by simpa using h)];rfl
 ·rw [if_neg h,List.filter_cons_of_neg (by simpa using h)];simp
theorem qnv {Ls:List (List En)} {E:List Pl} (h:qdh Ls E) {q:En} (hq:q∈qan Ls E):∃ i,∃ hi:i<Ls.length,q∈Ls[i]:=by
 obtain ⟨p,hp,rfl⟩:=List.mem_map.1 hq;obtain ⟨a1,a2⟩:=h.ins p hp;rw [qaw a1] at a2;refine ⟨p.1,a1,?_⟩;rw [qa4,qaw a1,qaw a2];exact List.getElem_mem a2
theorem qnw {Ls:List (List En)} {E:List Pl} (h:qdh Ls E):qbz Ls E (qb4 Ls).length=qag (qan Ls E):=by
 unfold qbz;rw [List.take_length];refine qg7 (List.Pairwise.filter _ (qfU _)) (qgz _) fun x=> ?_
 rw [List.mem_filter,decide_eq_true_eq,qb4,qgr];constructor
 ·rintro ⟨_,h2⟩
  exact qeE.2 ((qi8 (i:=0)).1 h2)
 ·intro hx
  refine ⟨?_,(qi8 (i:=0)).2 (qeE.1 hx)⟩;obtain ⟨q,hq,t,ht,e⟩:=qeE.1 hx;obtain ⟨i,hi,hqi⟩:=qnv h hq;exact ⟨qag Ls[i],List.mem_map.2 ⟨_,List.getElem_mem hi,rfl⟩,qeE.2 ⟨q,hqi,t,ht,e⟩⟩
theorem qui {Ls:List (List En)} {E:List Pl} (h:qdh Ls E):qc0 Ls E (qb4 Ls).length=(qag (qan Ls E)).map fun k=>qal 0 (qan Ls E) k:=by
 unfold qc0;rw [qnw h]
def qfy (Ls:List (List En)) (E:List Pl):List (List Int):=(List.range Ls.length).map fun (i:Nat)=>qbR E (i:Int) (Ls.getD i []).length
theorem qnx (Ls:List (List En)) (E:List Pl):(qfy Ls E).length=Ls.length:=by simp [qfy]
theorem qny {Ls:List (List En)} {E:List Pl} {i:Nat} (hi:i<Ls.length) (h2:i<(qfy Ls E).length):(qfy Ls E)[i]=qbR E (i:Int) Ls[i].length:=by
 simp only [qfy,List.getElem_map,List.getElem_range,qaw hi]
theorem quj {E:List Pl} {i n:Nat} {l:List Pn} (hl:∀ q∈l,0<=q.1/\q.1<(n:Int)):qcJ (qbR E (i:Int) n) l=qdg E i l:=by
 unfold qcJ qdg;have hcg:∀ {f g:Pn->Option Pn} {l:List Pn},(∀ q∈l,f q=g q)->l.filterMap f=l.filterMap g:=by
  intro f g l h
  induction l with
  |nil=>rfl
  |cons x r ih=>rw [List.filterMap_cons,List.filterMap_cons,h x (List.mem_cons_self ..),ih fun q hq=>h q (List.mem_cons_of_mem _ hq)]
 refine hcg fun q hq=> ?_
 obtain ⟨h1,h2⟩:=hl q hq;obtain ⟨j,hj⟩:∃ j:Nat,q.1=(j:Int):=⟨q.1.toNat,by omega⟩;have hjn:j<n:=by omega
 have e:(qbR E (i:Int) n).getD q.1.toNat 0=qbi E 0 (i:Int) q.1:=by
  rw [hj,Int.toNat_natCast,List.getD_eq_getElem?_getD,qf4 hjn];rfl
 rw [e]
def qfa (w:World) (B:Nat) (ls:List (List Pn)) (cs:List Value):Prop:=cs.length=ls.length/\∀ i (h:i<ls.length),∃ A c,cs[i]?=some (.slice A ls[i].length c)/\(ls[i].length<=c/\c<=maxLen)/\qbG w B A ls[i]
def qcC (w:World) (B:Nat) (A:Option Addr) (ls:List (List Pn)):Prop:=∃ cs,qfa w B ls cs/\Row w B A cs
section
variable {w w':World} {B B':Nat} {A:Option Addr} {ls:List (List Pn)} {cs:List Value}
theorem qfa.below (h:qfa w B ls cs) (hb:Below B w w'):qfa w' B ls cs:=⟨h.1,fun i hi=>by obtain ⟨A,c,h1,h2,h3⟩:=h.2 i hi;exact ⟨A,c,h1,h2,h3.below hb⟩⟩
theorem qfa.more (h:qfa w B ls cs) (hB:B<=B'):qfa w B' ls cs:=⟨h.1,fun i hi=>by obtain ⟨A,c,h1,h2,h3⟩:=h.2 i hi;exact ⟨A,c,h1,h2,h3.more hB⟩⟩
theorem qcC.below (h:qcC w B A ls) (hb:Below B w w'):qcC w' B A ls:=by obtain ⟨cs,h1,h2⟩:=h;exact ⟨cs,h1.below hb,h2.below hb⟩
theorem qcC.more (h:qcC w B A ls) (hB:B<=B'):qcC w B' A ls:=by obtain ⟨cs,h1,h2⟩:=h;exact ⟨cs,h1.more hB,h2.more hB⟩
theorem qcC.later (h:qcC w w.heap.size A ls) (hb:Below w.heap.size w w'):qcC w' w'.heap.size A ls:=(h.below hb).more hb.size
theorem qcC.at_ (h:qcC w B A ls) {i:Nat} (hi:i<ls.length):∃ b off A' c',A=some ⟨b,off,none⟩/\b<B/\w.cell? ⟨b,off+i,none⟩=some (.slice A' ls[i].length c')/\(ls[i].length<=c'/\c'<=maxLen)/\qbG w B A' ls[i]:=by
 obtain ⟨cs,h1,h2⟩:=h;obtain ⟨A',c',g1,g2,g3⟩:=h1.2 i hi;obtain ⟨b,off,rfl,hb,hc⟩:=Row.at_ h2 (by rw [h1.1];omega);exact ⟨b,off,A',c',rfl,hb,hc _ _ g1,g2,g3⟩
end
theorem qnz (l:List UInt8):(qas l).2=0∨qah (qas l).1=l.take (qas l).2:=by
 have key:∀ (f:Nat) (l:List UInt8) (k:Nat),qdF f l=some k->k<l.length/\qdw l k/\(l.getD k 0).toNat<128:=by
  intro f
  induction f with
  |zero=>intro l k h;cases h
  |succ f ih=>
   intro l k h;cases l with
   |nil=>cases h
   |cons c r=>
    rw [qdF] at h;split at h
    ·rename_i hc
     simp at h;subst h;exact ⟨by simp,qdw.zero _,by simpa using hc⟩
    ·rename_i hc
     rw [Option.map_eq_some_iff] at h;obtain ⟨j,hj,rfl⟩:=h;obtain ⟨h1,h2,h3⟩:=ih r j hj;refine ⟨by simp;omega,fun i hi=> ?_,by simpa using h3⟩;cases i with
     |zero=>simp;omega
     |succ i=>simpa using h2 i (by omega)
 unfold qas;rcases hs:qdF 9 l with _|k
 ·exact .inl rfl
 ·obtain ⟨h1,h2,h3⟩:=key 9 l k hs
  have hd:∀ j,j<k+1->(l.take (k+1)).getD j 0=l.getD j 0:=fun j hj=>by
   rw [List.getD_eq_getElem?_getD,List.getElem?_take_of_lt hj,<- List.getD_eq_getElem?_getD]
  simp only;split
  ·exact .inl rfl
  ·rename_i hne
   refine .inr ?_;simp only;refine (qmH (k:=k) (l:=l.take (k+1)) (by rw [List.length_take];omega) (fun j hj=> ?_) ?_ ?_).1
   ·rw [hd j (by omega)]
    exact h2 j hj
   ·rw [hd k (by omega)]
    exact h3
   ·rw [hd k (by omega)]
    omega
theorem qnA {b:List UInt8} {a:Nat} {d q:Int} (h:qbE b (a:Int)=(d,q,0)):
  ∃ n k:Nat,d=(n:Int)/\q=(k:Int)/\a<=k/\k<=b.length/\b.take k=b.take a++qah n:=by
 unfold qbE at h;split at h
 ·simp at h
 ·rename_i h0
  rw [Int.toNat_natCast] at h;split at h
  ·simp at h
  ·rename_i h1
   simp only [Prod.mk.injEq,and_true] at h;obtain ⟨hd,hq⟩:=h;have hbd:=(qe4 (b.drop a)).2.1;rw [List.length_drop] at hbd;refine ⟨_,a+(qas (b.drop a)).2,hd.symm,by rw [<- hq];simp,by omega,by omega,?_⟩;rcases qnz (b.drop a) with h2|h2
   ·exact absurd h2 h1
   ·rw [h2,List.take_add]
theorem qnB {b:List UInt8}:∀ (m:Nat) (last:Int) (a:Nat) (acc xs:List Int) (q:Nat),qcp b m last a acc=some (xs,q)->a<=b.length->
  ∃ ys,xs=acc++ys/\ys.length=m/\qak last ys=true/\a<=q/\q<=b.length/\b.take q=b.take a++dB last ys
 |0,last,a,acc,xs,q,h,ha=>by
  simp only [qcp,Option.some.injEq,Prod.mk.injEq] at h;obtain ⟨rfl,rfl⟩:=h;exact ⟨[],by simp,rfl,rfl,Nat.le_refl _,ha,by simp [dB]⟩
 |m+1,last,a,acc,xs,q,h,ha=>by
  rw [qcp] at h;split at h
  ·cases h
  ·rename_i h0
   have hbd:=(qe4 (b.drop a)).2.1;rw [List.length_drop] at hbd;obtain ⟨ys,h1,h2,h3,h4,h5,h6⟩:=qnB m _ _ _ _ _ h (by omega);have hx:qah (qas (b.drop a)).1=(b.drop a).take (qas (b.drop a)).2:=by
    rcases qnz (b.drop a) with h2|h2
    ·exact absurd (.inl h2) h0
    ·exact h2
   refine ⟨(last+(((qas (b.drop a)).1:Int)+1))::ys,by rw [h1];simp,by simp [h2],?_,by omega,h5,?_⟩
   ·rw [qak,h3,Bool.and_true,decide_eq_true_iff]
    omega
   ·rw [h6,List.take_add,dB,show (last+(((qas (b.drop a)).1:Int)+1)-(last+1)).toNat=(qas (b.drop a)).1 by omega,hx,List.append_assoc]
theorem quk {b:List UInt8} {a:Nat} {ps:List Int} {q:Int} (h:qcR b (a:Int)=(ps,q,0)):
  ∃ k:Nat,q=(k:Int)/\a<=k/\k<=b.length/\qak (-1) ps=true/\b.take k=b.take a++qby ps:=by
 unfold qcR at h;split at h
 ·rename_i h0
  obtain ⟨d,q2,e,hz⟩:∃ d q2 e,qbE b (a:Int)=(d,q2,e):=⟨_,_,_,rfl⟩;rw [hz] at h h0;simp only at h h0;subst h0;obtain ⟨n,k,rfl,rfl,hak,hkb,hk⟩:=qnA hz;rw [Int.toNat_natCast,Int.toNat_natCast] at h;rcases ht:qcp b n (-1) k [] with _|⟨xs,q'⟩
  ·rw [ht] at h;simp at h
  ·rw [ht] at h
   simp only [Prod.mk.injEq,and_true] at h;obtain ⟨rfl,rfl⟩:=h;obtain ⟨ys,h1,h2,h3,h4,h5,h6⟩:=qnB _ _ _ _ _ _ ht hkb;rw [List.nil_append] at h1;subst h1;exact ⟨q',rfl,by omega,h5,h3,by rw [h6,hk,qby,h2,List.append_assoc]⟩
 ·rename_i h0
  simp only [Prod.mk.injEq] at h;exact absurd h.2.2 h0
def qb5 (b:List UInt8) (last:Int) (a:Nat) (g:List Po):Prop:=
 qaS last g=true/\a+(qac last g).length<=b.length/\b.take (a+(qac last g).length)=b.take a++qac last g
theorem qb5.nil {b:List UInt8} {last:Int} {a:Nat} (h:a<=b.length):qb5 b last a []:=⟨rfl,by simpa [qac] using h,by simp [qac]⟩
theorem qb5.split {b:List UInt8} {last:Int} {a:Nat} {g:List Po} (h:qb5 b last a g):b=b.take a++(qac last g++b.drop (a+(qac last g).length)):=by
 have :=(List.take_append_drop (a+(qac last g).length) b).symm;rw [h.2.2,List.append_assoc] at this;exact this
theorem qnC:∀ (l:List Po) (last:Int) (p:Po),p∈l->p.2.length<=(qac last l).length
 |[],_,p,h=>by cases h
 |q::r,last,p,h=>by
  have hd:∀ (ps:List Int) (x:Int),ps.length<=(dB x ps).length:=by
   intro ps
   induction ps with
   |nil=>simp
   |cons a t ih=>
    intro x;have :=ih a;have :=qfw (a-(x+1)).toNat;rw [dB,List.length_append,List.length_cons];omega
  rw [qac,List.length_append,List.length_append];rcases List.mem_cons.1 h with rfl|h
  ·have :=hd p.2 (-1)
   rw [qby,List.length_append];omega
  ·have :=qnC r q.1 p h
   omega
theorem qul {l:List Po} {k:Nat} (hk:k<l.length):l.drop k=l.getD k (0,[])::l.drop (k+1):=by
 rw [List.drop_eq_getElem_cons hk,List.getD_eq_getElem?_getD,List.getElem?_eq_getElem hk];rfl
theorem qum {b:List UInt8} {last:Int} {a:Nat} {g:List Po} (h:qb5 b last a g) (h0: -1<=last) {k:Nat} (hk:k<g.length) (hb:b.length<=400000000000):
  ∃ a2:Nat,qbE b (((a+(qac last (g.take k)).length:Nat)):Int)=((g.getD k (0,[])).1-(qaE last (g.take k)+1),(a2:Int),0)/\
   qcR b (a2:Int)=((g.getD k (0,[])).2,(((a+(qac last (g.take (k+1))).length:Nat)):Int),0)/\ -1<=qaE last (g.take k)/\qaE last (g.take k)<(g.getD k (0,[])).1/\(g.getD k (0,[])).1<2147483648/\qcS (g.getD k (0,[])).2=true/\g.take (k+1)=g.take k++[((g.getD k (0,[])).1,(g.getD k (0,[])).2)]:=by
 have hspl:=h.split;obtain ⟨h1,h2,h3⟩:=h;have hsp:g=g.take k++(g.getD k (0,[])::g.drop (k+1)):=by rw [<- qul hk,List.take_append_drop]
 have hm:=h1;rw [hsp,qek,Bool.and_eq_true] at hm;obtain ⟨m1,m2⟩:=hm;obtain ⟨m3,m4,m5,m6⟩:=qeF.1 m2;have hge:=qhk _ _ m1;have hpl:=qnC g last (g.getD k (0,[])) (by rw [List.getD_eq_getElem?_getD,List.getElem?_eq_getElem hk];simp);have hts:g.take (k+1)=g.take k++[g.getD k (0,[])]:=by
  rw [List.take_succ_eq_append_getElem hk,List.getD_eq_getElem?_getD,List.getElem?_eq_getElem hk];rfl
 obtain ⟨q,hq⟩:∃ q,q=g.getD k (0,[]):=⟨_,rfl⟩;rw [<- hq] at m3 m4 m5 m6 hsp hts hpl;rw [<- hq];obtain ⟨d,ps⟩:=q;have hta:(b.take a).length=a:=by rw [List.length_take];omega
 obtain ⟨g1,g2⟩:=qs7 (pre:=b.take a++qac last (g.take k)) (post:=b.drop (a+(qac last g).length)) (r:=g.drop (k+1)) (by omega) m3 m4 m5 (by have h9:ps.length<=(qac last g).length:=hpl;omega);have hbe:(b.take a++qac last (g.take k))++(qac (qaE last (g.take k)) ((d,ps)::g.drop (k+1))++b.drop (a+(qac last g).length))=b:=by
  have e1:qac last (g.take k)++qac (qaE last (g.take k)) ((d,ps)::g.drop (k+1))=qac last g:=by rw [<- qe5,<- hsp]
  have e2:(b.take a++qac last (g.take k))++(qac (qaE last (g.take k)) ((d,ps)::g.drop (k+1))++b.drop (a+(qac last g).length))=b.take a++((qac last (g.take k)++qac (qaE last (g.take k)) ((d,ps)::g.drop (k+1)))++b.drop (a+(qac last g).length)):=by simp only [List.append_assoc]
  rw [e2,e1];exact hspl.symm
 rw [hbe,List.length_append,hta] at g1 g2;refine ⟨_,g1,?_,by omega,m3,m4,m5,hts⟩;rw [g2,hts,qe5];simp [qac,Nat.add_assoc]
theorem qun {b:List UInt8} {last:Int} {a:Nat} {acc:List Po} (h:qb5 b last a acc) (h0: -1<=qaE last acc) {d q2 q3:Int} {ps:List Int}
  (hz:qbE b (((a+(qac last acc).length:Nat)):Int)=(d,q2,0)) (hr:qcR b q2=(ps,q3,0)) (hd:d+(qaE last acc+1)<2147483648) (hp:qcS ps=true):
  qb5 b last a (acc++[(d+(qaE last acc+1),ps)])/\q3=((a+(qac last (acc++[(d+(qaE last acc+1),ps)])).length:Nat):Int):=by
 obtain ⟨n,k,rfl,rfl,hak,hkb,hk⟩:=qnA hz;obtain ⟨k2,rfl,hkk,hkb2,hris,hk2⟩:=quk hr;obtain ⟨h1,h2,h3⟩:=h;obtain ⟨x,hx⟩:∃ x,x=qaE last acc:=⟨_,rfl⟩;rw [<- hx] at h0 hd;rw [<- hx];have hby:qac last (acc++[((n:Int)+(x+1),ps)])=qac last acc++(qah n++qby ps):=by
  rw [qe5,<- hx];simp only [qac,List.append_nil];rw [show ((n:Int)+(x+1)-(x+1)).toNat=n by omega]
 have hlen:k2=a+(qac last (acc++[((n:Int)+(x+1),ps)])).length:=by
  have e1:=congrArg List.length hk;have e2:=congrArg List.length hk2;rw [List.length_append,List.length_take,List.length_take] at e1 e2;rw [hby,List.length_append,List.length_append];omega
 refine ⟨⟨?_,by omega,?_⟩,by rw [<- hlen]⟩
 ·rw [qek,h1,Bool.true_and,<- hx]
  exact qeF.2 ⟨by simp only;omega,by simp only;omega,hp,rfl⟩
 ·rw [<- hlen,hk2,hk,h3,hby]
  simp only [List.append_assoc]
theorem quo {last:Int} {acc:List Po} {y:Int} {ps:List Int}:qaE last (acc++[(y,ps)])=y:=by rw [qiY];rfl
def qdT:Int->List Int->Bool
 |_,[]=>true
 |last,n::r=>decide (last<n)&&decide (n<2147483648)&&qdT n r
theorem qnD:∀ (ps:List Int) (last:Int),ps≠[]->qdT last ps=(qak last ps&&decide (ps.getLastD 0<2147483648))
 |[],_,h=>absurd rfl h
 |[n],last,_=>by simp [qdT,qak]
 |n::m::r,last,_=>by
  have ih:=qnD (m::r) n (by simp);have e:(n::m::r).getLastD 0=(m::r).getLastD 0:=by simp [List.getLastD]
  rw [qdT,qak,ih,e];rcases h1:qak n (m::r) with _|_
  ·simp
  ·by_cases h2:(m::r).getLastD 0<2147483648
   ·have :=(qiX h1 ((m::r).getLastD 0) (qmR (by simp))).1
    have h3:n<2147483648:=by omega
    simp [h3]
   ·rw [decide_eq_false h2]
    simp
theorem qup (ps:List Int):qcS ps=(qdT (-1) ps&&decide (0<ps.length)):=by
 by_cases h:ps=[]
 ·subst h;rfl
 ·unfold qcS
  rw [qnD ps (-1) h];have hl:0<ps.length:=List.length_pos_iff.2 h;have he:ps.isEmpty=false:=by simpa using h
  rw [he];simp [hl]
theorem quq {last:Int} {ps:List Int} {k:Nat} (hk:k<ps.length):qdT last (ps.drop k)=(decide (last<ps.getD k 0)&&decide (ps.getD k 0<2147483648)&&qdT (ps.getD k 0) (ps.drop (k+1))):=by
 rw [List.drop_eq_getElem_cons hk,qdT,List.getD_eq_getElem?_getD,List.getElem?_eq_getElem hk];rfl
def qdy (l:List Po):Nat->List (Int × Nat)
 |0=>[]
 |k+1=>qdy l k++[(qaE (-1) (l.take (8*(k+1))),(qac (-1) (l.take (8*(k+1)))).length)]
theorem qfz (l:List Po):∀ n,(qdy l n).length=n
 |0=>rfl
 |k+1=>by rw [qdy,List.length_append,qfz l k];rfl
theorem qnE (l:List Po):∀ (n k:Nat),k<n->(qdy l n)[k]?=some (qaE (-1) (l.take (8*(k+1))),(qac (-1) (l.take (8*(k+1)))).length)
 |0,_,h=>by omega
 |n+1,k,h=>by
  rw [qdy];by_cases e:k=n
  ·subst e
   rw [List.getElem?_append_right (by rw [qfz];exact Nat.le_refl _),qfz,Nat.sub_self];rfl
  ·rw [List.getElem?_append_left (by rw [qfz];omega)]
   exact qnE l n k (by omega)
theorem qnF {l b:List Po}:∀ {n:Nat},8*n<=l.length->qdy (l++b) n=qdy l n
 |0,_=>rfl
 |k+1,h=>by
  rw [qdy,qdy,qnF (by omega),List.take_append_of_le_length h]
theorem qur {l b:List Po} {n:Nat} (hl:l.length=8*n) (h0:0<b.length) (h8:b.length<=8):qaA l.length=n/\qaA (l++b).length=n+1:=by
 unfold qaA;rw [List.length_append];omega
theorem qus {l b:List Po} {n:Nat} (hl:l.length=8*n) (h0:0<b.length) (h8:b.length<=8):qdy (l++b) (n+1)=qdy l n++[(qaE (-1) (l++b),(qac (-1) (l++b)).length)]:=by
 rw [qdy,qnF (by omega),List.take_of_length_le (by rw [List.length_append];omega)]
theorem qjD:∀ (a b:List Po),qav (a++b)=qav a+qav b
 |[],b=>by simp [qav]
 |p::r,b=>by simp [qav,qjD r b,Nat.add_assoc]
theorem qut {l:List Po} {k:Nat} (hk:k<qaA l.length) (hm:qaS (-1) l=true):qb5 (qac (-1) l) (qaE (-1) (l.take (8*k))) (qac (-1) (l.take (8*k))).length (qbO l (k:Int)):=by
 have hsp:l=l.take (8*k)++(qbO l (k:Int)++l.drop (8*(k+1))):=by
  rw [<- List.append_assoc,<- qi1,List.take_append_drop]
 have hb:qac (-1) l=qac (-1) (l.take (8*k))++(qac (qaE (-1) (l.take (8*k))) (qbO l (k:Int))++qac (qaE (qaE (-1) (l.take (8*k))) (qbO l (k:Int))) (l.drop (8*(k+1)))):=by
  conv=>lhs;rw [hsp]
  rw [qe5,qe5]
 have hm2:=hm;rw [hsp,qek,qek,Bool.and_eq_true,Bool.and_eq_true] at hm2;obtain ⟨a,ha⟩:∃ a,a=qac (-1) (l.take (8*k)):=⟨_,rfl⟩;obtain ⟨c,hc⟩:∃ c,c=qac (qaE (-1) (l.take (8*k))) (qbO l (k:Int)):=⟨_,rfl⟩;rw [<- ha,<- hc] at hb;refine ⟨hm2.2.1,?_,?_⟩
 ·rw [<- ha,<- hc,hb];simp
 ·rw [<- ha,<- hc,hb,List.take_left,<- List.append_assoc,<- List.length_append,List.take_left]
def qdj:List (Int × Nat)->List Value
 |[]=>[]
 |p::r=> .int .i64 p.1:: .int .i64 (p.2:Int)::qdj r
theorem qnG:∀ l:List (Int × Nat),(qdj l).length=l.length*2
 |[]=>rfl
 |p::r=>by simp only [qdj,List.length_cons,qnG r];omega
theorem qnH:∀ a b:List (Int × Nat),qdj (a++b)=qdj a++qdj b
 |[],b=>rfl
 |p::a,b=>by simp only [List.cons_append,qdj,qnH a b]
theorem qnI:∀ (l:List (Int × Nat)) (k:Nat) (p:Int × Nat),l[k]?=some p->(qdj l)[k*2]?=some (.int .i64 p.1)/\(qdj l)[k*2+1]?=some (.int .i64 (p.2:Int))
 |[],k,p,h=>by simp at h
 |q::l,0,p,h=>by
  simp only [List.getElem?_cons_zero,Option.some.injEq] at h;subst h;exact ⟨rfl,rfl⟩
 |q::l,k+1,p,h=>by
  rw [List.getElem?_cons_succ] at h;have ih:=qnI l k p h;rw [qdj,show (k+1)*2=k*2+1+1 by omega];exact ih
theorem quu:(Tryz.prog.info? 206).map (fun i=>(i.zero,i.size,i.bytes))=some (some (.agg #[.int .i64 0,.int .i64 0]),2,16):=by kernel_rfl
def qeI (l:List Po):List Value:=qdj (qdy l (qaA l.length))
theorem quv (l:List Po):(qeI l).length=qaA l.length*2:=by rw [qeI,qnG,qfz]
def LAt (w:World) (base B:Nat) (bs:List UInt8) (l:List Po):Prop:=
 base<=B/\∃ vb ve,w.heap[B]?=some (.cells #[vb,ve,.int .i64 (l.length:Int),.int .i64 (qav l:Int)] 181 (0,0))/\
  w.ownsRow base 5 1 vb bs.length (Lib.byteCells bs)/\w.ownsRow base 206 2 ve (qaA l.length) (qeI l)
theorem qfb {w:World} {B:Nat} {a b c d:Value} {t:TypeId} (h:w.heap[B]?=some (.cells #[a,b,c,d] t (0,0))):
  (w.cell? ⟨B,0,none⟩=some a/\w.cell? ⟨B,1,none⟩=some b/\w.cell? ⟨B,2,none⟩=some c/\w.cell? ⟨B,3,none⟩=some d)/\
  w.frozen? ⟨B,0,none⟩=false/\w.frozen? ⟨B,1,none⟩=false/\w.frozen? ⟨B,2,none⟩=false/\w.frozen? ⟨B,3,none⟩=false:=by
 simp [World.cell?,World.frozen?,h]
section
variable {w w':World} {base B:Nat} {bs:List UInt8} {l:List Po}
theorem LAt.lt (h:LAt w base B bs l):B<w.heap.size:=by
 obtain ⟨_,vb,ve,hv,_⟩:=h;exact (Array.getElem?_eq_some_iff.1 hv).1
theorem LAt.below (h:LAt w base B bs l) (hb:Below w.heap.size w w'):LAt w' base B bs l:=by
 have hl:=h.lt;obtain ⟨h1,vb,ve,hv,ho,he⟩:=h;exact ⟨h1,vb,ve,(hb.block B hl).trans hv,qao ho hb,qao he hb⟩
theorem LAt.cellsKept (h:LAt w base B bs l) (hk:∀ (k:Nat) (o:Obj),w.heap[k]?=some o->o.isCells=true->w'.heap[k]?=some o):LAt w' base B bs l:=by
 obtain ⟨h1,vb,ve,hv,ho,he⟩:=h;have key:∀ {E:TypeId} {size:Nat} {v:Value} {n:Nat} {xs:List Value},w.ownsRow base E size v n xs->w'.ownsRow base E size v n xs:=fun ho=>by
  refine qat ho fun g hg=> ?_
  rcases ho.2 with ⟨rfl,_⟩|⟨g',cap,cur,rfl,_,hh,_⟩
  ·cases hg
  ·simp only [Value.ownBlock,Option.some.injEq] at hg
   subst hg;rw [hk _ _ hh rfl,hh]
 exact ⟨h1,vb,ve,hk B _ hv rfl,key ho,key he⟩
theorem LAt.read (h:LAt w base B bs l):∃ Ab cb Ae ce,(w.cell? ⟨B,0,none⟩=some (.slice Ab bs.length cb)/\w.cell? ⟨B,1,none⟩=some (.slice Ae (qaA l.length) ce)/\w.cell? ⟨B,2,none⟩=some (.int .i64 (l.length:Int))/\w.cell? ⟨B,3,none⟩=some (.int .i64 (qav l:Int)))/\
  bs.length<=cb/\cb<=maxLen/\qaA l.length<=ce/\Row w w.heap.size Ab (Lib.byteCells bs)/\Row w w.heap.size Ae (qeI l)/\(Ab=none->bs.length=0/\cb=0):=by
 obtain ⟨_,vb,ve,hv,ho,he⟩:=h;have hx:=(qfb hv).1;obtain ⟨Ae,ce,rfl,hce,hre⟩:=qaR he;rcases ho.2 with ⟨rfl,h0⟩|⟨g,c,cur,rfl,_,_,hnc,hcm,_,_⟩
 ·exact ⟨none,0,Ae,ce,by rw [h0];exact hx,by omega,by unfold maxLen;omega,hce,by rw [List.eq_nil_of_length_eq_zero h0];exact Row.nil,hre,fun _=>⟨h0,rfl⟩⟩
 ·exact ⟨_,c,Ae,ce,hx,hnc,hcm,hce,qbv ho,hre,fun e=>by cases e⟩
end
def LIn (w:World) (B:Nat) (bs:List UInt8) (l:List Po):Prop:=
 B<w.heap.size/\∃ Ab cb Ae ce,(w.cell? ⟨B,0,none⟩=some (.slice Ab bs.length cb)/\w.cell? ⟨B,1,none⟩=some (.slice Ae (qaA l.length) ce)/\w.cell? ⟨B,2,none⟩=some (.int .i64 (l.length:Int))/\w.cell? ⟨B,3,none⟩=some (.int .i64 (qav l:Int)))/\
  bs.length<=cb/\cb<=maxLen/\qaA l.length<=ce/\Row w w.heap.size Ab (Lib.byteCells bs)/\Row w w.heap.size Ae (qeI l)
theorem LAt.in_ {w:World} {base B:Nat} {bs:List UInt8} {l:List Po} (h:LAt w base B bs l):LIn w B bs l:=by
 obtain ⟨Ab,cb,Ae,ce,h1,h2,h3,h4,h5,h6,_⟩:=h.read;exact ⟨h.lt,Ab,cb,Ae,ce,h1,h2,h3,h4,h5,h6⟩
theorem LIn.below {w w':World} {B:Nat} {bs:List UInt8} {l:List Po} (h:LIn w B bs l) (hb:Below w.heap.size w w'):LIn w' B bs l:=by
 obtain ⟨hl,Ab,cb,Ae,ce,⟨c0,c1,c2,c3⟩,h2,h3,h4,h5,h6⟩:=h;have hs:=hb.size;refine ⟨by omega,Ab,cb,Ae,ce,⟨(hb.cell (p:=⟨B,0,none⟩) hl).trans c0,(hb.cell (p:=⟨B,1,none⟩) hl).trans c1,(hb.cell (p:=⟨B,2,none⟩) hl).trans c2,(hb.cell (p:=⟨B,3,none⟩) hl).trans c3⟩,h2,h3,h4,(h5.below hb).more hs,(h6.below hb).more hs⟩
theorem quw {w:World} {D:Nat} {A:Option Addr} {l:List Po} (h:Row w D A (qeI l)) {k:Nat} (hk:k<qaA l.length):
  ∃ b off,A=some ⟨b,off,none⟩/\b<D/\w.cell? ⟨b,off+k*2,none⟩=some (.int .i64 (qaE (-1) (l.take (8*(k+1)))))/\w.cell? ⟨b,off+k*2+1,none⟩=some (.int .i64 ((qac (-1) (l.take (8*(k+1)))).length:Int)):=by
 obtain ⟨b,off,rfl,hb,hc⟩:=h.at_ (by rw [quv];omega);have h2:=qnI _ _ _ (qnE l (qaA l.length) k hk);exact ⟨b,off,rfl,hb,hc _ _ h2.1,by rw [Nat.add_assoc];exact hc _ _ h2.2⟩
section
variable (B:Nat) (bs:List UInt8) (l:List Po) (w:World) (h:LIn w B bs l)
include h
theorem qnJ:Calls Tryz.prog 141 #[.pointer (some ⟨B,0,none⟩)] w fun e w'=>e= .returned (.int .i64 (qaA l.length:Int))/\w=w':=by
 obtain ⟨_,Ab,cb,Ae,ce,⟨c0,c1,c2,c3⟩,_⟩:=h
 go_enter Tryz.func141,Tryz.ntmps141
 go_wp2;go_ret;exact ⟨rfl,rfl⟩
theorem qnK (k:Nat) (hk:k<=qaA l.length) (hl:l.length<=1073741824):Calls Tryz.prog 165 #[.pointer (some ⟨B,0,none⟩),.int .i64 (k:Int)] w fun e w'=>
  e= .returned (.agg #[.int .i64 (qaE (-1) (l.take (8*k))),.int .i64 ((qac (-1) (l.take (8*k))).length:Int)])/\Below w.heap.size w w':=by
 have hlt:=h.1;obtain ⟨_,Ab,cb,Ae,ce,⟨c0,c1,c2,c3⟩,_,_,hce,_,hre⟩:=h;have hbl:qaA l.length<=1073741824:=by unfold qaA;omega
 clear c0 c2 c3;rcases Nat.eq_zero_or_pos k with rfl|hpos
 ·go_enter Tryz.func165,Tryz.ntmps165
  go_wp2;refine bodyPost_ret (results_cell_row (P:=Tryz.prog) rfl _ _ w.heap.size 206 _ (0,0) _ rfl (by first|rfl|exact heap_alloc_new _ _) Tryz.underlying206 rfl (by kernel_rfl)) rfl ?_
  exact ⟨rfl,by repeat (first|exact (Below.refl _ _).alloc (Nat.le_refl _) _|refine Below.setCell ?_ (by simp) _)⟩
 ·obtain ⟨j,rfl⟩:∃ j,k=j+1:=⟨k-1,by omega⟩
  obtain ⟨b,o,rfl,hb,e0,e1⟩:=quw hre (k:=j) (by omega);obtain ⟨n,hn⟩:∃ n,n=qaA l.length:=⟨_,rfl⟩;rw [<- hn] at c1 hk hce hbl;obtain ⟨x,hx⟩:∃ x,x=qaE (-1) (l.take (8*(j+1))):=⟨_,rfl⟩;obtain ⟨y,hy⟩:∃ y,y=(qac (-1) (l.take (8*(j+1)))).length:=⟨_,rfl⟩;rw [<- hx] at e0 ⊢;rw [<- hy] at e1 ⊢;have hj:((j+1:Nat):Int)=(j:Int)+1:=by omega
  have hz:((j:Int)+1==0)=false:=by rw [beq_eq_false_iff_ne];omega
  rw [hj];have hjn:j<n:=by omega
  clear hn hx hy hre hj hk hpos
  go_enter Tryz.func165,Tryz.ntmps165
  go_wp2;refine bodyPost_ret (results_cell_row (P:=Tryz.prog) rfl _ _ w.heap.size 206 _ (0,0) _ rfl (by first|rfl|exact heap_alloc_new _ _) Tryz.underlying206 rfl (by kernel_rfl)) rfl ?_
  exact ⟨rfl,by repeat (first|exact (Below.refl _ _).alloc (Nat.le_refl _) _|refine Below.setCell ?_ (by simp) _)⟩
end
section
variable (base B:Nat) (bs:List UInt8) (l:List Po) (w:World) (h:LAt w base B bs l)
include h
theorem qnL:Calls Tryz.prog 141 #[.pointer (some ⟨B,0,none⟩)] w fun e w'=>e= .returned (.int .i64 (qaA l.length:Int))/\w=w':=qnJ B bs l w h.in_
theorem qux (k:Nat) (hk:k<=qaA l.length) (hl:l.length<=1073741824):Calls Tryz.prog 165 #[.pointer (some ⟨B,0,none⟩),.int .i64 (k:Int)] w fun e w'=>
  e= .returned (.agg #[.int .i64 (qaE (-1) (l.take (8*k))),.int .i64 ((qac (-1) (l.take (8*k))).length:Int)])/\Below w.heap.size w w':=qnK B bs l w h.in_ k hk hl
end
end Go.Proofs.YtpehcaidjlemiaaGreatDoor
