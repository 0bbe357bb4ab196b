import Derived.Test.YtpehcaidjlemiaaGreatDoorMNZz
import Derived.Test.YtpehcaidjlemiaaGreatDoorMNQ06
import Derived.Test.YtpehcaidjlemiaaGreatDoorMNQ01
import Derived.Test.YtpehcaidjlemiaaGreatDoorMNQ08
import Derived.Deep.RegionLaw
import Derived.Deep.CutRange
import Derived.Test.YtpehcaidjlemiaaGreatDoorMNQ09
import Derived.Laws.Rows
import Derived.RangeFuncOwn
import Derived.BigCall
import Derived.BigQuiet
import Derived.Deep.QuietTactic
import Derived.Test.YtpehcaidjlemiaaGreatDoorMNQ02
import Derived.Deep.RegionHeld3
import Derived.Test.YtpehcaidjlemiaaGreatDoorMNQ04
import Derived.Maps.RangeRun
import Derived.MapKept
set_option maxHeartbeats 1000000
set_option maxRecDepth 100000
set_option linter.unusedVariables false
namespace Go.Proofs.YtpehcaidjlemiaaGreatDoor
theorem qnm (l:List UInt8):(qaq l).2=0∨qag (qaq l).1=l.take (qaq l).2:=by
 have key:∀ (f:Nat) (l:List UInt8) (k:Nat),qdz f l=some k->k<l.length/\qdq l k/\(l.getD k 0).toNat<128:=by
  intro f
  induction f with
  |zero=>intro l k h;cases h
  |succ f ih=>
   intro l k h;cases l with
   |nil=>cases h
   |cons c r=>
    rw [qdz] at h;split at h
    ·rename_i hc
     simp at h;subst h;exact ⟨by simp,qdq.zero _,by simpa using hc⟩
    ·rename_i hc
     rw [Option.map_eq_some_iff] at h;obtain ⟨j,hj,rfl⟩:=h;obtain ⟨h1,h2,h3⟩:=ih r j hj;refine ⟨by simp;omega,fun i hi=> ?_,by simpa using h3⟩;cases i with
     |zero=>simp;omega
     |succ i=>simpa using h2 i (by omega)
 unfold qaq;rcases hs:qdz 9 l with _|k
 ·exact .inl rfl
 ·obtain ⟨h1,h2,h3⟩:=key 9 l k hs
  have hd:∀ j,j<k+1->(l.take (k+1)).getD j 0=l.getD j 0:=fun j hj=>by
   rw [List.getD_eq_getElem?_getD,List.getElem?_take_of_lt hj,<- List.getD_eq_getElem?_getD]
  simp only;split
  ·exact .inl rfl
  ·rename_i hne
   refine .inr ?_;simp only;refine (qms (k:=k) (l:=l.take (k+1)) (by rw [List.length_take];omega) (fun j hj=> ?_) ?_ ?_).1
   ·rw [hd j (by omega)]
    exact h2 j hj
   ·rw [hd k (by omega)]
    exact h3
   ·rw [hd k (by omega)]
    omega
theorem qnn {b:List UInt8} {a:Nat} {d q:Int} (h:qbA b (a:Int)=(d,q,0)):
  ∃ n k:Nat,d=(n:Int)/\q=(k:Int)/\a<=k/\k<=b.length/\b.take k=b.take a++qag n:=by
 unfold qbA at h;split at h
 ·simp at h
 ·rename_i h0
  rw [Int.toNat_natCast] at h;split at h
  ·simp at h
  ·rename_i h1
   simp only [Prod.mk.injEq,and_true] at h;obtain ⟨hd,hq⟩:=h;have hbd:=(qeU (b.drop a)).2.1;rw [List.length_drop] at hbd;refine ⟨_,a+(qaq (b.drop a)).2,hd.symm,by rw [<- hq];simp,by omega,by omega,?_⟩;rcases qnm (b.drop a) with h2|h2
   ·exact absurd h2 h1
   ·rw [h2,List.take_add]
theorem qno {b:List UInt8}:∀ (m:Nat) (last:Int) (a:Nat) (acc xs:List Int) (q:Nat),qcl b m last a acc=some (xs,q)->a<=b.length->
  ∃ ys,xs=acc++ys/\ys.length=m/\qai last ys=true/\a<=q/\q<=b.length/\b.take q=b.take a++dB last ys
 |0,last,a,acc,xs,q,h,ha=>by
  simp only [qcl,Option.some.injEq,Prod.mk.injEq] at h;obtain ⟨rfl,rfl⟩:=h;exact ⟨[],by simp,rfl,rfl,Nat.le_refl _,ha,by simp [dB]⟩
 |m+1,last,a,acc,xs,q,h,ha=>by
  rw [qcl] at h;split at h
  ·cases h
  ·rename_i h0
   have hbd:=(qeU (b.drop a)).2.1;rw [List.length_drop] at hbd;obtain ⟨ys,h1,h2,h3,h4,h5,h6⟩:=qno m _ _ _ _ _ h (by omega);have hx:qag (qaq (b.drop a)).1=(b.drop a).take (qaq (b.drop a)).2:=by
    rcases qnm (b.drop a) with h2|h2
    ·exact absurd (.inl h2) h0
    ·exact h2
   refine ⟨(last+(((qaq (b.drop a)).1:Int)+1))::ys,by rw [h1];simp,by simp [h2],?_,by omega,h5,?_⟩
   ·rw [qai,h3,Bool.and_true,decide_eq_true_iff]
    omega
   ·rw [h6,List.take_add,dB,show (last+(((qaq (b.drop a)).1:Int)+1)-(last+1)).toNat=(qaq (b.drop a)).1 by omega,hx,List.append_assoc]
theorem qt1 {b:List UInt8} {a:Nat} {ps:List Int} {q:Int} (h:qcN b (a:Int)=(ps,q,0)):
  ∃ k:Nat,q=(k:Int)/\a<=k/\k<=b.length/\qai (-1) ps=true/\b.take k=b.take a++qbt ps:=by
 unfold qcN at h;split at h
 ·rename_i h0
  obtain ⟨d,q2,e,hz⟩:∃ d q2 e,qbA b (a:Int)=(d,q2,e):=⟨_,_,_,rfl⟩;rw [hz] at h h0;simp only at h h0;subst h0;obtain ⟨n,k,rfl,rfl,hak,hkb,hk⟩:=qnn hz;rw [Int.toNat_natCast,Int.toNat_natCast] at h;rcases ht:qcl b n (-1) k [] with _|⟨xs,q'⟩
  ·rw [ht] at h;simp at h
  ·rw [ht] at h
   simp only [Prod.mk.injEq,and_true] at h;obtain ⟨rfl,rfl⟩:=h;obtain ⟨ys,h1,h2,h3,h4,h5,h6⟩:=qno _ _ _ _ _ _ ht hkb;rw [List.nil_append] at h1;subst h1;exact ⟨q',rfl,by omega,h5,h3,by rw [h6,hk,qbt,h2,List.append_assoc]⟩
 ·rename_i h0
  simp only [Prod.mk.injEq] at h;exact absurd h.2.2 h0
def qb4 (b:List UInt8) (last:Int) (a:Nat) (g:List Po):Prop:=
 qaP last g=true/\a+(qab last g).length<=b.length/\b.take (a+(qab last g).length)=b.take a++qab last g
theorem qb4.nil {b:List UInt8} {last:Int} {a:Nat} (h:a<=b.length):qb4 b last a []:=⟨rfl,by simpa [qab] using h,by simp [qab]⟩
theorem qb4.split {b:List UInt8} {last:Int} {a:Nat} {g:List Po} (h:qb4 b last a g):b=b.take a++(qab last g++b.drop (a+(qab last g).length)):=by
 have :=(List.take_append_drop (a+(qab last g).length) b).symm;rw [h.2.2,List.append_assoc] at this;exact this
theorem qnp:∀ (l:List Po) (last:Int) (p:Po),p∈l->p.2.length<=(qab last l).length
 |[],_,p,h=>by cases h
 |q::r,last,p,h=>by
  have hd:∀ (ps:List Int) (x:Int),ps.length<=(dB x ps).length:=by
   intro ps
   induction ps with
   |nil=>simp
   |cons a t ih=>
    intro x;have :=ih a;have :=qfi (a-(x+1)).toNat;rw [dB,List.length_append,List.length_cons];omega
  rw [qab,List.length_append,List.length_append];rcases List.mem_cons.1 h with rfl|h
  ·have :=hd p.2 (-1)
   rw [qbt,List.length_append];omega
  ·have :=qnp r q.1 p h
   omega
theorem qt2 {l:List Po} {k:Nat} (hk:k<l.length):l.drop k=l.getD k (0,[])::l.drop (k+1):=by
 rw [List.drop_eq_getElem_cons hk,List.getD_eq_getElem?_getD,List.getElem?_eq_getElem hk];rfl
theorem qt3 {b:List UInt8} {last:Int} {a:Nat} {g:List Po} (h:qb4 b last a g) (h0: -1<=last) {k:Nat} (hk:k<g.length) (hb:b.length<=400000000000):
  ∃ a2:Nat,qbA b (((a+(qab last (g.take k)).length:Nat)):Int)=((g.getD k (0,[])).1-(qaD last (g.take k)+1),(a2:Int),0)/\
   qcN b (a2:Int)=((g.getD k (0,[])).2,(((a+(qab last (g.take (k+1))).length:Nat)):Int),0)/\ -1<=qaD last (g.take k)/\qaD last (g.take k)<(g.getD k (0,[])).1/\(g.getD k (0,[])).1<2147483648/\qcO (g.getD k (0,[])).2=true/\g.take (k+1)=g.take k++[((g.getD k (0,[])).1,(g.getD k (0,[])).2)]:=by
 have hspl:=h.split;obtain ⟨h1,h2,h3⟩:=h;have hsp:g=g.take k++(g.getD k (0,[])::g.drop (k+1)):=by rw [<- qt2 hk,List.take_append_drop]
 have hm:=h1;rw [hsp,qeb,Bool.and_eq_true] at hm;obtain ⟨m1,m2⟩:=hm;obtain ⟨m3,m4,m5,m6⟩:=qev.1 m2;have hge:=qhd _ _ m1;have hpl:=qnp g last (g.getD k (0,[])) (by rw [List.getD_eq_getElem?_getD,List.getElem?_eq_getElem hk];simp);have hts:g.take (k+1)=g.take k++[g.getD k (0,[])]:=by
  rw [List.take_succ_eq_append_getElem hk,List.getD_eq_getElem?_getD,List.getElem?_eq_getElem hk];rfl
 obtain ⟨q,hq⟩:∃ q,q=g.getD k (0,[]):=⟨_,rfl⟩;rw [<- hq] at m3 m4 m5 m6 hsp hts hpl;rw [<- hq];obtain ⟨d,ps⟩:=q;have hta:(b.take a).length=a:=by rw [List.length_take];omega
 obtain ⟨g1,g2⟩:=qsP (pre:=b.take a++qab last (g.take k)) (post:=b.drop (a+(qab last g).length)) (r:=g.drop (k+1)) (by omega) m3 m4 m5 (by have h9:ps.length<=(qab last g).length:=hpl;omega);have hbe:(b.take a++qab last (g.take k))++(qab (qaD last (g.take k)) ((d,ps)::g.drop (k+1))++b.drop (a+(qab last g).length))=b:=by
  have e1:qab last (g.take k)++qab (qaD last (g.take k)) ((d,ps)::g.drop (k+1))=qab last g:=by rw [<- qeV,<- hsp]
  have e2:(b.take a++qab last (g.take k))++(qab (qaD last (g.take k)) ((d,ps)::g.drop (k+1))++b.drop (a+(qab last g).length))=b.take a++((qab last (g.take k)++qab (qaD last (g.take k)) ((d,ps)::g.drop (k+1)))++b.drop (a+(qab last g).length)):=by simp only [List.append_assoc]
  rw [e2,e1];exact hspl.symm
 rw [hbe,List.length_append,hta] at g1 g2;refine ⟨_,g1,?_,by omega,m3,m4,m5,hts⟩;rw [g2,hts,qeV];simp [qab,Nat.add_assoc]
theorem qt4 {b:List UInt8} {last:Int} {a:Nat} {acc:List Po} (h:qb4 b last a acc) (h0: -1<=qaD last acc) {d q2 q3:Int} {ps:List Int}
  (hz:qbA b (((a+(qab last acc).length:Nat)):Int)=(d,q2,0)) (hr:qcN b q2=(ps,q3,0)) (hd:d+(qaD last acc+1)<2147483648) (hp:qcO ps=true):
  qb4 b last a (acc++[(d+(qaD last acc+1),ps)])/\q3=((a+(qab last (acc++[(d+(qaD last acc+1),ps)])).length:Nat):Int):=by
 obtain ⟨n,k,rfl,rfl,hak,hkb,hk⟩:=qnn hz;obtain ⟨k2,rfl,hkk,hkb2,hris,hk2⟩:=qt1 hr;obtain ⟨h1,h2,h3⟩:=h;obtain ⟨x,hx⟩:∃ x,x=qaD last acc:=⟨_,rfl⟩;rw [<- hx] at h0 hd;rw [<- hx];have hby:qab last (acc++[((n:Int)+(x+1),ps)])=qab last acc++(qag n++qbt ps):=by
  rw [qeV,<- hx];simp only [qab,List.append_nil];rw [show ((n:Int)+(x+1)-(x+1)).toNat=n by omega]
 have hlen:k2=a+(qab last (acc++[((n:Int)+(x+1),ps)])).length:=by
  have e1:=congrArg List.length hk;have e2:=congrArg List.length hk2;rw [List.length_append,List.length_take,List.length_take] at e1 e2;rw [hby,List.length_append,List.length_append];omega
 refine ⟨⟨?_,by omega,?_⟩,by rw [<- hlen]⟩
 ·rw [qeb,h1,Bool.true_and,<- hx]
  exact qev.2 ⟨by simp only;omega,by simp only;omega,hp,rfl⟩
 ·rw [<- hlen,hk2,hk,h3,hby]
  simp only [List.append_assoc]
theorem qt5 {last:Int} {acc:List Po} {y:Int} {ps:List Int}:qaD last (acc++[(y,ps)])=y:=by rw [qiP];rfl
def qdL:Int->List Int->Bool
 |_,[]=>true
 |last,n::r=>decide (last<n)&&decide (n<2147483648)&&qdL n r
theorem qnq:∀ (ps:List Int) (last:Int),ps≠[]->qdL last ps=(qai last ps&&decide (ps.getLastD 0<2147483648))
 |[],_,h=>absurd rfl h
 |[n],last,_=>by simp [qdL,qai]
 |n::m::r,last,_=>by
  have ih:=qnq (m::r) n (by simp);have e:(n::m::r).getLastD 0=(m::r).getLastD 0:=by simp [List.getLastD]
  rw [qdL,qai,ih,e];rcases h1:qai n (m::r) with _|_
  ·simp
  ·by_cases h2:(m::r).getLastD 0<2147483648
   ·have :=(qiO h1 ((m::r).getLastD 0) (qmC (by simp))).1
    have h3:n<2147483648:=by omega
    simp [h3]
   ·rw [decide_eq_false h2]
    simp
theorem qt6 (ps:List Int):qcO ps=(qdL (-1) ps&&decide (0<ps.length)):=by
 by_cases h:ps=[]
 ·subst h;rfl
 ·unfold qcO
  rw [qnq ps (-1) h];have hl:0<ps.length:=List.length_pos_iff.2 h;have he:ps.isEmpty=false:=by simpa using h
  rw [he];simp [hl]
theorem qt7 {last:Int} {ps:List Int} {k:Nat} (hk:k<ps.length):qdL last (ps.drop k)=(decide (last<ps.getD k 0)&&decide (ps.getD k 0<2147483648)&&qdL (ps.getD k 0) (ps.drop (k+1))):=by
 rw [List.drop_eq_getElem_cons hk,qdL,List.getD_eq_getElem?_getD,List.getElem?_eq_getElem hk];rfl
def qds (l:List Po):Nat->List (Int × Nat)
 |0=>[]
 |k+1=>qds l k++[(qaD (-1) (l.take (8*(k+1))),(qab (-1) (l.take (8*(k+1)))).length)]
theorem qfl (l:List Po):∀ n,(qds l n).length=n
 |0=>rfl
 |k+1=>by rw [qds,List.length_append,qfl l k];rfl
theorem qnr (l:List Po):∀ (n k:Nat),k<n->(qds l n)[k]?=some (qaD (-1) (l.take (8*(k+1))),(qab (-1) (l.take (8*(k+1)))).length)
 |0,_,h=>by omega
 |n+1,k,h=>by
  rw [qds];by_cases e:k=n
  ·subst e
   rw [List.getElem?_append_right (by rw [qfl];exact Nat.le_refl _),qfl,Nat.sub_self];rfl
  ·rw [List.getElem?_append_left (by rw [qfl];omega)]
   exact qnr l n k (by omega)
theorem qns {l b:List Po}:∀ {n:Nat},8*n<=l.length->qds (l++b) n=qds l n
 |0,_=>rfl
 |k+1,h=>by
  rw [qds,qds,qns (by omega),List.take_append_of_le_length h]
theorem qt8 {l b:List Po} {n:Nat} (hl:l.length=8*n) (h0:0<b.length) (h8:b.length<=8):qay l.length=n/\qay (l++b).length=n+1:=by
 unfold qay;rw [List.length_append];omega
theorem qt9 {l b:List Po} {n:Nat} (hl:l.length=8*n) (h0:0<b.length) (h8:b.length<=8):qds (l++b) (n+1)=qds l n++[(qaD (-1) (l++b),(qab (-1) (l++b)).length)]:=by
 rw [qds,qns (by omega),List.take_of_length_le (by rw [List.length_append];omega)]
theorem qju:∀ (a b:List Po),qau (a++b)=qau a+qau b
 |[],b=>by simp [qau]
 |p::r,b=>by simp [qau,qju r b,Nat.add_assoc]
theorem qua {l:List Po} {k:Nat} (hk:k<qay l.length) (hm:qaP (-1) l=true):qb4 (qab (-1) l) (qaD (-1) (l.take (8*k))) (qab (-1) (l.take (8*k))).length (qbN l (k:Int)):=by
 have hsp:l=l.take (8*k)++(qbN l (k:Int)++l.drop (8*(k+1))):=by
  rw [<- List.append_assoc,<- qiS,List.take_append_drop]
 have hb:qab (-1) l=qab (-1) (l.take (8*k))++(qab (qaD (-1) (l.take (8*k))) (qbN l (k:Int))++qab (qaD (qaD (-1) (l.take (8*k))) (qbN l (k:Int))) (l.drop (8*(k+1)))):=by
  conv=>lhs;rw [hsp]
  rw [qeV,qeV]
 have hm2:=hm;rw [hsp,qeb,qeb,Bool.and_eq_true,Bool.and_eq_true] at hm2;obtain ⟨a,ha⟩:∃ a,a=qab (-1) (l.take (8*k)):=⟨_,rfl⟩;obtain ⟨c,hc⟩:∃ c,c=qab (qaD (-1) (l.take (8*k))) (qbN l (k:Int)):=⟨_,rfl⟩;rw [<- ha,<- hc] at hb;refine ⟨hm2.2.1,?_,?_⟩
 ·rw [<- ha,<- hc,hb];simp
 ·rw [<- ha,<- hc,hb,List.take_left,<- List.append_assoc,<- List.length_append,List.take_left]
open Go Go.RowKit
def qdd:List (Int × Nat)->List Value
 |[]=>[]
 |p::r=> .int .i64 p.1:: .int .i64 (p.2:Int)::qdd r
theorem qnt:∀ l:List (Int × Nat),(qdd l).length=l.length*2
 |[]=>rfl
 |p::r=>by simp only [qdd,List.length_cons,qnt r];omega
theorem qnu:∀ a b:List (Int × Nat),qdd (a++b)=qdd a++qdd b
 |[],b=>rfl
 |p::a,b=>by simp only [List.cons_append,qdd,qnu a b]
theorem qnv:∀ (l:List (Int × Nat)) (k:Nat) (p:Int × Nat),l[k]?=some p->(qdd l)[k*2]?=some (.int .i64 p.1)/\(qdd l)[k*2+1]?=some (.int .i64 (p.2:Int))
 |[],k,p,h=>by simp at h
 |q::l,0,p,h=>by
  simp only [List.getElem?_cons_zero,Option.some.injEq] at h;subst h;exact ⟨rfl,rfl⟩
 |q::l,k+1,p,h=>by
  rw [List.getElem?_cons_succ] at h;have ih:=qnv l k p h;rw [qdd,show (k+1)*2=k*2+1+1 by omega];exact ih
theorem qub:(Tryz.prog.info? 206).map (fun i=>(i.zero,i.size,i.bytes))=some (some (.agg #[.int .i64 0,.int .i64 0]),2,16):=by kernel_rfl
def qey (l:List Po):List Value:=qdd (qds l (qay l.length))
theorem quc (l:List Po):(qey l).length=qay l.length*2:=by rw [qey,qnt,qfl]
def LAt (w:World) (base B:Nat) (bs:List UInt8) (l:List Po):Prop:=
 base<=B/\∃ vb ve,w.heap[B]?=some (.cells #[vb,ve,.int .i64 (l.length:Int),.int .i64 (qau l:Int)] 181 (0,0))/\
  w.ownsRow base 5 1 vb bs.length (Lib.byteCells bs)/\w.ownsRow base 206 2 ve (qay l.length) (qey l)
theorem qe1 {w:World} {B:Nat} {a b c d:Value} {t:TypeId} (h:w.heap[B]?=some (.cells #[a,b,c,d] t (0,0))):
  (w.cell? ⟨B,0,none⟩=some a/\w.cell? ⟨B,1,none⟩=some b/\w.cell? ⟨B,2,none⟩=some c/\w.cell? ⟨B,3,none⟩=some d)/\
  w.frozen? ⟨B,0,none⟩=false/\w.frozen? ⟨B,1,none⟩=false/\w.frozen? ⟨B,2,none⟩=false/\w.frozen? ⟨B,3,none⟩=false:=by
 simp [World.cell?,World.frozen?,h]
section
variable {w w':World} {base B:Nat} {bs:List UInt8} {l:List Po}
theorem LAt.lt (h:LAt w base B bs l):B<w.heap.size:=by
 obtain ⟨_,vb,ve,hv,_⟩:=h;exact (Array.getElem?_eq_some_iff.1 hv).1
theorem LAt.below (h:LAt w base B bs l) (hb:Below w.heap.size w w'):LAt w' base B bs l:=by
 have hl:=h.lt;obtain ⟨h1,vb,ve,hv,ho,he⟩:=h;exact ⟨h1,vb,ve,(hb.block B hl).trans hv,qao ho hb,qao he hb⟩
theorem LAt.cellsKept (h:LAt w base B bs l) (hk:∀ (k:Nat) (o:Obj),w.heap[k]?=some o->o.isCells=true->w'.heap[k]?=some o):LAt w' base B bs l:=by
 obtain ⟨h1,vb,ve,hv,ho,he⟩:=h;have key:∀ {E:TypeId} {size:Nat} {v:Value} {n:Nat} {xs:List Value},w.ownsRow base E size v n xs->w'.ownsRow base E size v n xs:=fun ho=>by
  refine qas ho fun g hg=> ?_
  rcases ho.2 with ⟨rfl,_⟩|⟨g',cap,cur,rfl,_,hh,_⟩
  ·cases hg
  ·simp only [Value.ownBlock,Option.some.injEq] at hg
   subst hg;rw [hk _ _ hh rfl,hh]
 exact ⟨h1,vb,ve,hk B _ hv rfl,key ho,key he⟩
theorem LAt.read (h:LAt w base B bs l):∃ Ab cb Ae ce,(w.cell? ⟨B,0,none⟩=some (.slice Ab bs.length cb)/\w.cell? ⟨B,1,none⟩=some (.slice Ae (qay l.length) ce)/\w.cell? ⟨B,2,none⟩=some (.int .i64 (l.length:Int))/\w.cell? ⟨B,3,none⟩=some (.int .i64 (qau l:Int)))/\
  bs.length<=cb/\cb<=maxLen/\qay l.length<=ce/\Row w w.heap.size Ab (Lib.byteCells bs)/\Row w w.heap.size Ae (qey l)/\(Ab=none->bs.length=0/\cb=0):=by
 obtain ⟨_,vb,ve,hv,ho,he⟩:=h;have hx:=(qe1 hv).1;obtain ⟨Ae,ce,rfl,hce,hre⟩:=qaR he;rcases ho.2 with ⟨rfl,h0⟩|⟨g,c,cur,rfl,_,_,hnc,hcm,_,_⟩
 ·exact ⟨none,0,Ae,ce,by rw [h0];exact hx,by omega,by unfold maxLen;omega,hce,by rw [List.eq_nil_of_length_eq_zero h0];exact Row.nil,hre,fun _=>⟨h0,rfl⟩⟩
 ·exact ⟨_,c,Ae,ce,hx,hnc,hcm,hce,qbI ho,hre,fun e=>by cases e⟩
end
def LIn (w:World) (B:Nat) (bs:List UInt8) (l:List Po):Prop:=
 B<w.heap.size/\∃ Ab cb Ae ce,(w.cell? ⟨B,0,none⟩=some (.slice Ab bs.length cb)/\w.cell? ⟨B,1,none⟩=some (.slice Ae (qay l.length) ce)/\w.cell? ⟨B,2,none⟩=some (.int .i64 (l.length:Int))/\w.cell? ⟨B,3,none⟩=some (.int .i64 (qau l:Int)))/\
  bs.length<=cb/\cb<=maxLen/\qay l.length<=ce/\Row w w.heap.size Ab (Lib.byteCells bs)/\Row w w.heap.size Ae (qey l)
theorem LAt.in_ {w:World} {base B:Nat} {bs:List UInt8} {l:List Po} (h:LAt w base B bs l):LIn w B bs l:=by
 obtain ⟨Ab,cb,Ae,ce,h1,h2,h3,h4,h5,h6,_⟩:=h.read;exact ⟨h.lt,Ab,cb,Ae,ce,h1,h2,h3,h4,h5,h6⟩
theorem LIn.below {w w':World} {B:Nat} {bs:List UInt8} {l:List Po} (h:LIn w B bs l) (hb:Below w.heap.size w w'):LIn w' B bs l:=by
 obtain ⟨hl,Ab,cb,Ae,ce,⟨c0,c1,c2,c3⟩,h2,h3,h4,h5,h6⟩:=h;have hs:=hb.size;refine ⟨by omega,Ab,cb,Ae,ce,⟨(hb.cell (p:=⟨B,0,none⟩) hl).trans c0,(hb.cell (p:=⟨B,1,none⟩) hl).trans c1,(hb.cell (p:=⟨B,2,none⟩) hl).trans c2,(hb.cell (p:=⟨B,3,none⟩) hl).trans c3⟩,h2,h3,h4,(h5.below hb).more hs,(h6.below hb).more hs⟩
theorem qud {w:World} {D:Nat} {A:Option Addr} {l:List Po} (h:Row w D A (qey l)) {k:Nat} (hk:k<qay l.length):
  ∃ b off,A=some ⟨b,off,none⟩/\b<D/\w.cell? ⟨b,off+k*2,none⟩=some (.int .i64 (qaD (-1) (l.take (8*(k+1)))))/\w.cell? ⟨b,off+k*2+1,none⟩=some (.int .i64 ((qab (-1) (l.take (8*(k+1)))).length:Int)):=by
 obtain ⟨b,off,rfl,hb,hc⟩:=h.at_ (by rw [quc];omega);have h2:=qnv _ _ _ (qnr l (qay l.length) k hk);exact ⟨b,off,rfl,hb,hc _ _ h2.1,by rw [Nat.add_assoc];exact hc _ _ h2.2⟩
section
variable (B:Nat) (bs:List UInt8) (l:List Po) (w:World) (h:LIn w B bs l)
include h
theorem qnw:Calls Tryz.prog 141 #[.pointer (some ⟨B,0,none⟩)] w fun e w'=>e= .returned (.int .i64 (qay l.length:Int))/\w=w':=by
 obtain ⟨_,Ab,cb,Ae,ce,⟨c0,c1,c2,c3⟩,_⟩:=h
 go_enter Tryz.func141,Tryz.ntmps141
 go_wp2;go_ret;exact ⟨rfl,rfl⟩
theorem qnx (k:Nat) (hk:k<=qay l.length) (hl:l.length<=1073741824):Calls Tryz.prog 165 #[.pointer (some ⟨B,0,none⟩),.int .i64 (k:Int)] w fun e w'=>
  e= .returned (.agg #[.int .i64 (qaD (-1) (l.take (8*k))),.int .i64 ((qab (-1) (l.take (8*k))).length:Int)])/\Below w.heap.size w w':=by
 have hlt:=h.1;obtain ⟨_,Ab,cb,Ae,ce,⟨c0,c1,c2,c3⟩,_,_,hce,_,hre⟩:=h;have hbl:qay l.length<=1073741824:=by unfold qay;omega
 clear c0 c2 c3;rcases Nat.eq_zero_or_pos k with rfl|hpos
 ·go_enter Tryz.func165,Tryz.ntmps165
  go_wp2;refine bodyPost_ret (results_cell_row (P:=Tryz.prog) rfl _ _ w.heap.size 206 _ (0,0) _ rfl (by first|rfl|exact heap_alloc_new _ _) Tryz.underlying206 rfl (by kernel_rfl)) rfl ?_
  exact ⟨rfl,by repeat (first|exact (Below.refl _ _).alloc (Nat.le_refl _) _|refine Below.setCell ?_ (by simp) _)⟩
 ·obtain ⟨j,rfl⟩:∃ j,k=j+1:=⟨k-1,by omega⟩
  obtain ⟨b,o,rfl,hb,e0,e1⟩:=qud hre (k:=j) (by omega);obtain ⟨n,hn⟩:∃ n,n=qay l.length:=⟨_,rfl⟩;rw [<- hn] at c1 hk hce hbl;obtain ⟨x,hx⟩:∃ x,x=qaD (-1) (l.take (8*(j+1))):=⟨_,rfl⟩;obtain ⟨y,hy⟩:∃ y,y=(qab (-1) (l.take (8*(j+1)))).length:=⟨_,rfl⟩;rw [<- hx] at e0 ⊢;rw [<- hy] at e1 ⊢;have hj:((j+1:Nat):Int)=(j:Int)+1:=by omega
  have hz:((j:Int)+1==0)=false:=by rw [beq_eq_false_iff_ne];omega
  rw [hj];have hjn:j<n:=by omega
  clear hn hx hy hre hj hk hpos
  go_enter Tryz.func165,Tryz.ntmps165
  go_wp2;refine bodyPost_ret (results_cell_row (P:=Tryz.prog) rfl _ _ w.heap.size 206 _ (0,0) _ rfl (by first|rfl|exact heap_alloc_new _ _) Tryz.underlying206 rfl (by kernel_rfl)) rfl ?_
  exact ⟨rfl,by repeat (first|exact (Below.refl _ _).alloc (Nat.le_refl _) _|refine Below.setCell ?_ (by simp) _)⟩
end
section
variable (base B:Nat) (bs:List UInt8) (l:List Po) (w:World) (h:LAt w base B bs l)
include h
theorem qny:Calls Tryz.prog 141 #[.pointer (some ⟨B,0,none⟩)] w fun e w'=>e= .returned (.int .i64 (qay l.length:Int))/\w=w':=qnw B bs l w h.in_
theorem que (k:Nat) (hk:k<=qay l.length) (hl:l.length<=1073741824):Calls Tryz.prog 165 #[.pointer (some ⟨B,0,none⟩),.int .i64 (k:Int)] w fun e w'=>
  e= .returned (.agg #[.int .i64 (qaD (-1) (l.take (8*k))),.int .i64 ((qab (-1) (l.take (8*k))).length:Int)])/\Below w.heap.size w w':=qnx B bs l w h.in_ k hk hl
end
theorem qfm {w:World} {b:Nat} {x y z:Value} {t:TypeId} (h:w.heap[b]?=some (.cells #[x,y,z] t (0,0))):w.cell? ⟨b,0,none⟩=some x/\w.cell? ⟨b,1,none⟩=some y/\w.cell? ⟨b,2,none⟩=some z:=by
 simp [World.cell?,h]
def qdt (t:TypeId) (w:World) (A:Option Addr):Prop:=A=none∨∃ b off cs fr,A=some ⟨b,off,none⟩/\w.heap[b]?=some (.cells cs t fr)
section
variable {t:TypeId} {w w':World} {A:Option Addr}
theorem qdt.keep (h:qdt t w A) (hk:∀ (k:Nat) (cs:Array Value) (fr:Nat × Nat),w.heap[k]?=some (.cells cs t fr)->w'.heap[k]?=some (.cells cs t fr)):qdt t w' A:=by
 rcases h with h|⟨b,off,cs,fr,e,hb⟩
 ·exact .inl h
 ·exact .inr ⟨b,off,cs,fr,e,hk _ _ _ hb⟩
theorem qdt.below (h:qdt t w A) (hb:Below w.heap.size w w'):qdt t w' A:=h.keep fun k _ _ hk=>(hb.block k (Array.getElem?_eq_some_iff.1 hk).1).trans hk
theorem qjv {base size n m c:Nat} {xs:List Value} (h:w.ownsRow base t size (.slice A n c) m xs):qdt t w A:=by
 rcases h.2 with ⟨hv,_⟩|⟨g,cap,cur,hv,_,hh,_⟩
 ·injection hv with hv;exact .inl hv
 ·injection hv with hv;exact .inr ⟨g,0,_,_,hv,hh⟩
end
def quf (w:World) (S:Nat):Prop:=∀ (A1 A2 A3:Option Addr) (n1 c1 n2 c2 n3 c3:Nat),w.heap[S]?=some (.cells #[.slice A1 n1 c1,.slice A2 n2 c2,.slice A3 n3 c3] 110 (0,0))->qdt 3 w A1/\qdt 3 w A2/\qdt 177 w A3
structure qfS (x:qbc):Prop where
 ids:x.ids.length<=1048576
 keys:x.keys.length<=1048576
 lists:∀ l∈x.lists,l.length<=1000/\qau l<=40000000000
structure qbC (w:World) (S:Nat) (x:qbc):Prop where
 cells:∃ A1 c1 A2 c2 A3 c3,w.heap[S]?=some (.cells #[.slice A1 x.ids.length c1,.slice A2 x.seqs.length c2,.slice A3 x.keys.length c3] 110 (0,0))/\x.ids.length<=c1/\x.seqs.length<=c2/\Row w w.heap.size A1 (qaa x.ids)/\Row w w.heap.size A2 (qaa x.seqs)
 dict:∃ bl:List Nat,qbO w S 2 x.keys bl/\∀ i (h:i<x.lists.length),∃ base,LAt w base (bl.getD i 0) (qab (-1) x.lists[i]) x.lists[i]
 may:qdS x=true
 small:qfS x
 typ:quf w S
section
variable {w w':World} {S:Nat} {x:qbc}
theorem qbC.lt (h:qbC w S x):S<w.heap.size:=by obtain ⟨bl,h,_⟩:=h.dict;exact h.lt
theorem qbC.below (h:qbC w S x) (hb:Below w.heap.size w w'):qbC w' S x:=by
 have hlt:=h.lt;obtain ⟨⟨A1,c1,A2,c2,A3,c3,h1,h2,h3,h4,h5⟩,⟨bl,h6,h7⟩,h8,h9,h10⟩:=h;refine ⟨⟨A1,c1,A2,c2,A3,c3,(hb.block S hlt).trans h1,h2,h3,Row.later h4 hb,Row.later h5 hb⟩,⟨bl,h6.below hb,fun i hi=> ?_⟩,h8,h9,fun B1 B2 B3 n1 d1 n2 d2 n3 d3 hB=> ?_⟩
 ·obtain ⟨base,h⟩:=h7 i hi
  exact ⟨base,h.below hb⟩
 ·obtain ⟨k1,k2,k3⟩:=h10 B1 B2 B3 n1 d1 n2 d2 n3 d3 ((hb.block S hlt).symm.trans hB)
  exact ⟨k1.below hb,k2.below hb,k3.below hb⟩
theorem qe2 {x:qbc}:qdS x=true↔x.ids.length=x.seqs.length/\x.keys.length=x.lists.length/\qai (-1) x.seqs=true/\qc2 x.keys=true/\∀ l∈x.lists,qcw x.ids.length l=true:=by
 simp [qdS]
theorem qjw {n:Nat} {l:List Pn} (h:qcw n l=true):qaP (-1) l=true/\l≠[]:=by
 simp only [qcw,Bool.and_eq_true,decide_eq_true_eq] at h;exact ⟨h.1,fun e=>h.2.1 (by rw [e];rfl)⟩
theorem qbC.seqs (h:qbC w S x):x.ids.length=x.seqs.length:=(qe2.1 h.may).1
theorem qbC.keys (h:qbC w S x):x.keys.length=x.lists.length:=(qe2.1 h.may).2.1
end
def qdu (l:List Int) (i:Int):Int:=if 0<=i/\i<(l.length:Int) then l.getD i.toNat 0 else-1
theorem qnz (A:Option Addr) (n c:Nat) (i:Int) (l:List Int) (w:World) (hr:Row w w.heap.size A (qaa l)) (hn:l.length=n):
  Calls Tryz.prog 82 #[.slice A n c,.int .i64 i] w fun e w'=>e= .returned (.int .i64 (qdu l i))/\Below w.heap.size w w':=by
 by_cases h0:i<0
 ·have hv:qdu l i= -1:=if_neg (by omega)
  have e0:decide (i<0)=true:=decide_eq_true h0;rw [hv];clear hv hr hn
  go_enter Tryz.func82,Tryz.ntmps82
  go_wp2;go_ret;exact ⟨rfl,Below.refl _ _⟩
 ·have e0:decide (i<0)=false:=decide_eq_false h0
  by_cases h1:(n:Int)<=i
  ·have hv:qdu l i= -1:=if_neg (by omega)
   have e1:decide ((n:Int)<=i)=true:=decide_eq_true h1;rw [hv];clear hv hr hn
   go_enter Tryz.func82,Tryz.ntmps82
   go_wp2;go_ret;exact ⟨rfl,Below.refl _ _⟩
  ·have e1:decide ((n:Int)<=i)=false:=decide_eq_false h1
   obtain ⟨k,rfl⟩:∃ k:Nat,i=(k:Int):=⟨i.toNat,by omega⟩;have hk:k<l.length:=by omega
   obtain ⟨b,off,rfl,hb,hc⟩:=qcA hr hk;have hv:qdu l (k:Int)=l[k]:=by
    unfold qdu;rw [if_pos ⟨by omega,by omega⟩];simp [List.getD_eq_getElem?_getD,hk]
   rw [hv];obtain ⟨y,hy⟩:∃ y,y=l[k]:=⟨_,rfl⟩;rw [<- hy] at hc ⊢;have hi0:(0:Int)<=k:=by omega
   have hi1:(k:Int)<n:=by omega
   clear hv hy hr h0 h1 hk hn
   go_enter Tryz.func82,Tryz.ntmps82
   go_wp2;go_ret;exact ⟨rfl,Below.refl _ _⟩
def qug (l:List Int) (w:World) (r last i:Value) (wr:World):Prop:=r= .bool false/\∃ (k:Nat) (x:Int),k<=l.length/\i= .int .i64 (k:Int)/\last= .int .i64 x/\qai x (l.drop k)=qai (-1) l/\Below w.heap.size w wr
theorem quh (A:Option Addr) (n c:Nat) (l:List Int) (w:World) (hr:Row w w.heap.size A (qaa l)) (hn:l.length=n) (hl:n<=9223372036854775807):
  Calls Tryz.prog 111 #[.slice A n c] w fun e w'=>e= .returned (.bool (qai (-1) l))/\Below w.heap.size w w':=by
 have HR:=qH hr;clear hr;obtain ⟨ans,hans⟩:∃ ans,ans=qai (-1) l:=⟨_,rfl⟩;rw [<- hans];have HA:=qH hans;have HN:=qH hn;clear hans hn
 go_enter Tryz.func111,Tryz.ntmps111
 go_wp2
 go_loopw [2,3,8] (fun r last i wr=>qug l w r last i wr) (fun _ _ i _=>n-(intOf i).toNat)
 case atStart=>exact ⟨rfl,0, -1,Nat.zero_le _,rfl,rfl,rfl,Below.refl _ _⟩
 case round=>
  obtain ⟨rfl,k,x,hk,rfl,rfl,hx,hbw⟩:=hrel;rw [HN.out] at hk;by_cases hlt:k<n
  ·have hkl:k<l.length:=by rw [HN.out];exact hlt
   obtain ⟨b1,o1,rfl,_,hc1⟩:=qcA (HR.out.below hbw) hkl;have hdr:l.drop k=l[k]::l.drop (k+1):=List.drop_eq_getElem_cons hkl;rw [hdr,qai] at hx;obtain ⟨y,hy⟩:∃ y,y=l[k]:=⟨_,rfl⟩;rw [<- hy] at hc1 hx;have hi0:(0:Int)<=k:=by omega
   have hi1:(k:Int)<n:=by omega
   clear hy hdr;by_cases hxy:y<=x
   ·have hv:ans=false:=by rw [HA.out,<- hx,decide_eq_false (by omega)];rfl
    have d1:decide (y<=x)=true:=decide_eq_true hxy;subst hv;clear hx hkl hxy;go_wp2;go_ret;exact ⟨rfl,hbw⟩
   ·have d1:decide (y<=x)=false:=decide_eq_false hxy
    rw [decide_eq_true (by omega),Bool.true_and] at hx;have HX:=qH hx;clear hx hkl hxy;go_wp2;go_roundw
    case rel=>exact ⟨rfl,k+1,y,by rw [HN.out];omega,by go_num,rfl,HX.out,hbw⟩
    case measure=>simp [intOf];omega
  ·have hv:ans=true:=by
    rw [HA.out,<- hx,List.drop_of_length_le (by rw [HN.out];omega)];rfl
   subst hv;clear hx;go_wp2;go_ret;exact ⟨rfl,hbw⟩
section
variable {w:World} {S:Nat} {x:qbc}
theorem qjx (h:qbC w S x):Calls Tryz.prog 20 #[.pointer (some ⟨S,0,none⟩)] w fun e w'=>e= .returned (.int .i64 (x.ids.length:Int))/\Below w.heap.size w w':=by
 obtain ⟨A1,c1,A2,c2,A3,c3,h1,_⟩:=h.cells;obtain ⟨q0,q1,q2⟩:=qfm h1;clear h h1
 go_enter Tryz.func20,Tryz.ntmps20
 go_wp2;go_ret;exact ⟨rfl,Below.refl _ _⟩
theorem qui (h:qbC w S x) (i:Int):Calls Tryz.prog 39 #[.pointer (some ⟨S,0,none⟩),.int .i64 i] w fun e w'=>e= .returned (.int .i64 (qdu x.ids i))/\Below w.heap.size w w':=by
 obtain ⟨A1,c1,A2,c2,A3,c3,h1,h2,h3,h4,h5⟩:=h.cells;obtain ⟨q0,q1,q2⟩:=qfm h1;have C1:=qH (qnz A1 _ c1 i x.ids w h4 rfl);clear h h1 h2 h3 h4 h5
 go_enter Tryz.func39,Tryz.ntmps39
 go_wp2_with (go_at_call 82;refine C1.out.mono ?_;rintro e w' ⟨rfl,hb⟩)
 go_ret;exact ⟨rfl,hb⟩
theorem qnA (h:qbC w S x) (i:Int):Calls Tryz.prog 40 #[.pointer (some ⟨S,0,none⟩),.int .i64 i] w fun e w'=>e= .returned (.int .i64 (qdu x.seqs i))/\Below w.heap.size w w':=by
 obtain ⟨A1,c1,A2,c2,A3,c3,h1,h2,h3,h4,h5⟩:=h.cells;obtain ⟨q0,q1,q2⟩:=qfm h1;have C1:=qH (qnz A2 _ c2 i x.seqs w h5 rfl);clear h h1 h2 h3 h4 h5
 go_enter Tryz.func40,Tryz.ntmps40
 go_wp2_with (go_at_call 82;refine C1.out.mono ?_;rintro e w' ⟨rfl,hb⟩)
 go_ret;exact ⟨rfl,hb⟩
end
theorem qhq {w:World} {b:Nat} {x y z u:Value} {t:TypeId} (h:w.heap[b]?=some (.cells #[x,y,z,u] t (0,0))):w.cell? ⟨b,0,none⟩=some x/\w.cell? ⟨b,1,none⟩=some y/\w.cell? ⟨b,2,none⟩=some z/\w.cell? ⟨b,3,none⟩=some u:=by
 simp [World.cell?,h]
theorem quj {α:Type} [DecidableEq α] {xs ys:List α} {k:Nat} (hx:k<xs.length) (hy:k<ys.length) (h:xs[k]≠ys[k]):decide (xs=ys)=false:=decide_eq_false fun e=>h (by subst e;rfl)
theorem qjy {α:Type} [DecidableEq α] {xs ys:List α} (hl:xs.length=ys.length) (h:∀ j (hj:j<xs.length),xs[j]=ys[j]'(by omega)):decide (xs=ys)=true:=decide_eq_true (List.ext_getElem hl fun j h1 _=>h j h1)
theorem quk {xs ys:List Nm} {k:Nat} (hx:k<xs.length) (hy:k<ys.length) (h:xs[k]≠ys[k]):decide (xs=ys)=false:=decide_eq_false fun e=>h (by subst e;rfl)
theorem qul {xs ys:List Nm} (hl:xs.length=ys.length) (h:∀ j (hj:j<xs.length),xs[j]=ys[j]'(by omega)):decide (xs=ys)=true:=decide_eq_true (List.ext_getElem hl fun j h1 _=>h j h1)
def qgw (x:qbc):Prop:=x.ids.length<=9223372036854775807/\x.seqs.length<=9223372036854775807/\x.keys.length<=9223372036854775807/\x.lists.length<=9223372036854775807/\∀ l∈x.lists,l.length<=9223372036854775807/\∀ p∈l,p.2.length<=9223372036854775807
structure PAt (w:World) (B:Nat) (A1 A2 A3 A4:Option Addr) (x:qbc):Prop where
 ids:Row w B A1 (qaa x.ids)
 seqs:Row w B A2 (qaa x.seqs)
 keys:Row w B A3 (qac x.keys)
 lists:qbR w B A4 x.lists
theorem PAt.later {w w':World} {A1 A2 A3 A4:Option Addr} {x:qbc} (h:PAt w w.heap.size A1 A2 A3 A4 x) (hb:Below w.heap.size w w'):PAt w' w'.heap.size A1 A2 A3 A4 x:=
 ⟨Row.later h.ids hb,Row.later h.seqs hb,Row.later h.keys hb,h.lists.later hb⟩
theorem qum {x y:qbc} (h1:x.ids=y.ids) (h2:x.seqs=y.seqs) (h3:x.keys=y.keys) (h4:x.lists=y.lists):x=y:=by
 cases x;cases y;simp only at h1 h2 h3 h4;subst h1 h2 h3 h4;rfl
open Go.ChangeMaps (setBlock)
def tV (t:Tm):Value:= .agg #[.string ⟨t.1.toArray⟩,.string ⟨t.2.toArray⟩]
theorem qhr (a b:Nm):((⟨a.toArray⟩:ByteArray)==⟨b.toArray⟩)=decide (a=b):=by
 have h:((⟨a.toArray⟩:ByteArray)==⟨b.toArray⟩)=(a.toArray==b.toArray):=rfl;rw [h,Bool.eq_iff_iff];simp
theorem qun (s t:Tm) (w:World):(Op.equal 69 (tV s) (tV t)).run Tryz.prog w= .ok (decide (s=t)) w:=by
 have h:∀ d:Nat,(Op.equalIn (d+2) 69 (tV s) (tV t)).run Tryz.prog w= .ok (decide (s=t)) w:=fun d=>by
  simp only [Op.equalIn,tV,part];simp [run_underlying Tryz.underlying69,run_underlying Tryz.underlying9,Tryz.sizeOf9,Tryz.isAgg9,qhr];obtain ⟨s1,s2⟩:=s;obtain ⟨t1,t2⟩:=t;by_cases h1:s1=t1<;>by_cases h2:s2=t2<;>simp [h1,h2]
 exact h 9998
theorem qhs (em:Bool) (t:Tm) (w:World):(Instr.checkKey em 10000 69 (tV t)).run Tryz.prog w= .ok () w:=by
 have h:∀ d:Nat,(Instr.checkKey em (d+2) 69 (tV t)).run Tryz.prog w= .ok () w:=fun d=>by
  simp [Instr.checkKey,run_underlying Tryz.underlying69,run_underlying Tryz.underlying9,tV,part,Tryz.sizeOf9,Tryz.isAgg9]
 exact h 9998
theorem quo (t:Tm) (w:World):(Instr.keyThatStays (tV t) (tV t)).run Tryz.prog w= .ok (tV t) w:=by
 have h:∀ d:Nat,Instr.sameBits (d+2) (tV t) (tV t)=true:=fun d=>by simp [Instr.sameBits,tV,qhr]
 simp [Instr.keyThatStays,h 9998]
abbrev Ent:=Tm × Value
def qaN:Nat->List Ent->List MapEntry
 |_,[]=>[]
 |i,e::m=>{key:=tV e.1,val:=e.2,born:=i}::qaN (i+1) m
theorem qht:∀ (m:List Ent) (i:Nat),(qaN i m).length=m.length
 |[],_=>rfl
 |e::m,i=>by simp [qaN,qht m (i+1)]
theorem qgx:∀ {m:List Ent} {i k:Nat} (hk:k<m.length),(qaN i m)[k]?=some {key:=tV m[k].1,val:=m[k].2,born:=i+k}
 |[],_,_,h=>by simp at h
 |e::m,i,0,_=>rfl
 |e::m,i,k+1,h=>by
  have :=qgx (m:=m) (i:=i+1) (k:=k) (by simpa using h);simp only [qaN,List.getElem?_cons_succ,zC];rw [this,Nat.add_assoc,Nat.add_comm 1 k]
theorem qnB:∀ (m:List Ent) (e:Ent) (i:Nat),qaN i (m++[e])=qaN i m++[{key:=tV e.1,val:=e.2,born:=i+m.length}]
 |[],e,i=>rfl
 |x::m,e,i=>by
  simp only [List.cons_append,qaN,qnB m e (i+1),List.length_cons];rw [Nat.add_assoc,Nat.add_comm 1 m.length]
theorem qnC:∀ (m:List Ent) (e:Ent) (i k:Nat),qaN i (m.set k e)=(qaN i m).set k {key:=tV e.1,val:=e.2,born:=i+k}
 |[],e,i,k=>by simp [qaN]
 |x::m,e,i,0=>by simp [qaN]
 |x::m,e,i,k+1=>by
  simp only [zF,qaN,qnC m e (i+1) k];rw [Nat.add_assoc,Nat.add_comm 1 k]
def qa3 (w:World) (B:Nat) (m:List Ent):Prop:=w.heap[B]?=some (.map (qaN 0 m).toArray m.length)
def qam (m:List Ent) (t:Tm):Nat:=m.findIdx (fun e=>decide (e.1=t))
def qb5 (m:List Ent) (t:Tm):Value:=if h:qam m t<m.length then m[qam m t].2 else .slice none 0 0
def qb6 (m:List Ent) (t:Tm):List Ent:=if qam m t<m.length then m else m++[(t,.slice none 0 0)]
theorem qnD {m:List Ent} {t:Tm} (h:qam m t<m.length):m[qam m t].1=t:=by
 have :=List.findIdx_getElem (p:=fun e:Ent=>decide (e.1=t)) (xs:=m) (w:=h);exact of_decide_eq_true this
theorem qnE (m:List Ent) (t:Tm):qam m t<(qb6 m t).length/\(qb6 m t)[qam m t]?=some (t,qb5 m t):=by
 unfold qb6 qb5;split
 ·rename_i h
  have e:=qnD h;refine ⟨h,?_⟩;rw [List.getElem?_eq_getElem h];exact congrArg some (Prod.ext e rfl)
 ·rename_i h
  have hle:qam m t<=m.length:=List.findIdx_le_length;have :qam m t=m.length:=by omega
  rw [this];simp
theorem qnF:∀ (m:List Ent) (t:Tm) (w:World) (k i:Nat),(Instr.findAsking 69 (tV t) (qaN k m) i).run Tryz.prog w= .ok (if h:qam m t<m.length then some (i+qam m t,m[qam m t].2) else none) w
 |[],t,w,k,i=>by simp [qaN,Instr.findAsking,qam]
 |e::m,t,w,k,i=>by
  have ih:=qnF m t w (k+1) (i+1);rw [qaN,Instr.findAsking];simp only [Sem.run_bind,qun,Result.andThen];by_cases he:t=e.1
  ·have hp:qam (e::m) t=0:=by unfold qam;rw [List.findIdx_cons];simp [he]
   simp only [hp];simp [he]
  ·have he':¬ e.1=t:=fun h=>he h.symm
   have hp:qam (e::m) t=qam m t+1:=by unfold qam;rw [List.findIdx_cons];simp [he']
   simp only [he,decide_false,Bool.false_eq_true,if_false,ih];rw [Result.ok.injEq];refine ⟨?_,rfl⟩;by_cases h:qam m t<m.length
   ·have h':qam (e::m) t<(e::m).length:=by rw [hp];simpa using h
    rw [dif_pos h,dif_pos h'];simp only [hp,zC];rw [Nat.add_assoc,Nat.add_comm 1]
   ·have h':¬ qam (e::m) t<(e::m).length:=by rw [hp];simpa using h
    rw [dif_neg h,dif_neg h']
theorem qnG (m:List Ent) (t:Tm) (w:World) (k:Nat):(Instr.findKey 69 (tV t) (qaN k m)).run Tryz.prog w= .ok (if h:qam m t<m.length then some (qam m t,m[qam m t].2) else none) w:=by
 have h1:=qnF m t w k 0;rw [Nat.zero_add] at h1;cases m with
 |nil=>simp [Instr.findKey,run_underlying Tryz.underlying69,qaN,Instr.findNow,qam]
 |cons e m=>
  rw [<- h1];simp [Instr.findKey,run_underlying Tryz.underlying69,qaN,Instr.findNow,Instr.sameNow]
theorem qup {w:World} {B:Nat} {m:List Ent} (h:qa3 w B m) (t:Tm):(Instr.lookup 248 (.map (some B)) (tV t) false).run Tryz.prog w= .ok (qb5 m t) w:=by
 unfold qa3 at h;have hf:=qnG m t w 0;unfold qb5;by_cases hp:qam m t<m.length
 ·rw [dif_pos hp] at hf ⊢
  simp [Instr.lookup,run_underlying Tryz.underlying248,MapKept.run_getObj_map h,qhs,hf,Result.andThen]
 ·rw [dif_neg hp] at hf ⊢
  simp [Instr.lookup,run_underlying Tryz.underlying248,MapKept.run_getObj_map h,qhs,hf,Result.andThen,Tryz.zeroValue23]
theorem quq {w:World} {B:Nat} {m:List Ent} (h:qa3 w B m) (t:Tm):∃ w',(Instr.mapEntry 248 (.map (some B)) (tV t)).run Tryz.prog w= .ok (.tuple #[qb5 m t,.int .i64 (qam m t:Int)]) w'/\qa3 w' B (qb6 m t)/\w.grownBy w' (some B):=by
 unfold qa3 at h;have hf:=qnG m t w 0;unfold qb5 qb6;by_cases hp:qam m t<m.length
 ·rw [dif_pos hp] at hf ⊢
  rw [if_pos hp];have hk:=qnD hp;have he:=qgx (i:=0) hp;rw [hk,Nat.zero_add] at he;have hmod:(qaN 0 m).modify (qam m t) (fun e=>{e with key:=tV t})=qaN 0 m:=by
   apply List.ext_getElem?;intro j;rw [List.getElem?_modify];by_cases hj:qam m t=j
   ·subst hj;simp [he]
   ·simp [hj]
  refine ⟨setBlock w B (.map (qaN 0 m).toArray m.length),?_,ChangeMaps.heap_setBlock_same h _,?_⟩
  ·simp [Instr.mapEntry,run_underlying Tryz.underlying248,MapKept.run_getObj_map h,qhs,hf,Result.andThen,he,quo,MapKept.run_setObj_map _ h,hmod,goInt,setBlock]
  ·exact ⟨rfl,rfl,rfl,by simp [setBlock],fun k _ hk=>ChangeMaps.heap_setBlock_other h _ (fun e=>hk (by rw [e]))⟩
 ·rw [dif_neg hp] at hf ⊢
  rw [if_neg hp];have hle:qam m t<=m.length:=List.findIdx_le_length;have hpe:qam m t=m.length:=by omega
  have hpush:(qaN 0 m).toArray.push {key:=tV t,val:= .slice none 0 0,born:=m.length}=(qaN 0 (m++[(t,.slice none 0 0)])).toArray:=by
   rw [qnB,Nat.zero_add,List.push_toArray]
  refine ⟨setBlock w B (.map (qaN 0 (m++[(t,Value.slice none 0 0)])).toArray (m++[(t,Value.slice none 0 0)]).length),?_,ChangeMaps.heap_setBlock_same h _,?_⟩
  ·rw [hpe,<- hpush]
   simp [Instr.mapEntry,run_underlying Tryz.underlying248,MapKept.run_getObj_map h,qhs,hf,Result.andThen,MapKept.run_setObj_map _ h,goInt,setBlock,Tryz.zeroValue23]
  ·exact ⟨rfl,rfl,rfl,by simp [setBlock],fun k _ hk=>ChangeMaps.heap_setBlock_other h _ (fun e=>hk (by rw [e]))⟩
theorem qnH:∀ (m:List Ent) (i k:Nat),k<m.length->(qaN i m).findIdx? (fun e=>((e.born:Nat):Int)==((i+k:Nat):Int))=some k
 |[],i,k,h=>by simp at h
 |e::m,i,0,_=>by rw [qaN,List.findIdx?_cons];simp
 |e::m,i,k+1,h=>by
  have ih:=qnH m (i+1) k (by simpa using h);rw [qaN,List.findIdx?_cons,if_neg (by simp;omega)];rw [show i+(k+1)=i+1+k by omega,ih];rfl
theorem qur {w:World} {B:Nat} {m:List Ent} (h:qa3 w B m) {k:Nat} (hk:k<m.length) (v:Value):∃ w',(Instr.entryStore 248 (.map (some B)) (.int .i64 (k:Int)) v).run Tryz.prog w= .ok () w'/\qa3 w' B (m.set k (m[k].1,v))/\w.grownBy w' (some B):=by
 unfold qa3 at h;have hb:=qnH m 0 k hk;rw [Nat.zero_add] at hb;have he:=qgx (i:=0) hk;rw [Nat.zero_add] at he;have hmod:(qaN 0 m).modify k (fun e=>{e with val:=v})=qaN 0 (m.set k (m[k].1,v)):=by
  rw [qnC,Nat.zero_add];apply List.ext_getElem?;intro j;rw [List.getElem?_modify,List.getElem?_set];by_cases hj:k=j
  ·subst hj
   have hkl:k<(qaN 0 m).length:=by rw [qht];exact hk
   rw [he,if_pos rfl,if_pos hkl];simp
  ·simp [hj]
 refine ⟨setBlock w B (.map (qaN 0 (m.set k (m[k].1,v))).toArray (m.set k (m[k].1,v)).length),?_,ChangeMaps.heap_setBlock_same h _,?_⟩
 ·rw [<- hmod]
  simp [Instr.entryStore,MapKept.run_getObj_map h,asInt,asIntOf,hb,MapKept.run_setObj_map _ h,Result.andThen,setBlock]
 ·exact ⟨rfl,rfl,rfl,by simp [setBlock],fun k _ hk=>ChangeMaps.heap_setBlock_other h _ (fun e=>hk (by rw [e]))⟩
section
variable {ops:Array Oper} {rest:List Oper} {o:Oper} {a:Act} {Q:Exit->Act->World->Prop}
theorem qus (w:World) (hg:o.guard=none) (x y:Operand) (hop:o.op=Op.lookup 248 x y false) (B:Nat) (m:List Ent) (t:Tm) (hx:a.eval x= .map (some B)) (hat:qa3 w B m) (hy:a.eval y=tV t)
  (hK:wpList Tryz.prog ops Q rest (a.put o.dst (qb5 m t)) w):wpList Tryz.prog ops Q (o::rest) a w:=by
 refine wpList_plain hg fun K' hK'=> ?_
 unfold Oper.wp;simp [execOp,hop,hx,hy,qup hat,Result.andThen];exact hK' _ _ hK
theorem qut (w:World) (hg:o.guard=none) (x y:Operand) (hop:o.op=Op.mapEntry 248 x y) (B:Nat) (m:List Ent) (t:Tm) (hx:a.eval x= .map (some B)) (hat:qa3 w B m) (hy:a.eval y=tV t)
  (hK:∀ w',qa3 w' B (qb6 m t)->w.grownBy w' (some B)->wpList Tryz.prog ops Q rest (a.put o.dst (.tuple #[qb5 m t,.int .i64 (qam m t:Int)])) w'):wpList Tryz.prog ops Q (o::rest) a w:=by
 refine wpList_plain hg fun K' hK'=> ?_
 obtain ⟨w',hrun,r1,r2⟩:=quq hat t;unfold Oper.wp;simp [execOp,hop,hx,hy,hrun,Result.andThen];exact hK' _ _ (hK w' r1 r2)
theorem quu (w:World) (hg:o.guard=none) (x y z:Operand) (hop:o.op=Op.entryStore 248 x y z) (B:Nat) (m:List Ent) (k:Nat) (hk:k<m.length) (v:Value) (hx:a.eval x= .map (some B)) (hat:qa3 w B m) (hy:a.eval y= .int .i64 (k:Int)) (hz:a.eval z=v)
  (hK:∀ w',qa3 w' B (m.set k (m[k].1,v))->w.grownBy w' (some B)->wpList Tryz.prog ops Q rest (a.put o.dst undef) w'):wpList Tryz.prog ops Q (o::rest) a w:=by
 refine wpList_plain hg fun K' hK'=> ?_
 obtain ⟨w',hrun,r1,r2⟩:=qur hat hk v;unfold Oper.wp;simp [execOp,hop,hx,hy,hz,hrun,Result.andThen];exact hK' _ _ (hK w' r1 r2)
end
end Go.Proofs.YtpehcaidjlemiaaGreatDoor
