import Derived.Test.YtpehcaidjlemiaaGreatDoorMBZz
import Derived.Test.YtpehcaidjlemiaaGreatDoorMBQ07
import Derived.OneCell
import Derived.Laws.OwnMore
import Derived.Test.YtpehcaidjlemiaaGreatDoorMBQ05
import Derived.Test.YtpehcaidjlemiaaGreatDoorMBQ06
import Derived.Test.YtpehcaidjlemiaaGreatDoorMBQ01
import Derived.Test.YtpehcaidjlemiaaGreatDoorProg
import Derived.Test.YtpehcaidjlemiaaGreatDoorMBQ02
import Derived.ArgAppend
import Derived.Lib.Hide
import Derived.Laws.BytesArg
import Derived.BigCall
import Derived.BigQuiet
import Derived.Deep.QuietTactic
import Derived.Deep.AppendLies
import Derived.Deep.CutRange
import Derived.Lib.EndianBits
import Derived.Laws.CopyOwn
import Derived.Deep.RegionLaw
import Derived.Maps.RangeRun
set_option maxHeartbeats 4000000
set_option linter.unusedVariables false
namespace Go.Proofs.YtpehcaidjlemiaaGreatDoor
open Go Go.RowKit
abbrev nmV:Nm->Value:=fun x=> .string ⟨x.toArray⟩
theorem qtT:(Tryz.prog.info? 40).map (fun i=>(i.zero,i.size,i.bytes))=some (some (.slice none 0 0),1,24):=by kernel_rfl
def qd2 (L:List (List Nm)) (w:World) (D m lo k:Nat) (wr:World):Prop:=∃ cs0:List Value,cs0.length=k/\k<=m/\L.length=m/\qbR nmV 40 w.heap.size D m lo wr.heap.size wr (upL L k []) (cs0++List.replicate (m-k) qa3)/\Below w.heap.size w wr
theorem qd2.all {L:List (List Nm)} {w wr:World} {D m lo:Nat} (h:qd2 L w D m lo m wr):Lol nmV wr wr.heap.size (some ⟨D,0,none⟩) L:=by
 obtain ⟨cs0,h1,h2,h3,h4,h5⟩:=h;have :=h4.lol;rwa [<- h3,qno] at this
section
variable {L:List (List Nm)} {w wr w':World} {D m lo k:Nat} {s:List Nm} {v:Value}
theorem qd2.begin2 (hown:wr.ownsRow w.heap.size 40 1 (.slice (some ⟨D,0,none⟩) m m) m (List.replicate m qa3)) (hD:D<lo) (hm:L.length=m) (hb:Below w.heap.size w wr):qd2 L w D m lo 0 wr:=by
 refine ⟨[],rfl,Nat.zero_le _,hm,⟨by simpa using hown,hD,by rw [qhu (Nat.zero_le _),hm],?_,Nat.le_refl _⟩,hb⟩;rw [qjy,hm];exact qjx _ _ _ _
theorem qd2.low (h:qd2 L w D m lo k wr):D<lo/\D<wr.heap.size/\Below w.heap.size w wr/\k<=m:=by
 obtain ⟨cs0,h1,h2,h3,h4,h5⟩:=h;exact ⟨h4.lt,(h4.own.lt _ rfl).2,h5,h2⟩
theorem qd2.put (h:qd2 L w D m lo k wr) (hk:k<m) (hlo:lo<=wr.heap.size) (hb:Below wr.heap.size wr w') (hs:∀ hk:k<L.length,L[k]=s) (ho:w'.ownsRow wr.heap.size 9 1 v s.length (qad s)):
  w'.cell? ⟨D,k,none⟩=some qa3/\w'.frozen? ⟨D,k,none⟩=false/\∃ A c,v= .slice A s.length c/\s.length<=c/\c<=maxLen/\qcJ (w'.setCell ⟨D,k,none⟩ v) lo w'.heap.size A (qad s)/\qd2 L w D m lo (k+1) (w'.setCell ⟨D,k,none⟩ v):=by
 obtain ⟨hDlo,hDlt,hbw,_⟩:=h.low;obtain ⟨cs0,h1,h2,h3,h4,h5⟩:=h;have hkl:k<L.length:=by omega
 have h6:=h4.later hb;obtain ⟨A,c,rfl,g1,g2,g3⟩:=qjw (lo:=lo) ho hlo;have hcell:w'.cell? ⟨D,k,none⟩=some qa3:=by
  rw [h6.own.cellAt k (by omega),List.getElem?_append_right (by omega),h1,Nat.sub_self,show m-k=(m-k-1)+1 by omega,List.replicate_succ];rfl
 refine ⟨hcell,h6.own.frozenAt k,A,c,rfl,g1,g2,g3.keep fun b hb1 hb2=>Below.heap_setCell _ _ _ _ (by simp only;omega),?_⟩;have hset:=qbR.set (i:=k) (x:=s) (A:=A) (c:=c) (⟨h6.own,h6.lt,h6.len,h6.rows.more hb.size,Nat.le_refl _⟩:qbR nmV 40 w.heap.size D m lo w'.heap.size w' _ _) ⟨g1,g2⟩ g3;have e1:(cs0++List.replicate (m-k) qa3).set k (.slice A s.length c)=(cs0++[.slice A s.length c])++List.replicate (m-(k+1)) qa3:=by
  have :=qgC (a:=cs0) (n:=m-k) (d:=qa3) (x:= .slice A s.length c) (by omega);rw [h1] at this;rw [this,List.append_assoc,show m-k-1=m-(k+1) by omega];rfl
 rw [e1,show (upL L k []).set k s=upL L (k+1) [] by rw [<- hs hkl];exact qjz hkl] at hset;have hsz:(w'.setCell ⟨D,k,none⟩ (.slice A s.length c)).heap.size=w'.heap.size:=by simp [World.setCell]
 refine ⟨cs0++[.slice A s.length c],by simp [h1],hk,h3,⟨hset.own,hset.lt,hset.len,by rw [hsz];exact hset.rows,Nat.le_refl _⟩,?_⟩;exact (h5.trans (hb.mono h5.size)).setCell (p:=⟨D,k,none⟩) h4.from_ _
end
theorem qnp {R:Option Addr->List Value->Prop}:∀ {l:List (List Nm)} {cs:List Value},cs.length=l.length->(∀ i (h:i<l.length),∃ A c,cs[i]?=some (.slice A l[i].length c)/\(l[i].length<=c/\c<=maxLen)/\R A (qad l[i]))->qbn R l cs
 |[],cs,h,_=>by simpa [qbn] using h
 |x::r,[],h,_=>by simp at h
 |x::r,u::cs,h,hi=>by
  obtain ⟨A,c,h1,⟨h2,h3⟩,h4⟩:=hi 0 (by simp);simp at h1;subst h1;exact ⟨A,c,cs,rfl,h2,h3,h4,qnp (by simpa using h) fun i hlt=>by
   obtain ⟨A,c,g1,g2,g3⟩:=hi (i+1) (by simpa using hlt);exact ⟨A,c,by simpa using g1,g2,g3⟩⟩
theorem qtU {w:World} {B:Nat} {A:Option Addr} {l:List (List Nm)} (h:Lol nmV w B A l):qcr w B A l:=by
 obtain ⟨cs,⟨h1,h2⟩,h3⟩:=h;exact ⟨cs,qnp h1 h2,h3⟩
structure qcD (e:TypeId) (size lo:Nat) (w:World) (vs:List Value) (ns:List Nat) (xss:List (List Value)):Prop where
 len:ns.length=vs.length
 len2:xss.length=vs.length
 own:∀ q (h:q<vs.length),w.ownsRow lo e size vs[q] (ns[q]'(by omega)) (xss[q]'(by omega))
 apart:∀ q r (hq:q<vs.length) (hr:r<vs.length),q≠r->∀ g,vs[q].ownBlock=some g->vs[r].ownBlock≠some g
section
variable {e:TypeId} {size lo:Nat} {w w':World} {vs:List Value} {ns:List Nat} {xss:List (List Value)}
theorem qjB (e:TypeId) (size lo:Nat) (w:World) (m:Nat):qcD e size lo w (List.replicate m (.slice none 0 0)) (List.replicate m 0) (List.replicate m []):=
 ⟨by simp,by simp,fun q h=>by simpa using World.ownsRow_nil _ _ _ _,fun q r hq hr _ g h=>by simp [Value.ownBlock] at h⟩
theorem qcD.keep (h:qcD e size lo w vs ns xss) (hk:∀ g (t:Array Value),w.heap[g]?=some (.cells t e (0,0))->lo<=g->w'.heap[g]?=some (.cells t e (0,0))):qcD e size lo w' vs ns xss:=
 ⟨h.len,h.len2,fun q hq=>qas (h.own q hq) fun g hg=>by
  have ho:=h.own q hq;rcases ho.2 with ⟨hv,_⟩|⟨g',cap,cur,hv,hlo,hh,_⟩
  ·rw [hv] at hg;cases hg
  ·rw [hv] at hg
   simp only [Value.ownBlock,Option.some.injEq] at hg;subst hg;rw [hk _ _ hh hlo,hh],h.apart⟩
theorem qcD.below (h:qcD e size lo w vs ns xss) (hb:Below w.heap.size w w'):qcD e size lo w' vs ns xss:=
 h.keep fun g t hg _=>by rw [hb.block g (Array.getElem?_eq_some_iff.1 hg).1];exact hg
theorem qcD.low (h:qcD e size lo w vs ns xss) {b:Nat} (hb:b<=lo):qcD e size b w vs ns xss:=by
 refine ⟨h.len,h.len2,fun q hq=> ?_,h.apart⟩;have ho:=h.own q hq;refine ⟨ho.1,?_⟩;rcases ho.2 with hn|⟨g,cap,cur,hv,hg,r⟩
 ·exact .inl hn
 ·exact .inr ⟨g,cap,cur,hv,Nat.le_trans hb hg,r⟩
theorem qcD.other (h:qcD e size lo w vs ns xss) {B i:Nat} {cs:Array Value} {t:TypeId} {fr:Nat × Nat} (hB:w.heap[B]?=some (.cells cs t fr)) (ht:t≠e) (u:Value):qcD e size lo (w.setCell ⟨B,i,none⟩ u) vs ns xss:=
 h.keep fun g t' hg _=>by
  rw [Below.heap_setCell _ _ _ _ (fun e2=> ?_)]
  ·exact hg
  ·simp only at e2
   subst e2;rw [hB] at hg;injection hg with hg
   injection hg with _ hg
   exact ht hg
theorem qcD.grow (h:qcD e size lo w vs ns xss) {q:Nat} (hq:q<vs.length) {v':Value} {n:Nat} {xs:List Value} (ho:w'.ownsRow lo e size v' n xs) (hg:w.grownBy w' vs[q].ownBlock)
  (hv:∀ g,v'.ownBlock=some g->vs[q].ownBlock=some g∨w.heap.size<=g):qcD e size lo w' (vs.set q v') (ns.set q n) (xss.set q xs):=by
 refine ⟨by simp [h.len],by simp [h.len2],fun r hr=> ?_,fun r s hr hs hrs g h1 h2=> ?_⟩
 ·rw [List.length_set] at hr
  by_cases e2:q=r
  ·subst e2
   simpa using ho
  ·rw [List.getElem_set_ne e2,List.getElem_set_ne e2,List.getElem_set_ne e2]
   refine qas (h.own r hr) fun g hg2=>hg.block g ((h.own r hr).lt g hg2).2 (fun e3=> ?_)
   exact h.apart q r hq hr e2 g e3.symm hg2
 ·rw [List.length_set] at hr hs
  have hold:∀ x (hx:x<vs.length),vs[x].ownBlock=some g->g<w.heap.size:=fun x hx hx2=>((h.own x hx).lt g hx2).2
  by_cases e2:q=r
  ·subst e2
   rw [List.getElem_set_self] at h1;rw [List.getElem_set_ne hrs] at h2;rcases hv g h1 with h3|h3
   ·exact h.apart q s hq hs hrs g h3 h2
   ·have :=hold s hs h2;omega
  ·rw [List.getElem_set_ne e2] at h1
   by_cases e3:q=s
   ·subst e3
    rw [List.getElem_set_self] at h2;rcases hv g h2 with h3|h3
    ·exact h.apart r q hr hq hrs g h1 h3
    ·have :=hold r hr h1;omega
   ·rw [List.getElem_set_ne e3] at h2
    exact h.apart r s hr hs hrs g h1 h2
end
abbrev AtO (p:Pl) (i k:Int):Prop:=(p.1:Int)=i/\(p.2:Int)=k
theorem qnq:∀ (o:List Pl) (m:Nat) (p:Pl) (i k:Int),qbg (o++[p]) m i k=if qbg o m i k≠ -1 then qbg o m i k else if AtO p i k then ((m+o.length:Nat):Int) else-1
 |[],m,p,i,k=>by
  by_cases h:(p.1:Int)=i/\(p.2:Int)=k<;>simp [qbg,AtO,h]
 |q::o,m,p,i,k=>by
  rw [List.cons_append,qbg,qbg];by_cases h:(q.1:Int)=i/\(q.2:Int)=k
  ·rw [if_pos h,if_pos h,if_pos (by omega)]
  ·rw [if_neg h,if_neg h,qnq o (m+1) p i k,List.length_cons,show m+1+o.length=m+(o.length+1) by omega]
theorem qnr:∀ {o:List Pl} {m:Nat} {i k:Int},qbg o m i k≠ -1->∃ p∈o,AtO p i k
 |[],m,i,k,h=>by simp [qbg] at h
 |q::o,m,i,k,h=>by
  rw [qbg] at h;split at h
  ·rename_i e;exact ⟨q,List.mem_cons_self ..,e⟩
  ·obtain ⟨p,hp,e⟩:=qnr h
   exact ⟨p,List.mem_cons_of_mem _ hp,e⟩
theorem qtV {o:List Pl} {m:Nat} {i k:Int} (h:∀ p∈o,¬ AtO p i k):qbg o m i k= -1:=by
 apply Classical.byContradiction;intro hn;obtain ⟨p,hp,e⟩:=qnr hn;exact h p hp e
theorem qns {p q:Pl} {i k:Int} (h:AtO p i k) (h2:AtO q i k):p=q:=by
 obtain ⟨h1,h2'⟩:=h;obtain ⟨h3,h4⟩:=h2;exact Prod.ext (by omega) (by omega)
theorem qnt {o:List Pl} (ho:o.Nodup) {j:Nat} (hj:j<o.length) (i k:Int):qbg (o.take (j+1)) 0 i k=if AtO o[j] i k then (j:Int) else qbg (o.take j) 0 i k:=by
 rw [List.take_succ_eq_append_getElem hj,qnq,List.length_take,Nat.min_eq_left (by omega),Nat.zero_add];by_cases h:AtO o[j] i k
 ·have hn:qbg (o.take j) 0 i k= -1:=qtV fun p hp e=>by
   have e2:=qns e h;subst e2;obtain ⟨x,hx,e3⟩:=List.getElem_of_mem hp;rw [List.getElem_take] at e3;rw [List.length_take] at hx;have :=List.pairwise_iff_getElem.1 ho x j (by omega) hj (by omega);exact this e3
  rw [if_pos h,if_pos h,if_neg (by omega)]
 ·rw [if_neg h,if_neg h]
  split
  ·rfl
  ·rename_i h2
   exact (Classical.not_not.1 h2).symm
def qbS (o:List Pl) (i:Int) (n:Nat):List Int:=(List.range n).map fun (k:Nat)=>qbg o 0 i (k:Int)
theorem qgE:∀ (o:List Pl) (m:Nat) (i k:Int),qbg o m i k= -1∨∃ j,∃ hj:j<o.length,qbg o m i k=((m+j:Nat):Int)/\AtO o[j] i k
 |[],m,i,k=> .inl rfl
 |q::o,m,i,k=>by
  rw [qbg];by_cases h:(q.1:Int)=i/\(q.2:Int)=k
  ·rw [if_pos h]
   exact .inr ⟨0,by simp,by simp,h⟩
  ·rw [if_neg h]
   rcases qgE o (m+1) i k with e|⟨j,hj,e,ha⟩
   ·exact .inl e
   ·exact .inr ⟨j+1,by simpa using hj,by rw [e];omega,by simpa using ha⟩
theorem qtW {o:List Pl} (ho:o.Nodup) {j:Nat} (hj:j<o.length):qbg o 0 (o[j].1:Int) (o[j].2:Int)=(j:Int):=by
 have h:=qnt ho hj (o[j].1:Int) (o[j].2:Int);rw [if_pos ⟨rfl,rfl⟩] at h;rcases qgE o 0 (o[j].1:Int) (o[j].2:Int) with e|⟨m,hm,e,ha⟩
 ·exfalso
  have h2:qbg (o.take (j+1)) 0 (o[j].1:Int) (o[j].2:Int)≠ -1:=by rw [h];omega
  have h3:∀ (a b:List Pl) (n:Nat) (i k:Int),qbg (a++b) n i k= -1->qbg a n i k= -1:=by
   intro a
   induction a with
   |nil=>intro b n i k _;rfl
   |cons q a ih=>
    intro b n i k hh;rw [List.cons_append,qbg] at hh;rw [qbg];split at hh
    ·omega
    ·rename_i e
     rw [if_neg e];exact ih b _ i k hh
  exact h2 (h3 (o.take (j+1)) (o.drop (j+1)) 0 _ _ (by rw [List.take_append_drop];exact e))
 ·rw [e,Nat.zero_add]
  have e2:o[m]=o[j]:=qns ha ⟨rfl,rfl⟩;rcases Nat.lt_trichotomy m j with hmj|hmj|hmj
  ·exact absurd e2 (List.pairwise_iff_getElem.1 ho m j hm hj hmj)
  ·rw [hmj]
  ·exact absurd e2.symm (List.pairwise_iff_getElem.1 ho j m hj hm hmj)
def qdh (E:List Pl) (i:Nat) (l:List Pn):List Pn:=l.filterMap fun q=>if qbg E 0 (i:Int) q.1<0 then none else some (qbg E 0 (i:Int) q.1,q.2)
theorem qfT {E:List Pl} (hE:E.Nodup) {i:Nat} {l:List Pn} {x:Pn}:x∈qdh E i l↔∃ j,∃ hj:j<E.length,∃ q∈l,AtO E[j] (i:Int) q.1/\x=((j:Int),q.2):=by
 unfold qdh;rw [List.mem_filterMap];constructor
 ·rintro ⟨q,hq,e⟩
  rcases qgE E 0 (i:Int) q.1 with h|⟨j,hj,h,ha⟩
  ·rw [h,if_pos (by omega)] at e;cases e
  ·rw [h,if_neg (by omega)] at e
   injection e with e
   exact ⟨j,hj,q,hq,ha,by rw [<- e,Nat.zero_add]⟩
 ·rintro ⟨j,hj,q,hq,⟨h1,h2⟩,rfl⟩
  refine ⟨q,hq,?_⟩;have :=qtW hE hj;rw [h1,h2] at this;rw [this,if_neg (by omega)]
theorem qgF {key:Nm} {x:Pn}:∀ {l:List En} {i:Nat},x∈qaj i l key↔∃ k,∃ hk:k<l.length,x∈qb1 (i+k) (l[k]).2.1 (qax (l[k]).2.1) key
 |[],i=>by simp [qaj]
 |q::l,i=>by
  rw [qaj,List.mem_append,qgF (l:=l) (i:=i+1)];constructor
  ·rintro (h|⟨k,hk,h⟩)
   ·exact ⟨0,by simp,h⟩
   ·exact ⟨k+1,by simpa using hk,by rw [show i+(k+1)=i+1+k by omega];simpa using h⟩
  ·rintro ⟨k,hk,h⟩
   cases k with
   |zero=>exact .inl h
   |succ k=>exact .inr ⟨k,by simpa using hk,by rw [show i+1+k=i+(k+1) by omega];simpa using h⟩
theorem qfU {i:Nat} {d:List Fd} {ts:List Tm} {key:Nm} {x:Pn}:x∈qb1 i d ts key↔x.1=(i:Int)/\((0:Int),x.2)∈qb1 0 d ts key:=by
 unfold qb1;rw [List.mem_map,List.mem_map];constructor
 ·rintro ⟨t,ht,rfl⟩
  exact ⟨rfl,t,ht,rfl⟩
 ·rintro ⟨h,t,ht,e⟩
  injection e with _ e
  exact ⟨t,ht,Prod.ext h.symm e⟩
structure qdi (Ls:List (List En)) (E:List Pl):Prop where
 ins:∀ p∈E,InE Ls p
 rise:qb3 (E.map (qa2 Ls))
 good:∀ L∈Ls,qcS L/\qb3 L/\L.length<=1000
theorem qdi.nodup {Ls:List (List En)} {E:List Pl} (h:qdi Ls E):E.Nodup:=(List.pairwise_map.1 h.rise).imp fun h e=>by rw [e] at h;exact Int.lt_irrefl _ h
theorem qav {α:Type} {d:α} {l:List α} {i:Nat} (h:i<l.length):l.getD i d=l[i]:=by rw [List.getD_eq_getElem?_getD,List.getElem?_eq_getElem h];rfl
theorem qdi.up {Ls:List (List En)} {E:List Pl} (h:qdi Ls E) {j m:Nat} (hj:j<E.length) (hm:m<E.length) (hi:E[j].1=E[m].1) (hk:E[j].2<E[m].2):j<m:=by
 apply Classical.byContradiction;intro hn;obtain ⟨a1,a2⟩:=h.ins _ (List.getElem_mem hj);obtain ⟨b1,b2⟩:=h.ins _ (List.getElem_mem hm);rw [qav a1] at a2;rw [qav b1] at b2;obtain ⟨_,hr,_⟩:=h.good _ (List.getElem_mem a1);have e1:qa2 Ls E[j]=(Ls[E[j].1])[E[j].2]:=by rw [qa2,qav a1,qav a2]
 have e2:qa2 Ls E[m]=(Ls[E[m].1])[E[m].2]:=by rw [qa2,qav b1,qav b2]
 have e3:(Ls[E[m].1])[E[m].2]=(Ls[E[j].1])[E[m].2]'(by simp only [hi];exact b2):=by simp only [hi]
 have hlt:=List.pairwise_iff_getElem.1 hr E[j].2 E[m].2 a2 (by simp only [hi];exact b2) hk;rw [<- e3,<- e1,<- e2] at hlt;rcases Nat.lt_or_eq_of_le (Nat.le_of_not_lt hn) with hmj|hmj
 ·have :=List.pairwise_iff_getElem.1 h.rise m j (by simpa using hm) (by simpa using hj) hmj
  rw [List.getElem_map,List.getElem_map] at this;exact Int.lt_irrefl _ (Int.lt_trans this hlt)
 ·subst hmj
  omega
theorem qtX:∀ {l:List Pn} {last:Int},qaQ last l=true->l.Pairwise (fun p q=>p.1<q.1)/\∀ p∈l,last<p.1:=by
 intro l
 induction l with
 |nil=>intro last _;exact ⟨List.Pairwise.nil,fun p h=>by simp at h⟩
 |cons p l ih=>
  intro last h;obtain ⟨h1,_,_,h2⟩:=qeC.1 h;obtain ⟨g1,g2⟩:=ih h2;refine ⟨List.pairwise_cons.2 ⟨g2,g1⟩,fun q hq=> ?_⟩;rcases List.mem_cons.1 hq with rfl|hq
  ·exact h1
  ·exact Int.lt_trans h1 (g2 q hq)
theorem qnu {L:List En} (h:qcS L) (hl:L.length<=1000) (key:Nm):(qaj 0 L key).Pairwise (fun p q=>p.1<q.1)/\∀ p∈qaj 0 L key, -1<p.1:=
 qtX (qjh (last:= -1) h (by omega) (by omega))
theorem qnv {Ls:List (List En)} {E:List Pl} (h:qdi Ls E) {i:Nat} (hi:i<Ls.length) (key:Nm):(qdh E i (qaj 0 Ls[i] key)).Pairwise (fun p q=>p.1<q.1)/\∀ p∈qdh E i (qaj 0 Ls[i] key), -1<p.1:=by
 obtain ⟨hg,_,hl⟩:=h.good _ (List.getElem_mem hi);obtain ⟨h1,h2⟩:=qnu hg hl key;constructor
 ·unfold qdh
  refine List.Pairwise.filterMap _ (fun p q hpq b hb c hc=> ?_) h1;rcases qgE E 0 (i:Int) p.1 with e|⟨j,hj,e,ha⟩
  ·rw [e,if_pos (by omega)] at hb;cases hb
  ·rcases qgE E 0 (i:Int) q.1 with e'|⟨m,hm,e',ha'⟩
   ·rw [e',if_pos (by omega)] at hc;cases hc
   ·rw [e,if_neg (by omega)] at hb
    rw [e',if_neg (by omega)] at hc;injection hb with hb
    injection hc with hc
    subst hb hc;have :=h.up hj hm (by have :=ha.1;have :=ha'.1;omega) (by have :=ha.2;have :=ha'.2;omega);simp only;omega
 ·intro p hp
  obtain ⟨j,hj,q,hq,ha,rfl⟩:=(qfT h.nodup).1 hp;simp only;omega
theorem qtY {Ls:List (List En)} {E:List Pl} (h:qdi Ls E) {key:Nm} {x:Pn}:x∈qaj 0 (E.map (qa2 Ls)) key↔∃ i,∃ hi:i<Ls.length,x∈qdh E i (qaj 0 Ls[i] key):=by
 rw [qgF];constructor
 ·rintro ⟨j,hj,hx⟩
  rw [List.length_map] at hj;rw [List.getElem_map,qfU,Nat.zero_add] at hx;obtain ⟨a1,a2⟩:=h.ins _ (List.getElem_mem hj);rw [qav a1] at a2;refine ⟨E[j].1,a1,(qfT h.nodup).2 ⟨j,hj,((E[j].2:Int),x.2),qgF.2 ⟨E[j].2,a2,?_⟩,⟨rfl,rfl⟩,Prod.ext hx.1 rfl⟩⟩;rw [qfU,Nat.zero_add];have e1:qa2 Ls E[j]=(Ls[E[j].1])[E[j].2]:=by rw [qa2,qav a1,qav a2]
  rw [e1] at hx;exact ⟨rfl,hx.2⟩
 ·rintro ⟨i,hi,hx⟩
  obtain ⟨j,hj,q,hq,⟨ha,hb⟩,rfl⟩:=(qfT h.nodup).1 hx;obtain ⟨k,hk,hq2⟩:=qgF.1 hq;rw [qfU,Nat.zero_add] at hq2;have e2:E[j].2=k:=by have :=hq2.1;omega
  have e3:E[j].1=i:=by omega
  refine ⟨j,by simpa using hj,?_⟩;rw [List.getElem_map,qfU,Nat.zero_add];have e1:qa2 Ls E[j]=(Ls[i])[k]:=by
   rw [qa2,e3,e2,qav hi,qav hk]
  rw [e1];exact ⟨rfl,hq2.2⟩
def qcW (Ls:List (List En)) (E:List Pl) (key:Nm) (own:List Nat):List (List Pn):=own.map fun i=>qdh E i (qaj 0 (Ls.getD i []) key)
def qbr (ps:List (List Pn)):List (List Int):=ps.map fun l=>l.map (·.1)
def qbd (Ls:List (List En)) (key:Nm):List Nat:=(List.range Ls.length).filter fun i=>decide (key∈qaf (Ls.getD i []))
theorem qfV {Ls:List (List En)} {key:Nm} {i:Nat}:i∈qbd Ls key↔i<Ls.length/\key∈qaf (Ls.getD i []):=by
 unfold qbd;rw [List.mem_filter,List.mem_range,decide_eq_true_eq]
theorem qtZ (Ls:List (List En)) (key:Nm):(qbd Ls key).Pairwise (· <·):=List.Pairwise.filter _ List.pairwise_lt_range
theorem qt0 {Ls:List (List En)} {E:List Pl} (h:qdi Ls E) (key:Nm):∀ s∈qbr (qcW Ls E key (qbd Ls key)),qai (-1) s=true:=by
 intro s hs;obtain ⟨l,hl,rfl⟩:=List.mem_map.1 hs;obtain ⟨i,hi,rfl⟩:=List.mem_map.1 hl;obtain ⟨hi,_⟩:=qfV.1 hi;rw [qav hi];obtain ⟨h1,h2⟩:=qnv h hi key;refine qft (List.pairwise_map.2 h1) fun a ha=> ?_
 obtain ⟨p,hp,rfl⟩:=List.mem_map.1 ha;exact h2 p hp
theorem qt1 {Ls:List (List En)} {E:List Pl} (h:qdi Ls E) (key:Nm):¬ qdP (qbr (qcW Ls E key (qbd Ls key))):=by
 refine qnb (List.pairwise_flatten.2 ⟨fun l hl=> ?_,?_⟩)
 ·obtain ⟨m,hm,rfl⟩:=List.mem_map.1 hl
  obtain ⟨i,hi,rfl⟩:=List.mem_map.1 hm;obtain ⟨hi,_⟩:=qfV.1 hi;rw [qav hi];exact (List.pairwise_map.2 (qnv h hi key).1).imp fun h e=>by omega
 ·refine List.pairwise_map.2 (List.pairwise_map.2 ((qtZ Ls key).imp_of_mem fun {a b} ha hb hab=> ?_))
  intro x hx y hy e;subst e;obtain ⟨p,hp,e1⟩:=List.mem_map.1 hx;obtain ⟨q,hq,e2⟩:=List.mem_map.1 hy;obtain ⟨j,hj,p',_,⟨h1,_⟩,rfl⟩:=(qfT h.nodup).1 hp;obtain ⟨m,hm,q',_,⟨h2,_⟩,rfl⟩:=(qfT h.nodup).1 hq;simp only at e1 e2;have e3:j=m:=by omega
  subst e3;omega
theorem qhw {Ls:List (List En)} {E:List Pl} (h:qdi Ls E) {key:Nm} {o:List Pl} (ho:qcd (qbr (qcW Ls E key (qbd Ls key))) o):
  o.map (fun p=>((qcW Ls E key (qbd Ls key)).getD p.1 []).getD p.2 (0,[]))=qaj 0 (E.map (qa2 Ls)) key:=by
 obtain ⟨ps,hps⟩:∃ ps,ps=qcW Ls E key (qbd Ls key):=⟨_,rfl⟩;rw [<- hps] at ho ⊢;have hrow:∀ i,i<ps.length->(qbr ps).getD i []=(ps.getD i []).map (·.1):=fun i hi=>by
  rw [qav hi,qav (l:=qbr ps) (by simpa [qbr] using hi)];simp [qbr]
 have hin:∀ p,InO (qbr ps) p↔p.1<ps.length/\p.2<(ps.getD p.1 []).length:=fun p=>by
  unfold InO;rw [show (qbr ps).length=ps.length by simp [qbr]];refine and_congr_right fun hp=> ?_
  rw [hrow _ hp,List.length_map]
 have hval:∀ p,InO (qbr ps) p->qaK (qbr ps) p=((ps.getD p.1 []).getD p.2 (0,[])).1:=fun p hp=>by
  obtain ⟨h1,h2⟩:=(hin p).1 hp;unfold qaK;rw [hrow _ h1,qav (d:=(0,[])) h2,qav (by simpa using h2)];simp
 have hgood:qcS (E.map (qa2 Ls)):=fun q hq=>by
  obtain ⟨p,hp,rfl⟩:=List.mem_map.1 hq;obtain ⟨a1,a2⟩:=h.ins p hp;rw [qav a1] at a2;have e1:qa2 Ls p=(Ls[p.1])[p.2]:=by rw [qa2,qav a1,qav a2]
  rw [e1];exact (h.good _ (List.getElem_mem a1)).1 _ (List.getElem_mem a2)
 have hr:(qaj 0 (E.map (qa2 Ls)) key).Pairwise (fun p q=>p.1<q.1):=by
  have hsub:∀ (l:List En) (i:Nat),(∀ q∈l,qdx q.2.1)->(qaj i l key).Pairwise (fun p q=>p.1<q.1)/\∀ p∈qaj i l key,(i:Int)<=p.1:=by
   intro l
   induction l with
   |nil=>intro i _;exact ⟨List.Pairwise.nil,fun p h=>by simp [qaj] at h⟩
   |cons q l ih=>
    intro i hq;obtain ⟨g1,g2⟩:=ih (i+1) fun x hx=>hq x (List.mem_cons_of_mem _ hx)
    rw [qaj];have h0:∀ p∈qb1 i q.2.1 (qax q.2.1) key,p.1=(i:Int):=fun p hp=>(qfU.1 hp).1
    refine ⟨List.pairwise_append.2 ⟨?_,g1,fun a ha b hb=>by have :=h0 a ha;have :=g2 b hb;omega⟩,fun p hp=> ?_⟩
    ·rcases qjg (i:=i) (hq q (List.mem_cons_self ..)).zero key with e|⟨t,_,e⟩
     ·rw [e];exact List.Pairwise.nil
     ·rw [e];exact List.pairwise_singleton _ _
    ·rcases List.mem_append.1 hp with hp|hp
     ·rw [h0 p hp];omega
     ·have :=g2 p hp;omega
  exact (hsub _ 0 hgood).1
 refine qhn (R:=fun p q:Pn=>p.1<q.1) (fun _ h=>Int.lt_irrefl _ h) (fun _ _ h k=>Int.lt_irrefl _ (Int.lt_trans h k)) ?_ hr fun x=> ?_
 ·refine List.pairwise_map.2 (ho.rise.imp_of_mem fun {p q} hp hq hpq=> ?_)
  rwa [hval p ((ho.mem p).1 hp),hval q ((ho.mem q).1 hq)] at hpq
 ·rw [List.mem_map,qtY h]
  constructor
  ·rintro ⟨p,hp,rfl⟩
   obtain ⟨h1,h2⟩:=(hin p).1 ((ho.mem p).1 hp);rw [qav h1] at h2;rw [qav h1,qav h2];obtain ⟨x,hx⟩:∃ x,x=ps[p.1]:=⟨_,rfl⟩;have hmem:x∈qcW Ls E key (qbd Ls key):=by rw [<- hps,hx];exact List.getElem_mem h1
   obtain ⟨i,hi,e⟩:=List.mem_map.1 hmem;rw [hx] at e;obtain ⟨hi,_⟩:=qfV.1 hi;rw [qav hi] at e;exact ⟨i,hi,by rw [e];exact List.getElem_mem h2⟩
  ·rintro ⟨i,hi,hx⟩
   have hown:i∈qbd Ls key:=by
    refine qfV.2 ⟨hi,?_⟩;rw [qav hi];obtain ⟨j,hj,q,hq,_⟩:=(qfT h.nodup).1 hx;refine qeB.2 ((qjk (i:=0)).1 fun e=> ?_)
    rw [e] at hq;simp at hq
   have hpm:qdh E i (qaj 0 Ls[i] key)∈ps:=by
    rw [hps];refine List.mem_map.2 ⟨i,hown,?_⟩;rw [qav hi]
   obtain ⟨a,ha,ea⟩:=List.getElem_of_mem hpm;rw [<- ea] at hx;obtain ⟨b,hb,eb⟩:=List.getElem_of_mem hx;refine ⟨(a,b),(ho.mem _).2 ((hin _).2 ⟨ha,by rw [qav ha];exact hb⟩),?_⟩;rw [qav ha,qav hb,eb]
def plc:List Pl->List Value
 |[]=>[]
 |p::o=> .int .i64 (p.1:Int):: .int .i64 (p.2:Int)::plc o
theorem qnw:∀ o:List Pl,(plc o).length=o.length*2
 |[]=>rfl
 |p::o=>by simp [plc,qnw o];omega
theorem qjC:∀ a b:List Pl,plc (a++b)=plc a++plc b
 |[],b=>rfl
 |p::a,b=>by simp [plc,qjC a b]
theorem qjD:∀ {o:List Pl} {k:Nat} (hk:k<o.length),(plc o)[k*2]?=some (.int .i64 (o[k].1:Int))/\(plc o)[k*2+1]?=some (.int .i64 (o[k].2:Int))
 |[],k,hk=>by simp at hk
 |p::o,0,hk=>⟨rfl,rfl⟩
 |p::o,k+1,hk=>by
  have :=qjD (o:=o) (k:=k) (by simpa using hk);rw [show (k+1)*2=k*2+1+1 by omega];simpa [plc] using this
theorem qfW {w:World} {B:Nat} {A:Option Addr} {o:List Pl} (h:Row w B A (plc o)) {k:Nat} (hk:k<o.length):
  ∃ b off,A=some ⟨b,off,none⟩/\b<B/\w.cell? ⟨b,off+k*2,none⟩=some (.int .i64 (o[k].1:Int))/\w.cell? ⟨b,off+k*2+1,none⟩=some (.int .i64 (o[k].2:Int)):=by
 obtain ⟨b,off,rfl,hb,hc⟩:=h.at_ (by rw [qnw];omega);obtain ⟨h1,h2⟩:=qjD hk;exact ⟨b,off,rfl,hb,hc _ _ h1,by have :=hc _ _ h2;rwa [<- Nat.add_assoc] at this⟩
theorem qhx:(Tryz.prog.info? 5).map (fun i=>(i.zero,i.size,i.bytes))=some (some (.int .u8 0),1,1):=by kernel_rfl
theorem qt2 {w:World} {B:Nat} {A:Option Addr} {xs:List UInt8} (h:Row w B A (Lib.byteCells xs)) {k:Nat} (hk:k<xs.length):
  ∃ b off,A=some ⟨b,off,none⟩/\b<B/\w.cell? ⟨b,off+k,none⟩=some (.int .u8 ((xs.getD k 0).toNat:Int)):=by
 obtain ⟨b,off,rfl,hb,hc⟩:=h.at_ (by rw [Lib.byteCells_length];omega);refine ⟨b,off,rfl,hb,hc k _ ?_⟩;simp [Lib.byteCells,hk]
theorem qjE (l:List UInt8):∀ u∈Lib.byteCells l,u.oneCell'=true:=by
 intro u hu;obtain ⟨b,_,rfl⟩:=List.mem_map.1 hu;rfl
theorem qt3 (l:List Int):∀ u∈qaa l,u.oneCell'=true:=by
 intro u hu;obtain ⟨b,_,rfl⟩:=List.mem_map.1 hu;rfl
def Buf (base:Nat) (w:World) (v:Value) (bs:List UInt8):Prop:=
 (∃ A,v= .slice A bs.length bs.length/\Row w base A (Lib.byteCells bs))∨w.ownsRow base 5 1 v bs.length (Lib.byteCells bs)
def Own (base:Nat) (w:World) (v:Value) (bs:List UInt8):Prop:=w.ownsRow base 5 1 v bs.length (Lib.byteCells bs)
theorem Own.buf {base:Nat} {w:World} {v:Value} {bs:List UInt8} (h:Own base w v bs):Buf base w v bs:= .inr h
theorem Own.below {base:Nat} {w w':World} {v:Value} {bs:List UInt8} (h:Own base w v bs) (hb:Below w.heap.size w w'):Own base w' v bs:=qak h hb
theorem Own.row {base:Nat} {w:World} {v:Value} {bs:List UInt8} (h:Own base w v bs):∃ A c,v= .slice A bs.length c/\bs.length<=c/\Row w w.heap.size A (Lib.byteCells bs):=qaL h
theorem Buf.alloc {base:Nat} {w:World} {v:Value} {bs:List UInt8} (h:Buf base w v bs) (hb:base<=w.heap.size) (o:Obj):Buf base (w.alloc o) v bs:=by
 rcases h with ⟨A,rfl,hr⟩|hown
 ·exact .inl ⟨A,rfl,hr.below ((Below.refl _ _).alloc hb o)⟩
 ·exact .inr (hown.alloc o)
section
variable {P:Program} (w:World)
theorem qhy {ops:Array Oper} {rest:List Oper} {o:Oper} {a:Act} {Q:Exit->Act->World->Prop} (hgd:o.guard=none) (s x:Operand) (t:TypeId)
  (ho:o.op= .call {callee:= .builtin .append,args:=#[s,x],argTypes:=#[t,t]})
  (base:Nat) (i:TypeInfo) (z:Value) (ht:P.underlying t=some (.slice 5)) (hi:P.info? 5=some i) (hz:i.zero=some z)
  (hsize:i.size=1) (hby:i.bytes=1) (hzs:z.cells.size=1)
  (v:Value) (bs:List UInt8) (hs:a.eval s=v) (hb:Buf base w v bs) (hbase:base<=w.heap.size)
  (ad:Addr) (c:Nat) (y:Int) (hx:a.eval x= .slice (some ad) 1 c) (hnews:∀ j u,[Value.int .u8 y][j]?=some u->w.cell? (ad.add j)=some u)
  (u:UInt8) (hy:y=(u.toNat:Int)) (hl:bs.length<=1099511627776)
  (h:∀ v' w',Own base w' v' (bs++[u])->Below base w w'->wpList P ops Q rest (a.put o.dst v') w'):wpList P ops Q (o::rest) a w:=by
 have hcells:Lib.byteCells bs++[Value.int .u8 y]=Lib.byteCells (bs++[u]):=by rw [hy,Lib.byteCells_append];rfl
 have hlen:bs.length+1=(bs++[u]).length:=by simp
 have h1:∀ q∈[Value.int .u8 y],q.oneCell'=true:=by intro q hq;simp at hq;subst hq;rfl
 rcases hb with ⟨A,rfl,hr⟩|hown
 ·refine wpList_append_grows w hgd s x t ho 5 i z 1 1 ht hi hz hsize hby hzs (by omega) A bs.length bs.length (Lib.byteCells bs) hs ?_ (by rw [Lib.byteCells_length];omega) ?_ ad 1 c _ hx rfl hnews h1 (by omega) (by unfold maxLen;omega) (by omega) ?_
  ·rintro rfl
   rcases hr with h0|⟨b,off,h0,_⟩
   ·have :=congrArg List.length h0
    rw [Lib.byteCells_length] at this;simp at this;simp [this]
   ·cases h0
  ·rintro b rfl j q hq
   rcases hr with h0|⟨b',off,h0,_,hc⟩
   ·rw [h0] at hq;simp at hq
   ·injection h0 with h0
    subst h0;rw [Addr.add_lit];exact hc j q hq
  ·intro v' w' hown hg
   rw [hcells,hlen] at hown;exact h v' w' (qbh hown hbase) ((Below.refl _ w).grown hg hbase fun k hk=>by cases hk)
 ·refine wpList_append_own w hgd s x t ho base 5 i z 1 1 ht hi hz hsize hby hzs (by omega) v bs.length (Lib.byteCells bs) hs hown ad 1 c _ hx rfl hnews h1 (by unfold maxLen;omega) (by omega) hbase ?_
  intro v' w' hown' hg _;rw [hcells,hlen] at hown';exact h v' w' hown' ((Below.refl _ w).grown hg hbase fun k hk=>(hown.lt k hk).1)
end
def ahead (l:List Int) (k:Nat):Int:=if k=0 then-1 else l.getD (k-1) 0
theorem qnx {l:List Int} {k:Nat} (hk:k<l.length) (last:Int):qai last (l.drop k)=(decide (last<l.getD k 0)&&qai (l.getD k 0) (l.drop (k+1))):=by
 rw [List.drop_eq_getElem_cons hk,qai,List.getD_eq_getElem?_getD,List.getElem?_eq_getElem hk];rfl
theorem qt4 {l:List Int} {k:Nat} (hk:l.length<=k) (last:Int):qai last (l.drop k)=true:=by rw [List.drop_eq_nil_of_le hk];rfl
theorem qjF {w:World} {B:Nat} {A:Option Addr} {xs:List Int} (h:Row w B A (qaa xs)) {k:Nat} (hk:k<xs.length):
  ∃ b off,A=some ⟨b,off,none⟩/\b<B/\w.cell? ⟨b,off+k,none⟩=some (.int .i64 (xs.getD k 0)):=by
 obtain ⟨b,off,h1,h2,h3⟩:=qcv h hk;refine ⟨b,off,h1,h2,?_⟩;rw [h3,List.getD_eq_getElem?_getD,List.getElem?_eq_getElem hk];rfl
theorem qt5 {l:List Int} {k:Nat} (hk:k<l.length) (last:Int):dB last (l.drop k)=qag (l.getD k 0-(last+1)).toNat++dB (l.getD k 0) (l.drop (k+1)):=by
 rw [List.drop_eq_getElem_cons hk,dB,List.getD_eq_getElem?_getD,List.getElem?_eq_getElem hk];rfl
theorem qt6 {l:List Int} {k:Nat} (hk:l.length<=k) (last:Int):dB last (l.drop k)=[]:=by rw [List.drop_eq_nil_of_le hk];rfl
theorem qt7:(Tryz.prog.info? 88).map (fun i=>(i.zero,i.size,i.bytes))=some (some (.agg #[.int .i64 0,.int .i64 0]),2,16):=by kernel_rfl
def qt8 (l:List (List Int)) (w:World) (e:Ending) (w':World):Prop:=∃ (err:Int) (o:List Pl) (A:Option Addr) (c:Nat),qei l err o/\e= .returned (.tuple #[.slice A o.length c,.int .i64 err])/\(o.length<=c/\c<=maxLen)/\Row w' w'.heap.size A (plc o)/\Below w.heap.size w w'
def qt9 (l:List (List Int)) (w:World) (e:Ending) (w':World):Prop:=∃ (err:Int) (o:List Pl) (A:Option Addr) (c:Nat),qei l err o/\e= .returned (.tuple #[.slice A o.length c,.int .i64 err])/\(o.length<=c/\c<=maxLen)/\Row w' w'.heap.size A (plc o)/\Below w.heap.size w w'/\o.length<=1000000
def qcE (a:List Nat):List Int:=a.map fun (x:Nat)=>(x:Int)
theorem qny:∀ (a:List Nat) (b:Nat),b<a.length->(a.set b (a.getD b 0+1)).sum=a.sum+1
 |x::a,0,_=>by simp;omega
 |x::a,b+1,h=>by
  have :=qny a b (by simpa using h);simp at this ⊢;omega
theorem qjG:∀ {l:List (List Int)} {a:List Nat},a.length=l.length->(∀ i (hi:i<l.length),a.getD i 0<=l[i].length)->a.sum<=(l.map List.length).sum
 |[],a,h,_=>by simp at h;subst h;simp
 |s::l,[],h,_=>by simp at h
 |s::l,x::a,h,hle=>by
  have h0:=hle 0 (by simp);have h1:=qjG (l:=l) (a:=a) (by simpa using h) fun i hi=>by
   have :=hle (i+1) (by simpa using hi);rw [zC] at this;simpa using this
  simp at h0 ⊢;omega
theorem qua {l:List (List Int)} {m:Nat} (hm:l.length=m) (hm2:m<=1000) (hl:∀ s∈l,s.length<=1000):(l.map List.length).sum<=1000000:=by
 have :∀ l:List (List Int),(∀ s∈l,s.length<=1000)->(l.map List.length).sum<=l.length*1000:=by
  intro l
  induction l with
  |nil=>intro _;simp
  |cons s l ih=>
   intro h;have h1:=h s (List.mem_cons_self ..);have h2:=ih fun x hx=>h x (List.mem_cons_of_mem _ hx)
   simp only [List.map_cons,List.sum_cons,List.length_cons];omega
 have :=this l hl;rw [hm] at this;omega
def qhz:Value->Nat
 |.slice _ n _=>n
 |_=>0
def asJ (ks:List (List Nm)) (i j:Nat) (nm:Nm):List Nat:=((List.range i).filter fun x=>decide (nm∈ks.getD x []))++(if nm∈(ks.getD i []).take j then [i] else [])
theorem qnz (ks:List (List Nm)) (nm:Nm):asJ ks 0 0 nm=[]:=by simp [asJ]
theorem qub {ks:List (List Nm)} {i j:Nat} (hr:qaH (ks.getD i [])) (hj:j<(ks.getD i []).length) (nm:Nm):asJ ks i (j+1) nm=if nm=(ks.getD i [])[j] then asJ ks i j nm++[i] else asJ ks i j nm:=by
 obtain ⟨l,hl⟩:∃ l,l=ks.getD i []:=⟨_,rfl⟩;unfold asJ;simp only [<- hl] at hr hj ⊢;rw [List.take_succ_eq_append_getElem hj];by_cases h:nm=l[j]
 ·have hn:nm∉l.take j:=fun hm=>by
   obtain ⟨x,hx,e⟩:=List.getElem_of_mem hm;rw [List.getElem_take] at e;rw [List.length_take] at hx;have :=List.pairwise_iff_getElem.1 hr x j (by omega) hj (by omega);rw [e,h] at this;exact nm_irrefl11 _ this
  rw [if_pos h,if_neg hn,if_pos (List.mem_append_right _ (List.mem_singleton.2 h)),List.append_nil]
 ·rw [if_neg h]
  congr 1;by_cases hm:nm∈l.take j
  ·rw [if_pos hm,if_pos (List.mem_append_left _ hm)]
  ·rw [if_neg hm,if_neg (fun h2=>(List.mem_append.1 h2).elim hm (fun h3=>h (List.mem_singleton.1 h3)))]
where
 nm_irrefl11 (x:Nm):¬ x<x:=List.lt_irrefl x
theorem quc {ks:List (List Nm)} {i j:Nat} (hj:j=(ks.getD i []).length) (nm:Nm):asJ ks i j nm=asJ ks (i+1) 0 nm:=by
 unfold asJ;rw [hj,List.take_length,List.take_zero,if_neg (by simp :¬ nm∈([]:List Nm)),List.append_nil,List.range_succ,List.filter_append];congr 1;by_cases h:nm∈ks.getD i []
 ·rw [if_pos h,List.filter_cons_of_pos (by simpa using h)];rfl
 ·rw [if_neg h,List.filter_cons_of_neg (by simpa using h)];rfl
theorem qud (Ls:List (List En)) (nm:Nm):asJ (Ls.map qaf) Ls.length 0 nm=qbd Ls nm:=by
 unfold asJ qbd;rw [List.take_zero,if_neg (by simp :¬ nm∈([]:List Nm)),List.append_nil];refine List.filter_congr fun x hx=> ?_
 rw [List.mem_range] at hx;rw [qav (by simpa using hx),qav hx,List.getElem_map]
theorem que:(Tryz.prog.info? 157).map (fun i=>(i.zero,i.size,i.bytes))=some (some (.pointer none),1,8):=by kernel_rfl
def qd3 (l:List Nat):List Value:=qaa (qcE l)
structure qd4 (lo:Nat) (names:List Nm) (Gs:List Nat) (ao:Nm->List Nat) (vs:List Value) (w:World):Prop where
 glen:Gs.length=names.length
 vlen:vs.length=names.length
 cells:∀ q (h:q<Gs.length) (h2:q<vs.length),w.heap[Gs[q]]?=some (.cells #[vs[q]] 159 (0,0))
 many:qcD 3 1 lo w vs (names.map fun n=>(ao n).length) (names.map fun n=>qd3 (ao n))
 once:Gs.Nodup
section
variable {lo:Nat} {names:List Nm} {Gs:List Nat} {ao:Nm->List Nat} {vs:List Value} {w w' w7:World}
theorem qd4.below (h:qd4 lo names Gs ao vs w) (hb:Below w.heap.size w w'):qd4 lo names Gs ao vs w':=
 ⟨h.glen,h.vlen,fun q h1 h2=>by
  have :=h.cells q h1 h2;rw [hb.block _ (Array.getElem?_eq_some_iff.1 this).1,this],h.many.below hb,h.once⟩
theorem qd4.step (h:qd4 lo names Gs ao vs w) (hr:qaH names) {q i:Nat} (hq:q<names.length) {v':Value} {ao':Nm->List Nat} (has:∀ n,ao' n=if n=names[q] then ao n++[i] else ao n)
  (ho:w7.ownsRow lo 3 1 v' ((ao names[q]).length+1) (qd3 (ao names[q])++[.int .i64 (i:Int)])) (hg:w.grownBy w7 (vs[q]'(by rw [h.vlen];exact hq)).ownBlock)
  (hv:v'.ownBlock=(vs[q]'(by rw [h.vlen];exact hq)).ownBlock∨v'.ownBlock=some w.heap.size):
  w7.heap[Gs[q]'(by rw [h.glen];exact hq)]?=some (.cells #[vs[q]'(by rw [h.vlen];exact hq)] 159 (0,0))/\
   qd4 lo names Gs ao' (vs.set q v') (w7.setCell ⟨Gs[q]'(by rw [h.glen];exact hq),0,none⟩ v'):=by
 have hqv:q<vs.length:=by rw [h.vlen];exact hq
 have hqg:q<Gs.length:=by rw [h.glen];exact hq
 have hown:=h.many.own q hqv;have hkeep:∀ (k:Nat) (cs:Array Value),w.heap[k]?=some (.cells cs 159 (0,0))->w7.heap[k]?=some (.cells cs 159 (0,0)):=fun k cs hk=>by
  rw [hg.block k (Array.getElem?_eq_some_iff.1 hk).1 ?_,hk];intro e;rcases hown.2 with ⟨h0,_⟩|⟨g,cap,cur,h0,_,hh,_⟩
  ·rw [h0] at e;cases e
  ·rw [h0] at e
   simp only [Value.ownBlock,Option.some.injEq] at e;subst e;rw [hk] at hh;injection hh with hh
   injection hh with _ hh
   exact absurd hh (by decide)
 have hG:=hkeep _ _ (h.cells q hqg hqv);have hne:∀ r (hr:r<names.length),r≠q->names[r]≠names[q]:=fun r hr2 hrq e=>by
  rcases Nat.lt_or_gt_of_ne hrq with h1|h1
  ·have :=List.pairwise_iff_getElem.1 hr r q hr2 hq h1
   rw [e] at this;exact List.lt_irrefl _ this
  ·have :=List.pairwise_iff_getElem.1 hr q r hq hr2 h1
   rw [e] at this;exact List.lt_irrefl _ this
 refine ⟨hG,h.glen,by rw [List.length_set];exact h.vlen,fun r h1 h2=> ?_,?_,h.once⟩
 ·rw [List.length_set] at h2
  by_cases e:r=q
  ·subst e
   rw [List.getElem_set_self];exact one_setCell hG
  ·rw [List.getElem_set_ne (fun e2=>e e2.symm),Below.heap_setCell _ _ _ _ (fun e2=> ?_)]
   ·exact hkeep _ _ (h.cells r h1 h2)
   ·simp only at e2
    rcases Nat.lt_or_gt_of_ne e with h3|h3
    ·exact List.pairwise_iff_getElem.1 h.once r q h1 hqg h3 e2
    ·exact List.pairwise_iff_getElem.1 h.once q r hqg h1 h3 e2.symm
 ·have hm:=h.many.grow hqv ho hg (fun g hg2=>by
   rcases hv with hv|hv
   ·exact .inl (by rw [<- hv];exact hg2)
   ·rw [hv] at hg2
    injection hg2 with hg2
    exact .inr (by omega))
  have e1:(names.map fun n=>(ao n).length).set q ((ao names[q]).length+1)=names.map fun n=>(ao' n).length:=by
   refine List.ext_getElem (by simp) fun r h1 h2=> ?_
   rw [List.length_map] at h2;rw [List.getElem_set,List.getElem_map,List.getElem_map,has];by_cases e:q=r
   ·subst e;rw [if_pos rfl,if_pos rfl];simp
   ·rw [if_neg e,if_neg (hne r h2 (fun e2=>e e2.symm))]
  have e2:(names.map fun n=>qd3 (ao n)).set q (qd3 (ao names[q])++[.int .i64 (i:Int)])=names.map fun n=>qd3 (ao' n):=by
   refine List.ext_getElem (by simp) fun r h1 h2=> ?_
   rw [List.length_map] at h2;rw [List.getElem_set,List.getElem_map,List.getElem_map,has];by_cases e:q=r
   ·subst e;rw [if_pos rfl,if_pos rfl];simp [qd3,qaa,qcE]
   ·rw [if_neg e,if_neg (hne r h2 (fun e2=>e e2.symm))]
  rw [e1,e2] at hm;exact hm.other hG (by decide) v'
end
theorem qeD.keep {w w':World} {base B:Nat} {l:List Nm} {vs:List Nat} (h:qeD w base B l vs) (hk:∀ (k:Nat) (cs:Array Value) (t:TypeId),w.heap[k]?=some (.cells cs t (0,0))->(t=229∨t=232)->w'.heap[k]?=some (.cells cs t (0,0))):qeD w' base B l vs:=by
 obtain ⟨h1,h2,v,h3,h4⟩:=h;refine ⟨h1,h2,v,hk _ _ _ h3 (.inl rfl),qas h4 fun g hg=> ?_⟩;rcases h4.2 with ⟨h0,_⟩|⟨g',cap,cur,h0,_,hh,_⟩
 ·rw [h0] at hg;cases hg
 ·rw [h0] at hg
  simp only [Value.ownBlock,Option.some.injEq] at hg;subst hg;rw [hk _ _ _ hh (.inr rfl),hh]
theorem qeD.dictR {w:World} {base B:Nat} {l:List Nm} {vs:List Nat} (h:qeD w base B l vs):qbQ w B 0 l vs:=by
 have hr:=h.read;obtain ⟨h1,h2,v,h3,h4⟩:=h;exact ⟨(Array.getElem?_eq_some_iff.1 h3).1,h2,hr⟩
theorem quf (n:Nat) (w:World) (hn:n<=1000000):Calls Tryz.prog 211 #[.int .u64 1,.int .u64 (n:Int)] w fun e w'=>e= .returned (.tuple #[.int .u64 0,.int .u64 (n:Int)])/\w'=w:=by
 have b1:bits BinOp.and IntKind.u64 1 4294967295=1:=by decide
 have b0:bits BinOp.and IntKind.u64 0 4294967295=0:=by decide
 have b2:bits BinOp.and IntKind.u64 (n:Int) 4294967295=(n:Int):=by
  rw [show (4294967295:Int)=2^32-1 by decide,bits_mask .u64 64 (by decide) wraps_u64 32 (by decide) (n:Int) (by omega) (by omega)];omega
 have b3:(n:Int)/4294967296=0:=by omega
 go_enter Tryz.func211,Tryz.ntmps211
 go_wp2;go_ret2;exact ⟨rfl,rfl⟩
theorem qug (n:Nat) (w:World) (hn:n<=1000000):Calls Tryz.prog 172 #[.int .u64 1,.int .u64 (n:Int)] w fun e w'=>e= .returned (.tuple #[.int .u64 0,.int .u64 (n:Int)])/\w'=w:=by
 go_enter Tryz.func172,Tryz.ntmps172
 go_wp2_with (go_at_call 211;refine (quf n _ hn).mono ?_;rintro e w1 ⟨rfl,rfl⟩)
 go_ret2;exact ⟨rfl,rfl⟩
def qdj (k n:Nat):List Value:=List.replicate k (.int .i64 (-1))++List.replicate (n-k) (.int .i64 0)
theorem qnA {k n:Nat} (h:k<=n):(qdj k n).length=n:=by simp [qdj];omega
theorem qnB {k n:Nat} (h:k<=n) (j:Nat) (hj:k+j<=n):splice (qdj k n) k (List.replicate j (.int .i64 (-1)))=qdj (k+j) n:=by
 unfold splice qdj;rw [List.length_replicate,List.take_append_of_le_length (by simp),List.take_of_length_le (by simp),List.drop_append,List.drop_of_length_le (by simp),List.length_replicate,List.drop_replicate,List.nil_append,<- List.append_assoc,List.replicate_append_replicate];congr 2;omega
theorem quh (n:Nat):qdj 0 n=List.replicate n (.int .i64 0):=by simp [qdj]
theorem qui (n:Nat):qdj n n=qaa (List.replicate n (-1)):=by simp [qdj,qaa]
def qhA (n k:Nat) (w:World) (v:Value) (wr:World):Prop:=∃ g,v= .slice (some ⟨g,0,none⟩) n n/\w.heap.size<=g/\wr.heap[g]?=some (.cells (qdj k n).toArray 3 (0,0))/\Below w.heap.size w wr
theorem qhA.own {n:Nat} {w wr:World} {v:Value} (h:qhA n n w v wr) (hn:n<=maxLen):wr.ownsRow w.heap.size 3 1 v n (qaa (List.replicate n (-1))):=by
 obtain ⟨g,rfl,hg,hh,_⟩:=h;refine ⟨by simp [qaa],.inr ⟨g,n,_,rfl,hg,hh,Nat.le_refl _,hn,by simp [qdj],?_⟩⟩;rw [qui];simp [qaa]
def qnC (n:Nat) (w:World) (v7 v8:Value) (wr:World):Prop:=∃ k:Nat,v8= .int .i64 (k:Int)/\k<=n/\(0<n->0<k)/\qhA n k w v7 wr
theorem quj (A R:Option Addr) (r n:Nat) (w:World) (hR:R=some ⟨r,0,none⟩) (hr:r<w.heap.size) (hc:w.cell? ⟨r,0,none⟩=some (.int .i64 (-1))) (hn:n<=1000000):
  Calls Tryz.prog 131 #[.slice R 1 1,.int .i64 (n:Int)] w fun e w'=>(∃ v,e= .returned v/\w'.ownsRow w.heap.size 3 1 v n (qaa (List.replicate n (-1))))/\Below w.heap.size w w':=by
 obtain ⟨i0,hi0,hz0,hz1,hz2⟩:=info_parts qdr;subst hR;obtain ⟨w1,hrun,hown1,hgrow1⟩:=run_make_full (P:=Tryz.prog) w w.heap.size 23 3 i0 _ 1 Tryz.underlying23 hi0 hz0 hz1 .i64 .i64 n (by rw [hz2];omega) (by unfold maxLen;omega) (Nat.le_refl _);have hb1:Below w.heap.size w w1:=(Below.refl _ w).grown hgrow1 (Nat.le_refl _) (fun k hk=>by cases hk);have c1:=(hb1.cell (p:=⟨r,0,none⟩) hr).trans hc;have hg1:w1.heap[w.heap.size]?=some (.cells (qdj 0 n).toArray 3 (0,0)):=by
  rcases hown1.2 with ⟨h,_⟩|⟨g,cap,cur,h,_,hh,_,_,hcs,htk⟩
  ·cases h
  ·cases h
   rw [hh,quh];rw [List.take_of_length_le (by simp;omega),show (Value.int .i64 0).cells=#[.int .i64 0] from rfl,toList_madeCells_one,Nat.mul_one] at htk
   rw [<- htk]
 have e0:decide ((n:Int)<0)=false:=decide_eq_false (by omega);have e1:decide ((9223372036854775807:Int)<(n:Int))=false:=decide_eq_false (by omega);have hsz:(Tryz.prog.info? 3).map (·.size)=some 1:=by rw [hi0];simp [hz1]
 obtain ⟨m,hm⟩:∃ m,m=min 1 n:=⟨_,rfl⟩;have hmN:m=Nat.min 1 n:=hm;have hm1:m<=1:=by omega
 have hmn:m<=n:=by omega
 have hm0:0<n->0<m:=fun h=>by omega
 have HMN:=qH hmN;clear hmN hm;have hcs1:∀ j v,(List.replicate m (Value.int .i64 (-1)))[j]?=some v->w1.cell? ((⟨r,0,none⟩:Addr).add j)=some v:=fun j v hv=>by
  have hj:j=0:=by
   have h2:=(List.getElem?_eq_some_iff.1 hv).1;rw [List.length_replicate] at h2;omega
  subst hj;have :v= .int .i64 (-1):=by
   have :=List.mem_of_getElem? hv;exact (List.mem_replicate.1 this).2
  subst this;exact c1
 have HG:=qH hg1;have HB1:=qH hb1;have HS:=qH hcs1;obtain ⟨g,hgs⟩:∃ g,g=w.heap.size:=⟨_,rfl⟩;rw [<- hgs] at hrun HG HB1;have HGS:=qH hgs;clear hg1 hb1 hcs1 hown1 hgrow1 hc hgs c1
 go_enter Tryz.func131,Tryz.ntmps131
 go_wp2_with (first
  |(go_at_call 172;refine (qug n _ hn).mono ?_;rintro e w2 ⟨rfl,h2⟩;obtain rfl:w=w2:=h2.symm)
  |(show wpList _ _ _ (⟨some 33,_,_,_,_,_⟩::_) _ _;refine wpList_copy_splice rfl (.tmp 31) (.tmp 32) 23 23 rfl 3 Tryz.underlying23 hsz (some ⟨g,0,none⟩) (some ⟨r,0,none⟩) n n 1 1 rfl rfl g 0 (qdj 0 n) 3 HG.out (List.replicate m (.int .i64 (-1))) (by rw [List.length_replicate];exact HMN.out) (fun _=>⟨rfl,⟨r,0,none⟩,rfl,HS.out⟩) (by rw [qnA (Nat.zero_le _),List.length_replicate];omega) (fun v hv=>by rw [(List.mem_replicate.1 hv).2];rfl) g w HB1.out (Nat.le_refl _) ?_;intro w3 hw3 hb3;rw [qnB (Nat.zero_le _) _ (by omega),Nat.zero_add] at hw3))
 have hst:qnC n w (.slice (some ⟨g,0,none⟩) n n) (.int .i64 (m:Int)) w3:=⟨m,rfl,hmn,hm0,g,rfl,by rw [HGS.out];exact Nat.le_refl _,hw3.out,hb3.mono (by rw [HGS.out];exact Nat.le_refl _)⟩;have HST:=qH hst;clear hst hw3 hb3 hrun HG HB1 HS hm0 hm1 hmn HMN e1 e0
 go_loopw [8] (fun v8 wr=>qnC n w (.slice (some ⟨g,0,none⟩) n n) v8 wr) (fun v8 _=>n-(intOf v8).toNat)
 case atStart=>exact HST.out
 case round=>
  clear HST;obtain ⟨k,rfl,hk,hk0,g',hv,hgb,hh,hbw⟩:=hrel;simp only [Value.slice.injEq,Option.some.injEq,Addr.mk.injEq,and_true] at hv;obtain rfl:g=g':=hv;by_cases hlt:k<n
  ·have hkp:=hk0 (by omega)
   obtain ⟨j,hj⟩:∃ j,j=min k (n-k):=⟨_,rfl⟩;have hjN:j=Nat.min k (n-k):=hj;have hj1:j<=k:=by omega
   have hj2:k+j<=n:=by omega
   have hj0:0<j:=by omega
   have HJ:=qH hjN;clear hj hjN;have hsrc:∀ i v,(List.replicate j (Value.int .i64 (-1)))[i]?=some v->wr.cell? ((⟨g,0,none⟩:Addr).add i)=some v:=fun i v hv=>by
    have h2:=(List.getElem?_eq_some_iff.1 hv).1;rw [List.length_replicate] at h2;have h3:=(List.mem_replicate.1 (List.mem_of_getElem? hv)).2;subst h3;rw [Addr.add_lit,cell_of_row _ _ _ _ _ _ hh];simp only [qdj,List.getElem?_toArray];rw [Nat.zero_add,List.getElem?_append_left (by simp;omega),List.getElem?_replicate,if_pos (by omega)]
   have HS:=qH hsrc;have HH:=qH hh;have HB:=qH hbw;have HGB:=qH hgb;clear hsrc hh hbw hgb hk0;have hnk:¬ n=k:=by omega
   go_upto_region 9 with fail
   go_region_law (show (if Region.wanted ⟨some 45,_,_,_,_,_⟩ _=true then _ else _);refine step_copy_splice (by rfl) (.tmp 41) (.tmp 44) 23 23 (by rfl) 3 Tryz.underlying23 hsz (some ⟨g,k,none⟩) (some ⟨g,0,none⟩) (n-k) (n-k) k n (by simp [Act.eval,Act.put]) (by simp [Act.eval,Act.put]) g k (qdj k n) 3 HH.out (List.replicate j (.int .i64 (-1))) (by rw [List.length_replicate];exact HJ.out) (fun _=>⟨rfl,⟨g,0,none⟩,rfl,HS.out⟩) (by rw [qnA hk,List.length_replicate];omega) (fun v hv=>by rw [(List.mem_replicate.1 hv).2];rfl) w.heap.size w HB.out.drew HGB.out ?_;intro w4 hw4 hb4;rw [qnB hk _ hj2] at hw4;rw [List.length_replicate])
   all_goals
    have hwr:IntKind.i64.wrap ((k:Int)+(j:Int))=((k+j:Nat):Int):=by rw [IntKind.wrap_i64];omega
    simp only [Act.put,zA,zB,zC,zD,zE,zF,hwr];go_roundw
    case rel=>exact ⟨_,_,_,_,_,_,_,_,_,_,_,_,_,_,⟨k+j,rfl,hj2,fun _=>by omega,g,rfl,HGB.out,hw4.out,hb4⟩,rfl⟩
    case measure=>simp [intOf];omega
  ·have hkn:k=n:=by omega
   subst hkn;have HFIN:=qH (show (∃ v,Ending.returned (.slice (some ⟨g,0,none⟩) k k)= .returned v/\wr.ownsRow w.heap.size 3 1 v k (qaa (List.replicate k (-1))))/\Below w.heap.size w wr from ⟨⟨_,rfl,qhA.own ⟨g,rfl,hgb,hh,hbw⟩ (by unfold maxLen;omega)⟩,hbw⟩)
   clear hgb hh hbw hk0;go_wp2;go_ret;exact HFIN.out
theorem qjH (a b c d:Int) (w:World):(Op.equalIn 10000 88 (.agg #[.int .i64 a,.int .i64 b]) (.agg #[.int .i64 c,.int .i64 d])).run Tryz.prog w= .ok (a==c&&b==d) w:=by
 have h:∀ k:Nat,(Op.equalIn (k+2) 88 (.agg #[.int .i64 a,.int .i64 b]) (.agg #[.int .i64 c,.int .i64 d])).run Tryz.prog w= .ok (a==c&&b==d) w:=fun k=>by
  simp only [Op.equalIn,part];simp [run_underlying Tryz.underlying88,Tryz.sizeOf3];rw [show List.range' 0 2=[0,1] from rfl]
  simp only [List.forIn_cons,List.forIn_nil];by_cases h1:a=c<;>by_cases h2:b=d<;>simp [h1,h2,run_underlying Tryz.underlying3,Tryz.sizeOf3,Tryz.isAgg3]
 exact h 9998
end Go.Proofs.YtpehcaidjlemiaaGreatDoor
