import Derived.Test.YtpehcaidjlemiaaGreatDoorMBZz
import Derived.Test.YtpehcaidjlemiaaGreatDoorMBQ12
import Derived.Test.YtpehcaidjlemiaaGreatDoorMBQ02
import Derived.Deep.RegionWith
import Derived.Test.YtpehcaidjlemiaaGreatDoorMBQ10
import Derived.Test.YtpehcaidjlemiaaGreatDoorMBQ06
import Derived.BigCall
import Derived.BigQuiet
import Derived.Deep.QuietTactic
import Derived.Test.YtpehcaidjlemiaaGreatDoorMBQ05
import Derived.Test.YtpehcaidjlemiaaGreatDoorMBQ07
import Derived.OneCell
import Derived.Laws.OwnMore
import Derived.Test.YtpehcaidjlemiaaGreatDoorMBQ08
import Derived.Lib.Hide
import Derived.BigRegion
set_option maxHeartbeats 2000000
set_option maxRecDepth 100000
set_option linter.unusedVariables false
namespace Go.Proofs.YtpehcaidjlemiaaGreatDoor
open Go Go.RowKit
open Plain (Wd WS Rep qgc qgW getW qga qfH qgS qgT)
def qdD (w:World) (B:Nat):Option Nat:=match w.heap[B]? with|some (.cells cs _ _)=>(cs.getD 1 undef).ownBlock|_=>none
structure qgJ (B:Nat) (w w':World):Prop where
 os:w'.os=w.os
 tape:w'.tape=w.tape
 output:w'.output=w.output
 size:w.heap.size<=w'.heap.size
 keep:∀ k,k<w.heap.size->k≠B->qdD w B≠some k->w'.heap[k]?=w.heap[k]?
 own:∀ g,qdD w' B=some g->qdD w B=some g∨w.heap.size<=g
theorem qgK {w:World} {B:Nat} {x v:Value} {t:TypeId} {fr:Nat × Nat} (h:w.heap[B]?=some (.cells #[x,v] t fr)):qdD w B=v.ownBlock:=by unfold qdD;rw [h];rfl
theorem qvz {w w':World} {B:Nat} (h:w'.heap[B]?=w.heap[B]?):qdD w' B=qdD w B:=by unfold qdD;rw [h]
theorem qbv.own {w:World} {base B n:Nat} {ws:List Wd} (h:qbv w base B n ws):∀ g,qdD w B=some g->base<=g/\g<w.heap.size:=by
 obtain ⟨_,v,hv,ho⟩:=h;intro g hg;rw [qgK hv] at hg;exact ho.lt g hg
theorem qgJ.below {w w':World} {base B n:Nat} {ws:List Wd} (h:qbv w base B n ws) (ht:qgJ B w w'):Below base w w':=by
 have hl:=h.lt;refine ⟨ht.os,ht.tape,ht.output,ht.size,fun k hk=>ht.keep k (by have :=h.1;omega) (by have :=h.1;omega) fun e=> ?_⟩;have :=(h.own k e).1;omega
theorem qoz {w:World} {B:Nat} {x y u:Value} {t:TypeId} (h:w.heap[B]?=some (.cells #[x,y] t (0,0))):(w.setCell ⟨B,1,none⟩ u).heap[B]?=some (.cells #[x,u] t (0,0)):=
 heap_setCell_same w B 1 #[x,y] t u h
theorem qoA {w w3:World} {base B n:Nat} {ws ws':List Wd} {v v':Value} {o:Obj} (hb:base<=B) (hv:w.heap[B]?=some (.cells #[.int .i64 n,v] 101 (0,0))) (ho:w.ownsRow base 104 2 v ws.length (qaC ws))
  (hgot:qhR (w.alloc o) base v ws' v' w3):
  qbv (w3.setCell ⟨B,1,none⟩ v') base B n ws'/\qgJ B w (w3.setCell ⟨B,1,none⟩ v')/\w3.cell? ⟨B,1,none⟩=some v/\w3.frozen? ⟨B,1,none⟩=false:=by
 obtain ⟨h1,h2,h3⟩:=hgot;have hlt:B<w.heap.size:=(Array.getElem?_eq_some_iff.1 hv).1;have hne:v.ownBlock≠some B:=qah ho hv (by decide);have hB3:w3.heap[B]?=some (.cells #[.int .i64 n,v] 101 (0,0)):=by
  rw [h2.block B (by simp;omega) (fun e=>hne e.symm),Below.heap_alloc _ _ _ hlt];exact hv
 obtain ⟨_,c2,_,f2⟩:=qeQ hB3;have hne3:v'.ownBlock≠some B:=qah h1 hB3 (by decide);have hB4:=qoz (u:=v') hB3;refine ⟨⟨hb,v',hB4,ownsRow_setCell_other h1 hne3 v'⟩,⟨h2.os,h2.tape,h2.output,?_,fun j hj e1 e2=> ?_,fun g hg=> ?_⟩,c2,f2⟩
 ·have :=h2.size
  simp [World.setCell] at this ⊢;omega
 ·rw [Below.heap_setCell _ _ _ _ e1,h2.block j (by simp;omega) (fun e=>e2 (by rw [qgK hv];exact e.symm)),Below.heap_alloc _ _ _ hj]
 ·rw [qgK hB4] at hg
  rcases h3 g hg with h4|h4
  ·exact .inl (by rw [qgK hv];exact h4)
  ·exact .inr (by simp at h4;omega)
def qcO (w:World) (A:Option Addr) (Ls:List (List En)):Prop:=∃ Ss:List Nat,Ss.length=Ls.length/\Row w w.heap.size A (qaY Ss)/\∀ i (h:i<Ls.length),qa4 w (Ss.getD i 0) (qac Ls[i])
def qdm (w:World) (A:Option Addr) (rs:List (List Bool)):Prop:=∃ Bs:List Nat,Bs.length=rs.length/\Row w w.heap.size A (qaY Bs)/\∀ i (h:i<rs.length),∃ base,qbj w base (Bs.getD i 0) rs[i]
section
variable {w w':World} {A:Option Addr} {Ls:List (List En)} {rs:List (List Bool)}
theorem qcO.below (h:qcO w A Ls) (hb:Below w.heap.size w w'):qcO w' A Ls:=by
 obtain ⟨Ss,h1,h2,h3⟩:=h;exact ⟨Ss,h1,(h2.below hb).more hb.size,fun i hi=>(h3 i hi).below hb⟩
theorem qdm.below (h:qdm w A rs) (hb:Below w.heap.size w w'):qdm w' A rs:=by
 obtain ⟨Bs,h1,h2,h3⟩:=h;exact ⟨Bs,h1,(h2.below hb).more hb.size,fun i hi=>by obtain ⟨base,h⟩:=h3 i hi;exact ⟨base,h.below hb⟩⟩
theorem qcO.at_ (h:qcO w A Ls) {i:Nat} (hi:i<Ls.length):∃ b off S,A=some ⟨b,off,none⟩/\b<w.heap.size/\w.cell? ⟨b,off+i,none⟩=some (.pointer (some ⟨S,0,none⟩))/\qa4 w S (qac Ls[i]):=by
 obtain ⟨Ss,h1,h2,h3⟩:=h;have hs:i<Ss.length:=by omega
 obtain ⟨b,off,rfl,hb,hc⟩:=qht h2 hs;have h4:=h3 i hi;rw [List.getD_eq_getElem?_getD,List.getElem?_eq_getElem hs] at h4;exact ⟨b,off,Ss[i],rfl,hb,hc,h4⟩
theorem qdm.at_ (h:qdm w A rs) {i:Nat} (hi:i<rs.length):∃ b off B base,A=some ⟨b,off,none⟩/\b<w.heap.size/\w.cell? ⟨b,off+i,none⟩=some (.pointer (some ⟨B,0,none⟩))/\qbj w base B rs[i]:=by
 obtain ⟨Bs,h1,h2,h3⟩:=h;have hs:i<Bs.length:=by omega
 obtain ⟨b,off,rfl,hb,hc⟩:=qht h2 hs;obtain ⟨base,h4⟩:=h3 i hi;rw [List.getD_eq_getElem?_getD,List.getElem?_eq_getElem hs] at h4;exact ⟨b,off,Bs[i],base,rfl,hb,hc,h4⟩
end
theorem qfy:∀ {Ls:List (List En)} {rs:List (List Bool)},qbl Ls rs↔Ls.length=rs.length/\∀ i (h1:i<Ls.length) (h2:i<rs.length),rs[i].length=Ls[i].length
 |[],[]=>⟨fun _=>⟨rfl,fun i h=>by simp at h⟩,fun _=> .nil⟩
 |[],r::rs=>⟨fun h=>(by cases h),fun h=>by simp at h⟩
 |L::Ls,[]=>⟨fun h=>(by cases h),fun h=>by simp at h⟩
 |L::Ls,r::rs=>by
  constructor
  ·intro h
   cases h with
   |cons h hs=>
    obtain ⟨h1,h2⟩:=qfy.1 hs;refine ⟨by simp [h1],fun i=> ?_⟩;cases i with
    |zero=>intro _ _;exact h
    |succ i=>intro g1 g2;exact h2 i (by simpa using g1) (by simpa using g2)
  ·rintro ⟨h1,h2⟩
   exact .cons (h2 0 (by simp) (by simp)) (qfy.2 ⟨by simpa using h1,fun i g1 g2=>h2 (i+1) (by simpa using g1) (by simpa using g2)⟩)
theorem qoB (L:List En):(qac L).ids.length=L.length:=by simp [qac]
def qoC (Ls:List (List En)) (rs:List (List Bool)) (w:World) (idx:Value) (wr:World):Prop:=∃ k:Nat,k<=Ls.length/\idx= .int .i64 (k:Int)/\(∀ i (h1:i<Ls.length) (h2:i<rs.length),i<k->rs[i].length=Ls[i].length)/\Below w.heap.size w wr
theorem qvA (A A2:Option Addr) (m c m2 c2:Nat) (Ls:List (List En)) (rs:List (List Bool)) (w:World) (hS:qcO w A Ls) (hR:qdm w A2 rs) (hm:Ls.length=m) (hm2:rs.length=m2) (hmx:m<=1000000):
  Calls Tryz.prog 37 #[.slice A m c,.slice A2 m2 c2] w fun e w'=>∃ z:Bool,e= .returned (.bool z)/\(z=true↔qbl Ls rs)/\Below w.heap.size w w':=by
 have HS:=qH hS;have HR:=qH hR;have HM:=qH hm;have HM2:=qH hm2;clear hS hR hm hm2;by_cases hmm:m=m2
 ·subst hmm
  go_enter Tryz.func37,Tryz.ntmps37
  go_wp2
  go_loopw [5,6,14] (fun u5 u6 idx wr=>qoC Ls rs w idx wr) (fun _ _ idx _=>m-(intOf idx).toNat)
  case atStart=>exact ⟨0,Nat.zero_le _,rfl,fun i _ _ h=>by omega,Below.refl _ _⟩
  case round=>
   obtain ⟨k,hk,rfl,hall,hbw⟩:=hrel;rw [HM.out] at hk;have HALL:=qH hall;clear hall;by_cases hkm:k<m
   ·have hk1:k<Ls.length:=by rw [HM.out];exact hkm
    have hk2:k<rs.length:=by rw [HM2.out];exact hkm
    obtain ⟨b,off,S,rfl,hb,q1,hseg⟩:=((HS.out).below hbw).at_ hk1;obtain ⟨b2,off2,B,base,rfl,hb2,q2,hset⟩:=((HR.out).below hbw).at_ hk2;have C1:=qH (qq5 base B rs[k] wr hset);have C2:=qH (qjT hseg);rw [qoB] at C2;obtain ⟨x,hx⟩:∃ x,x=rs[k].length:=⟨_,rfl⟩;obtain ⟨y,hy⟩:∃ y,y=Ls[k].length:=⟨_,rfl⟩;rw [<- hx] at C1;rw [<- hy] at C2;have HX:=qH hx;have HY:=qH hy;have HBW:=qH hbw;have hi1:(k:Int)<(m:Int):=by omega
    clear hx hy hset hseg hbw;by_cases hxy:x=y
    ·have hfin:∀ wx,Below wr.heap.size wr wx->qoC Ls rs w (.int .i64 ((k:Int)+1)) wx:=fun wx hwx=>⟨k+1,by rw [HM.out];omega,rfl,fun i h1 h2 hik=>by
      by_cases e:i=k
      ·subst e;rw [<- HX.out,<- HY.out,hxy]
      ·exact HALL.out i h1 h2 (by omega),(HBW.out).trans (hwx.mono (HBW.out).size)⟩
     have HFIN:=qH hfin;subst hxy;clear hfin
     go_wp2_with (first
      |(go_at_call 80;refine (C1.out).mono ?_;rintro e w5 ⟨rfl,h5⟩;obtain rfl:wr=w5:=h5)
      |(go_at_call 20;refine (C2.out).mono ?_;rintro e w6 ⟨rfl,hb6⟩))
     go_roundw
     case rel=>exact HFIN.out _ hb6
     case measure=>simp [intOf];omega
    ·have hno:¬ qbl Ls rs:=fun h=>hxy (by rw [HX.out,HY.out];exact (qfy.1 h).2 k hk1 hk2)
     have HNO:=qH hno;have d1:((x:Int)==(y:Int))=false:=beq_eq_false_iff_ne.2 (by omega);clear hno hxy
     go_wp2_with (first
      |(go_at_call 80;refine (C1.out).mono ?_;rintro e w5 ⟨rfl,h5⟩;obtain rfl:wr=w5:=h5)
      |(go_at_call 20;refine (C2.out).mono ?_;rintro e w6 ⟨rfl,hb6⟩))
     go_ret;exact ⟨false,rfl,⟨fun h=>(by cases h),fun h=>absurd h HNO.out⟩,(HBW.out).trans (hb6.mono (HBW.out).size)⟩
   ·have hyes:qbl Ls rs:=qfy.2 ⟨by rw [HM.out,HM2.out],fun i h1 h2=>HALL.out i h1 h2 (by have :=HM.out;omega)⟩
    have HYES:=qH hyes;clear hyes;go_wp2;go_ret;exact ⟨true,rfl,⟨fun _=>HYES.out,fun _=>rfl⟩,hbw⟩
 ·have hno:¬ qbl Ls rs:=fun h=>hmm (by rw [<- HM.out,<- HM2.out];exact (qfy.1 h).1)
  have HNO:=qH hno;have d1:((m:Int)==(m2:Int))=false:=beq_eq_false_iff_ne.2 (by omega);clear hno hmm
  go_enter Tryz.func37,Tryz.ntmps37
  go_wp2;go_ret;exact ⟨false,rfl,⟨fun h=>(by cases h),fun h=>absurd h HNO.out⟩,Below.refl _ _⟩
section
variable {α:Type} (key:α->Int)
def qbK (l:List α) (n:Nat):Prop:=∀ i (hi:i<l.length),0<i->i<n->key (l[(i-1)/2]'(by omega))<=key l[i]
structure qel (l:List α) (j:Nat):Prop where
 but:∀ i (hi:i<l.length),0<i->i≠j->key (l[(i-1)/2]'(by omega))<=key l[i]
 kids:∀ c (hc:c<l.length) (_:0<c),∀ (hp:(c-1)/2=j) (h0:0<j),key (l[(j-1)/2]'(by omega))<=key l[c]
structure qj6 (l:List α) (j n:Nat):Prop where
 but:∀ i (hi:i<l.length),0<i->i<n->(i-1)/2≠j->key (l[(i-1)/2]'(by omega))<=key l[i]
 kids:∀ c (hc:c<l.length),0<c->c<n->∀ (hp:(c-1)/2=j) (h0:0<j),key (l[(j-1)/2]'(by omega))<=key l[c]
def qck (l:List α) (i j:Nat) (hi:i<l.length) (hj:j<l.length):List α:=(l.set i l[j]).set j l[i]
variable {key} {l:List α} {i j n:Nat}
theorem qem (hi:i<l.length) (hj:j<l.length):(qck l i j hi hj).length=l.length:=by simp [qck]
theorem qgL (hi:i<l.length) (hj:j<l.length):(qck l i j hi hj).Perm l:=List.set_set_perm hi hj
theorem qd5 (hi:i<l.length) (hj:j<l.length) {k:Nat} (hk:k<(qck l i j hi hj).length):
  (qck l i j hi hj)[k]=if k=j then l[i] else if k=i then l[j] else l[k]'(by rw [qem] at hk;exact hk):=by
 have hsw:(qck l i j hi hj)[k]=((l.set i l[j]).set j l[i])[k]'(by simpa [qck] using hk):=rfl;rw [hsw,List.getElem_set];by_cases h:j=k
 ·rw [if_pos h,if_pos h.symm]
 ·rw [if_neg h,if_neg (fun e=>h e.symm),List.getElem_set]
  by_cases h2:i=k
  ·rw [if_pos h2,if_pos h2.symm]
  ·rw [if_neg h2,if_neg (fun e=>h2 e.symm)]
theorem qel.top (h:qel key l 0):qbK key l l.length:=fun i hi h0 _=>h.but i hi h0 (by omega)
theorem qel.stop (h:qel key l j) (hj:j<l.length) (hs:¬ key l[j]<key (l[(j-1)/2]'(by omega))):qbK key l l.length:=fun i hi h0 _=>by
 by_cases e:i=j
 ·subst e;omega
 ·exact h.but i hi h0 e
theorem qel.step (h:qel key l j) (hj:j<l.length) (h0:0<j) (hs:key l[j]<key (l[(j-1)/2]'(by omega))):qel key (qck l ((j-1)/2) j (by omega) hj) ((j-1)/2):=by
 constructor
 ·intro i hi hi0 hne
  rw [qd5,qd5];have hil:i<l.length:=by rwa [qem] at hi
  by_cases e:i=j
  ·subst e
   rw [if_pos rfl,if_neg (by omega),if_pos rfl];omega
  ·rw [if_neg e,if_neg hne]
   by_cases e2:(i-1)/2=j
   ·rw [if_pos e2]
    exact h.kids i hil hi0 e2 h0
   ·rw [if_neg e2]
    by_cases e3:(i-1)/2=(j-1)/2
    ·rw [if_pos e3]
     have :=h.but i hil hi0 e;simp only [e3] at this;omega
    ·rw [if_neg e3]
     exact h.but i hil hi0 e
 ·intro c hc hc0 hp h1
  rw [qd5,qd5];have hcl:c<l.length:=by rwa [qem] at hc
  have hpp:=h.but ((j-1)/2) (by omega) h1 (by omega);rw [if_neg (by omega),if_neg (by omega)];by_cases e:c=j
  ·rw [if_pos e];exact hpp
  ·rw [if_neg e,if_neg (by omega)]
   have :=h.but c hcl hc0 e;simp only [hp] at this;omega
theorem qbK.least (h:qbK key l n) (hn:n<=l.length):∀ i (hi:i<n),key (l[0]'(by omega))<=key (l[i]'(by omega)):=by
 intro i
 induction i using Nat.strongRecOn with
 |_ i ih=>
  intro hi;by_cases e:i=0
  ·subst e;omega
  ·have h1:=ih ((i-1)/2) (by omega) (by omega)
   have h2:=h i (by omega) (by omega) hi;omega
theorem qbK.put (h:qbK key l l.length) (x:α):qel key (l++[x]) l.length:=by
 constructor
 ·intro i hi h0 hne
  have hil:i<l.length:=by simp at hi;omega
  rw [List.getElem_append_left (by omega),List.getElem_append_left hil];exact h i hil h0 hil
 ·intro c hc h0 hp _
  simp at hc;omega
theorem qbK.pop (h:qbK key l l.length) (hl:0<l.length):qj6 key (qck l 0 (l.length-1) hl (by omega)) 0 (l.length-1):=by
 constructor
 ·intro i hi h0 hin hne
  have hil:i<l.length:=by rwa [qem] at hi
  rw [qd5,qd5,if_neg (by omega),if_neg hne,if_neg (by omega),if_neg (by omega)];exact h i hil h0 hil
 ·intro c _ _ _ _ h0
  omega
end
abbrev Hd:=Int × Nat × Nat
structure qcX (l:List (List Int)) (a:List Nat) (H:List Hd):Prop where
 ins:∀ x∈H,InO l x.2/\x.2.2=a.getD x.2.1 0/\x.1=qaK l x.2
 all:∀ i,InO l (i,a.getD i 0)->∃ x∈H,x.2.1=i
 once:(H.map (·.2.1)).Nodup
theorem qcX.perm {l:List (List Int)} {a:List Nat} {H K:List Hd} (h:qcX l a H) (hp:K.Perm H):qcX l a K:=
 ⟨fun x hx=>h.ins x (hp.mem_iff.1 hx),fun i hi=>by obtain ⟨x,hx,e⟩:=h.all i hi;exact ⟨x,hp.mem_iff.2 hx,e⟩,(hp.map _).nodup_iff.2 h.once⟩
theorem qgM {a:List Nat} {b:Nat} (hb:b<a.length) (v i:Nat):(a.set b v).getD i 0=if i=b then v else a.getD i 0:=by
 rw [List.getD_eq_getElem?_getD,List.getElem?_set];by_cases e:b=i
 ·subst e;simp [hb]
 ·rw [if_neg e,if_neg (fun e2=>e e2.symm),List.getD_eq_getElem?_getD (l:=a) (i:=i)]
theorem qcX.rest {l:List (List Int)} {a:List Nat} {x:Hd} {R:List Hd} (h:qcX l a (x::R)):∀ y∈R,y.2.1≠x.2.1:=fun y hy e=>by
 have :=h.once;rw [List.map_cons,List.nodup_cons] at this;exact this.1 (List.mem_map.2 ⟨y,hy,e⟩)
theorem qcX.last {l:List (List Int)} {a:List Nat} {x:Hd} {R:List Hd} (hl:a.length=l.length) (h:qcX l a (x::R)) (hn:¬ InO l (x.2.1,x.2.2+1)):qcX l (a.set x.2.1 (x.2.2+1)) R:=by
 have hx:=h.ins x (List.mem_cons_self ..);have hb:x.2.1<a.length:=by rw [hl];exact hx.1.1
 have hr:=h.rest;refine ⟨fun y hy=> ?_,fun i hi=> ?_,?_⟩
 ·obtain ⟨h1,h2,h3⟩:=h.ins y (List.mem_cons_of_mem _ hy)
  refine ⟨h1,?_,h3⟩;rw [qgM hb,if_neg (hr y hy)];exact h2
 ·rw [qgM hb] at hi
  split at hi
  ·rename_i e
   subst e;exact absurd hi hn
  ·rename_i e
   obtain ⟨y,hy,e2⟩:=h.all i hi;rcases List.mem_cons.1 hy with rfl|hy
   ·exact absurd e2.symm e
   ·exact ⟨y,hy,e2⟩
 ·have :=h.once
  rw [List.map_cons,List.nodup_cons] at this;exact this.2
theorem qcX.next {l:List (List Int)} {a:List Nat} {x:Hd} {R:List Hd} (hl:a.length=l.length) (h:qcX l a (x::R)) (hn:InO l (x.2.1,x.2.2+1)):qcX l (a.set x.2.1 (x.2.2+1)) ((qaK l (x.2.1,x.2.2+1),x.2.1,x.2.2+1)::R):=by
 have hx:=h.ins x (List.mem_cons_self ..);have hb:x.2.1<a.length:=by rw [hl];exact hx.1.1
 have hr:=h.rest;refine ⟨fun y hy=> ?_,fun i hi=> ?_,?_⟩
 ·rcases List.mem_cons.1 hy with rfl|hy
  ·exact ⟨hn,by simp only;rw [qgM hb,if_pos rfl],rfl⟩
  ·obtain ⟨h1,h2,h3⟩:=h.ins y (List.mem_cons_of_mem _ hy)
   refine ⟨h1,?_,h3⟩;rw [qgM hb,if_neg (hr y hy)];exact h2
 ·rw [qgM hb] at hi
  split at hi
  ·rename_i e
   subst e;exact ⟨_,List.mem_cons_self ..,rfl⟩
  ·rename_i e
   obtain ⟨y,hy,e2⟩:=h.all i hi;rcases List.mem_cons.1 hy with rfl|hy
   ·exact absurd e2.symm e
   ·exact ⟨y,List.mem_cons_of_mem _ hy,e2⟩
 ·have :=h.once
  rw [List.map_cons] at this ⊢;exact this
theorem qcX.none {l:List (List Int)} {a:List Nat} {o:List Pl} {last:Int} (h:qcX l a []) (hm:qdQ l a o last):qcd l o:=
 hm.done fun i hi=>by
  apply Classical.byContradiction;intro hc;obtain ⟨x,hx,_⟩:=h.all i (qdf.2 ⟨hi,by omega⟩);simp at hx
theorem qcX.least {l:List (List Int)} {a:List Nat} {x:Hd} {R:List Hd} (h:qcX l a (x::R)) (hm:∀ y∈R,x.1<=y.1):InO l (x.2.1,a.getD x.2.1 0)/\∀ i,InO l (i,a.getD i 0)->qaK l (x.2.1,a.getD x.2.1 0)<=qaK l (i,a.getD i 0):=by
 obtain ⟨h1,h2,h3⟩:=h.ins x (List.mem_cons_self ..);rw [<- h2];refine ⟨h1,fun i hi=> ?_⟩;obtain ⟨y,hy,rfl⟩:=h.all i hi;obtain ⟨g1,g2,g3⟩:=h.ins y hy;rw [<- g2,<- show x.1=qaK l (x.2.1,x.2.2) from h3,<- show y.1=qaK l (y.2.1,y.2.2) from g3]
 rcases List.mem_cons.1 hy with rfl|hy
 ·exact Int.le_refl _
 ·exact hm y hy
structure qd6 (l:List (List Int)) (k:Nat) (H:List Hd):Prop where
 ins:∀ x∈H,InO l x.2/\x.2.2=0/\x.1=qaK l x.2/\x.2.1<k
 all:∀ i,i<k->InO l (i,0)->∃ x∈H,x.2.1=i
 once:(H.map (·.2.1)).Nodup
theorem qvB (l:List (List Int)):qd6 l 0 []:=⟨fun x h=>by simp at h,fun i h=>by omega,List.Pairwise.nil⟩
theorem qd6.skip {l:List (List Int)} {k:Nat} {H:List Hd} (h:qd6 l k H) (hn:¬ InO l (k,0)):qd6 l (k+1) H:=
 ⟨fun x hx=>by obtain ⟨h1,h2,h3,h4⟩:=h.ins x hx;exact ⟨h1,h2,h3,by omega⟩,fun i hi hi2=>by
  by_cases e:i=k
  ·subst e;exact absurd hi2 hn
  ·exact h.all i (by omega) hi2,h.once⟩
theorem qd6.put {l:List (List Int)} {k:Nat} {H:List Hd} (h:qd6 l k H) (hn:InO l (k,0)):qd6 l (k+1) (H++[(qaK l (k,0),k,0)]):=by
 refine ⟨fun x hx=> ?_,fun i hi hi2=> ?_,?_⟩
 ·rcases List.mem_append.1 hx with hx|hx
  ·obtain ⟨h1,h2,h3,h4⟩:=h.ins x hx;exact ⟨h1,h2,h3,by omega⟩
  ·rw [List.mem_singleton.1 hx]
   exact ⟨hn,rfl,rfl,by simp⟩
 ·by_cases e:i=k
  ·subst e;exact ⟨_,List.mem_append_right _ (List.mem_singleton.2 rfl),rfl⟩
  ·obtain ⟨x,hx,e2⟩:=h.all i (by omega) hi2
   exact ⟨x,List.mem_append_left _ hx,e2⟩
 ·rw [List.map_append,List.nodup_append]
  refine ⟨h.once,by simp,fun u hu v hv e=> ?_⟩;obtain ⟨x,hx,rfl⟩:=List.mem_map.1 hu;simp at hv;have :=(h.ins x hx).2.2.2;omega
theorem qd6.start {l:List (List Int)} {H:List Hd} (h:qd6 l l.length H):qcX l (List.replicate l.length 0) H:=by
 have e:∀ i,(List.replicate l.length 0).getD i 0=0:=fun i=>by
  rw [List.getD_eq_getElem?_getD,List.getElem?_replicate];split<;>rfl
 exact ⟨fun x hx=>by obtain ⟨h1,h2,h3,h4⟩:=h.ins x hx;exact ⟨h1,by rw [e];exact h2,h3⟩,fun i hi=>by rw [e] at hi;exact h.all i hi.1 hi,h.once⟩
def hds:List Hd->List Value
 |[]=>[]
 |x::H=> .int .i64 x.1:: .int .i64 (x.2.1:Int):: .int .i64 (x.2.2:Int)::hds H
theorem qhS:∀ H:List Hd,(hds H).length=H.length*3
 |[]=>rfl
 |x::H=>by simp [hds,qhS H];omega
theorem qhT:∀ a b:List Hd,hds (a++b)=hds a++hds b
 |[],b=>rfl
 |x::a,b=>by simp [hds,qhT a b]
theorem qvC:∀ (H:List Hd) (k:Nat),hds (H.take k)=(hds H).take (k*3)
 |H,0=>by simp [hds]
 |[],k+1=>by simp [hds]
 |x::H,k+1=>by rw [show (k+1)*3=k*3+1+1+1 by omega];simp [hds,qvC H k]
theorem qoD:∀ {H:List Hd} {k:Nat} (hk:k<H.length),(hds H)[k*3]?=some (.int .i64 H[k].1)/\(hds H)[k*3+1]?=some (.int .i64 (H[k].2.1:Int))/\(hds H)[k*3+2]?=some (.int .i64 (H[k].2.2:Int))
 |[],k,hk=>by simp at hk
 |x::H,0,hk=>⟨rfl,rfl,rfl⟩
 |x::H,k+1,hk=>by
  have :=qoD (H:=H) (k:=k) (by simpa using hk);rw [show (k+1)*3=k*3+1+1+1 by omega];simpa [hds] using this
theorem qoE:∀ (H:List Hd) (k:Nat) (x:Hd),hds (H.set k x)=(((hds H).set (k*3) (.int .i64 x.1)).set (k*3+1) (.int .i64 (x.2.1:Int))).set (k*3+2) (.int .i64 (x.2.2:Int))
 |[],k,x=>by simp [hds]
 |y::H,0,x=>by simp [hds]
 |y::H,k+1,x=>by
  rw [zF,hds,hds,qoE H k x,show (k+1)*3=k*3+1+1+1 by omega];simp
def qd7 (t:TypeId):Prop:=t=170∨t=165
structure qaF (base:Nat) (w w':World):Prop where
 below:Below base w w'
 keep:∀ (k:Nat) (o:Obj),w.heap[k]?=some o->(∀ cs t fr,o= .cells cs t fr->¬ qd7 t)->w'.heap[k]?=some o
section
variable {base:Nat} {w w' w'':World}
theorem qaF.refl (base:Nat) (w:World):qaF base w w:=⟨Below.refl _ _,fun _ _ h _=>h⟩
theorem qaF.trans (h:qaF base w w') (k:qaF base w' w''):qaF base w w'':=⟨h.below.trans k.below,fun i o hi ho=>k.keep i o (h.keep i o hi ho) ho⟩
theorem qaF.of_below (h:Below w.heap.size w w') (hb:base<=w.heap.size):qaF base w w':=
 ⟨h.mono hb,fun k o hk _=>by rw [h.block k (Array.getElem?_eq_some_iff.1 hk).1,hk]⟩
theorem qaF.setCell {B i:Nat} {cs:Array Value} {t:TypeId} {fr:Nat × Nat} (h:w.heap[B]?=some (.cells cs t fr)) (ht:qd7 t) (hb:base<=B) (v:Value):qaF base w (w.setCell ⟨B,i,none⟩ v):=
  ⟨(Below.refl base w).setCell (p := ⟨B, i, none⟩) hb v, fun k o hk ho => by
    by_cases e:k=B
    · subst e
      rw [h] at hk;injection hk with hk
      exact absurd ht (ho _ _ _ hk.symm)
    · rw [Below.heap_setCell _ _ _ _ e,hk]⟩
theorem qaF.grown {row:Option Nat} (hg:w.grownBy w' row) (hr:∀ k,row=some k->base<=k/\∃ cs t fr,w.heap[k]?=some (.cells cs t fr)/\qd7 t) (hb:base<=w.heap.size):qaF base w w':=
  ⟨(Below.refl base w).grown hg hb (fun k e => (hr k e).1), fun k o hk ho => by
    rw [hg.block k (Array.getElem?_eq_some_iff.1 hk).1 ?_,hk];intro e;obtain ⟨_,cs,t,fr,h1,h2⟩:=hr k e.symm;rw [h1] at hk;injection hk with hk
    exact ho _ _ _ hk.symm h2⟩
theorem qfe {b:Nat} {e:TypeId} {size n:Nat} {v:Value} {xs:List Value} (h:w.ownsRow b e size v n xs) {g:Nat} (hg:v.ownBlock=some g):∃ cs,w.heap[g]?=some (.cells cs e (0,0)):=by
 rcases h.2 with ⟨rfl,_⟩|⟨g',cap,cur,rfl,_,hh,r⟩
 ·cases hg
 ·simp only [Value.ownBlock,Option.some.injEq] at hg
  subst hg;exact ⟨_,hh⟩
theorem qaF.grownOwn {e:TypeId} {size n:Nat} {v:Value} {xs:List Value} (ho:w.ownsRow base e size v n xs) (he:qd7 e) (hg:w.grownBy w' v.ownBlock) (hb:base<=w.heap.size):qaF base w w':=
 qaF.grown hg (fun k hk=>⟨(ho.lt k hk).1,by obtain ⟨cs,h⟩:=qfe ho hk;exact ⟨cs,e,_,h,he⟩⟩) hb
theorem qaF.owned (h:qaF base w w') {b:Nat} {e:TypeId} {size n:Nat} {v:Value} {xs:List Value} (ho:w.ownsRow b e size v n xs) (he:¬ qd7 e):w'.ownsRow b e size v n xs:=by
 refine ⟨ho.1,?_⟩;rcases ho.2 with hn|⟨g,cap,cur,hv,hg,hh,r⟩
 ·exact .inl hn
 ·exact .inr ⟨g,cap,cur,hv,hg,h.keep g _ hh (fun cs t fr e'=>by cases e';exact he),r⟩
theorem qvD {b:Nat} {e:TypeId} {size g n m cap:Nat} {xs:List Value} (h:w.ownsRow b e size (.slice (some ⟨g,0,none⟩) n cap) n xs) (hm:m<=n):w.ownsRow b e size (.slice (some ⟨g,0,none⟩) m cap) m (xs.take (m*size)):=by
 have hmn:m*size<=n*size:=Nat.mul_le_mul_right _ hm;refine ⟨by rw [List.length_take,h.1];omega,?_⟩;rcases h.2 with ⟨hv,_⟩|⟨g',cap',cur,hv,hg,hh,h1,h2,h3,h4⟩
 ·cases hv
 ·cases hv
  refine .inr ⟨g,cap,cur,rfl,hg,hh,by omega,h2,h3,?_⟩;rw [<- h4,List.take_take,Nat.min_eq_left hmn]
end
def HAt (base:Nat) (w:World) (B:Nat) (H:List Hd):Prop:=
 base<=B/\∃ v,w.heap[B]?=some (.cells #[v] 165 (0,0))/\w.ownsRow base 170 3 v H.length (hds H)
section
variable {base B:Nat} {w w':World} {H:List Hd}
theorem HAt.below (h:HAt base w B H) (hb:Below w.heap.size w w'):HAt base w' B H:=by
 obtain ⟨h1,v,h2,h3⟩:=h;exact ⟨h1,v,by rw [hb.block B (Array.getElem?_eq_some_iff.1 h2).1,h2],qak h3 hb⟩
theorem HAt.lt (h:HAt base w B H):B<w.heap.size:=by
 obtain ⟨_,v,h2,_⟩:=h;exact (Array.getElem?_eq_some_iff.1 h2).1
theorem HAt.read (h:HAt base w B H):∃ A c,w.cell? ⟨B,0,none⟩=some (.slice A H.length c)/\H.length<=c/\c<=maxLen/\Row w w.heap.size A (hds H):=by
 obtain ⟨_,v,h2,h3⟩:=h;obtain ⟨A,c,rfl,h4,h5,h6⟩:=qbm h3;exact ⟨A,c,cell_of_one h2,h4,h5,h6⟩
theorem HAt.at_ (h:HAt base w B H) {k:Nat} (hk:k<H.length):∃ g c,w.heap[B]?=some (.cells #[.slice (some ⟨g,0,none⟩) H.length c] 165 (0,0))/\w.ownsRow base 170 3 (.slice (some ⟨g,0,none⟩) H.length c) H.length (hds H)/\H.length<=c/\c<=maxLen/\g≠B/\
  w.cell? ⟨g,k*3,none⟩=some (.int .i64 H[k].1)/\w.cell? ⟨g,k*3+1,none⟩=some (.int .i64 (H[k].2.1:Int))/\w.cell? ⟨g,k*3+2,none⟩=some (.int .i64 (H[k].2.2:Int)):=by
 obtain ⟨_,v,h2,h3⟩:=h;rcases h3.2 with ⟨rfl,e⟩|⟨g,cap,cur,rfl,hg,hh,h5,h6,_⟩
 ·have :=h3.1
  rw [e,qhS] at*;simp at this;omega
 ·obtain ⟨e1,e2,e3⟩:=qoD hk
  have hlt:k*3+2<H.length*3:=by omega
  refine ⟨g,cap,h2,h3,h5,h6,fun e=> ?_,?_,?_,?_⟩
  ·subst e
   rw [h2] at hh;injection hh with hh
   injection hh with _ hh
   exact absurd hh (by decide)
  ·rw [h3.cellAt _ (by omega)];exact e1
  ·rw [h3.cellAt _ (by omega)];exact e2
  ·rw [h3.cellAt _ (by omega)];exact e3
end
section
variable {α:Type} (key:α->Int)
def qeI (l:List α) (n m:Nat):Prop:=∀ i (hi:i<l.length),0<i->i<n->m<=(i-1)/2->key (l[(i-1)/2]'(by omega))<=key l[i]
structure qdT (l:List α) (j n m:Nat):Prop where
 but:∀ i (hi:i<l.length),0<i->i<n->m<=(i-1)/2->(i-1)/2≠j->key (l[(i-1)/2]'(by omega))<=key l[i]
 kids:∀ c (hc:c<l.length),0<c->c<n->∀ (hp:(c-1)/2=j) (h0:0<j),m<=(j-1)/2->key (l[(j-1)/2]'(by omega))<=key l[c]
variable {key} {l:List α} {i j n m:Nat}
theorem qeI.all (h:qeI key l n 0):qbK key l n:=fun i hi h0 hin=>h i hi h0 hin (Nat.zero_le _)
theorem qvE (l:List α) (n:Nat):qeI key l n (n/2):=fun i hi h0 hin hm=>by omega
theorem qeI.down (h:qeI key l n (j+1)):qdT key l j n j:=
 ⟨fun i hi h0 hin hm hne=>h i hi h0 hin (by omega),fun c hc h0 hcn hp hj hm=>by omega⟩
theorem qj6.f (h:qj6 key l j n):qdT key l j n 0:=⟨fun i hi h0 hin _ hne=>h.but i hi h0 hin hne,fun c hc h0 hcn hp hj _=>h.kids c hc h0 hcn hp hj⟩
theorem qdT.stop (h:qdT key l j n m) (hn:n<=l.length) (hs:∀ c (hc:c<n) (h0:0<c) (hp:(c-1)/2=j),key (l[j]'(by omega))<=key (l[c]'(by omega))):qeI key l n m:=fun i hi h0 hin hm=>by
 by_cases e:(i-1)/2=j
 ·have :=hs i hin h0 e
  simp only [e];exact this
 ·exact h.but i hi h0 hin hm e
theorem qdT.step (h:qdT key l j n m) (hn:n<=l.length) {k:Nat} (hk:k<n) (h0:0<k) (hp:(k-1)/2=j) (hmj:m<=j) (hs:key (l[k]'(by omega))<key (l[j]'(by omega)))
  (hl:∀ c (hc:c<n) (h0:0<c) (hp:(c-1)/2=j),key (l[k]'(by omega))<=key (l[c]'(by omega))):qdT key (qck l j k (by omega) (by omega)) k n m:=by
 constructor
 ·intro i hi hi0 hin hm hne
  have hil:i<l.length:=by rwa [qem] at hi
  rw [qd5,qd5,if_neg hne];by_cases e:i=k
  ·subst e
   rw [if_pos hp,if_pos rfl];exact Int.le_of_lt hs
  ·rw [if_neg e]
   by_cases e2:(i-1)/2=j
   ·rw [if_pos e2,if_neg (by omega)]
    exact hl i hin hi0 e2
   ·rw [if_neg e2]
    by_cases e3:i=j
    ·rw [if_pos e3]
     have :=h.kids k (by omega) h0 hk hp (by omega) (by omega);simp only [e3];exact this
    ·rw [if_neg e3]
     exact h.but i hil hi0 hin hm e2
 ·intro c hc hc0 hcn hcp hk0 hm
  have hcl:c<l.length:=by rwa [qem] at hc
  rw [qd5,qd5,if_neg (by omega),if_pos hp,if_neg (by omega),if_neg (by omega)];have :=h.but c hcl hc0 hcn (by omega) (by omega);simp only [hcp] at this;exact this
theorem qbK.popF (h:qbK key l l.length) (hl:0<l.length):qdT key (qck l 0 (l.length-1) hl (by omega)) 0 (l.length-1) 0:=(h.pop hl).f
theorem qbK.init {x:α} (h:qbK key (l++[x]) l.length):qbK key l l.length:=fun i hi h0 hin=>by
 have :=h i (by simp;omega) h0 hin;rwa [List.getElem_append_left (by omega),List.getElem_append_left hi] at this
end
theorem qf5 (A:Option Addr) (n c:Nat) (w:World):Calls Tryz.prog 93 #[.slice A n c] w fun e w'=>e= .returned (.int .i64 (n:Int))/\w'=w:=by
 go_enter Tryz.func93,Tryz.ntmps93
 go_wp2;go_ret;exact ⟨rfl,rfl⟩
theorem qvF (g n c a b:Nat) (x y:Int) (w:World) (ha:a<n) (hb:b<n) (hn:n<=c/\c<=maxLen) (hx:w.cell? ⟨g,a*3,none⟩=some (.int .i64 x)) (hy:w.cell? ⟨g,b*3,none⟩=some (.int .i64 y)):
  Calls Tryz.prog 278 #[.slice (some ⟨g,0,none⟩) n c,.int .i64 (a:Int),.int .i64 (b:Int)] w fun e w'=>e= .returned (.bool (decide (x<y)))/\Below w.heap.size w w':=by
 have hz1:0+a*3+0=a*3:=by omega
 obtain ⟨q1,q2⟩:=hn;unfold maxLen at q2
 go_enter Tryz.func278,Tryz.ntmps278
 go_wp2
 go_quiet (fail)
 go_wp2;go_ret;exact ⟨rfl,rfl,rfl,rfl,Nat.le_refl _,fun _ _=>rfl⟩
def qen (w:World) (g k:Nat) (x:Int) (l p:Nat):World:=((w.setCell ⟨g,k*3,none⟩ (.int .i64 x)).setCell ⟨g,k*3+1,none⟩ (.int .i64 (l:Int))).setCell ⟨g,k*3+2,none⟩ (.int .i64 (p:Int))
theorem qvG (g n c a b:Nat) (x1 y1:Int) (x2 x3 y2 y3:Nat) (w:World) (ha:a<n) (hb:b<n) (hn:n<=c/\c<=maxLen)
  (hx1:w.cell? ⟨g,a*3,none⟩=some (.int .i64 x1)) (hx2:w.cell? ⟨g,a*3+1,none⟩=some (.int .i64 (x2:Int))) (hx3:w.cell? ⟨g,a*3+2,none⟩=some (.int .i64 (x3:Int)))
  (hy1:w.cell? ⟨g,b*3,none⟩=some (.int .i64 y1)) (hy2:w.cell? ⟨g,b*3+1,none⟩=some (.int .i64 (y2:Int))) (hy3:w.cell? ⟨g,b*3+2,none⟩=some (.int .i64 (y3:Int))) (hfr:∀ j,w.frozen? ⟨g,j,none⟩=false):
  Calls Tryz.prog 279 #[.slice (some ⟨g,0,none⟩) n c,.int .i64 (a:Int),.int .i64 (b:Int)] w fun e w'=>(∃ v,e= .returned v)/\w'=(qen (qen w g a y1 y2 y3) g b x1 x2 x3).drew:=by
 obtain ⟨q1,q2⟩:=hn;unfold maxLen at q2;by_cases hab:a=b
 ·subst hab
  have e1:y1=x1:=by have :=hy1.symm.trans hx1;simpa using this
  have e2:y2=x2:=by have :=hy2.symm.trans hx2;simp at this;omega
  have e3:y3=x3:=by have :=hy3.symm.trans hx3;simp at this;omega
  subst e1 e2 e3;clear hy1 hy2 hy3 hb
  go_enter Tryz.func279,Tryz.ntmps279
  go_wp2
  go_region
  go_end0
  exact ⟨⟨_,rfl⟩,rfl⟩
 ·have hba:¬ b=a:=fun e=>hab e.symm
  go_enter Tryz.func279,Tryz.ntmps279
  go_wp2
  go_region
  go_end0
  exact ⟨⟨_,rfl⟩,rfl⟩
theorem qvH (B:Nat) (v:Value) (w:World) (h:w.cell? ⟨B,0,none⟩=some v) (k:Nat):(method (k+1) 168 (.pointer (some ⟨B,0,none⟩)) "Less").run Tryz.prog w= .ok (278,v) w:=by
 have e:(method (k+1) 168 (.pointer (some ⟨B,0,none⟩)) "Less").run Tryz.prog w=((loadVar 165 ⟨B,0,none⟩)>>=fun v=>pure (278,v)).run Tryz.prog w:=by kernel_rfl
 rw [e];simp [loadVar,h]
theorem qvI (B:Nat) (v:Value) (w:World) (h:w.cell? ⟨B,0,none⟩=some v) (k:Nat):(method (k+1) 168 (.pointer (some ⟨B,0,none⟩)) "Swap").run Tryz.prog w= .ok (279,v) w:=by
 have e:(method (k+1) 168 (.pointer (some ⟨B,0,none⟩)) "Swap").run Tryz.prog w=((loadVar 165 ⟨B,0,none⟩)>>=fun v=>pure (279,v)).run Tryz.prog w:=by kernel_rfl
 rw [e];simp [loadVar,h]
theorem qvJ (B:Nat) (v:Value) (w:World) (h:w.cell? ⟨B,0,none⟩=some v) (k:Nat):(method (k+1) 168 (.pointer (some ⟨B,0,none⟩)) "Len").run Tryz.prog w= .ok (93,v) w:=by
 have e:(method (k+1) 168 (.pointer (some ⟨B,0,none⟩)) "Len").run Tryz.prog w=((loadVar 165 ⟨B,0,none⟩)>>=fun v=>pure (93,v)).run Tryz.prog w:=by kernel_rfl
 rw [e];simp [loadVar,h]
theorem qvK (B:Nat) (w:World) (k:Nat):(method (k+1) 168 (.pointer (some ⟨B,0,none⟩)) "Pop").run Tryz.prog w= .ok (280,.pointer (some ⟨B,0,none⟩)) w:=by kernel_rfl
theorem qvL (B:Nat) (w:World) (k:Nat):(method (k+1) 168 (.pointer (some ⟨B,0,none⟩)) "Push").run Tryz.prog w= .ok (281,.pointer (some ⟨B,0,none⟩)) w:=by kernel_rfl
abbrev qaS (x:Hd):Int:=x.1
theorem qoF {base B g n c k:Nat} {w:World} {H:List Hd} {x:Hd} (hBg:g≠B) (hb:base<=B) (h2:w.heap[B]?=some (.cells #[.slice (some ⟨g,0,none⟩) H.length c] 165 (0,0))) (h3:w.ownsRow base 170 3 (.slice (some ⟨g,0,none⟩) H.length c) H.length (hds H)):
  (qen w g k x.1 x.2.1 x.2.2).heap[B]?=some (.cells #[.slice (some ⟨g,0,none⟩) (H.set k x).length c] 165 (0,0))/\(qen w g k x.1 x.2.1 x.2.2).ownsRow base 170 3 (.slice (some ⟨g,0,none⟩) (H.set k x).length c) (H.set k x).length (hds (H.set k x))/\qaF base w (qen w g k x.1 x.2.1 x.2.2):=by
 have hgo:base<=g/\∃ cs,w.heap[g]?=some (.cells cs 170 (0,0)):=⟨(h3.lt g rfl).1,qfe h3 rfl⟩;refine ⟨?_,?_,?_⟩
 ·rw [List.length_set]
  unfold qen;rw [Below.heap_setCell _ _ _ _ (fun e=>hBg e.symm),Below.heap_setCell _ _ _ _ (fun e=>hBg e.symm),Below.heap_setCell _ _ _ _ (fun e=>hBg e.symm),h2]
 ·rw [List.length_set,qoE]
  exact (((h3.stored _ _).1.stored _ _).1.stored _ _).1
 ·obtain ⟨hg1,cs,hg2⟩:=hgo
  have s1:=qaF.setCell (i:=k*3) hg2 (.inl rfl) hg1 (.int .i64 x.1);have k1:=heap_setCell_same w g (k*3) _ _ (.int .i64 x.1) hg2;have s2:=qaF.setCell (i:=k*3+1) k1 (.inl rfl) hg1 (.int .i64 (x.2.1:Int));have k2:=heap_setCell_same _ g (k*3+1) _ _ (.int .i64 (x.2.1:Int)) k1;have s3:=qaF.setCell (i:=k*3+2) k2 (.inl rfl) hg1 (.int .i64 (x.2.2:Int));exact (s1.trans s2).trans s3
theorem qaF.drew {base:Nat} {w w':World} (h:qaF base w w'):qaF base w w'.drew:=⟨h.below.drew,h.keep⟩
theorem HAt.drew {base B:Nat} {w:World} {H:List Hd} (h:HAt base w B H):HAt base w.drew B H:=h
theorem HAt.swap {base B:Nat} {w:World} {H:List Hd} (h:HAt base w B H) {a b:Nat} (ha:a<H.length) (hb:b<H.length) {g c:Nat} (h2:w.heap[B]?=some (.cells #[.slice (some ⟨g,0,none⟩) H.length c] 165 (0,0))) (h3:w.ownsRow base 170 3 (.slice (some ⟨g,0,none⟩) H.length c) H.length (hds H)) (hBg:g≠B):
  HAt base (qen (qen w g a H[b].1 H[b].2.1 H[b].2.2) g b H[a].1 H[a].2.1 H[a].2.2).drew B (qck H a b ha hb)/\qaF base w (qen (qen w g a H[b].1 H[b].2.1 H[b].2.2) g b H[a].1 H[a].2.1 H[a].2.2).drew:=by
 obtain ⟨e1,e2,e3⟩:=qoF (k:=a) (x:=H[b]) (n:=0) hBg h.1 h2 h3;obtain ⟨f1,f2,f3⟩:=qoF (k:=b) (x:=H[a]) (n:=0) hBg h.1 e1 e2;refine ⟨HAt.drew ?_,(e3.trans f3).drew⟩;rw [show qck H a b ha hb=(H.set a H[b]).set b H[a] from rfl]
 exact ⟨h.1,_,f1,f2⟩
theorem HAt.less {base B:Nat} {w:World} {H:List Hd} (h:HAt base w B H) {a b:Nat} (ha:a<H.length) (hb:b<H.length):∃ v,(∀ k,(method (k+1) 168 (.pointer (some ⟨B,0,none⟩)) "Less").run Tryz.prog w= .ok (278,v) w)/\
  Calls Tryz.prog 278 #[v,.int .i64 (a:Int),.int .i64 (b:Int)] w fun e w'=>e= .returned (.bool (decide (H[a].1<H[b].1)))/\Below w.heap.size w w':=by
 obtain ⟨g,c,q1,q2,q3,q4,q5,x1,x2,x3⟩:=h.at_ ha;obtain ⟨g',c',q1',_,_,_,_,y1,y2,y3⟩:=h.at_ hb;rw [q1] at q1';simp only [Option.some.injEq,Obj.cells.injEq,Array.mk.injEq,List.cons.injEq,Value.slice.injEq,Addr.mk.injEq,true_and,and_true] at q1';obtain ⟨rfl,rfl⟩:=q1';exact ⟨_,qvH B _ w (cell_of_one q1),qvF g _ c a b _ _ w ha hb ⟨q3,q4⟩ x1 y1⟩
theorem HAt.swaps {base B:Nat} {w:World} {H:List Hd} (h:HAt base w B H) {a b:Nat} (ha:a<H.length) (hb:b<H.length):∃ v,(∀ k,(method (k+1) 168 (.pointer (some ⟨B,0,none⟩)) "Swap").run Tryz.prog w= .ok (279,v) w)/\
  Calls Tryz.prog 279 #[v,.int .i64 (a:Int),.int .i64 (b:Int)] w fun e w'=>(∃ v,e= .returned v)/\HAt base w' B (qck H a b ha hb)/\qaF base w w':=by
 obtain ⟨g,c,q1,q2,q3,q4,q5,x1,x2,x3⟩:=h.at_ ha;obtain ⟨g',c',q1',_,_,_,_,y1,y2,y3⟩:=h.at_ hb;rw [q1] at q1';simp only [Option.some.injEq,Obj.cells.injEq,Array.mk.injEq,List.cons.injEq,Value.slice.injEq,Addr.mk.injEq,true_and,and_true] at q1';obtain ⟨rfl,rfl⟩:=q1';refine ⟨_,qvI B _ w (cell_of_one q1),(qvG g _ c a b _ _ _ _ _ _ w ha hb ⟨q3,q4⟩ x1 x2 x3 y1 y2 y3 q2.frozenAt).mono ?_⟩;rintro e w' ⟨h1,rfl⟩;exact ⟨h1,h.swap ha hb q1 q2 q5⟩
theorem HAt.len_ {base B:Nat} {w:World} {H:List Hd} (h:HAt base w B H):∃ v,(∀ k,(method (k+1) 168 (.pointer (some ⟨B,0,none⟩)) "Len").run Tryz.prog w= .ok (93,v) w)/\
  Calls Tryz.prog 93 #[v] w fun e w'=>e= .returned (.int .i64 (H.length:Int))/\w'=w:=by
 obtain ⟨A,c,h1,_⟩:=h.read;exact ⟨_,qvJ B _ w h1,qf5 A _ c w⟩
abbrev ifH (B:Nat):Value:= .iface 168 (.pointer (some ⟨B,0,none⟩))
def qfz (base B:Nat) (l:List Hd) (w:World) (e:Ending) (w':World):Prop:=(∃ v,e= .returned v)/\∃ l',l'.Perm l/\qbK qaS l' l'.length/\HAt base w' B l'/\qaF base w w'
def qoG (base B:Nat) (l:List Hd) (w:World) (v1:Value) (wr:World):Prop:=∃ (j:Nat) (l':List Hd),v1= .int .i64 (j:Int)/\j<l'.length/\l'.Perm l/\qel qaS l' j/\HAt base wr B l'/\qaF base w wr
theorem qvM (base B j:Nat) (l:List Hd) (w:World) (h:HAt base w B l) (hj:j<l.length) (hl:l.length<=1000000) (hu:qel qaS l j):
  Calls Tryz.prog 139 #[ifH B,.int .i64 (j:Int)] w (qfz base B l w):=by
 have HST:=qH (show qoG base B l w (.int .i64 (j:Int)) w from ⟨j,l,rfl,hj,.refl _,hu,h,.refl _ _⟩)
 clear h hj hu
 go_enter Tryz.func139,Tryz.ntmps139
 go_wp2
 go_loopw [1,4] (fun v1 v4 wr=>qoG base B l w v1 wr) (fun v1 _ _=>(intOf v1).toNat)
 case atStart=>exact HST.out
 case round=>
  clear HST;obtain ⟨k,l',rfl,hk,hp,hu,hat,hm⟩:=hrel;have hlen:=hp.length_eq;cases k with
  |zero=>
   have HFIN:=qH (show ∀ v,qfz base B l w (.returned v) wr from fun v=>⟨⟨v,rfl⟩,l',hp,hu.top,hat,hm⟩)
   clear hp hu hat hm;go_wp2
   go_end0
   exact HFIN.out _
  |succ m=>
   have hk2:m/2<l'.length:=by omega
   obtain ⟨v1,hm1,C1⟩:=hat.less hk hk2;rw [show ((m+1:Nat):Int)=(m:Int)+1 by omega,show ((m/2:Nat):Int)=(m:Int)/2 by omega] at C1;have d0:((m:Int)/2==(m:Int)+1)=false:=by rw [beq_eq_false_iff_ne];omega
   by_cases hlt:l'[m+1].1<l'[m/2].1
   ·rw [decide_eq_true hlt] at C1
    have HC1:=qH C1;have hst:=hu.step hk (by omega) hlt;simp only [Nat.add_sub_cancel] at hst;have HLT:=qH hst;clear hst;have HP:=qH hp;have HAT:=qH hat;have HM:=qH hm;clear C1 hu hp hat hm hlt
    go_wp2_with first
     |(go_at_call 279;refine (HC2.out).mono ?_;rintro e w2 ⟨⟨v,rfl⟩,hat2,hm3⟩)
     |(go_at_call 278;refine (HC1.out).mono ?_;rintro e w1 ⟨rfl,hb1⟩;have hat1:=(HAT.out).below hb1;obtain ⟨v2,hm2,C2⟩:=hat1.swaps hk2 hk;rw [show ((m+1:Nat):Int)=(m:Int)+1 by omega,show ((m/2:Nat):Int)=(m:Int)/2 by omega] at C2;have HC2:=qH C2;clear C2 hat1)
    have hsize:=(HAT.out).1;have hlt2:=(HAT.out).lt;go_roundw
    case rel=>exact ⟨m/2,_,by go_num,by rw [qem];exact hk2,(qgL hk2 hk).trans HP.out,HLT.out,hat2,(HM.out).trans ((qaF.of_below hb1 (by omega)).trans hm3)⟩
    case measure=>simp [intOf];omega
   ·rw [decide_eq_false hlt] at C1
    have HC1:=qH C1;have HFIN:=qH (show ∀ v w1,Below wr.heap.size wr w1->qfz base B l w (.returned v) w1 from fun v w1 hb1=>⟨⟨v,rfl⟩,l',hp,hu.stop hk (by simpa using hlt),hat.below hb1,hm.trans (.of_below hb1 (by have :=hat.1;have :=hat.lt;omega))⟩)
    clear C1 hu hp hat hm hlt
    go_wp2_with (go_at_call 278;refine (HC1.out).mono ?_;rintro e w1 ⟨rfl,hb1⟩)
    go_end0
    exact HFIN.out _ _ hb1
end Go.Proofs.YtpehcaidjlemiaaGreatDoor
