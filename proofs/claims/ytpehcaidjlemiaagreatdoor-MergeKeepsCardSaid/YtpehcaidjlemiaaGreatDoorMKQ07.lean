import Derived.Test.YtpehcaidjlemiaaGreatDoorMKZz
import Derived.Test.YtpehcaidjlemiaaGreatDoorMKQ06
import Derived.Test.YtpehcaidjlemiaaGreatDoorMKQ05
import Derived.Test.YtpehcaidjlemiaaGreatDoorMKQ01
import Derived.Shelf.SlSorted.Search
import Derived.BigCall
import Derived.BigQuiet
import Derived.Deep.QuietTactic
import Derived.Test.YtpehcaidjlemiaaGreatDoorMKQ02
import Derived.Deep.RegionLaw
import Derived.Deep.RegionHeld3
import Derived.Deep.AppendLies
set_option maxHeartbeats 4000000
set_option maxRecDepth 100000
set_option linter.unusedVariables false
namespace Go.Proofs.YtpehcaidjlemiaaGreatDoor
open Go
abbrev qdG (g:List En):Prop:=g.Pairwise fun p q=>p.2.2<q.2.2
def qaj (L:List En):List Int:=L.map (·.2.2)
theorem qte {a b:List En} (ha:qdG a) (hb:qdG b) (h:∀ x,x∈a↔x∈b):a=b:=
 qhi (R:=fun p q:En=>p.2.2<q.2.2) (fun _ h=>Int.lt_irrefl _ h) (fun _ _ h k=>Int.lt_irrefl _ (Int.lt_trans h k)) ha hb h
theorem qgD {Ls:List (List En)} {p:Pl}:InO (Ls.map qaj) p↔InE Ls p:=by
 unfold InO InE;rw [List.length_map];refine and_congr_right fun h=> ?_
 rw [List.getD_eq_getElem?_getD,List.getElem?_map,List.getElem?_eq_getElem h,List.getD_eq_getElem?_getD,List.getElem?_eq_getElem h];simp [qaj]
theorem qmZ {Ls:List (List En)} {p:Pl} (h:InE Ls p):qaL (Ls.map qaj) p=(qa4 Ls p).2.2:=by
 obtain ⟨h1,h2⟩:=h;have e:Ls.getD p.1 []=Ls[p.1]:=by rw [List.getD_eq_getElem?_getD,List.getElem?_eq_getElem h1];rfl
 rw [e] at h2;rw [qaL,qa4,e,List.getD_eq_getElem?_getD (l:=Ls.map qaj),List.getElem?_map,List.getElem?_eq_getElem h1];simp [qaj,List.getD_eq_getElem?_getD,List.getElem?_eq_getElem h2]
theorem qtf {Ls:List (List En)} {x:En}:(∃ p,InE Ls p/\qa4 Ls p=x)↔∃ L∈Ls,x∈L:=by
 constructor
 ·rintro ⟨p,⟨h1,h2⟩,rfl⟩
  have e:Ls.getD p.1 []=Ls[p.1]:=by rw [List.getD_eq_getElem?_getD,List.getElem?_eq_getElem h1];rfl
  rw [e] at h2;refine ⟨Ls[p.1],List.getElem_mem _,?_⟩;rw [qa4,e,List.getD_eq_getElem?_getD,List.getElem?_eq_getElem h2];exact List.getElem_mem _
 ·rintro ⟨L,hL,hx⟩
  obtain ⟨i,hi,rfl⟩:=List.getElem_of_mem hL;obtain ⟨k,hk,rfl⟩:=List.getElem_of_mem hx;refine ⟨(i,k),⟨hi,?_⟩,?_⟩
  ·simpa [List.getD_eq_getElem?_getD,List.getElem?_eq_getElem hi] using hk
  ·simp [qa4,List.getD_eq_getElem?_getD,List.getElem?_eq_getElem hi,List.getElem?_eq_getElem hk]
theorem qi9 {Ls:List (List En)} {o:List Pl} (h:qcd (Ls.map qaj) o):qdG (o.map (qa4 Ls))/\∀ x,x∈o.map (qa4 Ls)↔∃ L∈Ls,x∈L:=by
 constructor
 ·refine List.pairwise_map.2 (h.rise.imp_of_mem fun {p q} hp hq hpq=> ?_)
  rwa [qmZ (qgD.1 ((h.mem p).1 hp)),qmZ (qgD.1 ((h.mem q).1 hq))] at hpq
 ·intro x
  rw [<- qtf,List.mem_map];exact exists_congr fun p=>and_congr_left fun _=>(h.mem p).trans qgD
theorem qtg {Ls:List (List En)} {o:List Pl} {g:List En} (h:qcd (Ls.map qaj) o) (hg:qdG g) (hm:∀ x,x∈g↔∃ L∈Ls,x∈L):o.map (qa4 Ls)=g:=
 qte (qi9 h).1 hg fun x=>((qi9 h).2 x).trans (hm x).symm
theorem qm0 {l:List (List Int)} (h:l.flatten.Nodup):¬ qdQ l:=by
 obtain ⟨h1,h2⟩:=List.pairwise_flatten.1 h;rintro ⟨⟨i,k⟩,⟨j,m⟩,hp,hq,e,hn⟩;obtain ⟨hi,hk⟩:=qde.1 hp;obtain ⟨hj,hm⟩:=qde.1 hq;rw [qfx hi hk,qfx hj hm] at e;rcases Nat.lt_trichotomy i j with hij|hij|hij
 ·exact List.pairwise_iff_getElem.1 h2 i j hi hj hij _ (List.getElem_mem hk) _ (List.getElem_mem hm) e
 ·subst hij
  have hnd:=h1 _ (List.getElem_mem hi);rcases Nat.lt_trichotomy k m with hkm|hkm|hkm
  ·exact List.pairwise_iff_getElem.1 hnd k m hk hm hkm e
  ·exact hn (by rw [hkm])
  ·exact List.pairwise_iff_getElem.1 hnd m k hm hk hkm e.symm
 ·exact List.pairwise_iff_getElem.1 h2 j i hj hi hij _ (List.getElem_mem hm) _ (List.getElem_mem hk) e.symm
def qaP (L:List En) (r:List Bool):List En:=(qbf r).map fun k=>L.getD k (0,[],0)
def qaB:List (List En)->List (List Bool)->List (List En)
 |L::Ls,r::rs=>qaP L r::qaB Ls rs
 |_,_=>[]
theorem qja {r:List Bool} {k:Nat} (h:k∈qbf r):k<r.length:=List.mem_range.1 (List.mem_filter.1 h).1
theorem qth {α:Type} (d:α):∀ (L:List α),(List.range L.length).map (fun k=>L.getD k d)=L:=fun L=>by
 apply List.ext_getElem (by simp);intro i h1 h2;simp [List.getD_eq_getElem?_getD,List.getElem?_eq_getElem h2]
theorem qhl {L:List En} {r:List Bool} (h:r.length=L.length):(qaP L r).Sublist L:=by
 have h1:((List.range r.length).filter fun k=>r.getD k false).Sublist (List.range r.length):=List.filter_sublist;have h2:=h1.map fun k=>L.getD k (0,[],0)
 rw [h,qth] at h2;unfold qaP qbf;rw [h];exact h2
theorem qti {L:List En} {r:List Bool} (h:r.length=L.length):qi7 (qad L) r=qaj (qaP L r):=by
 unfold qi7 qaj qaP qad;rw [List.map_map];refine List.map_congr_left fun k hk=> ?_
 have hk2:k<L.length:=by have :=qja hk;omega
 simp [List.getD_eq_getElem?_getD,List.getElem?_eq_getElem hk2]
def qhm:List qbj->List (List Bool)->List (List Int)
 |x::xs,r::rs=>qi7 x r::qhm xs rs
 |_,_=>[]
inductive qbm:List (List En)->List (List Bool)->Prop
 |nil:qbm [] []
 |cons {L:List En} {r:List Bool} {Ls:List (List En)} {rs:List (List Bool)}:r.length=L.length->qbm Ls rs->qbm (L::Ls) (r::rs)
theorem qjb:∀ {Ls:List (List En)} {rs:List (List Bool)},qbm Ls rs->qhm (Ls.map qad) rs=(qaB Ls rs).map qaj
 |_,_,.nil=>rfl
 |_,_,.cons h hs=>by rw [List.map_cons,qhm,qaB,List.map_cons,qti h,qjb hs]
theorem qm1:∀ {Ls:List (List En)} {rs:List (List Bool)},qbm Ls rs->(qaB Ls rs).flatten.Sublist Ls.flatten
 |_,_,.nil=>List.Sublist.refl _
 |_,_,.cons h hs=>by
  rw [qaB,List.flatten_cons,List.flatten_cons];exact (qhl h).append (qm1 hs)
theorem qjc {x:En}:∀ {Ls:List (List En)} {rs:List (List Bool)},qbm Ls rs->∀ L∈qaB Ls rs,∃ K∈Ls,L.Sublist K
 |_,_,.nil,L,h=>by simp [qaB] at h
 |_,_,.cons h hs,L,hL=>by
  rcases List.mem_cons.1 hL with rfl|hL
  ·exact ⟨_,List.mem_cons_self ..,qhl h⟩
  ·obtain ⟨K,hK,hs⟩:=qjc (x:=x) hs L hL
   exact ⟨K,List.mem_cons_of_mem _ hK,hs⟩
def qb2 (rs:List (List Bool)) (o:List Pl):List Pl:=o.map fun p=>(p.1,(qbf (rs.getD p.1 [])).getD p.2 0)
theorem qm2 {p:Pl}:∀ {Ls:List (List En)} {rs:List (List Bool)},qbm Ls rs->InE (qaB Ls rs) p->
  InE Ls (p.1,(qbf (rs.getD p.1 [])).getD p.2 0)/\qa4 Ls (p.1,(qbf (rs.getD p.1 [])).getD p.2 0)=qa4 (qaB Ls rs) p:=by
 obtain ⟨i,k⟩:=p;intro Ls rs h
 induction h generalizing i with
 |nil=>rintro ⟨h,_⟩;simp [qaB] at h
 |@cons L r Ls rs h hs ih=>
  rintro ⟨h1,h2⟩;cases i with
  |succ i=>
   have :=ih i ⟨by simpa [qaB] using h1,by simpa [qaB] using h2⟩;obtain ⟨⟨g1,g2⟩,g3⟩:=this;exact ⟨⟨by simpa using g1,by simpa using g2⟩,by simpa [qa4,qaB] using g3⟩
  |zero=>
   have hk:k<(qbf r).length:=by simpa [qaB,qaP] using h2
   have hm:(qbf r)[k]<L.length:=by have :=qja (List.getElem_mem hk);omega
   refine ⟨⟨by simp,?_⟩,?_⟩
   ·simpa [List.getD_eq_getElem?_getD,List.getElem?_eq_getElem hk] using hm
   ·simp [qa4,qaB,qaP,List.getD_eq_getElem?_getD,List.getElem?_eq_getElem hk,List.getElem?_eq_getElem hm]
theorem qtj {g:List En} (h:qdG g):(qaj g).Nodup:=List.pairwise_map.2 (h.imp fun h e=>by omega)
theorem qtk (Ls:List (List En)):(Ls.map qaj).flatten=qaj Ls.flatten:=by
 unfold qaj;rw [List.map_flatten]
theorem qtl {Ls:List (List En)} {rs:List (List Bool)} (hf:qbm Ls rs) (h:(qaj Ls.flatten).Nodup):¬ qdQ (qhm (Ls.map qad) rs):=by
 rw [qjb hf];refine qm0 ?_;rw [qtk];exact h.sublist ((qm1 hf).map _)
open Go.RowKit
def qaK:List Nm->List Nat->List Value
 |x::l,v::vs=> .string ⟨x.toArray⟩:: .pointer (some ⟨v,0,none⟩)::qaK l vs
 |_,_=>[]
theorem qe6 (vs:List Nat):qaK [] vs=[]:=by cases vs<;>rfl
theorem qgE:∀ {l:List Nm} {vs:List Nat},vs.length=l.length->(qaK l vs).length=l.length*2
 |[],vs,_=>by rw [qe6];rfl
 |x::l,[],h=>by simp at h
 |x::l,v::vs,h=>by
  have :=qgE (l:=l) (vs:=vs) (by simpa using h);simp only [qaK,List.length_cons,this];omega
theorem qgF:∀ {l:List Nm} {vs:List Nat} {k:Nat} (hv:vs.length=l.length) (hk:k<l.length),(qaK l vs)[k*2]?=some (.string ⟨l[k].toArray⟩)/\(qaK l vs)[k*2+1]?=some (.pointer (some ⟨vs.getD k 0,0,none⟩))
 |[],_,_,_,h=>by simp at h
 |x::l,[],_,h,_=>by simp at h
 |x::l,v::vs,0,_,_=>⟨rfl,rfl⟩
 |x::l,v::vs,k+1,h,hk=>by
  have :=qgF (l:=l) (vs:=vs) (k:=k) (by simpa using h) (by simpa using hk);rw [show (k+1)*2=k*2+1+1 by omega];simpa [qaK] using this
theorem qjd:∀ {l:List Nm} {vs:List Nat} {x:Nm} {v:Nat},vs.length=l.length->qaK (l++[x]) (vs++[v])=qaK l vs++[.string ⟨x.toArray⟩,.pointer (some ⟨v,0,none⟩)]
 |[],[],x,v,_=>rfl
 |[],_::_,_,_,h=>by simp at h
 |_::_,[],_,_,h=>by simp at h
 |y::l,u::vs,x,v,h=>by
  have :=qjd (l:=l) (vs:=vs) (x:=x) (v:=v) (by simpa using h);simp only [List.cons_append,qaK,this]
theorem qje:∀ {l:List Nm} {vs:List Nat} (k:Nat),vs.length=l.length->(qaK l vs).drop (k*2)=qaK (l.drop k) (vs.drop k)
 |l,vs,0,_=>by simp
 |[],vs,k+1,_=>by simp [qe6]
 |x::l,[],k+1,h=>by simp at h
 |x::l,v::vs,k+1,h=>by
  rw [show (k+1)*2=k*2+1+1 by omega,List.drop_succ_cons,List.drop_succ_cons,qaK,List.drop_succ_cons,List.drop_succ_cons];exact qje k (by simpa using h)
theorem qtm:(Tryz.prog.info? 177).map (fun i=>(i.zero,i.size,i.bytes))=some (some (.agg #[.string ByteArray.empty,.pointer none]),2,24):=by kernel_rfl
def qbP (w:World) (B o:Nat) (l:List Nm) (vs:List Nat):Prop:=
 B<w.heap.size/\vs.length=l.length/\∃ A c,w.cell? ⟨B,o,none⟩=some (.slice A l.length c)/\l.length<=c/\c<=maxLen/\Row w w.heap.size A (qaK l vs)/\(A=none/\l=[]/\c=0∨∃ g,A=some ⟨g,0,none⟩)
theorem qbP.below {w w':World} {B o:Nat} {l:List Nm} {vs:List Nat} (h:qbP w B o l vs) (hb:Below w.heap.size w w'):qbP w' B o l vs:=by
 obtain ⟨h1,h2,A,c,h3,h4,h5,h6,h7⟩:=h;exact ⟨Nat.lt_of_lt_of_le h1 hb.size,h2,A,c,(hb.cell (p:=⟨B,o,none⟩) h1).trans h3,h4,h5,Row.later h6 hb,h7⟩
theorem qbP.lt {w:World} {B o:Nat} {l:List Nm} {vs:List Nat} (h:qbP w B o l vs):B<w.heap.size:=h.1
theorem qbP.read {w:World} {B o:Nat} {l:List Nm} {vs:List Nat} (h:qbP w B o l vs):
  ∃ A c,w.cell? ⟨B,o,none⟩=some (.slice A l.length c)/\l.length<=c/\c<=maxLen/\Row w w.heap.size A (qaK l vs)/\(A=none/\l=[]/\c=0∨∃ g,A=some ⟨g,0,none⟩):=h.2.2
theorem qbP.ent {w:World} {B o:Nat} {l:List Nm} {vs:List Nat} (h:qbP w B o l vs) {k:Nat} (hk:k<l.length):
  ∃ b off c,w.cell? ⟨B,o,none⟩=some (.slice (some ⟨b,off,none⟩) l.length c)/\l.length<=c/\c<=maxLen/\b<w.heap.size/\w.cell? ⟨b,off+k*2,none⟩=some (.string ⟨l[k].toArray⟩)/\w.cell? ⟨b,off+k*2+1,none⟩=some (.pointer (some ⟨vs.getD k 0,0,none⟩)):=by
 obtain ⟨_,hv,A,c,h1,h2,h3,h4,_⟩:=h;obtain ⟨b,off,rfl,hb,hc⟩:=h4.at_ (by rw [qgE hv];omega);obtain ⟨g1,g2⟩:=qgF hv hk;exact ⟨b,off,c,h1,h2,h3,hb,hc _ _ g1,by have :=hc _ _ g2;rwa [<- Nat.add_assoc] at this⟩
theorem qjf (B o:Nat) (l:List Nm) (vs:List Nat) (w:World) (h:qbP w B o l vs):
  Calls Tryz.prog 98 #[.pointer (some ⟨B,o,none⟩)] w fun e w'=>e= .returned (.int .i64 (l.length:Int))/\w=w':=by
 obtain ⟨_,_,A,c,hc,_⟩:=h
 go_enter Tryz.func98,Tryz.ntmps98
 go_wp2;go_ret;exact ⟨rfl,rfl⟩
def qtn (l:List Nm) (w:World) (r i:Value) (wr:World):Prop:=r= .bool false/\∃ k:Nat,1<=k/\i= .int .i64 (k:Int)/\Below w.heap.size w wr/\∀ j (hj:j<l.length),0<j->j<k->l[j-1]<l[j]
theorem qhn (A:Option Addr) (m c:Nat) (l:List Nm) (w:World) (hr:Row w w.heap.size A (qae l)) (hm:l.length=m) (hl:m<=1073741824):
  Calls Tryz.prog 120 #[.slice A m c] w fun e w'=>e= .returned (.bool (qc8 l))/\Below w.heap.size w w':=by
 have HR:=qH hr;clear hr;subst hm;obtain ⟨ans,hans⟩:∃ ans,ans=qc8 l:=⟨_,rfl⟩;rw [<- hans];have HA:=qH hans;clear hans
 go_enter Tryz.func120,Tryz.ntmps120
 go_wp2
 go_loopw [2,3] (fun r i wr=>qtn l w r i wr) (fun _ i _=>l.length-(intOf i).toNat)
 case atStart=>exact ⟨rfl,1,by omega,rfl,Below.refl _ _,fun j _ _ _=>by omega⟩
 case round=>
  obtain ⟨rfl,k,hk,rfl,hbw,hall⟩:=hrel;by_cases hlt:k<l.length
  ·obtain ⟨b1,o1,e1,_,hc1⟩:=qfu (HR.out.below hbw) hlt
   subst e1;have hc0:wr.cell? ⟨b1,o1+(k-1),none⟩=some (.string ⟨l[k-1].toArray⟩):=by
    obtain ⟨b2,o2,e2,_,hc2⟩:=qfu (HR.out.below hbw) (k:=k-1) (by omega);injection e2 with e2
    injection e2 with e3 e4
    subst e3 e4;exact hc2
   obtain ⟨x,hx,hx2⟩:=qbY l[k];obtain ⟨y,hy,hy2⟩:=qbY l[k-1];rw [<- hx] at hc1;rw [<- hy] at hc0;obtain ⟨j,hj⟩:∃ j,j=k-1:=⟨_,rfl⟩;have hw:IntKind.i64.wrap ((k:Int)-1)=(j:Int):=by rw [IntWalk.i64_in _ (by omega)];omega
   have hjl:j<l.length:=by omega
   rw [<- hj] at hc0;by_cases hxy:l[k-1]<l[k]
   ·have t1:=qsp (s:=y) (t:=x) (by rw [hx2,hy2];exact hxy)
    have HN:Hid (∀ j (hj:j<l.length),0<j->j<k+1->l[j-1]<l[j]):=qH fun j hj h0 hjk=>by
     by_cases e:j=k
     ·subst e;exact hxy
     ·exact hall j hj h0 (by omega)
    clear hx hx2 hy hy2 hj hall hxy;go_wp2
    go_quiet (fail)
    go_wp2;go_roundw
    case rel=>exact ⟨rfl,k+1,by omega,by go_num,hbw.trans ⟨rfl,rfl,rfl,Nat.le_refl _,fun _ _=>rfl⟩,HN.out⟩
    case measure=>simp [intOf];omega
   ·have hbad:ans=false:=by rw [HA.out];exact qsb hlt (by omega) hxy
    subst hbad;have t1:=qsq (s:=y) (t:=x) (by rw [hx2,hy2];exact hxy);clear hx hx2 hy hy2 hj hall hxy;go_wp2
    go_quiet (fail)
    go_wp2;go_ret;exact ⟨rfl,hbw.trans ⟨rfl,rfl,rfl,Nat.le_refl _,fun _ _=>rfl⟩⟩
  ·have hgood:ans=true:=by rw [HA.out];exact qsc fun i hi h0=>hall i hi h0 (by omega)
   subst hgood;clear hall;go_wp2;go_ret;exact ⟨rfl,hbw⟩
def qb3 (vs:List Nat):List Value:=vs.map fun v=> .pointer (some ⟨v,0,none⟩)
theorem qho {w:World} {B:Nat} {A:Option Addr} {l:List Nat} {k:Nat} (h:Row w B A (qb3 l)) (hk:k<l.length):∃ b off,A=some ⟨b,off,none⟩/\b<B/\w.cell? ⟨b,off+k,none⟩=some (.pointer (some ⟨l[k],0,none⟩)):=by
 obtain ⟨b,off,rfl,hb,hc⟩:=Row.at_ h (by simp [qb3];omega);exact ⟨b,off,rfl,hb,hc _ _ (by simp [qb3,hk])⟩
def qgG (w:World) (base B:Nat) (l:List Nm) (vs:List Nat):Prop:=
 base<=B/\vs.length=l.length/\∃ v,w.heap[B]?=some (.cells #[v] 108 (0,0))/\w.ownsRow base 177 2 v l.length (qaK l vs)
theorem qgG.read {w:World} {base B:Nat} {l:List Nm} {vs:List Nat} (h:qgG w base B l vs):
  ∃ A c,w.cell? ⟨B,0,none⟩=some (.slice A l.length c)/\l.length<=c/\c<=maxLen/\Row w w.heap.size A (qaK l vs)/\(A=none/\l=[]/\c=0∨∃ g,A=some ⟨g,0,none⟩):=by
 obtain ⟨h1,h2,v,h3,h4⟩:=h;have hc:=cell_of_one h3;obtain ⟨A,c,rfl,hn,hr⟩:=qaR h4;refine ⟨A,c,hc,hn,?_,hr,?_⟩
 ·rcases h4.2 with ⟨h0,_⟩|⟨g,cap,cur,hv,_,_,_,h5,_⟩
  ·injection h0 with _ _ h0;omega
  ·injection hv with _ _ hv;omega
 ·rcases h4.2 with ⟨h0,h5⟩|⟨g,cap,cur,hv,_⟩
  ·injection h0 with a1 _ a3
   exact .inl ⟨a1,List.eq_nil_of_length_eq_zero h5,a3⟩
  ·injection hv with a1
   exact .inr ⟨g,a1⟩
def qm3 (l:List Nm) (vs:List Nat) (w:World) (e:Ending) (w':World):Prop:=∃ B,e= .returned (.tuple #[.pointer (some ⟨B,0,none⟩),.int .i64 0])/\qgG w' w.heap.size B l vs/\Below w.heap.size w w'
def qjg (B:Nat) (l:List Nm) (vs:List Nat) (w:World) (i:Value) (wr:World):Prop:=
 ∃ (k:Nat) (v:Value),k<=l.length/\i= .int .i64 (k:Int)/\wr.heap[B]?=some (.cells #[v] 108 (0,0))/\wr.ownsRow w.heap.size 177 2 v k (qaK (l.take k) (vs.take k))/\Below w.heap.size w wr
theorem qm4 {w:World} {base B:Nat} {e:TypeId} {size:Nat} {v:Value} {n:Nat} {xs:List Value} {cs:Array Value} {t:TypeId} {fr:Nat × Nat} (h:w.ownsRow base e size v n xs) (hB:w.heap[B]?=some (.cells cs t fr)) (ht:t≠e) (o:Nat) (u:Value):(w.setCell ⟨B,o,none⟩ u).ownsRow base e size v n xs:=
 qat h fun g hg=>Below.heap_setCell _ _ _ _ (fun e1=>qai h hB ht (by rw [hg,e1]))
theorem qto {w0 w1:World} {base B n:Nat} {v v':Value} {xs ys:List Value} (hv:w0.heap[B]?=some (.cells #[v] 108 (0,0))) (hown:w0.ownsRow base 177 2 v n xs) (hg:w0.grownBy w1 v.ownBlock) (hown1:w1.ownsRow base 177 2 v' (n+1) ys) (hbase:base<=w0.heap.size) (hB:base<=B):
  w1.heap[B]?=some (.cells #[v] 108 (0,0))/\(w1.setCell ⟨B,0,none⟩ v').heap[B]?=some (.cells #[v'] 108 (0,0))/\(w1.setCell ⟨B,0,none⟩ v').ownsRow base 177 2 v' (n+1) ys/\Below base w0 (w1.setCell ⟨B,0,none⟩ v'):=by
 have h1:w1.heap[B]?=some (.cells #[v] 108 (0,0)):=(hg.block B (lt_of_block hv) (fun e=>qai hown hv (by decide) e.symm)).trans hv;refine ⟨h1,by simpa using one_setCell h1,qm4 hown1 h1 (by decide) _ _,?_⟩;exact (((Below.refl base w0).grown hg hbase fun k hk=>(hown.lt k hk).1)).setCell hB _
theorem qtp (A A2:Option Addr) (n c c2:Nat) (l:List Nm) (vs:List Nat) (w:World) (hr:Row w w.heap.size A (qae l)) (hn:l.length=n) (hl:n<=1048576) (hv:Row w w.heap.size A2 (qb3 vs)) (hvn:vs.length=n) (hg:qc8 l=true):
    Calls Tryz.prog 71 #[.slice A n c,.slice A2 n c2] w (qm3 l vs w):=by
  obtain ⟨i0,hi0,hz0,hz1,hz2⟩:=info_parts qtm;have c1:=qhn A n c l w hr hn (by omega);rw [hg] at c1;have C1:=qH c1;have HR:=qH hr;have HV:=qH hv;have HN:=qH hn;have HVN:=qH hvn;clear c1 hr hv hn hvn hg
  go_enter Tryz.func71,Tryz.ntmps71
  go_wp2_with (go_at_call 120;refine (C1.out).mono ?_)
  rintro e w1 ⟨rfl,hb1⟩;obtain ⟨w2,hrun,hown2,hgrow2⟩:=run_make_own (P:=Tryz.prog) w1 w.heap.size 106 177 i0 _ 2 Tryz.underlying106 hi0 hz0 hz1 .i64 .i64 n (by rw [hz2];omega) (by unfold maxLen;omega) hb1.size;have hb2:Below w.heap.size w w2:=hb1.grown hgrow2 hb1.size (fun k hk=>by cases hk);obtain ⟨B,hB⟩:∃ B,B=w2.heap.size:=⟨_,rfl⟩;obtain ⟨w3,hw3⟩:∃ w3,w3=w2.alloc (.cells #[.slice (some ⟨w1.heap.size,0,none⟩) 0 n] 108):=⟨_,rfl⟩;have hrel:qjg B l vs w (.int .i64 ((0:Nat):Int)) w3:=by
    refine ⟨0,.slice (some ⟨w1.heap.size,0,none⟩) 0 n,Nat.zero_le _,rfl,?_,?_,?_⟩
    · rw [hw3,hB];exact heap_alloc_new w2 _
    · rw [hw3];simpa [qe6] using hown2.alloc _
    · rw [hw3];exact hb2.alloc hb2.size _
  have HREL:=qH hrel;have HW3:=qH hw3;have HB:=qH hB;have HBW:Hid (w.heap.size<=B):=qH (by rw [hB];exact hb2.size);clear hrel hown2 hgrow2 hb2 hb1 hw3 hB;go_wp2;rw [<- HW3.out,<- HB.out];clear hrun
  go_loopw [26] (qjg B l vs w) (fun i _=>n-(intOf i).toNat)
  case atStart=>exact HREL.out
  case round=>
    obtain ⟨k,v,hk,rfl,hblk,hown,hbw⟩:=hrel;rw [HN.out] at hk;have hsz:=hbw.size;by_cases hlt:k<n
    · have hkl:k<l.length:=by rw [HN.out];exact hlt
      have hkv:k<vs.length:=by rw [HVN.out];exact hlt
      obtain ⟨b1,o1,e1,hb1,hc1⟩:=qfu (HR.out.below hbw) hkl;obtain ⟨b2,o2,e2,hb2,hc2⟩:=qho (HV.out.below hbw) hkv;subst e1 e2;obtain ⟨x,hx⟩:∃ x:ByteArray,x=⟨l[k].toArray⟩:=⟨_,rfl⟩;obtain ⟨y,hy⟩:∃ y,y=vs[k]:=⟨_,rfl⟩;rw [<- hx] at hc1;rw [<- hy] at hc2;have hsn:qaK (l.take (k+1)) (vs.take (k+1))=qaK (l.take k) (vs.take k)++[.string x,.pointer (some ⟨y,0,none⟩)]:=by
        rw [List.take_succ_eq_append_getElem hkl,List.take_succ_eq_append_getElem hkv,qjd (by simp only [List.length_take];rw [HN.out,HVN.out]),<- hx,<- hy]
      obtain ⟨cs,hcs⟩:∃ cs,cs=qaK (l.take k) (vs.take k):=⟨_,rfl⟩;rw [<- hcs] at hown hsn;have cB:=cell_of_one hblk;have fB:=free_of_one hblk;have k2:(0:Int)<=(k:Int):=by omega
      have k3:(k:Int)<(n:Int):=by omega
      have hBlt:=lt_of_block hblk;have hal:∀ o,((wr.alloc o).drew).cell? ⟨B,0,none⟩=some v:=fun o=>(((Below.refl _ wr).alloc (Nat.le_refl _) o).cell (p:=⟨B,0,none⟩) hBlt).trans cB
      have HOWN:=qH hown;have HBLK:=qH hblk;have HSN:=qH hsn;clear hx hy hcs hown hblk hsn hkl hkv;go_wp2
      go_region_law (first
        | (refine step_append_lies _ (by rfl) _ _ _ (by rfl) w.heap.size 177 i0 _ 2 24 Tryz.underlying106 hi0 hz0 hz1 hz2 rfl (by omega) v k cs (by rfl) ((HOWN.out.alloc _).drew)
            ⟨wr.heap.size,0,none⟩ 1 1 [.string x,.pointer (some ⟨y,0,none⟩)] (by rfl) (by rfl) (World.news_of_block (cs:=#[.string x,.pointer (some ⟨y,0,none⟩)]) (t:=177) (fr:=(0,0)) (heap_alloc_new wr.drew _)) (by intro u hu;simp at hu;rcases hu with hu|hu<;>(subst hu;rfl))
            (by omega) (by unfold maxLen;omega) (by omega) (by simp;omega) (wr.heap.size+1) (by simp) ?_
           intro gg cap w5 hown5 hg5 hat hlt5;obtain ⟨hB5,hB6,hown6,hb6⟩:=qto (((Below.refl _ wr).alloc (Nat.le_refl _) _).drew.block B hBlt |>.trans HBLK.out) ((HOWN.out.alloc _).drew) hg5 hown5 (by simp;omega) HBW.out
           have cB5:=cell_of_one hB5;have fB5:=free_of_one hB5))
      all_goals
        have hrel:qjg B l vs w (.int .i64 ((k:Int)+1)) (w5.setCell ⟨B,0,none⟩ (.slice (some ⟨gg,0,none⟩) (k+1) cap)):=by
          refine ⟨k+1,_,by rw [HN.out];omega,by go_num,hB6,?_,?_⟩
          · rw [HSN.out];exact hown6
          · exact hbw.trans ((((Below.refl _ wr).alloc hsz _).drew).trans hb6)
        have HREL:=qH hrel;clear hrel hB6 hown6 hb6 hB5;go_wp2;go_roundw
        case rel=>exact HREL.out
        case measure=>simp [intOf];omega
    · have hkn:k=n:=by omega
      have HFIN:Hid (qm3 l vs w (.returned (.tuple #[.pointer (some ⟨B,0,none⟩),.int .i64 0])) wr):=qH ⟨B,rfl,⟨HBW.out,by rw [HN.out,HVN.out],v,hblk,by
        rw [hkn,List.take_of_length_le (by rw [HN.out];omega),List.take_of_length_le (by rw [HVN.out];omega)] at hown;rw [HN.out];exact hown⟩,hbw⟩
      clear hown hblk hbw;go_wp2;go_ret2;exact HFIN.out
theorem qtq:(Tryz.prog.info? 232).map (fun i=>(i.zero,i.size,i.bytes))=some (some (.agg #[.string ByteArray.empty,.pointer none]),2,24):=by kernel_rfl
theorem qm5 (B o:Nat) (l:List Nm) (vs:List Nat) (w:World) (h:qbP w B o l vs):
  Calls Tryz.prog 135 #[.pointer (some ⟨B,o,none⟩)] w fun e w'=>e= .returned (.int .i64 (l.length:Int))/\w=w':=by
 obtain ⟨_,_,A,c,hc,_⟩:=h
 go_enter Tryz.func135,Tryz.ntmps135
 go_wp2;go_ret;exact ⟨rfl,rfl⟩
def qeG (w:World) (base B:Nat) (l:List Nm) (vs:List Nat):Prop:=
 base<=B/\vs.length=l.length/\∃ v,w.heap[B]?=some (.cells #[v] 229 (0,0))/\w.ownsRow base 232 2 v l.length (qaK l vs)
theorem qeG.read {w:World} {base B:Nat} {l:List Nm} {vs:List Nat} (h:qeG w base B l vs):
  ∃ A c,w.cell? ⟨B,0,none⟩=some (.slice A l.length c)/\l.length<=c/\c<=maxLen/\Row w w.heap.size A (qaK l vs)/\(A=none/\l=[]/\c=0∨∃ g,A=some ⟨g,0,none⟩):=by
 obtain ⟨h1,h2,v,h3,h4⟩:=h;have hc:=cell_of_one h3;obtain ⟨A,c,rfl,hn,hr⟩:=qaR h4;refine ⟨A,c,hc,hn,?_,hr,?_⟩
 ·rcases h4.2 with ⟨h0,_⟩|⟨g,cap,cur,hv,_,_,_,h5,_⟩
  ·injection h0 with _ _ h0;omega
  ·injection hv with _ _ hv;omega
 ·rcases h4.2 with ⟨h0,h5⟩|⟨g,cap,cur,hv,_⟩
  ·injection h0 with a1 _ a3
   exact .inl ⟨a1,List.eq_nil_of_length_eq_zero h5,a3⟩
  ·injection hv with a1
   exact .inr ⟨g,a1⟩
def qm6 (l:List Nm) (vs:List Nat) (w:World) (e:Ending) (w':World):Prop:=∃ B,e= .returned (.tuple #[.pointer (some ⟨B,0,none⟩),.int .i64 0])/\qeG w' w.heap.size B l vs/\Below w.heap.size w w'
def qjh (B:Nat) (l:List Nm) (vs:List Nat) (w:World) (i:Value) (wr:World):Prop:=
 ∃ (k:Nat) (v:Value),k<=l.length/\i= .int .i64 (k:Int)/\wr.heap[B]?=some (.cells #[v] 229 (0,0))/\wr.ownsRow w.heap.size 232 2 v k (qaK (l.take k) (vs.take k))/\Below w.heap.size w wr
theorem qtr {w0 w1:World} {base B n:Nat} {v v':Value} {xs ys:List Value} (hv:w0.heap[B]?=some (.cells #[v] 229 (0,0))) (hown:w0.ownsRow base 232 2 v n xs) (hg:w0.grownBy w1 v.ownBlock) (hown1:w1.ownsRow base 232 2 v' (n+1) ys) (hbase:base<=w0.heap.size) (hB:base<=B):
  w1.heap[B]?=some (.cells #[v] 229 (0,0))/\(w1.setCell ⟨B,0,none⟩ v').heap[B]?=some (.cells #[v'] 229 (0,0))/\(w1.setCell ⟨B,0,none⟩ v').ownsRow base 232 2 v' (n+1) ys/\Below base w0 (w1.setCell ⟨B,0,none⟩ v'):=by
 have h1:w1.heap[B]?=some (.cells #[v] 229 (0,0)):=(hg.block B (lt_of_block hv) (fun e=>qai hown hv (by decide) e.symm)).trans hv;refine ⟨h1,by simpa using one_setCell h1,qm4 hown1 h1 (by decide) _ _,?_⟩;exact (((Below.refl base w0).grown hg hbase fun k hk=>(hown.lt k hk).1)).setCell hB _
theorem qts (A A2:Option Addr) (n c c2:Nat) (l:List Nm) (vs:List Nat) (w:World) (hr:Row w w.heap.size A (qae l)) (hn:l.length=n) (hl:n<=1048576) (hv:Row w w.heap.size A2 (qb3 vs)) (hvn:vs.length=n) (hg:qc8 l=true):
    Calls Tryz.prog 133 #[.slice A n c,.slice A2 n c2] w (qm6 l vs w):=by
  obtain ⟨i0,hi0,hz0,hz1,hz2⟩:=info_parts qtq;have c1:=qhn A n c l w hr hn (by omega);rw [hg] at c1;have C1:=qH c1;have HR:=qH hr;have HV:=qH hv;have HN:=qH hn;have HVN:=qH hvn;clear c1 hr hv hn hvn hg
  go_enter Tryz.func133,Tryz.ntmps133
  go_wp2_with (go_at_call 120;refine (C1.out).mono ?_)
  rintro e w1 ⟨rfl,hb1⟩;obtain ⟨w2,hrun,hown2,hgrow2⟩:=run_make_own (P:=Tryz.prog) w1 w.heap.size 227 232 i0 _ 2 Tryz.underlying227 hi0 hz0 hz1 .i64 .i64 n (by rw [hz2];omega) (by unfold maxLen;omega) hb1.size;have hb2:Below w.heap.size w w2:=hb1.grown hgrow2 hb1.size (fun k hk=>by cases hk);obtain ⟨B,hB⟩:∃ B,B=w2.heap.size:=⟨_,rfl⟩;obtain ⟨w3,hw3⟩:∃ w3,w3=w2.alloc (.cells #[.slice (some ⟨w1.heap.size,0,none⟩) 0 n] 229):=⟨_,rfl⟩;have hrel:qjh B l vs w (.int .i64 ((0:Nat):Int)) w3:=by
    refine ⟨0,.slice (some ⟨w1.heap.size,0,none⟩) 0 n,Nat.zero_le _,rfl,?_,?_,?_⟩
    · rw [hw3,hB];exact heap_alloc_new w2 _
    · rw [hw3];simpa [qe6] using hown2.alloc _
    · rw [hw3];exact hb2.alloc hb2.size _
  have HREL:=qH hrel;have HW3:=qH hw3;have HB:=qH hB;have HBW:Hid (w.heap.size<=B):=qH (by rw [hB];exact hb2.size);clear hrel hown2 hgrow2 hb2 hb1 hw3 hB;go_wp2;rw [<- HW3.out,<- HB.out];clear hrun
  go_loopw [26] (qjh B l vs w) (fun i _=>n-(intOf i).toNat)
  case atStart=>exact HREL.out
  case round=>
    obtain ⟨k,v,hk,rfl,hblk,hown,hbw⟩:=hrel;rw [HN.out] at hk;have hsz:=hbw.size;by_cases hlt:k<n
    · have hkl:k<l.length:=by rw [HN.out];exact hlt
      have hkv:k<vs.length:=by rw [HVN.out];exact hlt
      obtain ⟨b1,o1,e1,hb1,hc1⟩:=qfu (HR.out.below hbw) hkl;obtain ⟨b2,o2,e2,hb2,hc2⟩:=qho (HV.out.below hbw) hkv;subst e1 e2;obtain ⟨x,hx⟩:∃ x:ByteArray,x=⟨l[k].toArray⟩:=⟨_,rfl⟩;obtain ⟨y,hy⟩:∃ y,y=vs[k]:=⟨_,rfl⟩;rw [<- hx] at hc1;rw [<- hy] at hc2;have hsn:qaK (l.take (k+1)) (vs.take (k+1))=qaK (l.take k) (vs.take k)++[.string x,.pointer (some ⟨y,0,none⟩)]:=by
        rw [List.take_succ_eq_append_getElem hkl,List.take_succ_eq_append_getElem hkv,qjd (by simp only [List.length_take];rw [HN.out,HVN.out]),<- hx,<- hy]
      obtain ⟨cs,hcs⟩:∃ cs,cs=qaK (l.take k) (vs.take k):=⟨_,rfl⟩;rw [<- hcs] at hown hsn;have cB:=cell_of_one hblk;have fB:=free_of_one hblk;have k2:(0:Int)<=(k:Int):=by omega
      have k3:(k:Int)<(n:Int):=by omega
      have hBlt:=lt_of_block hblk;have hal:∀ o,((wr.alloc o).drew).cell? ⟨B,0,none⟩=some v:=fun o=>(((Below.refl _ wr).alloc (Nat.le_refl _) o).cell (p:=⟨B,0,none⟩) hBlt).trans cB
      have HOWN:=qH hown;have HBLK:=qH hblk;have HSN:=qH hsn;clear hx hy hcs hown hblk hsn hkl hkv;go_wp2
      go_region_law (first
        | (refine step_append_lies _ (by rfl) _ _ _ (by rfl) w.heap.size 232 i0 _ 2 24 Tryz.underlying227 hi0 hz0 hz1 hz2 rfl (by omega) v k cs (by rfl) ((HOWN.out.alloc _).drew)
            ⟨wr.heap.size,0,none⟩ 1 1 [.string x,.pointer (some ⟨y,0,none⟩)] (by rfl) (by rfl) (World.news_of_block (cs:=#[.string x,.pointer (some ⟨y,0,none⟩)]) (t:=232) (fr:=(0,0)) (heap_alloc_new wr.drew _)) (by intro u hu;simp at hu;rcases hu with hu|hu<;>(subst hu;rfl))
            (by omega) (by unfold maxLen;omega) (by omega) (by simp;omega) (wr.heap.size+1) (by simp) ?_
           intro gg cap w5 hown5 hg5 hat hlt5;obtain ⟨hB5,hB6,hown6,hb6⟩:=qtr (((Below.refl _ wr).alloc (Nat.le_refl _) _).drew.block B hBlt |>.trans HBLK.out) ((HOWN.out.alloc _).drew) hg5 hown5 (by simp;omega) HBW.out
           have cB5:=cell_of_one hB5;have fB5:=free_of_one hB5))
      all_goals
        have hrel:qjh B l vs w (.int .i64 ((k:Int)+1)) (w5.setCell ⟨B,0,none⟩ (.slice (some ⟨gg,0,none⟩) (k+1) cap)):=by
          refine ⟨k+1,_,by rw [HN.out];omega,by go_num,hB6,?_,?_⟩
          · rw [HSN.out];exact hown6
          · exact hbw.trans ((((Below.refl _ wr).alloc hsz _).drew).trans hb6)
        have HREL:=qH hrel;clear hrel hB6 hown6 hb6 hB5;go_wp2;go_roundw
        case rel=>exact HREL.out
        case measure=>simp [intOf];omega
    · have hkn:k=n:=by omega
      have HFIN:Hid (qm6 l vs w (.returned (.tuple #[.pointer (some ⟨B,0,none⟩),.int .i64 0])) wr):=qH ⟨B,rfl,⟨HBW.out,by rw [HN.out,HVN.out],v,hblk,by
        rw [hkn,List.take_of_length_le (by rw [HN.out];omega),List.take_of_length_le (by rw [HVN.out];omega)] at hown;rw [HN.out];exact hown⟩,hbw⟩
      clear hown hblk hbw;go_wp2;go_ret2;exact HFIN.out
theorem qji (s:ByteArray) (w:World):Calls Tryz.prog 188 #[.string s] w fun e w'=>e= .returned (.bool false)/\w=w':=by
 go_enter Tryz.func188,Tryz.ntmps188
 go_wp2;go_ret;exact ⟨by simp,rfl⟩
theorem qm7 (x y:ByteArray) (w:World):Calls Tryz.prog 153 #[.string x,.string y] w fun e w'=>e= .returned (.int .i64 (qaC x.data.toList y.data.toList))/\w=w':=by
 have e1:Op.bytesLess x.toList y.toList=decide (x.data.toList<y.data.toList):=by rw [Lib.toList_data,Lib.toList_data,qgv]
 have e2:(x.toList==y.toList)=decide (x.data.toList=y.data.toList):=by rw [Lib.toList_data,Lib.toList_data,Bool.eq_iff_iff];simp
 by_cases h1:x.data.toList<y.data.toList
 ·have hc:qaC x.data.toList y.data.toList= -1:=by simp [qaC,h1]
  rw [decide_eq_true h1] at e1;rw [hc];clear e2 hc h1
  go_enter Tryz.func153,Tryz.ntmps153
  go_wp2_with (go_at_call 188;refine (qji _ _).mono ?_;rintro e w' ⟨rfl,rfl⟩)
  go_ret;exact ⟨rfl,rfl⟩
 ·rw [decide_eq_false h1] at e1
  by_cases h2:x.data.toList=y.data.toList
  ·have hc:qaC x.data.toList y.data.toList=0:=by simp [qaC,h2]
   rw [decide_eq_true h2] at e2;rw [hc];clear hc h1 h2
   go_enter Tryz.func153,Tryz.ntmps153
   go_wp2_with (go_at_call 188;refine (qji _ _).mono ?_;rintro e w' ⟨rfl,rfl⟩)
   go_ret;exact ⟨rfl,rfl⟩
  ·have hc:qaC x.data.toList y.data.toList=1:=by simp [qaC,h1,h2]
   rw [decide_eq_false h2] at e2;rw [hc];clear hc h1 h2
   go_enter Tryz.func153,Tryz.ntmps153
   go_wp2_with (go_at_call 188;refine (qji _ _).mono ?_;rintro e w' ⟨rfl,rfl⟩)
   go_ret;exact ⟨rfl,rfl⟩
structure qfY (B o b1 b2:Nat) (l:List Nm) (vs:List Nat) (s:ByteArray) (W:World):Prop where
 dict:qbP W B o l vs
 var:W.heap[b1]?=some (.cells #[.pointer (some ⟨B,o,none⟩)] 139 (0,0))
 text:W.heap[b2]?=some (.cells #[.string s] 9 (0,0))
theorem qfY.below {B o b1 b2:Nat} {l:List Nm} {vs:List Nat} {s:ByteArray} {W W':World} (h:qfY B o b1 b2 l vs s W) (hb:Below W.heap.size W W'):qfY B o b1 b2 l vs s W':=
 ⟨h.dict.below hb,(hb.block _ (lt_of_block h.var)).trans h.var,(hb.block _ (lt_of_block h.text)).trans h.text⟩
theorem qtt (B o b1 b2 k:Nat) (l:List Nm) (vs:List Nat) (s:ByteArray) (W:World) (h:qfY B o b1 b2 l vs s W) (hk:k<l.length) (hl:l.length<=1073741824):
  Calls Tryz.prog 178 #[.int .i64 (k:Int),.pointer (some ⟨b1,0,none⟩),.pointer (some ⟨b2,0,none⟩)] W fun e w'=>e= .returned (.int .i64 (qaC l[k] s.data.toList))/\∃ q,w'=W.drewN q:=by
 obtain ⟨b,off,c,h1,h2,h3,h4,h5,h6⟩:=h.dict.ent hk;have hv:=cell_of_one h.var;have ht:=cell_of_one h.text;obtain ⟨x,hx,hx2⟩:=qbY l[k];rw [<- hx] at h5;have hcm:=fun w=>qm7 x s w
 rw [hx2] at hcm;obtain ⟨z,hz⟩:∃ z,z=qaC l[k] s.data.toList:=⟨_,rfl⟩;rw [<- hz] at hcm ⊢;have CM:Hid (∀ n,Calls Tryz.prog 153 #[.string x,.string s] (W.drewN n) fun e w'=>e= .returned (.int .i64 z)/\w'=W.drewN n):=qH fun n=>(hcm _).mono fun _ _ h=>⟨h.1,h.2.symm⟩
 obtain ⟨n,hn⟩:∃ n,n=l.length:=⟨_,rfl⟩;rw [<- hn] at h1 h2 hl hk;have k2:(0:Int)<=(k:Int):=by omega
 have k3:(k:Int)<(n:Int):=by omega
 clear hx hx2 hz hn h hcm h6
 go_enter Tryz.func178,Tryz.ntmps178
 go_wp2
 go_quiet ((go_at_call 153;exact Calls.quiet_of_same (CM.out _)))
 go_wp2;go_ret;exact ⟨rfl,_,rfl⟩
def qm8 (B o b1 b2:Nat) (l:List Nm) (vs:List Nat) (s:ByteArray) (w:World) (u4 u5 u6 u7:Value) (wr:World):Prop:=
 u4= .int .i64 0/\u5= .bool false/\∃ a b:Nat,u6= .int .i64 (a:Int)/\u7= .int .i64 (b:Int)/\a<=b/\b<=l.length/\Below w.heap.size w wr/\
  (∀ j (hj:j<l.length),j<a->l[j]<s.data.toList)/\∀ j (hj:j<l.length),b<=j->s.data.toList<l[j]
theorem qtu (B o b1 b2:Nat) (l:List Nm) (vs:List Nat) (s:ByteArray) (w:World) (h:qfY B o b1 b2 l vs s w) (hr:qaI l) (hl:l.length<=1073741824):
  Calls Tryz.prog 177 #[.int .i64 (l.length:Int),.func (.func 178) #[] #[.pointer (some ⟨b1,0,none⟩),.pointer (some ⟨b2,0,none⟩)]] w
   fun e w'=>e= .returned (.tuple #[.int .i64 (qay l s.data.toList),.bool (isN l s.data.toList)])/\Below w.heap.size w w':=by
 have H:=qH h;have HR:=qH hr;have HL:=qH hl;obtain ⟨n,hn⟩:∃ n,n=l.length:=⟨_,rfl⟩;rw [<- hn] at hl ⊢;have HN:=qH hn;obtain ⟨p,hp⟩:∃ p,p=qay l s.data.toList:=⟨_,rfl⟩;obtain ⟨z,hz⟩:∃ z,z=isN l s.data.toList:=⟨_,rfl⟩;rw [<- hp,<- hz];have HP:=qH hp;have HZ:=qH hz;clear h hr hn hp hz
 go_enter Tryz.func177,Tryz.ntmps177
 go_wp2
 go_loopw [4,5,6,7] (qm8 B o b1 b2 l vs s w) (fun _ _ a b _=>(intOf b-intOf a).toNat)
 case atStart=>exact ⟨rfl,rfl,0,n,rfl,rfl,by omega,by have :=HN.out;omega,Below.refl _ _,fun j _ hj=>by omega,fun j hj hnj=>by have :=HN.out;omega⟩
 case round=>
  obtain ⟨rfl,rfl,a,b,rfl,rfl,hab,hbn,hbw,hlo,hhi⟩:=hrel;rw [<- HN.out] at hbn;by_cases hlt:a<b
  ·obtain ⟨m,hm⟩:∃ m:Nat,m=a+(b-a)/2:=⟨_,rfl⟩
   have hmI:(a:Int)+((b:Int)-(a:Int))/2=(m:Int):=by omega
   have hma:a<=m:=by omega
   have hmb:m<b:=by omega
   have hmn:m<l.length:=by rw [<- HN.out];omega
   have C1:=qH (qtt B o b1 b2 m l vs s wr (H.out.below hbw) hmn HL.out);have d1:decide ((a:Int)<(b:Int))=true:=decide_eq_true (by omega);have d1':decide (a<b)=true:=decide_eq_true hlt;have i1:(0:Int)<=(b:Int)-(a:Int):=by omega
   have i2:(b:Int)-(a:Int)<=1073741824:=by omega
   have i3:(0:Int)<=(m:Int):=by omega
   have i4:(m:Int)<=1073741824:=by omega
   have i5:(a:Int)<=1073741824:=by omega
   have HLO:=qH hlo;have HHI:=qH hhi;clear hm hlo hhi;rcases qdY l[m] s.data.toList with hlt'|heq|hgt
   ·have hc:qaC l[m] s.data.toList= -1:=by simp [qaC,hlt']
    rw [hc] at C1;have HLO2:Hid (∀ j (hj:j<l.length),j<m+1->l[j]<s.data.toList):=qH fun j hj hjm=>by
     by_cases e:j=m
     ·subst e;exact hlt'
     ·exact qcX (qef HR.out hmn (by omega)) hlt'
    clear hc hlt'
    go_wp2_with (go_at_call 178;refine (C1.out).mono ?_;rintro e w' ⟨rfl,q,rfl⟩)
    go_roundw
    case rel=>exact ⟨rfl,rfl,m+1,b,by go_num,rfl,by omega,by rw [<- HN.out];omega,hbw.trans ⟨rfl,rfl,rfl,Nat.le_refl _,fun _ _=>rfl⟩,HLO2.out,HHI.out⟩
    case measure=>simp [intOf];omega
   ·have hc:qaC l[m] s.data.toList=0:=by
     unfold qaC;rw [if_neg (by rw [heq];exact qeA _),if_pos heq]
    rw [hc] at C1;have hf:=qix hmn (fun j hj hjm=>by have :=qef HR.out hmn hjm;rwa [heq] at this) heq;have hpm:p=m:=by rw [HP.out];exact hf.1
    have hzt:z=true:=by rw [HZ.out];exact hf.2
    subst hpm hzt;clear hc heq hf
    go_wp2_with (go_at_call 178;refine (C1.out).mono ?_;rintro e w' ⟨rfl,q,rfl⟩)
    go_ret2;exact ⟨rfl,hbw.trans ⟨rfl,rfl,rfl,Nat.le_refl _,fun _ _=>rfl⟩⟩
   ·have hc:qaC l[m] s.data.toList=1:=by
     unfold qaC;rw [if_neg (qgp hgt),if_neg (qiv hgt).symm]
    rw [hc] at C1;have HHI2:Hid (∀ j (hj:j<l.length),m<=j->s.data.toList<l[j]):=qH fun j hj hjm=>by
     by_cases e:m=j
     ·subst e;exact hgt
     ·exact qcX hgt (qef HR.out hj (by omega))
    clear hc hgt
    go_wp2_with (go_at_call 178;refine (C1.out).mono ?_;rintro e w' ⟨rfl,q,rfl⟩)
    go_roundw
    case rel=>exact ⟨rfl,rfl,a,m,rfl,rfl,by omega,by rw [<- HN.out];omega,hbw.trans ⟨rfl,rfl,rfl,Nat.le_refl _,fun _ _=>rfl⟩,HLO.out,HHI2.out⟩
    case measure=>simp [intOf];omega
  ·have hab2:a=b:=by omega
   subst hab2;have hmi:=qlI (s:=s.data.toList) (by rw [<- HN.out];omega) hlo (fun h=>hhi a h (Nat.le_refl _));have hpm:p=a:=by rw [HP.out];exact hmi.1
   have hzt:z=false:=by rw [HZ.out];exact hmi.2
   subst hpm hzt;clear hlo hhi hmi hlt;go_wp2;go_ret2;exact ⟨rfl,hbw⟩
theorem qtv (B o:Nat) (l:List Nm) (vs:List Nat) (s:ByteArray) (w:World) (h:qbP w B o l vs) (hr:qaI l) (hl:l.length<=1073741824):
  Calls Tryz.prog 143 #[.pointer (some ⟨B,o,none⟩),.string s] w fun e w'=>e= .returned (.tuple #[.int .i64 (qay l s.data.toList),.bool (isN l s.data.toList)])/\Below w.heap.size w w':=by
 obtain ⟨w2,hw2⟩:∃ w2,w2=(w.alloc (.cells #[.pointer (some ⟨B,o,none⟩)] 139)).alloc (.cells #[.string s] 9):=⟨_,rfl⟩;have hb2:Below w.heap.size w w2:=by rw [hw2];exact ((Below.refl _ _).alloc (Nat.le_refl _) _).alloc (by simp) _
 have hlk:qfY B o w.heap.size (w.heap.size+1) l vs s w2:=by
  refine ⟨h.below hb2,?_,?_⟩
  ·rw [hw2,Below.heap_alloc _ _ _ (by simp)];exact heap_alloc_new w _
  ·rw [hw2];have :=heap_alloc_new (w.alloc (.cells #[.pointer (some ⟨B,o,none⟩)] 139)) (.cells #[.string s] 9);simpa using this
 have C1:=qH (qjf B o l vs w2 hlk.dict);have C2:=qH (qtu B o _ _ l vs s w2 hlk hr hl);have HB:=qH hb2;have cv:=cell_of_one hlk.var;obtain ⟨n,hn⟩:∃ n,n=l.length:=⟨_,rfl⟩;rw [<- hn] at C1 C2;obtain ⟨p,hp⟩:∃ p,p=qay l s.data.toList:=⟨_,rfl⟩;obtain ⟨z,hz⟩:∃ z,z=isN l s.data.toList:=⟨_,rfl⟩;rw [<- hp,<- hz] at C2;rw [<- hp,<- hz];have HW2:=qH hw2;clear hp hz hn h hr hl hb2 hlk hw2
 go_enter Tryz.func143,Tryz.ntmps143
 go_wp2_with (first
  |(go_at_call 98;rw [<- HW2.out];refine (C1.out).mono ?_;rintro e w' ⟨rfl,rfl⟩)
  |(go_at_call 177;refine (C2.out).mono ?_;rintro e w' ⟨rfl,hb⟩))
 go_ret2;exact ⟨rfl,HB.out.trans (hb.mono HB.out.size)⟩
theorem qtw (B o:Nat) (l:List Nm) (vs:List Nat) (s:ByteArray) (w:World) (h:qbP w B o l vs) (hr:qaI l) (hl:l.length<=1073741824):
  Calls Tryz.prog 101 #[.pointer (some ⟨B,o,none⟩),.string s] w
   fun e w'=>e= .returned (.tuple #[.pointer (if isN l s.data.toList=true then some ⟨vs.getD (qay l s.data.toList) 0,0,none⟩ else none),.bool (isN l s.data.toList)])/\Below w.heap.size w w':=by
 have c1:=qtv B o l vs s w h hr hl;have hfd:=qiy (l:=l) (s:=s.data.toList);obtain ⟨p,hp⟩:∃ p,p=qay l s.data.toList:=⟨_,rfl⟩;obtain ⟨z,hz⟩:∃ z,z=isN l s.data.toList:=⟨_,rfl⟩;rw [<- hp,<- hz] at c1 ⊢;rw [<- hz] at hfd;cases z with
 |true=>
  have hpl:p<l.length:=by rw [hp];exact (hfd rfl).1
  have H:=qH h;have C1:=qH c1;have HPL:=qH hpl;rw [if_pos rfl];obtain ⟨y,hy⟩:∃ y,y=vs.getD p 0:=⟨_,rfl⟩;rw [<- hy];have HY:=qH hy;obtain ⟨n,hn⟩:∃ n,n=l.length:=⟨_,rfl⟩;have HN:=qH hn;rw [<- hn] at hl hpl;have k2:(0:Int)<=(p:Int):=by omega
  have k3:(p:Int)<(n:Int):=by omega
  clear h c1 hfd hp hz hn hy
  go_enter Tryz.func101,Tryz.ntmps101
  go_wp2_with (go_at_call 143;refine (C1.out).mono ?_)
  rintro e w1 ⟨rfl,hb⟩;obtain ⟨b,off,c,h1,h2,h3,h4,h5,h6⟩:=(H.out.below hb).ent HPL.out;rw [<- HN.out] at h1 h2;rw [<- HY.out] at h6;have HB:=qH hb;clear h5 hb;go_wp2;go_ret2;exact ⟨rfl,HB.out⟩
 |false=>
  have C1:=qH c1;rw [if_neg (by decide)];clear h c1 hfd hp hz
  go_enter Tryz.func101,Tryz.ntmps101
  go_wp2_with (go_at_call 143;refine (C1.out).mono ?_;rintro e w1 ⟨rfl,hb⟩)
  go_ret2;exact ⟨rfl,hb⟩
end Go.Proofs.YtpehcaidjlemiaaGreatDoor
