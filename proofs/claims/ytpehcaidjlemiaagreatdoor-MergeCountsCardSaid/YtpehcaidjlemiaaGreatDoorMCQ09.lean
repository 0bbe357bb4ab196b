import Derived.Test.YtpehcaidjlemiaaGreatDoorMCZz
import Derived.Test.YtpehcaidjlemiaaGreatDoorMCQ08
import Derived.BigCall
import Derived.BigQuiet
import Derived.Deep.QuietTactic
import Derived.Test.YtpehcaidjlemiaaGreatDoorMCQ06
import Derived.Test.YtpehcaidjlemiaaGreatDoorMCQ01
import Derived.Test.YtpehcaidjlemiaaGreatDoorMCQ07
import Derived.Test.YtpehcaidjlemiaaGreatDoorMCQ02
import Derived.Lib.Hide
import Derived.Test.YtpehcaidjlemiaaGreatDoorMCQ04
set_option maxHeartbeats 2000000
set_option maxRecDepth 100000
set_option linter.unusedVariables false
namespace Go.Proofs.YtpehcaidjlemiaaGreatDoor
open Go Go.RowKit
def qhy (o:List Pl) (i:Int) (n:Nat) (w:World) (e:Ending) (w':World):Prop:=∃ v,e= .returned v/\w'.ownsRow w.heap.size 3 1 v n (qaa (qbP o i n))/\Below w.heap.size w w'
structure qnr:Prop where
 order:∀ (A:Option Addr) (m c:Nat) (l:List (List Int)) (w:World),Lol (Value.int .i64) w w.heap.size A l->l.length=m->m<=1000->(∀ s∈l,s.length<=1000)->
  Calls Tryz.prog 47 #[.slice A m c] w (qt0 l w)
 places:∀ (A:Option Addr) (m c n:Nat) (o:List Pl) (i:Int) (w:World),Row w w.heap.size A (plc o)->o.length=m->m<=1000000->o.Nodup->(∀ p∈o,p.1<=1000/\p.2<=1000)->n<=1000->
  Calls Tryz.prog 83 #[.slice A m c,.int .i64 i,.int .i64 (n:Int)] w (qhy o i n w)
theorem quc:qb7 [[1,4],[2]] [(0,0),(1,0),(0,1)] where
 rise:=by decide
 mem:=fun ⟨i,k⟩=>by
  constructor
  ·intro h
   simp at h;rcases h with ⟨rfl,rfl⟩|⟨rfl,rfl⟩|⟨rfl,rfl⟩<;>exact ⟨by decide,by decide⟩
  ·rintro ⟨h1,h2⟩
   simp only [List.length_cons,List.length_nil] at h1;have hi:i=0∨i=1:=by omega
   rcases hi with rfl|rfl
   ·simp at h2
    have hk:k=0∨k=1:=by omega
    rcases hk with rfl|rfl<;>simp
   ·simp at h2
    subst h2;simp
theorem qud (OK:qnr) (w:World):Calls Tryz.prog 18 #[] w fun e w'=>e= .returned (.bool true)/\Below w.heap.size w w':=by
 obtain ⟨w1,hw1⟩:∃ w1,w1=((w.alloc (.cells #[.int .i64 1,.int .i64 4] 3)).alloc (.cells #[.int .i64 2] 3)).alloc (.cells #[.slice (some ⟨w.heap.size,0,none⟩) 2 2,.slice (some ⟨w.heap.size+1,0,none⟩) 1 1] 23):=⟨_,rfl⟩;have hb1:Below w.heap.size w w1:=by rw [hw1];exact (((Below.refl _ _).alloc (Nat.le_refl _) _).alloc (by simp) _).alloc (by simp;omega) _
 have g1:w1.heap[w.heap.size]?=some (.cells #[.int .i64 1,.int .i64 4] 3 (0,0)):=by
  rw [hw1,Below.heap_alloc _ _ _ (by simp;omega),Below.heap_alloc _ _ _ (by simp)];exact heap_alloc_new w _
 have g2:w1.heap[w.heap.size+1]?=some (.cells #[.int .i64 2] 3 (0,0)):=by
  rw [hw1,Below.heap_alloc _ _ _ (by simp)];simpa using heap_alloc_new (w.alloc (.cells #[.int .i64 1,.int .i64 4] 3)) (.cells #[.int .i64 2] 3)
 have g3:w1.heap[w.heap.size+1+1]?=some (.cells #[.slice (some ⟨w.heap.size,0,none⟩) 2 2,.slice (some ⟨w.heap.size+1,0,none⟩) 1 1] 23 (0,0)):=by
  rw [hw1];simpa using heap_alloc_new ((w.alloc (.cells #[.int .i64 1,.int .i64 4] 3)).alloc (.cells #[.int .i64 2] 3)) (.cells #[.slice (some ⟨w.heap.size,0,none⟩) 2 2,.slice (some ⟨w.heap.size+1,0,none⟩) 1 1] 23)
 have hs1:w1.heap.size=w.heap.size+1+1+1:=by rw [hw1];simp
 have hrow:∀ (b:Nat) (cs:Array Value) (t:TypeId),w1.heap[b]?=some (.cells cs t (0,0))->Row w1 w1.heap.size (some ⟨b,0,none⟩) cs.toList:=fun b cs t h=>
  .inr ⟨b,0,rfl,(Array.getElem?_eq_some_iff.1 h).1,fun j u hu=>by
   rw [Nat.zero_add,cell_of_row _ _ _ _ _ _ h];simpa using hu⟩
 have hL:Lol (Value.int .i64) w1 w1.heap.size (some ⟨w.heap.size+1+1,0,none⟩) [[1,4],[2]]:=by
  refine ⟨[.slice (some ⟨w.heap.size,0,none⟩) 2 2,.slice (some ⟨w.heap.size+1,0,none⟩) 1 1],⟨rfl,fun i hi=> ?_⟩,hrow _ _ _ g3⟩;simp only [List.length_cons,List.length_nil] at hi;have hi2:i=0∨i=1:=by omega
  rcases hi2 with rfl|rfl
  ·exact ⟨_,_,rfl,⟨by simp,by unfold maxLen;omega⟩,hrow _ _ _ g1⟩
  ·exact ⟨_,_,rfl,⟨by simp,by unfold maxLen;omega⟩,hrow _ _ _ g2⟩
 have C1:=qH (OK.order (some ⟨w.heap.size+1+1,0,none⟩) 2 2 [[1,4],[2]] w1 hL rfl (by omega) (by decide));have HW:=qH hw1;have HB:=qH hb1;clear hL hrow g1 g2 g3 hw1 hb1 hs1 OK
 go_enter Tryz.func18,Tryz.ntmps18
 go_wp2_with (go_at_call 47;rw [<- HW.out];refine (C1.out).mono ?_)
 rintro e w2 ⟨err,o,A,c,hord,rfl,hcc,hr,hb2⟩;obtain ⟨rfl,rfl⟩:=hord.det (.ok (by decide) quc);obtain ⟨b,o1,rfl,_,x1,x2⟩:=qfU hr (k:=0) (by simp);obtain ⟨b',o',e1,_,y1,y2⟩:=qfU hr (k:=1) (by simp);injection e1 with e1
 injection e1 with e1 e2
 subst e1 e2;obtain ⟨b',o',e1,_,z1,z2⟩:=qfU hr (k:=2) (by simp);injection e1 with e1
 injection e1 with e1 e2
 subst e1 e2;simp at x1 x2 y1 y2 z1 z2;have HB2:=qH (HB.out.trans (hb2.mono HB.out.size));have hc3:3<=c:=by simpa using hcc.1
 clear hr hb2 hcc hord;have q1:=qjx 0 0 0 0 w2;have q2:=qjx 1 0 1 0 w2;have q3:=qjx 0 1 0 1 w2;go_wp2;go_ret;exact ⟨rfl,HB2.out⟩
theorem qfV {o:List Pl} {i:Int} {n j:Nat} (hj:j<n):(qbP o i n)[j]?=some (qba o 0 i (j:Int)):=by
 unfold qbP;rw [List.getElem?_map,List.getElem?_range hj];rfl
theorem qe2 (o:List Pl) (i:Int) (n:Nat):(qbP o i n).length=n:=by simp [qbP]
theorem que (i:Int) (n:Nat):qbP [] i n=List.replicate n (-1):=by
 refine List.ext_getElem? fun j=> ?_
 by_cases hj:j<n
 ·rw [qfV hj,List.getElem?_replicate,if_pos hj];rfl
 ·rw [List.getElem?_eq_none (by rw [qe2];omega),List.getElem?_eq_none (by simp;omega)]
theorem quf {o:List Pl} (ho:o.Nodup) {k:Nat} (hk:k<o.length) (i:Int) (n:Nat):
  qbP (o.take (k+1)) i n=if (o[k].1:Int)=i/\o[k].2<n then (qbP (o.take k) i n).set o[k].2 (k:Int) else qbP (o.take k) i n:=by
 refine List.ext_getElem? fun j=> ?_
 by_cases hj:j<n
 ·rw [qfV hj,qnh ho hk]
  by_cases hc:(o[k].1:Int)=i/\o[k].2<n
  ·rw [if_pos hc]
   by_cases hjk:o[k].2=j
   ·rw [if_pos ⟨hc.1,by omega⟩,List.getElem?_set,if_pos hjk,if_pos (by rw [qe2];omega)]
   ·rw [if_neg (fun h=>hjk (by have :=h.2;omega)),List.getElem?_set,if_neg hjk,qfV hj]
  ·rw [if_neg hc,if_neg (fun h=>hc ⟨h.1,by have :=h.2;omega⟩),qfV hj]
 ·rw [List.getElem?_eq_none (by rw [qe2];omega)]
  split
  ·rw [List.getElem?_eq_none (by rw [List.length_set,qe2];omega)]
  ·rw [List.getElem?_eq_none (by rw [qe2];omega)]
def qgD (o:List Pl) (i:Int) (n:Nat) (w:World) (v idx:Value) (wr:World):Prop:=∃ k:Nat,k<=o.length/\idx= .int .i64 (k:Int)/\wr.ownsRow w.heap.size 3 1 v n (qaa (qbP (o.take k) i n))/\Below w.heap.size w wr
theorem qns (A:Option Addr) (m c n:Nat) (o:List Pl) (i:Int) (w:World) (hr:Row w w.heap.size A (plc o)) (hm:o.length=m) (hmx:m<=1000000) (ho:o.Nodup) (hn:n<=1000):
  Calls Tryz.prog 83 #[.slice A m c,.int .i64 i,.int .i64 (n:Int)] w (qhy o i n w):=by
 have HR:=qH hr;have HO:=qH ho;have HM:=qH hm;have e0:max (n:Int) 0=(n:Int):=by omega
 obtain ⟨w1,hw1⟩:∃ w1,w1=w.alloc (.cells #[.int .i64 (-1)] 3):=⟨_,rfl⟩;have hb1:Below w.heap.size w w1:=by rw [hw1];exact (Below.refl _ w).alloc (Nat.le_refl _) _
 have hc1:w1.cell? ⟨w.heap.size,0,none⟩=some (.int .i64 (-1)):=by
  rw [hw1];exact cell_of_one (heap_alloc_new w _)
 have hs1:w.heap.size<w1.heap.size:=by rw [hw1];simp
 have C1:=qH (qub none (some ⟨w.heap.size,0,none⟩) w.heap.size n w1 rfl hs1 hc1 (by omega));have HB1:=qH hb1;have HW1:=qH hw1;clear hr ho hm hb1 hc1 hs1 hw1
 go_enter Tryz.func83,Tryz.ntmps83
 go_wp2_with (go_at_call 131;rw [<- HW1.out];refine (C1.out).mono ?_;rintro e w2 ⟨⟨v,rfl,hown⟩,hb2⟩)
 have hst:qgD o i n w v (.int .i64 0) w2:=⟨0,Nat.zero_le _,rfl,by rw [List.take_zero,que];exact qbc hown (HB1.out).size,(HB1.out).trans (hb2.mono (HB1.out).size)⟩;have HST:=qH hst;clear hst hown hb2 C1
 go_loopw [8,9,16] (fun u8 u9 idx wr=>qgD o i n w v idx wr) (fun _ _ idx _=>m-(intOf idx).toNat)
 case atStart=>exact HST.out
 case round=>
  clear HST;obtain ⟨k,hk,rfl,hown,hbw⟩:=hrel;rw [HM.out] at hk;by_cases hkm:k<m
  ·have hko:k<o.length:=by rw [HM.out];exact hkm
   obtain ⟨b,off,rfl,hb,q1,q2⟩:=qfU ((HR.out).below hbw) hko;have htk:=quf (HO.out) hko i n;obtain ⟨x,hx⟩:∃ x,x=o[k].1:=⟨_,rfl⟩;obtain ⟨y,hy⟩:∃ y,y=o[k].2:=⟨_,rfl⟩;rw [<- hx] at q1 htk;rw [<- hy] at q2 htk;have hi1:(k:Int)<(m:Int):=by omega
   have d2:decide ((0:Int)<=(y:Int))=true:=decide_eq_true (by omega);by_cases hxi:(x:Int)=i
   ·by_cases hyn:y<n
    ·rw [if_pos ⟨hxi,hyn⟩] at htk
     rcases hown.2 with ⟨_,h0⟩|⟨g,cap,cur,rfl,hg,hh,hnc,hcap,hcs,htake⟩
     ·have :=hown.1
      rw [h0] at this;simp [qaa,qbP] at this;omega
     ·have hset:=(hown.stored y (.int .i64 (k:Int))).1
      have hfree:=hown.frozenAt y;have hcell:=hown.cellAt y (by omega);rw [show (qaa (qbP (o.take k) i n))[y]?=some (.int .i64 (qba (o.take k) 0 i (y:Int))) by rw [qaa,List.getElem?_map,qfV hyn];rfl] at hcell;have hval:(qaa (qbP (o.take k) i n)).set y (.int .i64 (k:Int))=qaa (qbP (o.take (k+1)) i n):=by rw [htk,qaa,qaa,List.map_set]
      rw [hval] at hset;have hfin:∀ z,qgD o i n w (.slice (some ⟨g,0,none⟩) n cap) (.int .i64 ((k:Int)+1)) ((wr.setCell ⟨g,y,none⟩ (.int .i64 (k:Int))).alloc z):=fun z=>⟨k+1,hko,rfl,hset.alloc z,(hbw.setCell hg _).alloc (by simp [World.setCell];exact hbw.size) z⟩
      have HFIN:=qH hfin;obtain ⟨u,hu⟩:∃ u,u=qba (o.take k) 0 i (y:Int):=⟨_,rfl⟩;rw [<- hu] at hcell;have hgs:=(Array.getElem?_eq_some_iff.1 hh).1;have hcA:∀ z,(wr.alloc z).cell? ⟨g,y,none⟩=some (.int .i64 u):=fun z=>(((Below.refl wr.heap.size wr).alloc (Nat.le_refl _) z).cell (p:=⟨g,y,none⟩) hgs).trans hcell
      have hfA:∀ z,(wr.alloc z).frozen? ⟨g,y,none⟩=false:=fun z=>(((Below.refl wr.heap.size wr).alloc (Nat.le_refl _) z).frozen (p:=⟨g,y,none⟩) hgs).trans hfree
      have d3:decide ((y:Int)<(n:Int))=true:=decide_eq_true (by omega);have d1:((x:Int)==i)=true:=by rw [hxi];exact beq_self_eq_true _
      have hyn2:(y:Int)<(n:Int):=by omega
      unfold maxLen at hcap;clear hown hh hset hval hfin htk hx hy hu hxi htake hcs hbw hb;go_wp2;go_roundw
      case rel=>exact HFIN.out _
      case measure=>simp [intOf];omega
    ·rw [if_neg (fun h=>hyn h.2)] at htk
     have HFIN:=qH (show ∀ z,qgD o i n w v (.int .i64 ((k:Int)+1)) (wr.alloc z) from fun z=>⟨k+1,hko,rfl,by rw [htk];exact hown.alloc z,hbw.alloc hbw.size z⟩)
     have d3:decide (y<n)=false:=decide_eq_false hyn;have d1:((x:Int)==i)=true:=by rw [hxi];exact beq_self_eq_true _
     clear hown htk hx hy hxi hbw hyn;go_wp2;go_roundw
     case rel=>exact HFIN.out _
     case measure=>simp [intOf];omega
   ·rw [if_neg (fun h=>hxi h.1)] at htk
    have HFIN:=qH (show ∀ z,qgD o i n w v (.int .i64 ((k:Int)+1)) (wr.alloc z) from fun z=>⟨k+1,hko,rfl,by rw [htk];exact hown.alloc z,hbw.alloc hbw.size z⟩)
    have d1:((x:Int)==i)=false:=beq_eq_false_iff_ne.2 hxi;clear hown htk hx hy hxi hbw;go_wp2;go_roundw
    case rel=>exact HFIN.out _
    case measure=>simp [intOf];omega
  ·have hkm2:k=o.length:=by have :=HM.out;omega
   subst hkm2;rw [List.take_length] at hown;have HFIN:=qH (show qhy o i n w (.returned v) wr from ⟨v,rfl,hown,hbw⟩)
   clear hown hbw;go_wp2;go_ret;exact HFIN.out
def qak (R:Option Addr->List Value->Prop):List Po->List Value->Prop
 |[],cs=>cs=[]
 |q::r,cs=>∃ A c cs',cs= .int .i64 q.1:: .slice A q.2.length c::cs'/\q.2.length<=c/\c<=maxLen/\R A (qaa q.2)/\qak R r cs'
section
variable {R R':Option Addr->List Value->Prop}
theorem qak.len:∀ {l:List Po} {cs:List Value},qak R l cs->cs.length=l.length*2
 |[],cs,h=>by simp only [qak] at h;subst h;rfl
 |q::r,cs,h=>by
  obtain ⟨A,c,cs',rfl,_,_,_,h'⟩:=h;have :=qak.len h';simp only [List.length_cons,this];omega
theorem qak.imp:∀ {l:List Po} {cs:List Value},qak R l cs->(∀ A xs,R A xs->R' A xs)->qak R' l cs
 |[],cs,h,_=>h
 |q::r,cs,h,hi=>by
  obtain ⟨A,c,cs',rfl,h1,h2,h3,h'⟩:=h;exact ⟨A,c,cs',rfl,h1,h2,hi _ _ h3,qak.imp h' hi⟩
theorem qak.at_:∀ {l:List Po} {cs:List Value} {k:Nat},qak R l cs->k<l.length->
  cs[k*2]?=some (.int .i64 (l.getD k (0,[])).1)/\∃ A c,cs[k*2+1]?=some (.slice A (l.getD k (0,[])).2.length c)/\(l.getD k (0,[])).2.length<=c/\c<=maxLen/\R A (qaa (l.getD k (0,[])).2)
 |[],_,k,_,h=>by simp at h
 |q::r,cs,0,h,_=>by
  obtain ⟨A,c,cs',rfl,h1,h2,h3,h'⟩:=h;exact ⟨rfl,A,c,rfl,h1,h2,h3⟩
 |q::r,cs,k+1,h,hk=>by
  obtain ⟨A,c,cs',rfl,h1,h2,h3,h'⟩:=h;have :=qak.at_ (k:=k) h' (by simpa using hk);rw [show (k+1)*2=k*2+1+1 by omega,List.getD_cons_succ];simpa using this
theorem qak.snoc:∀ {l:List Po} {cs:List Value} {A:Option Addr} {c:Nat} {d:Int} {ps:List Int},qak R l cs->ps.length<=c->c<=maxLen->R A (qaa ps)->qak R (l++[(d,ps)]) (cs++[.int .i64 d,.slice A ps.length c])
 |[],cs,A,c,d,ps,h,h1,h2,h3=>by
  simp only [qak] at h;subst h;exact ⟨A,c,[],rfl,h1,h2,h3,rfl⟩
 |q::r,cs,A,c,d,ps,h,h1,h2,h3=>by
  obtain ⟨A',c',cs',rfl,g1,g2,g3,h'⟩:=h;exact ⟨A',c',cs'++[.int .i64 d,.slice A ps.length c],rfl,g1,g2,g3,qak.snoc h' h1 h2 h3⟩
theorem qak.take:∀ {l:List Po} {cs:List Value} (k:Nat),qak R l cs->qak R (l.take k) (cs.take (k*2))
 |_,cs,0,_=>by simp [qak]
 |[],cs,k+1,h=>by simp only [qak] at h;subst h;simp [qak]
 |q::r,cs,k+1,h=>by
  obtain ⟨A,c,cs',rfl,h1,h2,h3,h'⟩:=h;rw [List.take_succ_cons,show (k+1)*2=k*2+1+1 by omega,List.take_succ_cons,List.take_succ_cons];exact ⟨A,c,_,rfl,h1,h2,h3,qak.take k h'⟩
theorem qak.drop:∀ {l:List Po} {cs:List Value} (k:Nat),qak R l cs->qak R (l.drop k) (cs.drop (k*2))
 |l,cs,0,h=>by simpa using h
 |[],cs,k+1,h=>by simp only [qak] at h;subst h;simp [qak]
 |q::r,cs,k+1,h=>by
  obtain ⟨A,c,cs',rfl,h1,h2,h3,h'⟩:=h;rw [List.drop_succ_cons,show (k+1)*2=k*2+1+1 by omega,List.drop_succ_cons,List.drop_succ_cons];exact qak.drop k h'
end
def qbp (w:World) (B:Nat) (A:Option Addr) (l:List Po):Prop:=∃ cs,qak (Row w B) l cs/\Row w B A cs
theorem qbp.nil {w:World} {B:Nat} {A:Option Addr}:qbp w B A []:=⟨[],rfl,Row.nil⟩
theorem qbp.below {w w':World} {B:Nat} {A:Option Addr} {l:List Po} (h:qbp w B A l) (hb:Below B w w'):qbp w' B A l:=by
 obtain ⟨cs,h1,h2⟩:=h;exact ⟨cs,h1.imp fun _ _ h=>h.below hb,h2.below hb⟩
theorem qbp.more {w:World} {B B':Nat} {A:Option Addr} {l:List Po} (h:qbp w B A l) (hB:B<=B'):qbp w B' A l:=by
 obtain ⟨cs,h1,h2⟩:=h;exact ⟨cs,h1.imp fun _ _ h=>h.more hB,h2.more hB⟩
theorem qbp.cut {w:World} {B:Nat} {A:Option Addr} {l:List Po} (h:qbp w B A l) (k:Nat):qbp w B A (l.take k):=by
 obtain ⟨cs,h1,h2⟩:=h;exact ⟨_,h1.take k,h2.cut (k*2)⟩
theorem qbp.at_ {w:World} {B:Nat} {A:Option Addr} {l:List Po} (h:qbp w B A l) {k:Nat} (hk:k<l.length):
  ∃ b off,A=some ⟨b,off,none⟩/\b<B/\w.cell? ⟨b,off+k*2,none⟩=some (.int .i64 (l.getD k (0,[])).1)/\
   ∃ A' c',w.cell? ⟨b,off+k*2+1,none⟩=some (.slice A' (l.getD k (0,[])).2.length c')/\(l.getD k (0,[])).2.length<=c'/\c'<=maxLen/\Row w B A' (qaa (l.getD k (0,[])).2):=by
 obtain ⟨cs,h1,h2⟩:=h;obtain ⟨b,off,rfl,hb,hc⟩:=h2.at_ (by rw [h1.len];omega);obtain ⟨g1,A',c',g2,g3,g4,g5⟩:=h1.at_ hk;exact ⟨b,off,rfl,hb,hc _ _ g1,A',c',by have :=hc _ _ g2;rwa [<- Nat.add_assoc] at this,g3,g4,g5⟩
theorem qbp.drop {w:World} {B b off:Nat} {l:List Po} (h:qbp w B (some ⟨b,off,none⟩) l) (k:Nat):qbp w B (some ⟨b,off+k*2,none⟩) (l.drop k):=by
 obtain ⟨cs,h1,h2⟩:=h;refine ⟨_,h1.drop k,?_⟩;rcases h2 with rfl|⟨b',o',e,hb,hc⟩
 ·exact .inl (by simp)
 ·injection e with e
  injection e with e1 e2
  subst e1 e2;refine .inr ⟨b,off+k*2,rfl,hb,fun j u hu=> ?_⟩;have :=hc (k*2+j) u (by rw [<- hu];simp);rwa [<- Nat.add_assoc] at this
def qug (base:Nat) (w:World) (b:Nat):Prop:=b<w.heap.size/\(b<base∨∃ cs fr,w.heap[b]?=some (.cells cs 3 fr))
def qc2 (base:Nat) (w:World) (A:Option Addr) (xs:List Value):Prop:=xs=[]∨∃ b off,A=some ⟨b,off,none⟩/\qug base w b/\∀ j u,xs[j]?=some u->w.cell? ⟨b,off+j,none⟩=some u
theorem qc2.row {base:Nat} {w:World} {A:Option Addr} {xs:List Value} (h:qc2 base w A xs):Row w w.heap.size A xs:=by
 rcases h with rfl|⟨b,off,rfl,hs,hc⟩
 ·exact .inl rfl
 ·exact .inr ⟨b,off,rfl,hs.1,hc⟩
theorem qc2.of_own {base base':Nat} {w:World} {A:Option Addr} {n c:Nat} {xs:List Value} (h:w.ownsRow base' 3 1 (.slice A n c) n xs):qc2 base w A xs:=by
 rcases h.2 with ⟨hv,hn⟩|⟨g,cap,cur,hv,hg,hh,hnc,hcp,hcs,htake⟩
 ·refine .inl (List.eq_nil_of_length_eq_zero ?_)
  rw [h.1,hn]
 ·injection hv with h1 h2 h3
  subst h1;have hrow:=qbG h;rcases hrow with rfl|⟨b,off,e,hb,hc⟩
  ·exact .inl rfl
  ·injection e with e
   injection e with e1 e2
   subst e1 e2;exact .inr ⟨g,0,rfl,⟨(Array.getElem?_eq_some_iff.1 hh).1,.inr ⟨_,_,hh⟩⟩,hc⟩
theorem qc2.grown {base:Nat} {w w':World} {A:Option Addr} {xs ys:List Value} {E:TypeId} {size:Nat} {v:Value} {n:Nat} (h:qc2 base w A xs) (hv:w.ownsRow base E size v n ys) (hE:E≠3) (hg:w.grownBy w' v.ownBlock):qc2 base w' A xs:=by
 rcases h with rfl|⟨b,off,rfl,⟨hs,hk⟩,hc⟩
 ·exact .inl rfl
 ·have hne:v.ownBlock≠some b:=by
   rcases hk with hk|⟨cs,fr,hk⟩
   ·intro e
    have :=(hv.lt b e).1;omega
   ·intro e
    rcases hv.2 with ⟨rfl,_⟩|⟨g,cap,cur,rfl,_,hh,_⟩
    ·cases e
    ·simp only [Value.ownBlock,Option.some.injEq] at e
     subst e;rw [hh] at hk;simp at hk;exact hE hk.2.1
  have hblk:w'.heap[b]?=w.heap[b]?:=hg.block b hs fun e=>hne e.symm
  refine .inr ⟨b,off,rfl,⟨Nat.lt_of_lt_of_le hs hg.size,hk.imp id fun ⟨cs,fr,h⟩=>⟨cs,fr,hblk.trans h⟩⟩,fun j u hu=> ?_⟩;rw [World.cell?_of_block (a:=⟨b,off+j,none⟩) hblk];exact hc j u hu
theorem qc2.below {base:Nat} {w w':World} {A:Option Addr} {xs:List Value} (h:qc2 base w A xs) (hb:Below w.heap.size w w'):qc2 base w' A xs:=by
 rcases h with rfl|⟨b,off,rfl,⟨hs,hk⟩,hc⟩
 ·exact .inl rfl
 ·refine .inr ⟨b,off,rfl,⟨Nat.lt_of_lt_of_le hs hb.size,hk.imp id fun ⟨cs,fr,h⟩=>⟨cs,fr,(hb.block b hs).trans h⟩⟩,fun j u hu=> ?_⟩
  rw [World.cell?_of_block (a:=⟨b,off+j,none⟩) (hb.block b hs)];exact hc j u hu
theorem quh {l:List UInt8} {k:Nat} (hk:k<9) (hl:k<l.length):∃ q p v:Nat,128^k=q/\qa5 (l.take k)=v/\qa5 (l.take (k+1))=v+p/\(((l.getD k 0).toNat:Int)%128)*(q:Int)=(p:Int)/\p<=9151314442816847872/\v+p<9223372036854775808/\q<=72057594037927936:=by
 have h1:=qs1 hl;have h2:=qmC l (k+1);have h3:=qmF hk;have h4:(128:Nat)^(k+1)<=128^9:=Nat.pow_le_pow_right (by omega) (by omega);have h5:(128:Nat)^9=9223372036854775808:=by decide
 refine ⟨_,(l.getD k 0).toNat%128*128^k,_,rfl,rfl,h1,by simp,?_,by omega,h3⟩;have :(l.getD k 0).toNat%128*128^k<=127*72057594037927936:=Nat.mul_le_mul (by omega) h3;omega
theorem qui {k q:Nat} (h:128^k=q) (hk:k<8):128^(k+1)=q*128/\q*128<=72057594037927936:=by
 have h1:=qmF (i:=k+1) (by omega);rw [Nat.pow_succ,h] at h1 ⊢;exact ⟨rfl,h1⟩
theorem qjy {w:World} {B b off m c a:Nat} {l:List UInt8} (h:Row w B (some ⟨b,off,none⟩) (Lib.byteCells l)) (hm:l.length=m) (hc:m<=c) (ha:a<=m) (A:Option Addr) (hA:A=some ⟨b,off,none⟩/\c=a∨A=some ⟨b,off+a,none⟩):Row w B A (Lib.byteCells (l.drop a)):=by
 by_cases h0:a=m
 ·refine .inl ?_
  rw [List.drop_eq_nil_of_le (by omega)];rfl
 ·rcases hA with ⟨_,hA⟩|hA
  ·omega
  ·obtain ⟨b',o',h1,h2,h3⟩:=h.at_ (by rw [Lib.byteCells_length];omega)
   injection h1 with h1
   injection h1 with h1 h4
   subst h1 h4 hA;refine .inr ⟨b,off+a,rfl,h2,fun j u hu=> ?_⟩;have :=h3 (a+j) u (by rw [<- hu];simp [Lib.byteCells]);rwa [<- Nat.add_assoc] at this
def quj (z:Int × Int × Int) (w:World) (e:Ending) (w':World):Prop:=e= .returned (.tuple #[.int .i64 z.1,.int .i64 z.2.1,.int .i64 z.2.2])/\Below w.heap.size w w'
theorem qhz (l:List UInt8) (a:Int):(∃ e:Int,qbA l a=(0,0,e)/\(e=1∨e=2))∨∃ n b:Nat,qbA l a=((n:Int),(b:Int),0)/\b<=l.length/\n<9223372036854775808:=by
 by_cases h0:a<0∨(l.length:Int)<a
 ·exact .inl ⟨1,qmI h0,.inl rfl⟩
 ·obtain ⟨k,rfl⟩:∃ k:Nat,a=k:=⟨a.toNat,by omega⟩
  have hbd:=qeY (l.drop k);rw [List.length_drop] at hbd;by_cases h2:(qar (l.drop k)).2=0
  ·exact .inl ⟨2,qmJ (by omega) h2,.inr rfl⟩
  ·obtain ⟨j,hj⟩:∃ j,(qar (l.drop k)).2=j+1:=⟨(qar (l.drop k)).2-1,by omega⟩
   refine .inr ⟨(qar (l.drop k)).1,k+(j+1),?_,by omega,hbd.1⟩;rw [qiV (n:=(qar (l.drop k)).1) (k:=j) (by omega) (by rw [<- hj])];simp
def qjz:Option (List Int × Nat)->List Int × Int × Int
 |none=>([],0,2)
 |some p=>(p.1,(p.2:Int),0)
theorem qjA {l:List UInt8} {a e:Int} (hz:qbA l a=(0,0,e)) (he:e≠0):qcR l a=([],0,e):=by
 unfold qcR;rw [hz,if_neg (by simpa using he)]
theorem qjB {l:List UInt8} {a:Int} {n b:Nat} (hz:qbA l a=((n:Int),(b:Int),0)):qcR l a=qjz (qcm l n (-1) b []):=by
 unfold qcR;rw [hz];simp only [if_true,Int.toNat_natCast];rcases qcm l n (-1) b [] with _|⟨xs,q⟩<;>rfl
def quk (r:List Int × Int × Int) (w:World) (e:Ending) (w':World):Prop:=
 ∃ v,e= .returned (.tuple #[v,.int .i64 r.2.1,.int .i64 r.2.2])/\w'.ownsRow w.heap.size 3 1 v r.1.length (qaa r.1)/\Below w.heap.size w w'
theorem qjC:∀ (many:Nat) (l:List UInt8) (x:Int) (a:Nat) (acc xs:List Int) (b:Nat),qcm l many x a acc=some (xs,b)->a<=l.length->xs.length+a<=acc.length+b/\b<=l.length
 |0,l,x,a,acc,xs,b,h,ha=>by
  simp only [qcm,Option.some.injEq,Prod.mk.injEq] at h;obtain ⟨rfl,rfl⟩:=h;exact ⟨Nat.le_refl _,ha⟩
 |m+1,l,x,a,acc,xs,b,h,ha=>by
  have hbd:=qeY (l.drop a);rw [List.length_drop] at hbd;rw [qcm] at h;split at h
  ·cases h
  ·have :=qjC m l _ _ _ xs b h (by omega)
   simp only [List.length_append,List.length_singleton] at this;omega
theorem qul (l:List UInt8) (a:Int):(qcR l a).1.length<=l.length:=by
 rcases qhz l a with ⟨e,hz,he⟩|⟨many,b,hz,hb,_⟩
 ·rw [qjA hz (by omega)];simp
 ·rw [qjB hz]
  rcases h:qcm l many (-1) b [] with _|⟨xs,q⟩
  ·simp [qjz]
  ·have :=qjC many l _ _ _ xs q h hb
   simp only [qjz,List.length_nil] at this ⊢;omega
theorem qjD {base:Nat} {w':World} {v':Value} {a b:List UInt8} {m:Nat} (hm:b.length=m) (hown:w'.ownsRow base 5 1 v' (a.length+m) (Lib.byteCells a++Lib.byteCells b)):Own base w' v' (a++b):=by
 unfold Own;rw [Lib.byteCells_append,List.length_append,hm];exact hown
theorem qnt {l:List Po} {k:Nat} (hk:k<l.length):l.drop k=l.getD k (0,[])::l.drop (k+1):=by
 rw [List.drop_eq_getElem_cons hk,List.getD_eq_getElem?_getD,List.getElem?_eq_getElem hk];rfl
theorem qum {w:World} {n:Nat} (B:Nat):Below B w (w.drewN n):=⟨rfl,rfl,rfl,Nat.le_refl _,fun _ _=>rfl⟩
theorem qnu:∀ {l:List Po} {x:Int},0<l.length->qaC x l=(l.getD (l.length-1) (0,[])).1
 |[],_,h=>by simp at h
 |[p],x,_=>rfl
 |p::q::r,x,_=>by
  have ih:=qnu (l:=q::r) (x:=p.1) (by simp);rw [qaC,ih];simp
theorem qun (l:List UInt8) (a:Int):(∃ e:Int,qcR l a=([],0,e)/\e≠0)∨∃ (ps:List Int) (q:Nat),qcR l a=(ps,(q:Int),0)/\q<=l.length/\ps.length<=l.length:=by
 have hlen:=qul l a;rcases qhz l a with ⟨e,hz,he⟩|⟨n,b,hz,hb,_⟩
 ·exact .inl ⟨e,qjA hz (by omega),by omega⟩
 ·rw [qjB hz] at hlen ⊢
  rcases h:qcm l n (-1) b [] with _|⟨xs,q⟩
  ·exact .inl ⟨2,rfl,by omega⟩
  ·rw [h] at hlen
   have :=qjC n l _ _ _ xs q h hb;exact .inr ⟨xs,q,rfl,this.2,hlen⟩
theorem qjE:∀ {l:List Po} {n:Nat},(∀ p∈l,p.2.length<=n)->qai l<=l.length*n
 |[],_,_=>by simp [qai]
 |p::r,n,h=>by
  have h1:=h p (by simp);have h2:=qjE (l:=r) fun q hq=>h q (by simp [hq])
  rw [qai,List.length_cons,Nat.add_mul,Nat.one_mul];omega
theorem qjF {l:List Po} {k:Nat} (hk:k<l.length):qai (l.take (k+1))=qai (l.take k)+(l.getD k (0,[])).2.length:=by
 have e:∀ (a b:List Po),qai (a++b)=qai a+qai b:=by
  intro a
  induction a with
  |nil=>intro b;simp [qai]
  |cons p r ih=>intro b;simp [qai,ih,Nat.add_assoc]
 rw [List.take_succ_eq_append_getElem hk,e,List.getD_eq_getElem?_getD,List.getElem?_eq_getElem hk];simp [qai]
theorem qhA {l:List Po} (k:Nat):qai (l.take k)<=qai l:=by
 have e:∀ (a b:List Po),qai (a++b)=qai a+qai b:=by
  intro a
  induction a with
  |nil=>intro b;simp [qai]
  |cons p r ih=>intro b;simp [qai,ih,Nat.add_assoc]
 have h:=e (l.take k) (l.drop k);rw [List.take_append_drop] at h;omega
def qfW (base:Nat) (w:World) (A:Option Addr) (xs:List Value):Prop:=qc2 0 w A xs/\(xs=[]∨∃ b off,A=some ⟨b,off,none⟩/\base<=b)
theorem qfW.of_own {base base':Nat} {w:World} {A:Option Addr} {n c:Nat} {xs:List Value} (h:w.ownsRow base' 3 1 (.slice A n c) n xs) (hb:base<=base'):qfW base w A xs:=by
 refine ⟨qc2.of_own h,?_⟩;rcases h.2 with ⟨hv,hn⟩|⟨g,cap,cur,hv,hg,_⟩
 ·exact .inl (List.eq_nil_of_length_eq_zero (by rw [h.1,hn]))
 ·injection hv with h1 h2 h3
  exact .inr ⟨g,0,h1,by omega⟩
def qbb (base:Nat) (w:World) (v:Value) (l:List Po):Prop:=∃ cs,w.ownsRow base 74 2 v l.length cs/\qak (qfW base w) l cs
section
variable {base:Nat} {w w':World} {v v':Value} {l:List Po}
theorem qbb.nil:qbb base w (.slice none 0 0) []:=⟨[],World.ownsRow_nil _ _ _ _,rfl⟩
theorem qbb.below (h:qbb base w v l) (hb:Below w.heap.size w w'):qbb base w' v l:=by
 obtain ⟨cs,h1,h2⟩:=h;exact ⟨cs,qan h1 hb,h2.imp fun _ _ h=>⟨h.1.below hb,h.2⟩⟩
theorem qbb.room (h:qbb base w v l):∃ A c,v= .slice A l.length c/\l.length<=c/\c<=maxLen/\qbp w w.heap.size A l:=by
 obtain ⟨cs,h1,h2⟩:=h;obtain ⟨A,c,rfl,hc,hr⟩:=qaM h1;refine ⟨A,c,rfl,hc,?_,cs,h2.imp fun _ _ h=>h.1.row,hr⟩;rcases h1.2 with ⟨h4,_⟩|⟨g,cap,cur,h4,_,_,_,h5,_⟩
 ·injection h4 with _ _ h4;omega
 ·injection h4 with _ _ h4;rw [h4];exact h5
theorem qbb.push {cs:List Value} (h1:w.ownsRow base 74 2 v l.length cs) (h2:qak (qfW base w) l cs) {A:Option Addr} {c:Nat} {d:Int} {ps:List Int} (hc:ps.length<=c) (hcx:c<=maxLen) (hr:qfW base w A (qaa ps))
  (hown:w'.ownsRow base 74 2 v' (l.length+1) (cs++[.int .i64 d,.slice A ps.length c])) (hg:w.grownBy w' v.ownBlock):qbb base w' v' (l++[(d,ps)]):=by
 have h0:=qbc h1 (Nat.zero_le base);refine ⟨_,?_,(h2.imp fun _ _ h=>⟨h.1.grown h0 (by decide) hg,h.2⟩).snoc hc hcx ⟨hr.1.grown h0 (by decide) hg,hr.2⟩⟩;rw [List.length_append,List.length_singleton];exact hown
end
theorem qbb.low {base base':Nat} {w:World} {v:Value} {l:List Po} (h:qbb base w v l) (hb:base'<=base):qbb base' w v l:=by
 obtain ⟨cs,h1,h2⟩:=h;exact ⟨cs,qbc h1 hb,h2.imp fun _ _ h=>⟨h.1,h.2.imp id fun ⟨b,off,e,hl⟩=>⟨b,off,e,by omega⟩⟩⟩
def qfs (l:List Po) (w:World) (e:Ending) (w':World):Prop:=∃ v,e= .returned v/\qbb w.heap.size w' v l/\Below w.heap.size w w'
theorem qeC {w:World} {base:Nat} {e:TypeId} {size:Nat} {v:Value} {n:Nat} {xs:List Value} (h:w.ownsRow base e size v n xs):∃ A c,v= .slice A n c/\(n<=c/\c<=maxLen)/\Row w w.heap.size A xs:=by
 obtain ⟨A,c,rfl,hc,hr⟩:=qaM h;refine ⟨A,c,rfl,⟨hc,?_⟩,hr⟩;rcases h.2 with ⟨hv,_⟩|⟨g,cap,cur,hv,_,_,_,hcp,_⟩
 ·injection hv with _ _ e
  rw [e];exact Nat.zero_le _
 ·injection hv with _ _ e
  rw [e];exact hcp
theorem qfX:(Tryz.prog.info? 74).map (fun i=>(i.zero,i.size,i.bytes))=some (some (.agg #[.int .i64 0,.slice none 0 0]),2,32):=by kernel_rfl
def qcH (pl:List Int) (l:List Po):List Po:=l.filterMap fun q=>if pl.getD q.1.toNat 0<0 then none else some (pl.getD q.1.toNat 0,q.2)
theorem quo (pl:List Int) (l:List Po) (q:Po):qcH pl (l++[q])=if pl.getD q.1.toNat 0<0 then qcH pl l else qcH pl l++[(pl.getD q.1.toNat 0,q.2)]:=by
 unfold qcH;rw [List.filterMap_append];by_cases h:pl.getD q.1.toNat 0<0
 ·simp only [List.filterMap_cons,List.filterMap_nil,if_pos h,List.append_nil]
 ·simp only [List.filterMap_cons,List.filterMap_nil,if_neg h]
theorem qup (pl:List Int) (l:List Po):(qcH pl l).length<=l.length:=List.length_filterMap_le _ _
def qfY (R:Option Addr->List Value->Prop) (l:List Po) (w:World) (e:Ending) (w':World):Prop:=∃ v cs,e= .returned v/\w'.ownsRow w.heap.size 74 2 v l.length cs/\qak R l cs/\Below w.heap.size w w'
def qjG (R:Option Addr->List Value->Prop) (pl:List Int) (l:List Po) (w:World) (v5 idx:Value) (wr:World):Prop:=∃ (k:Nat) (cs:List Value),k<=l.length/\idx= .int .i64 (k:Int)/\wr.ownsRow w.heap.size 74 2 v5 (qcH pl (l.take k)).length cs/\qak R (qcH pl (l.take k)) cs/\Below w.heap.size w wr
theorem quq (R:Option Addr->List Value->Prop) (pcs:List Value) (A A2:Option Addr) (m c n c2:Nat) (l:List Po) (pl:List Int) (w:World) (hpc:qak R l pcs) (hpr:Row w w.heap.size A pcs) (hr:Row w w.heap.size A2 (qaa pl)) (hm:l.length=m) (hn:pl.length=n) (hmx:m<=1000000) (hnx:n<=1000000) (hi:∀ q∈l,0<=q.1/\q.1<(n:Int)):
  Calls Tryz.prog 86 #[.slice A m c,.slice A2 n c2] w (qfY R (qcH pl l) w):=by
 obtain ⟨t0,hi0,hz0,hz1,hz2⟩:=info_parts qfX;have HPC:=qH hpc;have HPR:=qH hpr;have HR:=qH hr;have HM:=qH hm;have HN:=qH hn;have HI:=qH hi;clear hpc hpr hr hm hn hi
 go_enter Tryz.func86,Tryz.ntmps86
 go_wp2
 go_loopw [5,7,8,11] (fun v5 u7 u8 idx wr=>qjG R pl l w v5 idx wr) (fun _ _ _ idx _=>m-(intOf idx).toNat)
 case atStart=>exact ⟨0,[],Nat.zero_le _,rfl,by simpa [qcH] using World.ownsRow_nil _ _ _ _,by simp [qcH,qak],Below.refl _ _⟩
 case round=>
  obtain ⟨k,cs,hk,rfl,hown,hcs,hbw⟩:=hrel;rw [HM.out] at hk;by_cases hkm:k<m
  ·have hkl:k<l.length:=by rw [HM.out];exact hkm
   obtain ⟨g1,A',c',g2,hc1,hc3,hrow⟩:=(HPC.out).at_ hkl;have hgd:l.getD k (0,[])=l[k]:=by rw [List.getD_eq_getElem?_getD,List.getElem?_eq_getElem hkl];rfl
   rw [hgd] at g1 g2 hc1 hrow;obtain ⟨h01,h02⟩:=(HI.out) _ (List.getElem_mem hkl);obtain ⟨b,off,rfl,hb,hcl⟩:=Row.at_ ((HPR.out).below hbw) (by rw [(HPC.out).len];omega);have q1:=hcl _ _ g1;have q2:=hcl _ _ g2;rw [<- Nat.add_assoc] at q2;have hsn:qcH pl (l.take (k+1))=if pl.getD l[k].1.toNat 0<0 then qcH pl (l.take k) else qcH pl (l.take k)++[(pl.getD l[k].1.toNat 0,l[k].2)]:=by
    rw [List.take_succ_eq_append_getElem hkl,quo]
   obtain ⟨j,hj⟩:∃ j:Nat,l[k].1=(j:Int):=⟨l[k].1.toNat,by omega⟩;rw [hj,Int.toNat_natCast] at hsn;rw [hj] at h02 q1;have hjn:j<n:=by omega
   obtain ⟨b2,o2,rfl,hb2,q3⟩:=qcO ((HR.out).below hbw) (k:=j) (by rw [HN.out];exact hjn);have hgj:pl.getD j 0=pl[j]'(by rw [HN.out];exact hjn):=by rw [List.getD_eq_getElem?_getD,List.getElem?_eq_getElem (by rw [HN.out];exact hjn)];rfl
   rw [<- hgj] at q3;obtain ⟨d,hd⟩:∃ d,d=pl.getD j 0:=⟨_,rfl⟩;rw [<- hd] at q3 hsn;obtain ⟨N,hN⟩:∃ N,N=l[k].2.length:=⟨_,rfl⟩;rw [<- hN] at q2 hc1;have hlen:=qup pl (l.take k);rw [List.length_take] at hlen;obtain ⟨M,hM⟩:∃ M,M=(qcH pl (l.take k)).length:=⟨_,rfl⟩;rw [<- hM] at hown hlen;have hM2:M<=1000000:=by omega
   have hsz:=hbw.size;have hi1:(k:Int)<(m:Int):=by omega
   have hi2:(j:Int)<(n:Int):=by omega
   have HO:=qH hown;have HCS:=qH hcs;have HSN:=qH hsn;have HB:=qH hbw;have HMM:=qH hM;have HNN:=qH hN;have HROW:=qH hrow;have q3A:∀ z,(wr.alloc z).cell? ⟨b2,o2+j,none⟩=some (.int .i64 d):=fun z=>(((Below.refl wr.heap.size wr).alloc (Nat.le_refl _) z).cell (p:=⟨b2,o2+j,none⟩) (by show b2<_;omega)).trans q3
   unfold maxLen at hc3;by_cases hneg:d<0
   ·have d1:decide ((0:Int)<=d)=false:=decide_eq_false (by omega)
    rw [if_pos hneg] at hsn;have HFIN:Hid (∀ z,qjG R pl l w u5 (.int .i64 ((k:Int)+1)) (wr.alloc z)):=qH fun z=>⟨k+1,cs,by omega,rfl,by rw [hsn,<- hM];exact hown.alloc z,by rw [hsn];exact hcs,hbw.alloc hbw.size z⟩
    clear hown hcs hsn hbw hM hN hrow hd hj hcl HO HCS hneg;go_wp2;go_roundw
    case rel=>exact HFIN.out _
    case measure=>simp [intOf];omega
   ·have d1:decide ((0:Int)<=d)=true:=decide_eq_true (by omega)
    rw [if_neg hneg] at hsn;have HS2:=qH hsn;obtain ⟨W,hW⟩:∃ W,W=wr.heap.size:=⟨_,rfl⟩;clear hown hcs hsn hbw hM hN hrow hd hj hcl hneg
    go_wp2_with (at_builtin;refine wpList_append_own _ rfl (.tmp 22) (.tmp 27) 71 rfl w.heap.size 74 t0 _ 2 32 Tryz.underlying71 hi0 hz0 hz1 hz2 rfl (by omega) _ M cs rfl ((HO.out.alloc _).alloc _) ⟨wr.heap.size+1,0,none⟩ 1 1 [.int .i64 d,.slice A' N c'] rfl rfl (by simpa using qaQ (wr.alloc _) [.int .i64 d,.slice A' N c'] 74) (by intro u hu;simp at hu;rcases hu with rfl|rfl<;>rfl) (by unfold maxLen;omega) (by omega) (by simp;omega) ?_;intro v7 w7 hown7 hg7 _)
    have hfin:qjG R pl l w v7 (.int .i64 ((k:Int)+1)) w7:=by
     refine ⟨k+1,cs++[.int .i64 d,.slice A' N c'],by omega,rfl,?_,?_,?_⟩
     ·rw [HS2.out,List.length_append,<- HMM.out]
      exact hown7
     ·rw [HS2.out,HNN.out]
      exact (HCS.out).snoc (by rw [<- HNN.out];exact hc1) (by unfold maxLen;omega) HROW.out
     ·exact (((HB.out).alloc (HB.out).size _).alloc (by simp;omega) _).grown hg7 (by simp;omega) fun q hq=>((HO.out).lt q hq).1
    have HFIN:=qH hfin;clear hfin hown7 hg7;go_roundw
    case rel=>exact HFIN.out
    case measure=>simp [intOf];omega
  ·have hkm2:k=l.length:=by have :=HM.out;omega
   subst hkm2;rw [List.take_length] at hown hcs;have HFIN:=qH (show qfY R (qcH pl l) w (.returned u5) wr from ⟨_,cs,rfl,hown,hcs,hbw⟩)
   clear hown hcs hbw;go_wp2;go_ret;exact HFIN.out
def qal (Ls:List (List En)) (E:List Pl):List En:=E.map (qaY Ls)
def qb0 (Ls:List (List En)):List Nm:=qbt (Ls.map qaf)
def qbw (Ls:List (List En)) (E:List Pl) (n:Nat):List Nm:=((qb0 Ls).take n).filter fun k=>decide (qag 0 (qal Ls E) k≠[])
def qc3 (Ls:List (List En)) (E:List Pl) (n:Nat):List (List Pn):=(qbw Ls E n).map fun k=>qag 0 (qal Ls E) k
theorem qjH (Ls:List (List En)) (E:List Pl):qbw Ls E 0=[]:=by simp [qbw]
theorem qnv {Ls:List (List En)} {E:List Pl} {n:Nat} (hn:n<(qb0 Ls).length):qbw Ls E (n+1)=if qag 0 (qal Ls E) (qb0 Ls)[n]≠[] then qbw Ls E n++[(qb0 Ls)[n]] else qbw Ls E n:=by
 unfold qbw;rw [List.take_succ_eq_append_getElem hn,List.filter_append];by_cases h:qag 0 (qal Ls E) (qb0 Ls)[n]≠[]
 ·rw [if_pos h,List.filter_cons_of_pos (by simpa using h)];rfl
 ·rw [if_neg h,List.filter_cons_of_neg (by simpa using h)];simp
theorem qnw {Ls:List (List En)} {E:List Pl} (h:qdj Ls E) {q:En} (hq:q∈qal Ls E):∃ i,∃ hi:i<Ls.length,q∈Ls[i]:=by
 obtain ⟨p,hp,rfl⟩:=List.mem_map.1 hq;obtain ⟨a1,a2⟩:=h.ins p hp;rw [qat a1] at a2;refine ⟨p.1,a1,?_⟩;rw [qaY,qat a1,qat a2];exact List.getElem_mem a2
theorem qnx {Ls:List (List En)} {E:List Pl} (h:qdj Ls E):qbw Ls E (qb0 Ls).length=qaf (qal Ls E):=by
 unfold qbw;rw [List.take_length];refine qg6 (List.Pairwise.filter _ (qfL _)) (qgs _) fun x=> ?_
 rw [List.mem_filter,decide_eq_true_eq,qb0,qgk];constructor
 ·rintro ⟨_,h2⟩
  exact qez.2 ((qja (i:=0)).1 h2)
 ·intro hx
  refine ⟨?_,(qja (i:=0)).2 (qez.1 hx)⟩;obtain ⟨q,hq,t,ht,e⟩:=qez.1 hx;obtain ⟨i,hi,hqi⟩:=qnw h hq;exact ⟨qaf Ls[i],List.mem_map.2 ⟨_,List.getElem_mem hi,rfl⟩,qez.2 ⟨q,hqi,t,ht,e⟩⟩
theorem qur {Ls:List (List En)} {E:List Pl} (h:qdj Ls E):qc3 Ls E (qb0 Ls).length=(qaf (qal Ls E)).map fun k=>qag 0 (qal Ls E) k:=by
 unfold qc3;rw [qnx h]
def qft (Ls:List (List En)) (E:List Pl):List (List Int):=(List.range Ls.length).map fun (i:Nat)=>qbP E (i:Int) (Ls.getD i []).length
theorem qny (Ls:List (List En)) (E:List Pl):(qft Ls E).length=Ls.length:=by simp [qft]
theorem qnz {Ls:List (List En)} {E:List Pl} {i:Nat} (hi:i<Ls.length) (h2:i<(qft Ls E).length):(qft Ls E)[i]=qbP E (i:Int) Ls[i].length:=by
 simp only [qft,List.getElem_map,List.getElem_range,qat hi]
theorem qus {E:List Pl} {i n:Nat} {l:List Pn} (hl:∀ q∈l,0<=q.1/\q.1<(n:Int)):qcH (qbP E (i:Int) n) l=qdi E i l:=by
 unfold qcH qdi;have hcg:∀ {f g:Pn->Option Pn} {l:List Pn},(∀ q∈l,f q=g q)->l.filterMap f=l.filterMap g:=by
  intro f g l h
  induction l with
  |nil=>rfl
  |cons x r ih=>rw [List.filterMap_cons,List.filterMap_cons,h x (List.mem_cons_self ..),ih fun q hq=>h q (List.mem_cons_of_mem _ hq)]
 refine hcg fun q hq=> ?_
 obtain ⟨h1,h2⟩:=hl q hq;obtain ⟨j,hj⟩:∃ j:Nat,q.1=(j:Int):=⟨q.1.toNat,by omega⟩;have hjn:j<n:=by omega
 have e:(qbP E (i:Int) n).getD q.1.toNat 0=qba E 0 (i:Int) q.1:=by
  rw [hj,Int.toNat_natCast,List.getD_eq_getElem?_getD,qfV hjn];rfl
 rw [e]
def qe3 (w:World) (B:Nat) (ls:List (List Pn)) (cs:List Value):Prop:=cs.length=ls.length/\∀ i (h:i<ls.length),∃ A c,cs[i]?=some (.slice A ls[i].length c)/\(ls[i].length<=c/\c<=maxLen)/\qbp w B A ls[i]
def qcU (w:World) (B:Nat) (A:Option Addr) (ls:List (List Pn)):Prop:=∃ cs,qe3 w B ls cs/\Row w B A cs
section
variable {w w':World} {B B':Nat} {A:Option Addr} {ls:List (List Pn)} {cs:List Value}
theorem qe3.below (h:qe3 w B ls cs) (hb:Below B w w'):qe3 w' B ls cs:=⟨h.1,fun i hi=>by obtain ⟨A,c,h1,h2,h3⟩:=h.2 i hi;exact ⟨A,c,h1,h2,h3.below hb⟩⟩
theorem qe3.more (h:qe3 w B ls cs) (hB:B<=B'):qe3 w B' ls cs:=⟨h.1,fun i hi=>by obtain ⟨A,c,h1,h2,h3⟩:=h.2 i hi;exact ⟨A,c,h1,h2,h3.more hB⟩⟩
theorem qcU.below (h:qcU w B A ls) (hb:Below B w w'):qcU w' B A ls:=by obtain ⟨cs,h1,h2⟩:=h;exact ⟨cs,h1.below hb,h2.below hb⟩
theorem qcU.more (h:qcU w B A ls) (hB:B<=B'):qcU w B' A ls:=by obtain ⟨cs,h1,h2⟩:=h;exact ⟨cs,h1.more hB,h2.more hB⟩
theorem qcU.later (h:qcU w w.heap.size A ls) (hb:Below w.heap.size w w'):qcU w' w'.heap.size A ls:=(h.below hb).more hb.size
theorem qcU.at_ (h:qcU w B A ls) {i:Nat} (hi:i<ls.length):∃ b off A' c',A=some ⟨b,off,none⟩/\b<B/\w.cell? ⟨b,off+i,none⟩=some (.slice A' ls[i].length c')/\(ls[i].length<=c'/\c'<=maxLen)/\qbp w B A' ls[i]:=by
 obtain ⟨cs,h1,h2⟩:=h;obtain ⟨A',c',g1,g2,g3⟩:=h1.2 i hi;obtain ⟨b,off,rfl,hb,hc⟩:=Row.at_ h2 (by rw [h1.1];omega);exact ⟨b,off,A',c',rfl,hb,hc _ _ g1,g2,g3⟩
end
end Go.Proofs.YtpehcaidjlemiaaGreatDoor
