import Derived.Test.YtpehcaidjlemiaaGreatDoorMKZz
import Derived.Test.YtpehcaidjlemiaaGreatDoorMKQ04
import Derived.Sort.OwnSorted
import Derived.Test.YtpehcaidjlemiaaGreatDoorMKQ03
import Derived.Deep.AppendLies
import Derived.Test.YtpehcaidjlemiaaGreatDoorMKQ01
import Derived.Deep.SlicePairs
import Derived.ProofKit
import Derived.OpenShut
set_option linter.unusedVariables false
namespace Go.Proofs.YtpehcaidjlemiaaGreatDoor
open Go
abbrev Fd:=Nm × Nm
abbrev Tm:=Nm × Nm
def qdP (c:UInt8):Bool:=decide (97<=c.toNat)&&decide (c.toNat<=122)
def qbr (s:Nm):Bool:=s.all qdP&&(decide (1<=s.length)&&decide (s.length<=12))
theorem qlR {s:Nm} {k:Nat} (hk:k<s.length) (h:qdP s[k]=false):qbr s=false:=by
 rw [<- Bool.not_eq_true,qbr,Bool.and_eq_true];intro hh;rw [List.all_eq_true.1 hh.1 _ (List.getElem_mem hk)] at h;cases h
theorem qlS {s:Nm} (h:∀ k (hk:k<s.length),qdP s[k]=true):qbr s=(decide (1<=s.length)&&decide (s.length<=12)):=by
 rw [qbr,List.all_eq_true.2 fun c hc=>by obtain ⟨k,hk,rfl⟩:=List.getElem_of_mem hc;exact h k hk,Bool.true_and]
theorem qsl {s:Nm} (h:qbr s=true):(0:UInt8)∉s:=fun h0=>by
 rw [qbr,Bool.and_eq_true] at h;exact absurd (List.all_eq_true.1 h.1 _ h0) (by decide)
def qc9:List Nm->Nat->List Fd->Int
 |_,n,[]=>if 500<n then 7 else 0
 |seen,n,f::fs=>if qbr f.1=false then 4 else if f.1∈seen then 5 else if qbD 0 (qaM f.2)≠0 then qbD 0 (qaM f.2) else qc9 (seen++[f.1]) (n+(qaM f.2).length) fs
def qbh (l:List Fd):Int:=if 8<l.length then 7 else qc9 [] 0 l
def qcy:List Fd->Nm->List Nm
 |[],_=>[]
 |f::fs,s=>if f.1=s then qaM f.2 else qcy fs s
def qcY:Nat->List Nm->Nm->List Int
 |_,[],_=>[]
 |i,y::l,x=>if y=x then (i:Int)::qcY (i+1) l x else qcY (i+1) l x
def qa3 (l:List Fd) (t:Tm):List Int:=qcY 0 (qcy l t.1) t.2
theorem qiC (x:Nm):∀ (l:List Nm) (i:Nat),(qcY i l x).length<=l.length
 |[],_=>Nat.le_refl _
 |y::l,i=>by
  have :=qiC x l (i+1);rw [qcY];split<;>simp <;>omega
def qaf (t:Tm):Nm:=qdD t.1 t.2
def atT (l:List Tm) (k:Nat):Tm:=l.getD k ([],[])
def qbL (l:List Tm) (t:Tm):Nat->Nat
 |0=>0
 |k+1=>if qaf t<qaf (atT l k) then qbL l t k else k+1
theorem qg9 (l:List Tm) (t:Tm):∀ k,qbL l t k<=k
 |0=>Nat.le_refl _
 |k+1=>by
  have :=qg9 l t k;rw [qbL];split<;>omega
theorem qlT {l:List Tm} {t:Tm}:∀ {k:Nat},0<qbL l t k->¬ qaf t<qaf (atT l (qbL l t k-1))
 |0,h=>by simp [qbL] at h
 |k+1,h=>by
  by_cases hk:qaf t<qaf (atT l k)
  ·have e:qbL l t (k+1)=qbL l t k:=by rw [qbL,if_pos hk]
   rw [e] at h ⊢;exact qlT h
  ·have e:qbL l t (k+1)=k+1:=by rw [qbL,if_neg hk]
   rw [e];exact hk
theorem qlU {l:List Tm} {t:Tm}:∀ {k j:Nat},qbL l t k<=j->j<k->qaf t<qaf (atT l j)
 |0,j,_,h=>by omega
 |k+1,j,h1,h2=>by
  by_cases hk:qaf t<qaf (atT l k)
  ·have e:qbL l t (k+1)=qbL l t k:=by rw [qbL,if_pos hk]
   rw [e] at h1;by_cases e:j=k
   ·subst e;exact hk
   ·exact qlU h1 (by omega)
  ·have e:qbL l t (k+1)=k+1:=by rw [qbL,if_neg hk]
   omega
def qiD (l:List Tm) (t:Tm) (k:Nat):Bool:=decide (0<k)&&decide (atT l (k-1)=t)
def qds (l:List Tm) (t:Tm):List Tm:=if qiD l t (qbL l t l.length)=true then l else l.take (qbL l t l.length)++t::l.drop (qbL l t l.length)
def qaz (l:List Fd):List Tm:=l.foldl (fun a f=>(qcy l f.1).foldl (fun b x=>qds b (f.1,x)) a) []
def qdE (l:List Tm):Prop:=qaI (l.map qaf)
theorem qft {l:List Tm} {k:Nat} (hk:k<l.length):atT l k=l[k]:=by rw [atT,List.getD_eq_getElem?_getD,List.getElem?_eq_getElem hk];rfl
theorem qiE {s t:Tm} (h:qaf s=qaf t) (h0:(0:UInt8)∉s.1) (h1:(0:UInt8)∉t.1):s=t:=by
 obtain ⟨e1,e2⟩:=qr6 h h0 h1;exact Prod.ext e1 e2
theorem qlV {l:List Tm} {s t:Tm}:s∈qds l t↔s∈l∨s=t:=by
 unfold qds;split
 ·rename_i h
  rw [qiD,Bool.and_eq_true,decide_eq_true_iff,decide_eq_true_iff] at h;have :=qg9 l t l.length;have hk:qbL l t l.length-1<l.length:=by omega
  rw [qft hk] at h;constructor
  ·exact .inl
  ·rintro (h1|rfl)
   ·exact h1
   ·rw [<- h.2];exact List.getElem_mem hk
 ·rw [List.mem_append,List.mem_cons]
  conv=>rhs;rw [<- List.take_append_drop (qbL l t l.length) l,List.mem_append]
  constructor
  ·rintro (h|h|h)
   ·exact .inl (.inl h)
   ·exact .inr h
   ·exact .inl (.inr h)
  ·rintro ((h|h)|h)
   ·exact .inl h
   ·exact .inr (.inr h)
   ·exact .inr (.inl h)
theorem qsm {l:List Tm} (h:qdE l) {i j:Nat} (hj:j<l.length) (hij:i<j):qaf (atT l i)<qaf (atT l j):=by
 have :=qef h (i:=i) (j:=j) (by simpa using hj) hij;rwa [qft hj,qft (by omega),<- List.getElem_map qaf,<- List.getElem_map qaf]
 all_goals simp <;>omega
theorem qsn {l:List Tm} {t:Tm} (h:qdE l) (h0:∀ s∈l,(0:UInt8)∉s.1) (h1:(0:UInt8)∉t.1):qdE (qds l t):=by
 unfold qds;split
 ·exact h
 ·rename_i hh
  obtain ⟨k,hk⟩:∃ k,k=qbL l t l.length:=⟨_,rfl⟩;have hle:=qg9 l t l.length;have habove:∀ j,k<=j->j<l.length->qaf t<qaf (atT l j):=fun j a b=>qlU (k:=l.length) (by omega) b
  have hstop:0<k->¬ qaf t<qaf (atT l (k-1)):=fun a=>by rw [hk];exact qlT (by omega)
  rw [<- hk] at hh hle;rw [<- hk];have hlow:0<k->qaf (atT l (k-1))<qaf t:=fun a=>by
   rcases qdY (qaf (atT l (k-1))) (qaf t) with e|e|e
   ·exact e
   ·refine absurd ?_ hh
    rw [qiD,Bool.and_eq_true,decide_eq_true_iff,decide_eq_true_iff];have hk1:k-1<l.length:=by omega
    exact ⟨a,qiE e (by rw [qft hk1];exact h0 _ (List.getElem_mem hk1)) h1⟩
   ·exact absurd e (hstop a)
  unfold qdE qaI;rw [List.map_append,List.map_cons];have hp:List.Pairwise (· <·) (l.map qaf):=h;refine List.pairwise_append.2 ⟨?_,List.pairwise_cons.2 ⟨?_,?_⟩,?_⟩
  ·exact hp.sublist ((List.take_sublist k l).map qaf)
  ·intro x hx
   obtain ⟨s,hs,rfl⟩:=List.mem_map.1 hx;obtain ⟨j,hj,rfl⟩:=List.getElem_of_mem hs;rw [List.length_drop] at hj;have :=habove (k+j) (by omega) (by omega);rw [qft (by omega)] at this;rwa [List.getElem_drop]
  ·exact hp.sublist ((List.drop_sublist k l).map qaf)
  ·intro x hx y hy
   obtain ⟨s,hs,rfl⟩:=List.mem_map.1 hx;obtain ⟨i,hi,rfl⟩:=List.getElem_of_mem hs;rw [List.length_take] at hi;have hx:qaf (atT l i)<qaf t:=by
    by_cases e:i=k-1
    ·subst e;exact hlow (by omega)
    ·exact qcX (qsm h (i:=i) (j:=k-1) (by omega) (by omega)) (hlow (by omega))
   rw [qft (by omega)] at hx;rw [List.getElem_take];rcases List.mem_cons.1 hy with rfl|hy
   ·exact hx
   ·obtain ⟨s,hs,rfl⟩:=List.mem_map.1 hy
    obtain ⟨j,hj,rfl⟩:=List.getElem_of_mem hs;rw [List.length_drop] at hj;have :=habove (k+j) (by omega) (by omega);rw [qft (by omega)] at this;rw [List.getElem_drop];exact qcX hx this
def qeB (l:List Fd):Nat:=(l.map fun f=>(qcy l f.1).length).sum
def qgu (i:Nat):Nm:=[116+UInt8.ofNat i]
def qeY (i:Nat) (f:Fd):Fd:=(if qbr f.1=true then f.1 else qgu i,f.2.take 40)
def qcG (l:List Fd):Nat->List Fd
 |0=>[]
 |k+1=>if qbh (qcG l k++[qeY k (l.getD k ([],[]))])=0 then qcG l k++[qeY k (l.getD k ([],[]))] else qcG l k
def qeZ (l:List Fd):List Fd:=qcG l (min l.length 4)
theorem qlW (l:List Fd):∀ k,qbh (qcG l k)=0
 |0=>rfl
 |k+1=>by
  rw [qcG];split
  ·rename_i h;exact h
  ·exact qlW l k
theorem qso (l:List Fd):qbh (qeZ l)=0:=qlW _ _
theorem qiF (l:List Fd):∀ k,(qcG l k).length<=k
 |0=>Nat.le_refl _
 |k+1=>by
  have :=qiF l k;rw [qcG];split
  ·simp;omega
  ·omega
theorem qlX (i:Nat) (f:Fd):(qeY i f).2.length<=40:=by simp [qeY];omega
theorem qha (l:List Fd):∀ k,∀ f∈qcG l k,f.2.length<=40
 |0,f,h=>by cases h
 |k+1,f,h=>by
  rw [qcG] at h;split at h
  ·rcases List.mem_append.1 h with h|h
   ·exact qha l k f h
   ·rw [List.mem_singleton.1 h];exact qlX _ _
  ·exact qha l k f h
open Go.RowKit Go.Sort
def qaJ (base:Nat) (w:World) (v:Value) (l:List Nm):Prop:=w.ownsRow base 9 1 v l.length (qae l)
theorem qaJ.below {base:Nat} {w w':World} {v:Value} {l:List Nm} (h:qaJ base w v l) (hb:Below w.heap.size w w'):qaJ base w' v l:=qao h hb
theorem qaJ.low {base b:Nat} {w:World} {v:Value} {l:List Nm} (h:qaJ base w v l) (hb:b<=base):qaJ b w v l:=qbk h hb
theorem qaJ.row {base:Nat} {w:World} {v:Value} {l:List Nm} (h:qaJ base w v l):∃ A c,v= .slice A l.length c/\l.length<=c/\Row w w.heap.size A (qae l):=qaR h
theorem qaJ.nil {base:Nat} {w:World}:qaJ base w (.slice none 0 0) []:=World.ownsRow_nil _ _ _ _
def qe0 (l:List Nm) (w:World) (e:Ending) (w':World):Prop:=∃ v,e= .returned v/\qaJ w.heap.size w' v l/\Below w.heap.size w w'
theorem qgv {x y:Nm}:Op.bytesLess x y=decide (x<y):=bytesLess_eq x y
theorem qfu {w:World} {B:Nat} {A:Option Addr} {xs:List Nm} (h:Row w B A (qae xs)) {k:Nat} (hk:k<xs.length):
  ∃ b off,A=some ⟨b,off,none⟩/\b<B/\w.cell? ⟨b,off+k,none⟩=some (.string ⟨xs[k].toArray⟩):=qim h hk
theorem qbY (x:Nm):∃ t:ByteArray,t=⟨x.toArray⟩/\t.data.toList=x:=⟨_,rfl,rfl⟩
theorem qe1 (x:Nm):(⟨x.toArray⟩:ByteArray).size=x.length:=List.size_toArray
theorem qsp {s t:ByteArray} (h:s.data.toList<t.data.toList):Op.bytesLess s.toList t.toList=true:=by rw [Lib.toList_data,Lib.toList_data,qgv];exact decide_eq_true h
theorem qsq {s t:ByteArray} (h:¬ s.data.toList<t.data.toList):Op.bytesLess s.toList t.toList=false:=by rw [Lib.toList_data,Lib.toList_data,qgv];exact decide_eq_false h
theorem qlY {s t:ByteArray} (h:s.data.toList=t.data.toList):(s.toList==t.toList)=true:=by rw [Lib.toList_data,Lib.toList_data,h];exact beq_self_eq_true _
theorem qlZ {s t:ByteArray} (h:s.data.toList≠t.data.toList):(s.toList==t.toList)=false:=by rw [Lib.toList_data,Lib.toList_data];simpa using h
theorem qiG (a b:List Nm):qae (a++b)=qae a++qae b:=by simp [qae]
theorem Row.dropped {w:World} {B b off:Nat} {l:List Nm} (h:Row w B (some ⟨b,off,none⟩) (qae l)) (k:Nat):Row w B (some ⟨b,off+k,none⟩) (qae (l.drop k)):=by
 rcases h with h|⟨b',o',e,hb,hc⟩
 ·refine .inl ?_
  have :l=[]:=by simpa [qae] using h
  simp [this,qae]
 ·injection e with e
  injection e with e1 e2
  subst e1 e2;refine .inr ⟨b,off+k,rfl,hb,fun j u hu=> ?_⟩;have :=hc (k+j) u (by rw [<- hu];simp [qae]);rwa [<- Nat.add_assoc] at this
theorem qsr (l:List Nm):∀ u∈qae l,u.oneCell'=true:=by
 intro u hu;obtain ⟨x,_,rfl⟩:=List.mem_map.1 hu;rfl
theorem Row.later {w w':World} {A:Option Addr} {xs:List Value} (h:Row w w.heap.size A xs) (hb:Below w.heap.size w w'):Row w' w'.heap.size A xs:=(h.below hb).more hb.size
def flds:List Fd->List Value
 |[]=>[]
 |f::l=> .string ⟨f.1.toArray⟩:: .string ⟨f.2.toArray⟩::flds l
theorem qfv:∀ l:List Fd,(flds l).length=l.length*2
 |[]=>rfl
 |f::l=>by simp only [flds,List.length_cons,qfv l];omega
theorem qhb:∀ a b:List Fd,flds (a++b)=flds a++flds b
 |[],_=>rfl
 |f::a,b=>by simp [flds,qhb a b]
theorem qiH:∀ {l:List Fd} {k:Nat} (hk:k<l.length),(flds l)[k*2]?=some (.string ⟨l[k].1.toArray⟩)/\(flds l)[k*2+1]?=some (.string ⟨l[k].2.toArray⟩)
 |[],_,h=>by simp at h
 |f::l,0,_=>⟨rfl,rfl⟩
 |f::l,k+1,h=>by
  have :=qiH (l:=l) (k:=k) (by simpa using h);rw [show (k+1)*2=k*2+1+1 by omega];simpa [flds] using this
theorem ql0:∀ (l:List Fd) (k:Nat),flds (l.take k)=(flds l).take (k*2)
 |l,0=>by simp [flds]
 |[],k+1=>by simp [flds]
 |f::l,k+1=>by rw [show (k+1)*2=k*2+1+1 by omega];simp [flds,ql0 l k]
theorem qiI:∀ (l:List Fd),∀ u∈flds l,u.oneCell'=true
 |[],u,h=>by cases h
 |f::l,u,h=>by
  simp only [flds,List.mem_cons] at h;rcases h with rfl|rfl|h
  ·rfl
  ·rfl
  ·exact qiI l u h
def qaD (w:World) (B:Nat) (A:Option Addr) (l:List Fd):Prop:=Row w B A (flds l)
theorem qaD.below {w w':World} {B:Nat} {A:Option Addr} {l:List Fd} (h:qaD w B A l) (hb:Below B w w'):qaD w' B A l:=Row.below h hb
theorem qaD.more {w:World} {B B':Nat} {A:Option Addr} {l:List Fd} (h:qaD w B A l) (hB:B<=B'):qaD w B' A l:=Row.more h hB
theorem qaD.nil {w:World} {B:Nat} {A:Option Addr}:qaD w B A []:=Row.nil
theorem qaD.later {w w':World} {A:Option Addr} {l:List Fd} (h:qaD w w.heap.size A l) (hb:Below w.heap.size w w'):qaD w' w'.heap.size A l:=(h.below hb).more hb.size
theorem qaD.at_ {w:World} {B:Nat} {A:Option Addr} {l:List Fd} (h:qaD w B A l) {k:Nat} (hk:k<l.length):
  ∃ b off,A=some ⟨b,off,none⟩/\b<B/\w.cell? ⟨b,off+k*2,none⟩=some (.string ⟨l[k].1.toArray⟩)/\w.cell? ⟨b,off+k*2+1,none⟩=some (.string ⟨l[k].2.toArray⟩):=by
 obtain ⟨b,off,rfl,hb,hc⟩:=Row.at_ h (by rw [qfv];omega);obtain ⟨g1,g2⟩:=qiH hk;exact ⟨b,off,rfl,hb,hc _ _ g1,by have :=hc _ _ g2;rwa [<- Nat.add_assoc] at this⟩
abbrev qcZ (id:Int) (A:Option Addr) (n c:Nat):Value:= .agg #[.int .i64 id,.slice A n c]
theorem ql1:(Tryz.prog.info? 121).map (fun i=>(i.zero,i.size,i.bytes))=some (some (.agg #[.string ByteArray.empty,.string ByteArray.empty]),2,32):=by kernel_rfl
def qbM (base:Nat) (w:World) (v:Value) (l:List Tm):Prop:=w.ownsRow base 69 2 v l.length (flds l)
def qaH (base:Nat) (w:World) (v:Value) (l:List Fd):Prop:=w.ownsRow base 121 2 v l.length (flds l)
theorem qbM.below {base:Nat} {w w':World} {v:Value} {l:List Tm} (h:qbM base w v l) (hb:Below w.heap.size w w'):qbM base w' v l:=qao h hb
theorem qbM.low {base b:Nat} {w:World} {v:Value} {l:List Tm} (h:qbM base w v l) (hb:b<=base):qbM b w v l:=qbk h hb
theorem qbM.row {base:Nat} {w:World} {v:Value} {l:List Tm} (h:qbM base w v l):∃ A c,v= .slice A l.length c/\l.length<=c/\qaD w w.heap.size A l:=qaR h
theorem qbM.nil {base:Nat} {w:World}:qbM base w (.slice none 0 0) []:=World.ownsRow_nil _ _ _ _
theorem qaH.below {base:Nat} {w w':World} {v:Value} {l:List Fd} (h:qaH base w v l) (hb:Below w.heap.size w w'):qaH base w' v l:=qao h hb
theorem qaH.low {base b:Nat} {w:World} {v:Value} {l:List Fd} (h:qaH base w v l) (hb:b<=base):qaH b w v l:=qbk h hb
theorem qaH.row {base:Nat} {w:World} {v:Value} {l:List Fd} (h:qaH base w v l):∃ A c,v= .slice A l.length c/\l.length<=c/\qaD w w.heap.size A l:=qaR h
theorem qaH.nil {base:Nat} {w:World}:qaH base w (.slice none 0 0) []:=World.ownsRow_nil _ _ _ _
theorem qaD.cut {w:World} {B:Nat} {A:Option Addr} {l:List Fd} (h:qaD w B A l) (k:Nat):qaD w B A (l.take k):=by
 have :=Row.cut h (k*2);rwa [<- ql0] at this
theorem qss (w:World) (x:Fd) (t:TypeId):qaD (w.alloc (.cells #[.string ⟨x.1.toArray⟩,.string ⟨x.2.toArray⟩] t)) (w.alloc (.cells #[.string ⟨x.1.toArray⟩,.string ⟨x.2.toArray⟩] t)).heap.size (some ⟨w.heap.size,0,none⟩) [x]:=by
 refine .inr ⟨w.heap.size,0,rfl,by simp,fun j u hu=> ?_⟩;have :=qaN w (flds [x]) t j u hu;rw [Addr.add_lit] at this;exact this
theorem qst:(Tryz.prog.info? 69).map (fun i=>(i.zero,i.size,i.bytes))=some (some (.agg #[.string ByteArray.empty,.string ByteArray.empty]),2,32):=by kernel_rfl
theorem ql2 {ops:Array Oper} {rest:List Oper} {o:Oper} {a:Act} {Q:Exit->Act->World->Prop} (w:World) (hgd:o.guard=none) (s x:Operand)
  (ho:o.op= .call {callee:= .builtin .append,args:=#[s,x],argTypes:=#[57,57]})
  (base:Nat) (v:Value) (l:List Fd) (hs:a.eval s=v) (hown:qaH base w v l) (A:Option Addr) (m c:Nat) (news:List Fd) (hx:a.eval x= .slice A m c) (hl:news.length=m) (hr:qaD w w.heap.size A news)
  (hlen:l.length+m<=1073741824) (hbase:base<=w.heap.size)
  (h:∀ v' w',qaH base w' v' (l++news)->Below base w w'->w.grownBy w' v.ownBlock->wpList Tryz.prog ops Q rest (a.put o.dst v') w'):wpList Tryz.prog ops Q (o::rest) a w:=by
 obtain ⟨i0,hi0,hz0,hz1,hz2⟩:=info_parts ql1;refine qfM w hgd s x 57 ho base 121 i0 _ 2 32 Tryz.underlying57 hi0 hz0 hz1 hz2 rfl (by decide) v l.length (flds l) hs hown w.heap.size A m c (flds news) hx (by rw [qfv,hl]) hr (qiI _) (by unfold maxLen;omega) (by omega) hbase fun v' w' h1 h2=>h v' w' ?_ ?_ h2
 ·unfold qaH
  rw [List.length_append,hl,qhb];exact h1
 ·exact (Below.refl base w).grown h2 hbase fun k hk=>(hown.lt k hk).1
def qbZ (s:Nm):Nat->List Nm->List (Tm × Int)
 |_,[]=>[]
 |i,x::l=>((s,x),(i:Int))::qbZ s (i+1) l
theorem ql3 (s:Nm):∀ (l:List Nm) (i:Nat) (x:Nm),qbZ s i (l++[x])=qbZ s i l++[((s,x),((i+l.length:Nat):Int))]
 |[],i,x=>rfl
 |y::l,i,x=>by
  rw [List.cons_append,qbZ,qbZ,ql3 s l (i+1) x,List.cons_append,List.length_cons,Nat.add_assoc,Nat.add_comm 1]
theorem qsu (s:Nm) {l:List Nm} {k:Nat} (hk:k<l.length):qbZ s 0 (l.take (k+1))=qbZ s 0 (l.take k)++[((s,l[k]),(k:Int))]:=by
 rw [List.take_succ_eq_append_getElem hk,ql3,List.length_take,Nat.zero_add,Nat.min_eq_left (by omega)]
theorem qgw (s:Nm):∀ (l:List Nm) (i:Nat),(qbZ s i l).length=l.length
 |[],_=>rfl
 |x::l,i=>by rw [qbZ,List.length_cons,qgw s l,List.length_cons]
def qaW:List Fd->List (Tm × Int)
 |[]=>[]
 |f::l=>qbZ f.1 0 (qaM f.2)++qaW l
theorem ql4:∀ (l:List Fd) (f:Fd),qaW (l++[f])=qaW l++qbZ f.1 0 (qaM f.2)
 |[],f=>by simp [qaW]
 |g::l,f=>by rw [List.cons_append,qaW,qaW,ql4 l f,List.append_assoc]
theorem qsv {l:List Fd} {k:Nat} (hk:k<l.length):qaW (l.take (k+1))=qaW (l.take k)++qbZ l[k].1 0 (qaM l[k].2):=by
 rw [List.take_succ_eq_append_getElem hk,ql4]
abbrev Gr:=Tm × List Int
def qbx:List Gr->Tm->Int->List Gr
 |[],t,a=>[(t,[a])]
 |p::g,t,a=>if p.1=t then (p.1,p.2++[a])::g else p::qbx g t a
def qcH (s:List (Tm × Int)):List Gr:=s.foldl (fun g p=>qbx g p.1 p.2) []
theorem qsw (s:List (Tm × Int)) (t:Tm) (a:Int):qcH (s++[(t,a)])=qbx (qcH s) t a:=by
 unfold qcH;rw [List.foldl_append];rfl
def qbb:List Gr->Tm->List Int
 |[],_=>[]
 |p::g,t=>if p.1=t then p.2 else qbb g t
theorem ql5 (t u:Tm) (a:Int):∀ g:List Gr,qbb (qbx g t a) u=if t=u then qbb g u++[a] else qbb g u
 |[]=>by by_cases h:t=u<;>simp [qbx,qbb,h]
 |p::g=>by
  rw [qbx];by_cases h1:p.1=t
  ·rw [if_pos h1,qbb,qbb]
   by_cases h2:t=u
   ·rw [if_pos h2,if_pos (h1.trans h2),if_pos (h1.trans h2)]
   ·rw [if_neg h2,if_neg (fun e=>h2 (h1.symm.trans e)),if_neg (fun e=>h2 (h1.symm.trans e))]
  ·rw [if_neg h1,qbb,qbb,ql5 t u a g]
   by_cases h2:p.1=u
   ·rw [if_pos h2,if_pos h2,if_neg (fun e=>h1 (h2.trans e.symm))]
   ·rw [if_neg h2,if_neg h2]
def qda (s:List (Tm × Int)) (t:Tm):List Int:=(s.filter fun p=>decide (p.1=t)).map (·.2)
theorem ql6 (t:Tm):∀ (s:List (Tm × Int)) (g:List Gr),qbb (s.foldl (fun g p=>qbx g p.1 p.2) g) t=qbb g t++qda s t
 |[],g=>by simp [qda]
 |p::s,g=>by
  rw [List.foldl_cons,ql6 t s,ql5];unfold qda;by_cases h:p.1=t<;>simp [h]
theorem ql7 (s:List (Tm × Int)) (t:Tm):qbb (qcH s) t=qda s t:=by
 rw [qcH,ql6];rfl
theorem qiJ (t:Tm) (a:Int):∀ g:List Gr,(qbx g t a).map (·.1)=if t∈g.map (·.1) then g.map (·.1) else g.map (·.1)++[t]
 |[]=>rfl
 |p::g=>by
  have ih:=qiJ t a g;rw [qbx];by_cases h:p.1=t
  ·rw [if_pos h,if_pos (by simp [h])]
   rfl
  ·rw [if_neg h,List.map_cons,ih,List.map_cons]
   by_cases h2:t∈g.map (·.1)
   ·rw [if_pos h2,if_pos (List.mem_cons_of_mem _ h2)]
   ·rw [if_neg h2,if_neg]
    ·rfl
    ·intro h3
     rcases List.mem_cons.1 h3 with h3|h3
     ·exact h h3.symm
     ·exact h2 h3
theorem qsx {g:List Gr} (h:(g.map (·.1)).Nodup) (t:Tm) (a:Int):((qbx g t a).map (·.1)).Nodup:=by
 rw [qiJ];split
 ·exact h
 ·rename_i hn
  rw [List.nodup_append];exact ⟨h,by simp,fun x hx y hy e=>hn (by rw [List.mem_singleton] at hy;rw [<- hy,<- e];exact hx)⟩
theorem qiK:∀ (s:List (Tm × Int)) (g:List Gr),(g.map (·.1)).Nodup->((s.foldl (fun g p=>qbx g p.1 p.2) g).map (·.1)).Nodup/\∀ t,t∈(s.foldl (fun g p=>qbx g p.1 p.2) g).map (·.1)↔t∈g.map (·.1)∨t∈s.map (·.1)
 |[],g,h=>⟨h,by simp⟩
 |p::s,g,h=>by
  obtain ⟨h1,h2⟩:=qiK s (qbx g p.1 p.2) (qsx h _ _);refine ⟨h1,fun t=> ?_⟩;rw [List.foldl_cons,h2,qiJ,List.map_cons,List.mem_cons];split
  ·rename_i hp
   constructor
   ·rintro (h|h)
    ·exact .inl h
    ·exact .inr (.inr h)
   ·rintro (h|rfl|h)
    ·exact .inl h
    ·exact .inl hp
    ·exact .inr h
  ·rw [List.mem_append,List.mem_singleton,or_assoc]
theorem qsy (s:List (Tm × Int)):((qcH s).map (·.1)).Nodup:=(qiK s [] (by simp)).1
theorem ql8 (s:List (Tm × Int)) (t:Tm):t∈(qcH s).map (·.1)↔t∈s.map (·.1):=by
 rw [qcH,(qiK s [] (by simp)).2];simp
def qdt (l:List Fd):Prop:=l.Pairwise fun f g=>f.1≠g.1
theorem qhc {l:List Fd} (h:qdt l) {f:Fd} (hf:f∈l):qcy l f.1=qaM f.2:=by
 induction l with
 |nil=>cases hf
 |cons g l ih=>
  rw [qdt,List.pairwise_cons] at h;rw [qcy];rcases List.mem_cons.1 hf with rfl|hf
  ·exact if_pos rfl
  ·rw [if_neg (h.1 f hf)]
   exact ih h.2 hf
theorem ql9 {l:List Fd} {s:Nm} (h:∀ f∈l,f.1≠s):qcy l s=[]:=by
 induction l with
 |nil=>rfl
 |cons g l ih=>
  rw [qcy,if_neg (h g (List.mem_cons_self ..))];exact ih fun f hf=>h f (List.mem_cons_of_mem _ hf)
theorem qsz (a b:List (Tm × Int)) (t:Tm):qda (a++b) t=qda a t++qda b t:=by simp [qda]
theorem qma (s:Nm) (t:Tm):∀ (l:List Nm) (i:Nat),qda (qbZ s i l) t=if s=t.1 then qcY i l t.2 else []
 |[],i=>by simp [qbZ,qda,qcY]
 |x::l,i=>by
  have ih:=qma s t l (i+1);rw [qbZ];unfold qda at ih ⊢;rw [List.filter_cons];obtain ⟨t1,t2⟩:=t;simp only [Prod.mk.injEq] at ih ⊢;by_cases h1:s=t1
  ·rw [if_pos h1] at ih ⊢
   rw [qcY];by_cases h2:x=t2
   ·rw [if_pos h2,if_pos (by simp [h1,h2]),List.map_cons,ih]
   ·rw [if_neg h2,if_neg (by simp [h2]),ih]
  ·rw [if_neg h1] at ih ⊢
   rw [if_neg (by simp [h1]),ih]
theorem qmb {l:List Fd} (h:qdt l) (t:Tm):qda (qaW l) t=qa3 l t:=by
 induction l with
 |nil=>rfl
 |cons f l ih=>
  rw [qdt,List.pairwise_cons] at h;rw [qaW,qsz,qma,ih h.2];unfold qa3;rw [qcy];by_cases h1:f.1=t.1
  ·rw [if_pos h1,if_pos h1,ql9 (fun g hg e=>h.1 g hg (h1.trans e.symm)),qcY,List.append_nil]
  ·rw [if_neg h1,if_neg h1,List.nil_append]
theorem qmc (s:Nm) (t:Tm):∀ (l:List Nm) (i:Nat),t∈(qbZ s i l).map (·.1)↔t.1=s/\t.2∈l
 |[],i=>by simp [qbZ]
 |x::l,i=>by
  rw [qbZ,List.map_cons,List.mem_cons,qmc s t l,List.mem_cons];obtain ⟨t1,t2⟩:=t;simp only [Prod.mk.injEq];constructor
  ·rintro (⟨h1,h2⟩|⟨h1,h2⟩)
   ·exact ⟨h1,.inl h2⟩
   ·exact ⟨h1,.inr h2⟩
  ·rintro ⟨h1,h2|h2⟩
   ·exact .inl ⟨h1,h2⟩
   ·exact .inr ⟨h1,h2⟩
theorem qgx (t:Tm):∀ l:List Fd,t∈(qaW l).map (·.1)↔∃ f∈l,t.1=f.1/\t.2∈qaM f.2
 |[]=>by simp [qaW]
 |f::l=>by rw [qaW,List.map_append,List.mem_append,qmc,qgx t l];simp
theorem qiL (s:Nm) (t:Tm):∀ (ws:List Nm) (a:List Tm),t∈ws.foldl (fun b x=>qds b (s,x)) a↔t∈a∨(t.1=s/\t.2∈ws)
 |[],a=>by simp
 |x::ws,a=>by
  rw [List.foldl_cons,qiL s t ws,qlV,List.mem_cons];obtain ⟨t1,t2⟩:=t;simp only [Prod.mk.injEq];constructor
  ·rintro ((h|⟨h1,h2⟩)|⟨h1,h2⟩)
   ·exact .inl h
   ·exact .inr ⟨h1,.inl h2⟩
   ·exact .inr ⟨h1,.inr h2⟩
  ·rintro (h|⟨h1,h2|h2⟩)
   ·exact .inl (.inl h)
   ·exact .inl (.inr ⟨h1,h2⟩)
   ·exact .inr ⟨h1,h2⟩
theorem qmd (l:List Fd) (t:Tm):∀ (m:List Fd) (a:List Tm),t∈m.foldl (fun a f=>(qcy l f.1).foldl (fun b x=>qds b (f.1,x)) a) a↔t∈a∨∃ f∈m,t.1=f.1/\t.2∈qcy l f.1
 |[],a=>by simp
 |f::m,a=>by
  rw [List.foldl_cons,qmd l t m,qiL];simp [or_assoc]
theorem qhd {l:List Fd} (h:qdt l) (t:Tm):t∈qaz l↔t∈(qaW l).map (·.1):=by
 rw [qaz,qmd,qgx];simp only [List.not_mem_nil,false_or];constructor
 ·rintro ⟨f,hf,h1,h2⟩;exact ⟨f,hf,h1,by rwa [qhc h hf] at h2⟩
 ·rintro ⟨f,hf,h1,h2⟩;exact ⟨f,hf,h1,by rwa [qhc h hf]⟩
def qe2 (l:List Fd):Prop:=∀ f∈l,(0:UInt8)∉f.1
theorem qme {s:Nm} (h0:(0:UInt8)∉s):∀ (ws:List Nm) (a:List Tm),qdE a->(∀ t∈a,(0:UInt8)∉t.1)->qdE (ws.foldl (fun b x=>qds b (s,x)) a)
 |[],a,h,_=>h
 |x::ws,a,h,hz=>qme h0 ws _ (qsn h hz h0) fun t ht=>by
  rcases qlV.1 ht with ht|rfl
  ·exact hz t ht
  ·exact h0
theorem qmf (l:List Fd):∀ (m:List Fd) (a:List Tm),qe2 m->qdE a->(∀ t∈a,(0:UInt8)∉t.1)->qdE (m.foldl (fun a f=>(qcy l f.1).foldl (fun b x=>qds b (f.1,x)) a) a)
 |[],a,_,h,_=>h
 |f::m,a,hm,h,hz=>qmf l m _ (fun g hg=>hm g (List.mem_cons_of_mem _ hg)) (qme (hm f (List.mem_cons_self ..)) _ _ h hz) fun t ht=>by
  rcases (qiL f.1 t _ _).1 ht with ht|⟨ht,_⟩
  ·exact hz t ht
  ·rw [ht];exact hm f (List.mem_cons_self ..)
theorem qmg {l:List Fd} (h:qe2 l):qdE (qaz l):=qmf l l [] h (by simp [qdE,qaI]) (by simp)
theorem qmh {l:List Fd} (ha:qdt l) (h:qe2 l) {t:Tm} (ht:t∈qaz l):(0:UInt8)∉t.1:=by
 obtain ⟨f,hf,h1,_⟩:=(qgx t l).1 ((qhd ha t).1 ht);rw [h1];exact h f hf
theorem qsA {l:List Fd} (ha:qdt l) (h0:qe2 l) {ts:List Tm} (hp:ts.Perm ((qcH (qaW l)).map (·.1))) (hs:ts.Pairwise fun s t=>¬ qaf t<qaf s):ts=qaz l:=by
 have hmem:∀ t,t∈ts↔t∈qaz l:=fun t=>by rw [hp.mem_iff,ql8,qhd ha]
 have hz:∀ t∈ts,(0:UInt8)∉t.1:=fun t ht=>qmh ha h0 ((hmem t).1 ht)
 have hnd:ts.Nodup:=hp.nodup_iff.2 (qsy _);have hr:qdE ts:=by
  unfold qdE qaI;rw [List.pairwise_map];have h1:ts.Pairwise fun s t=>s∈ts/\t∈ts/\s≠t:=by
   rw [List.pairwise_iff_getElem];intro i j hi hj hij;exact ⟨List.getElem_mem hi,List.getElem_mem hj,fun e=>by have :=(List.getElem_inj hnd).1 e;omega⟩
  refine (hs.and h1).imp fun {s t} h=> ?_
  obtain ⟨h2,h3,h4,h5⟩:=h;rcases qdY (qaf s) (qaf t) with e|e|e
  ·exact e
  ·exact absurd (qiE e (hz s h3) (hz t h4)) h5
  ·exact absurd e h2
 have h2:ts.map qaf=(qaz l).map qaf:=qg7 hr (qmg h0) fun k=>by
  simp only [List.mem_map];constructor
  ·rintro ⟨t,ht,rfl⟩;exact ⟨t,(hmem t).1 ht,rfl⟩
  ·rintro ⟨t,ht,rfl⟩;exact ⟨t,(hmem t).2 ht,rfl⟩
 have hlen:ts.length=(qaz l).length:=by simpa using congrArg List.length h2
 refine List.ext_getElem hlen fun i h3 h4=> ?_
 refine qiE ?_ (hz _ (List.getElem_mem h3)) (qmh ha h0 (List.getElem_mem h4));have h5:=List.getElem_of_eq h2 (i:=i) (by simpa using h3);simpa using h5
theorem qmi {l:List Fd} (h:qdt l):(qaW l).length=qeB l:=by
 have h1:∀ m:List Fd,(∀ f∈m,f∈l)->(qaW m).length=(m.map fun f=>(qcy l f.1).length).sum:=by
  intro m
  induction m with
  |nil=>intro _;rfl
  |cons f m ih=>
   intro hm;rw [qaW,List.length_append,qgw,ih fun g hg=>hm g (List.mem_cons_of_mem _ hg),List.map_cons,List.sum_cons,qhc h (hm f (List.mem_cons_self ..))]
 exact h1 l fun f hf=>hf
theorem qmj:∀ {l:List Fd} {seen:List Nm} {n:Nat},qc9 seen n l=0->(∀ f∈l,qbr f.1=true/\f.1∉seen)/\qdt l/\n+(l.map fun f=>(qaM f.2).length).sum<=500
 |[],seen,n,h=>by
  rw [qc9] at h;split at h
  ·cases h
  ·exact ⟨by simp,List.Pairwise.nil,by simp;omega⟩
 |f::l,seen,n,h=>by
  rw [qc9] at h;split at h
  ·cases h
  ·rename_i h1
   split at h
   ·cases h
   ·rename_i h2
    split at h
    ·rename_i h3;exact absurd h h3
    ·obtain ⟨g1,g2,g3⟩:=qmj h
     refine ⟨fun g hg=> ?_,List.pairwise_cons.2 ⟨fun g hg e=>(g1 g hg).2 (by rw [<- e];simp),g2⟩,by rw [List.map_cons,List.sum_cons];omega⟩;rcases List.mem_cons.1 hg with rfl|hg
     ·exact ⟨by simpa using h1,h2⟩
     ·exact ⟨(g1 g hg).1,fun e=>(g1 g hg).2 (List.mem_append_left _ e)⟩
theorem qsB {l:List Fd} (h:qbh l=0):l.length<=8/\(∀ f∈l,qbr f.1=true)/\qdt l/\qe2 l/\qeB l<=500:=by
 unfold qbh at h;split at h
 ·cases h
 ·rename_i h8
  obtain ⟨g1,g2,g3⟩:=qmj h;refine ⟨by omega,fun f hf=>(g1 f hf).1,g2,fun f hf=>qsl (g1 f hf).1,?_⟩;rw [<- qmi g2];have :∀ m:List Fd,(qaW m).length=(m.map fun f=>(qaM f.2).length).sum:=by
   intro m
   induction m with
   |nil=>rfl
   |cons f m ih=>rw [qaW,List.length_append,qgw,ih,List.map_cons,List.sum_cons]
  rw [this];omega
theorem qhe (x:Nm):∀ (l:List Nm) (i:Nat),∀ a∈qcY i l x,(i:Int)<=a
 |[],i,a,h=>by cases h
 |y::l,i,a,h=>by
  rw [qcY] at h;split at h
  ·rcases List.mem_cons.1 h with rfl|h
   ·exact Int.le_refl _
   ·have :=qhe x l (i+1) a h;omega
  ·have :=qhe x l (i+1) a h;omega
theorem qiM (x:Nm):∀ (l:List Nm) (i:Nat),(qcY i l x).Pairwise (· <·)
 |[],i=>List.Pairwise.nil
 |y::l,i=>by
  rw [qcY];split
  ·exact List.pairwise_cons.2 ⟨fun a ha=>by have :=qhe x l (i+1) a ha;omega,qiM x l (i+1)⟩
  ·exact qiM x l (i+1)
theorem qmk (x:Nm) (a:Int):∀ (l:List Nm) (i:Nat),a∈qcY i l x↔∃ k:Nat,a=((i+k:Nat):Int)/\l[k]?=some x
 |[],i=>by simp [qcY]
 |y::l,i=>by
  rw [qcY];have ih:=qmk x a l (i+1);constructor
  ·intro h
   split at h
   ·rename_i hy
    rcases List.mem_cons.1 h with rfl|h
    ·exact ⟨0,by simp,by simp [hy]⟩
    ·obtain ⟨k,h1,h2⟩:=ih.1 h
     exact ⟨k+1,by rw [h1];congr 1;omega,by simpa using h2⟩
   ·obtain ⟨k,h1,h2⟩:=ih.1 h
    exact ⟨k+1,by rw [h1];congr 1;omega,by simpa using h2⟩
  ·rintro ⟨k,h1,h2⟩
   cases k with
   |zero=>
    have :y=x:=by simpa using h2
    rw [if_pos this];exact List.mem_cons.2 (.inl (by simpa using h1))
   |succ k=>
    have :=ih.2 ⟨k,by rw [h1];congr 1;omega,by simpa using h2⟩;split
    ·exact List.mem_cons_of_mem _ this
    ·exact this
structure qdu (l:List Fd):Prop where
 len:l.length<=8
 names:∀ f∈l,f.1.length<=12
 texts:∀ f∈l,f.2.length<=1024
 apart:qdt l
 zero:qe2 l
 wordsF:∀ f∈l,(qaM f.2).length<=500
 wordsS:∀ s,(qcy l s).length<=500
 weight:qeB l<=500
theorem qml:∀ {l:List Nat} {a:Nat},a∈l->a<=l.sum
 |x::l,a,h=>by
  rw [List.sum_cons];rcases List.mem_cons.1 h with rfl|h
  ·omega
  ·have :=qml h;omega
theorem qmm {l:List Fd} (ha:qdt l) (s:Nm):(qcy l s).length<=qeB l:=by
 by_cases h:∃ f∈l,f.1=s
 ·obtain ⟨f,hf,rfl⟩:=h
  unfold qeB;exact qml (List.mem_map.2 ⟨f,hf,rfl⟩)
 ·rw [ql9 fun f hf e=>h ⟨f,hf,e⟩]
  exact Nat.zero_le _
theorem qiN {l:List Fd} (hm:qbh l=0) (ht:∀ f∈l,f.2.length<=1024):qdu l:=by
 obtain ⟨g1,g2,g3,g4,g5⟩:=qsB hm;refine ⟨g1,fun f hf=> ?_,ht,g3,g4,fun f hf=> ?_,fun s=>Nat.le_trans (qmm g3 s) g5,g5⟩
 ·have :=g2 f hf
  rw [qbr,Bool.and_eq_true,Bool.and_eq_true,decide_eq_true_iff,decide_eq_true_iff] at this;exact this.2.2
 ·rw [<- qhc g3 hf]
  exact Nat.le_trans (qmm g3 _) g5
abbrev Dc:=Int × List Fd
abbrev En:=Int × List Fd × Int
abbrev Pn:=Int × List Int
def qgy (last:Int) (q:En):Int:=if qbh q.2.1≠0 then qbh q.2.1 else if q.2.2<0∨q.2.2<=last then 12 else 0
def qdb (l:List En):Nat:=(l.map fun q=>qeB q.2.1).sum
def qeC (a:List Nm) (ts:List Tm):List Nm:=(ts.map qaf).foldl qbX a
def qag (l:List En):List Nm:=l.foldl (fun a q=>qeC a (qaz q.2.1)) []
def qb0 (i:Nat) (d:List Fd) (ts:List Tm) (key:Nm):List Pn:=(ts.filter fun t=>decide (qaf t=key)).map fun t=>((i:Int),qa3 d t)
def qal:Nat->List En->Nm->List Pn
 |_,[],_=>[]
 |i,q::l,key=>qb0 i q.2.1 (qaz q.2.1) key++qal (i+1) l key
def qeD (l:List En):Int:=match l.getLast? with|none=> -1|some q=>q.2.2
def qcP (l:List En):Prop:=∀ q∈l,qdu q.2.1
theorem qsC {l:List En} (hg:qcP l):qdb l<=l.length*500:=by
 unfold qdb
 induction l with
 |nil=>simp
 |cons q l ih=>
  have h1:=(hg q (List.mem_cons_self ..)).weight;have h2:=ih fun x hx=>hg x (List.mem_cons_of_mem _ hx)
  simp only [List.map_cons,List.sum_cons,List.length_cons];omega
theorem qcP.snoc {l:List En} {q:En} (h:qcP l) (hq:qdu q.2.1):qcP (l++[q]):=fun x hx=>by
 rcases List.mem_append.1 hx with hx|hx
 ·exact h x hx
 ·rw [List.mem_singleton.1 hx];exact hq
theorem qsD (a:List Nm) (ts:List Tm):(qeC a ts).length<=ts.length+a.length:=by
 have :=qgs (ts.map qaf) a;rwa [List.length_map] at this
theorem qsE {a:List Nm} (h:qaI a) (ts:List Tm):qaI (qeC a ts):=qiB _ _ h
theorem qsF {a:List Nm} {ts:List Tm} {x:Nm}:x∈qeC a ts↔(∃ t∈ts,qaf t=x)∨x∈a:=by
 rw [qeC,qiA,List.mem_map]
theorem qmn:∀ (l:List En) {a:List Nm},qaI a->qaI (l.foldl (fun a q=>qeC a (qaz q.2.1)) a)
 |[],a,h=>h
 |q::l,a,h=>qmn l (qsE h _)
theorem qgz (l:List En):qaI (qag l):=qmn l List.Pairwise.nil
theorem qmo:∀ (l:List En) {a:List Nm} {x:Nm},x∈l.foldl (fun a q=>qeC a (qaz q.2.1)) a↔(∃ q∈l,∃ t∈qaz q.2.1,qaf t=x)∨x∈a
 |[],a,x=>by simp
 |q::l,a,x=>by
  rw [List.foldl_cons,qmo l,qsF];constructor
  ·rintro (⟨q',hq',h⟩|h|h)
   ·exact .inl ⟨q',List.mem_cons_of_mem _ hq',h⟩
   ·exact .inl ⟨q,List.mem_cons_self ..,h⟩
   ·exact .inr h
  ·rintro (⟨q',hq',h⟩|h)
   ·rcases List.mem_cons.1 hq' with rfl|hq'
    ·exact .inr (.inl h)
    ·exact .inl ⟨q',hq',h⟩
   ·exact .inr (.inr h)
theorem qeE {l:List En} {x:Nm}:x∈qag l↔∃ q∈l,∃ t∈qaz q.2.1,qaf t=x:=by
 have :=qmo l (a:=[]) (x:=x);simpa [qag] using this
theorem qhf {M:Nat}:∀ {l:List En} {a:List Nm},(∀ q∈l,(qaz q.2.1).length<=M)->(l.foldl (fun a q=>qeC a (qaz q.2.1)) a).length<=l.length*M+a.length
 |[],a,_=>by simp
 |q::l,a,h=>by
  have h1:=qhf (l:=l) (a:=qeC a (qaz q.2.1)) fun x hx=>h x (List.mem_cons_of_mem _ hx)
  have h2:=qsD a (qaz q.2.1);have h3:=h q (List.mem_cons_self ..);simp only [List.foldl_cons,List.length_cons,Nat.add_mul,Nat.one_mul];omega
theorem qmp:∀ (l:List En) (i:Nat) (q:En) (key:Nm),qal i (l++[q]) key=qal i l key++qb0 (i+l.length) q.2.1 (qaz q.2.1) key
 |[],i,q,key=>by simp [qal]
 |x::l,i,q,key=>by
  rw [List.cons_append,qal,qal,qmp l (i+1) q key,List.append_assoc,List.length_cons,show i+1+l.length=i+(l.length+1) by omega]
theorem qsG:qeD []= -1:=rfl
theorem qmq (l:List En) (q:En):qeD (l++[q])=q.2.2:=by simp [qeD]
theorem qsH {l:List En} (h:0<l.length):qeD l=(l[l.length-1]'(by omega)).2.2:=by
 have h0:l≠[]:=fun e=>by rw [e] at h;simp at h
 rw [qeD,List.getLast?_eq_some_getLast h0,List.getLast_eq_getElem h0]
def qco (l:List Dc) (most:Nat) (start step:Int):List En:=(l.take most).zipIdx.map fun p=>(p.1.1,qeZ p.1.2,start+step*(p.2:Int))
theorem qiO (l:List Dc) (most:Nat) (start step:Int):(qco l most start step).length=min most l.length:=by simp [qco]
theorem qsI {l:List Dc} {k:Nat} {start step:Int} (hk:k<l.length):qco l (k+1) start step=qco l k start step++[(l[k].1,qeZ l[k].2,start+step*(k:Int))]:=by
 unfold qco;rw [List.take_succ_eq_append_getElem hk,List.zipIdx_append,List.map_append,List.length_take,Nat.zero_add,Nat.min_eq_left (by omega)];rfl
theorem qsJ (l:List Dc) (most:Nat) (start step:Int):∀ q∈qco l most start step,∃ d,q.2.1=qeZ d:=fun q hq=>by
 obtain ⟨p,_,rfl⟩:=List.mem_map.1 hq;exact ⟨p.1.2,rfl⟩
structure qbN (S:Nat->Prop) (w w':World):Prop where
 os:w'.os=w.os
 tape:w'.tape=w.tape
 output:w'.output=w.output
 size:w.heap.size<=w'.heap.size
 block:∀ k,k<w.heap.size->¬ S k->w'.heap[k]?=w.heap[k]?
theorem qbN.of_below {S:Nat->Prop} {w w':World} (h:Below w.heap.size w w'):qbN S w w':=⟨h.os,h.tape,h.output,h.size,fun k hk _=>h.block k hk⟩
theorem qbN.trans {S:Nat->Prop} {w w' w'':World} (h:qbN S w w') (k:qbN S w' w''):qbN S w w'':=
 ⟨k.os.trans h.os,k.tape.trans h.tape,k.output.trans h.output,Nat.le_trans h.size k.size,fun i hi hne=>(k.block i (Nat.lt_of_lt_of_le hi h.size) hne).trans (h.block i hi hne)⟩
theorem qbN.below {S:Nat->Prop} {base:Nat} {w w':World} (h:qbN S w w') (hb:∀ k,S k->base<=k) (hw:base<=w.heap.size):Below base w w':=
 ⟨h.os,h.tape,h.output,h.size,fun k hk=>h.block k (by omega) (fun hs=>by have :=hb k hs;omega)⟩
def qaO (p:Nat->Prop) (w:World) (A:Option Addr) (xs:List Value):Prop:=xs=[]∨∃ b off,A=some ⟨b,off,none⟩/\p b/\∀ j u,xs[j]?=some u->w.cell? ⟨b,off+j,none⟩=some u
section
variable {p q:Nat->Prop} {w w':World} {A:Option Addr} {xs:List Value}
theorem qaO.keep (h:qaO p w A xs) (hb:∀ b,p b->w'.heap[b]?=w.heap[b]?):qaO p w' A xs:=by
 rcases h with h|⟨b,off,e,hp,hc⟩
 ·exact .inl h
 ·refine .inr ⟨b,off,e,hp,fun j u hu=> ?_⟩
  rw [World.cell?_of_block (a:=⟨b,off+j,none⟩) (hb b hp)];exact hc j u hu
theorem qaO.imp (h:qaO p w A xs) (hpq:∀ b,p b->q b):qaO q w A xs:=by
 rcases h with h|⟨b,off,e,hp,hc⟩
 ·exact .inl h
 ·exact .inr ⟨b,off,e,hpq b hp,hc⟩
theorem qaO.row {B:Nat} (h:qaO p w A xs) (hB:∀ b,p b->b<B):Row w B A xs:=h.imp hB
end
structure qdv (α:Type) where
 p:Nat
 r:Nat
 pre:α->List Value
 mid:α->List Fd
 post:α->List Value
 hp:∀ q,(pre q).length=p
 hr:∀ q,(post q).length=r
def qdv.size {α:Type} (s:qdv α):Nat:=s.p+1+s.r
section
variable {α:Type} {s:qdv α} {R R':Option Addr->List Value->Prop}
def qcQ (s:qdv α) (R:Option Addr->List Value->Prop):List α->List Value->Prop
 |[],cs=>cs=[]
 |q::l,cs=>∃ A c cs',cs=s.pre q++(.slice A (s.mid q).length c::(s.post q++cs'))/\(s.mid q).length<=c/\c<=maxLen/\R A (flds (s.mid q))/\qcQ s R l cs'
theorem qcQ.imp:∀ {l:List α} {cs:List Value},qcQ s R l cs->(∀ A xs,R A xs->R' A xs)->qcQ s R' l cs
 |[],cs,h,_=>h
 |q::l,cs,h,hi=>by
  obtain ⟨A,c,cs',rfl,h1,h2,h3,h'⟩:=h;exact ⟨A,c,cs',rfl,h1,h2,hi _ _ h3,qcQ.imp h' hi⟩
theorem qsK {q:α} {A:Option Addr} {c:Nat} {cs':List Value} {k:Nat} (i:Nat):(s.pre q++(.slice A (s.mid q).length c::(s.post q++cs')))[(k+1)*s.size+i]?=cs'[k*s.size+i]?:=by
 have hp:=s.hp q;have hr:=s.hr q;have e:(k+1)*s.size+i=s.p+(1+(s.r+(k*s.size+i))):=by rw [Nat.add_mul,Nat.one_mul];unfold qdv.size;omega
 rw [e,List.getElem?_append_right (by omega),hp,Nat.add_sub_cancel_left,Nat.add_comm 1,List.getElem?_cons_succ,List.getElem?_append_right (by omega),hr,Nat.add_sub_cancel_left]
theorem qcQ.at_:∀ {l:List α} {cs:List Value} {k:Nat},qcQ s R l cs->(hk:k<l.length)->
  ∃ A c,cs[k*s.size+s.p]?=some (.slice A (s.mid l[k]).length c)/\(s.mid l[k]).length<=c/\c<=maxLen/\R A (flds (s.mid l[k]))/\
   (∀ i u,(s.pre l[k])[i]?=some u->cs[k*s.size+i]?=some u)/\(∀ i u,(s.post l[k])[i]?=some u->cs[k*s.size+s.p+1+i]?=some u)
 |[],_,k,_,h=>by simp at h
 |q::l,cs,0,h,_=>by
  obtain ⟨A,c,cs',rfl,h1,h2,h3,h'⟩:=h;have hp:=s.hp q;refine ⟨A,c,?_,h1,h2,h3,fun i u hu=> ?_,fun i u hu=> ?_⟩
  ·rw [List.getElem?_append_right (by omega)]
   simp [hp]
  ·have :i<(s.pre q).length:=by
    rcases Nat.lt_or_ge i (s.pre q).length with h|h
    ·exact h
    ·simp only [zB] at hu
     rw [List.getElem?_eq_none h] at hu;cases hu
   rw [Nat.zero_mul,Nat.zero_add,List.getElem?_append_left this];exact hu
  ·have :i<(s.post q).length:=by
    rcases Nat.lt_or_ge i (s.post q).length with h|h
    ·exact h
    ·simp only [zB] at hu
     rw [List.getElem?_eq_none h] at hu;cases hu
   rw [List.getElem?_append_right (by omega),show 0*s.size+s.p+1+i-(s.pre q).length=i+1 by omega,List.getElem?_cons_succ,List.getElem?_append_left this];exact hu
 |q::l,cs,k+1,h,hk=>by
  obtain ⟨A,c,cs',rfl,h1,h2,h3,h'⟩:=h;have hp:=s.hp q;have hr:=s.hr q;have skip:=qsK (s:=s) (q:=q) (A:=A) (c:=c) (cs':=cs') (k:=k);obtain ⟨A',c',g1,g2,g3,g4,g5,g6⟩:=qcQ.at_ (k:=k) h' (by simpa using hk);refine ⟨A',c',?_,g2,g3,g4,fun i u hu=> ?_,fun i u hu=> ?_⟩
  ·rw [skip];exact g1
  ·rw [skip];exact g5 i u hu
  ·rw [show (k+1)*s.size+s.p+1+i=(k+1)*s.size+(s.p+1+i) by omega,skip,show k*s.size+(s.p+1+i)=k*s.size+s.p+1+i by omega]
   exact g6 i u hu
theorem qcQ.snoc:∀ {l:List α} {cs:List Value} {A:Option Addr} {c:Nat} {q:α},qcQ s R l cs->(s.mid q).length<=c->c<=maxLen->R A (flds (s.mid q))->qcQ s R (l++[q]) (cs++(s.pre q++(.slice A (s.mid q).length c::s.post q)))
 |[],cs,A,c,q,h,h1,h2,h3=>by
  simp only [qcQ] at h;subst h;exact ⟨A,c,[],by simp,h1,h2,h3,rfl⟩
 |y::l,cs,A,c,q,h,h1,h2,h3=>by
  obtain ⟨A',c',cs',rfl,g1,g2,g3,h'⟩:=h;exact ⟨A',c',_,by simp,g1,g2,g3,qcQ.snoc h' h1 h2 h3⟩
def qdc (s:qdv α) (p:Nat->Prop) (w:World) (A:Option Addr) (l:List α):Prop:=∃ cs,qcQ s (qaO p w) l cs/\qaO p w A cs
end
section
variable {α:Type} {s:qdv α} {p q:Nat->Prop} {w w':World} {A:Option Addr} {l:List α}
theorem qdc.nil:qdc s p w A []:=⟨[],rfl,.inl rfl⟩
theorem qdc.keep (h:qdc s p w A l) (hb:∀ b,p b->w'.heap[b]?=w.heap[b]?):qdc s p w' A l:=by
 obtain ⟨cs,h1,h2⟩:=h;exact ⟨cs,h1.imp fun _ _ h=>h.keep hb,h2.keep hb⟩
theorem qdc.imp (h:qdc s p w A l) (hpq:∀ b,p b->q b):qdc s q w A l:=by
 obtain ⟨cs,h1,h2⟩:=h;exact ⟨cs,h1.imp fun _ _ h=>h.imp hpq,h2.imp hpq⟩
theorem qdc.at_ (h:qdc s p w A l) {k:Nat} (hk:k<l.length):
  ∃ b off A' c',A=some ⟨b,off,none⟩/\p b/\w.cell? ⟨b,off+k*s.size+s.p,none⟩=some (.slice A' (s.mid l[k]).length c')/\(s.mid l[k]).length<=c'/\c'<=maxLen/\qaO p w A' (flds (s.mid l[k]))/\
   (∀ i u,(s.pre l[k])[i]?=some u->w.cell? ⟨b,off+k*s.size+i,none⟩=some u)/\(∀ i u,(s.post l[k])[i]?=some u->w.cell? ⟨b,off+k*s.size+s.p+1+i,none⟩=some u):=by
 obtain ⟨cs,h1,h2⟩:=h;obtain ⟨A',c',g1,g2,g3,g4,g5,g6⟩:=h1.at_ hk;rcases h2 with rfl|⟨b,off,rfl,hb,hc⟩
 ·simp at g1
 ·refine ⟨b,off,A',c',rfl,hb,by have :=hc _ _ g1;rwa [<- Nat.add_assoc] at this,g2,g3,g4,fun i u hu=> ?_,fun i u hu=> ?_⟩
  ·have :=hc _ _ (g5 i u hu);rwa [<- Nat.add_assoc] at this
  ·have :=hc _ _ (g6 i u hu)
   rwa [show off+(k*s.size+s.p+1+i)=off+k*s.size+s.p+1+i by omega] at this
abbrev qdd (s:qdv α) (w:World) (B:Nat) (A:Option Addr) (l:List α):Prop:=qdc s (fun b=>b<B) w A l
theorem qdd.below {B:Nat} (h:qdd s w B A l) (hb:Below B w w'):qdd s w' B A l:=h.keep fun b hb'=>hb.block b hb'
theorem qdd.more {B B':Nat} (h:qdd s w B A l) (hB:B<=B'):qdd s w B' A l:=h.imp fun b hb=>Nat.lt_of_lt_of_le hb hB
theorem qdd.later (h:qdd s w w.heap.size A l) (hb:Below w.heap.size w w'):qdd s w' w'.heap.size A l:=qdd.more (qdd.below h hb) hb.size
end
def qhg:qdv Dc:=⟨1,0,fun q=>[.int .i64 q.1],fun q=>q.2,fun _=>[],fun _=>rfl,fun _=>rfl⟩
def enS:qdv En:=⟨1,1,fun q=>[.int .i64 q.1],fun q=>q.2.1,fun q=>[.int .i64 q.2.2],fun _=>rfl,fun _=>rfl⟩
theorem qsL {p:Nat->Prop} {w:World} {A:Option Addr} {l:List Dc} (h:qdc qhg p w A l) {k:Nat} (hk:k<l.length):
  ∃ b off A' c',A=some ⟨b,off,none⟩/\p b/\w.cell? ⟨b,off+k*2,none⟩=some (.int .i64 l[k].1)/\w.cell? ⟨b,off+k*2+1,none⟩=some (.slice A' l[k].2.length c')/\l[k].2.length<=c'/\c'<=maxLen/\qaO p w A' (flds l[k].2):=by
 obtain ⟨b,off,A',c',e,hb,g1,g2,g3,g4,g5,_⟩:=h.at_ hk;exact ⟨b,off,A',c',e,hb,g5 0 _ rfl,g1,g2,g3,g4⟩
theorem qmr:(Tryz.prog.info? 61).map (fun i=>(i.zero,i.size,i.bytes))=some (some (.agg #[.int .i64 0,.slice none 0 0,.int .i64 0]),3,40):=by kernel_rfl
open Go.ChangeShapes Go.WideShapes Go.ChangeAt
def qms (w:World) (a:Option Addr) (len cap:Nat) (l:List Fd):Prop:=
 len<=cap/\cap<=maxLen/\l.length=len/\qaD w w.heap.size a l/\∀ f∈l,f.1.length<=maxLen/\f.2.length<=maxLen
theorem qmt:Tryz.prog.cellsOf 121=2:=by kernel_rfl
theorem qhh:Tryz.prog.cellsOf 9=1:=by kernel_rfl
theorem qmu {f:Nat->Fd} {V0 V1:Nat->Value} {w:World} {b off n:Nat} (h:∀ i,i<n->V0 i= .string ⟨(f i).1.toArray⟩/\V1 i= .string ⟨(f i).2.toArray⟩)
  (hc:∀ i,i<n->w.cell? ⟨b,off+i*2,none⟩=some (V0 i)/\w.cell? ⟨b,off+(i*2+1),none⟩=some (V1 i)):
  ∀ k,k<=n->∀ j u,(flds ((List.range k).map f))[j]?=some u->w.cell? ⟨b,off+j,none⟩=some u
 |0,_,j,u,hu=>by simp [flds] at hu
 |k+1,hk,j,u,hu=>by
  rw [List.range_succ,List.map_append,qhb] at hu;have hl:(flds ((List.range k).map f)).length=k*2:=by rw [qfv,List.length_map,List.length_range]
  by_cases hj:j<k*2
  ·rw [List.getElem?_append_left (by rw [hl];exact hj)] at hu
   exact qmu h hc k (by omega) j u hu
  ·rw [List.getElem?_append_right (by rw [hl];omega),hl] at hu
   obtain ⟨h0,h1⟩:=h k (by omega);obtain ⟨c0,c1⟩:=hc k (by omega);rcases hq:j-k*2 with _|_|q
   ·rw [hq] at hu
    simp [flds] at hu;rw [show j=k*2 by omega,c0,h0,hu]
   ·rw [hq] at hu
    simp [flds] at hu;rw [show j=k*2+1 by omega,c1,h1,hu]
   ·rw [hq] at hu
    simp [flds] at hu
theorem qsM {H:Type} {enc:TypeId × Value->H} {W:World} {fuel:Nat} {a:Option Addr} {len cap:Nat} {x:DataW H × List MemPlace}
  (h:DataW.trod enc Tryz.prog W 0 (fun _=>true) true fuel 57 [Value.slice a len cap]=some x):∃ l,qms W a len cap l:=by
 rcases Deep.open_slice_pairs Tryz.underlying57 Tryz.underlying121 qmt rfl rfl qhh qhh h with ⟨hcs,_⟩|⟨ad,l,c,m,n,V0,V1,D0,D1,P0,P1,hcs,_,hl,hm,hmm,_,hx⟩
 ·simp at hcs
  obtain ⟨rfl,rfl,rfl⟩:=hcs;exact ⟨[],Nat.le_refl _,Nat.zero_le _,rfl,qaD.nil,fun p hp=>by cases hp⟩
 ·simp at hcs
  obtain ⟨rfl,rfl,rfl⟩:=hcs;simp only [if_true] at hmm;subst hmm;have each:∀ i,i<m->∃ q:Fd,(V0 i= .string ⟨q.1.toArray⟩/\V1 i= .string ⟨q.2.toArray⟩)/\q.1.length<=maxLen/\q.2.length<=maxLen:=fun i hi=>by
   obtain ⟨_,_,g0,g1⟩:=hx i hi;obtain ⟨s0,e0,_,k0⟩:=DataW.trod_string Tryz.underlying9 g0;obtain ⟨s1,e1,_,k1⟩:=DataW.trod_string Tryz.underlying9 g1;simp only [List.cons.injEq,and_true] at e0 e1;refine ⟨(s0.data.toList,s1.data.toList),⟨e0,e1⟩,?_,?_⟩
   ·show s0.data.toList.length<=maxLen
    rw [Array.length_toList];exact k0
   ·show s1.data.toList.length<=maxLen
    rw [Array.length_toList];exact k1
  obtain ⟨f,hf⟩:=Deep.choose_lt each;by_cases h0:m=0
  ·have hl0:len=0:=by omega
   subst hl0;exact ⟨[],hl,hm,rfl,qaD.nil,fun p hp=>by cases hp⟩
  ·obtain ⟨c00,_,_,_⟩:=hx 0 (by omega)
   obtain ⟨b,off,spot⟩:=ad;have hs:spot=none:=by simpa [Addr.add] using World.cell?_spot c00
   subst hs;have hblt:b<W.heap.size:=by simpa [Addr.add_lit] using World.block_lt_of_cell? W _ c00
   refine ⟨(List.range len).map f,hl,hm,by simp,.inr ⟨b,off,rfl,hblt,qmu (n:=m) (fun i hi=>(hf i hi).1) (fun i hi=> ?_) len hl⟩,fun p hp=> ?_⟩
   ·obtain ⟨g0,g1,_,_⟩:=hx i hi
    rw [Addr.add_lit] at g0 g1;exact ⟨g0,g1⟩
   ·obtain ⟨i,hi,rfl⟩:=List.mem_map.1 hp
    have hil:=List.mem_range.1 hi;exact (hf i (by omega)).2
theorem qsN {H:Type} {enc:TypeId × Value->H} {W:World} {fuel:Nat} {v:Value} {x:DataW H × List MemPlace}
  (h:DataW.trod enc Tryz.prog W 0 (fun _=>true) true fuel 57 [v]=some x):∃ a len cap l,v= .slice a len cap/\qms W a len cap l:=by
 have hv:∃ a len cap,v= .slice a len cap:=by
  rcases Deep.open_slice_pairs Tryz.underlying57 Tryz.underlying121 qmt rfl rfl qhh qhh h with ⟨hcs,_⟩|⟨ad,l,c,m,n,V0,V1,D0,D1,P0,P1,hcs,_⟩
  ·simp only [List.cons.injEq,and_true] at hcs
   exact ⟨_,_,_,hcs⟩
  ·simp only [List.cons.injEq,and_true] at hcs
   exact ⟨_,_,_,hcs⟩
 obtain ⟨a,len,cap,rfl⟩:=hv;obtain ⟨l,hl⟩:=qsM h;exact ⟨a,len,cap,l,rfl,hl⟩
theorem qmv:Tryz.prog.cellsOf 59=2:=by kernel_rfl
end Go.Proofs.YtpehcaidjlemiaaGreatDoor
