import Derived.Test.YtldcadpemnpbmaaGreatDoorMLQ03
import Derived.Test.YtldcadpemnpbmaaGreatDoorMLQ04
import Derived.BigCall
import Derived.BigQuiet
import Derived.Deep.QuietTactic
import Derived.Test.YtldcadpemnpbmaaGreatDoorMLQ02
import Derived.Test.YtldcadpemnpbmaaGreatDoorMLQ01
import Derived.Test.YtldcadpemnpbmaaGreatDoorRows
import Derived.Lib.SmallJoins
import Derived.Deep.Slices
import Derived.OpenShut
import Derived.ProofKit
set_option linter.unusedVariables false
namespace Go.Proofs.YtldcadpemnpbmaaGreatDoor
open Go
inductive Qy where
 |mk (k:Int) (t:Tm) (ws:List Nm) (ks:List Qy):Qy
def Qy.kind:Qy→Int| .mk k _ _ _=>k
instance:Inhabited Qy:=⟨.mk 0 ([],[]) [] []⟩
mutual
def deepQ:Qy→Nat
 |.mk _ _ _ ks=>1+deepL ks
def deepL:List Qy→Nat
 |[]=>0
 |q::l=>max (deepQ q) (deepL l)
end
theorem deepL_mem:∀ {l:List Qy} {q:Qy},q∈l→deepQ q≤deepL l
 |[],_,h=>by cases h
 |a::l,q,h=>by
  rw [deepL]
  rcases List.mem_cons.1 h with rfl|h
  ·omega
  ·have :=deepL_mem h;omega
theorem deepQ_pos (q:Qy):1≤deepQ q:=by cases q;rw [deepQ];omega
theorem deep_kid {k:Int} {t:Tm} {ws:List Nm} {ks:List Qy} {i n:Nat} (h:deepQ (.mk k t ws ks)≤n+1) (hi:i<ks.length):deepQ ks[i]≤n:=by
 have :=deepL_mem (List.getElem_mem hi)
 rw [deepQ] at h
 omega
mutual
def sizeQ:Qy→Nat
 |.mk _ _ _ ks=>1+sizeL ks
def sizeL:List Qy→Nat
 |[]=>0
 |q::l=>sizeQ q+sizeL l
end
theorem sizeQ_pos (q:Qy):1≤sizeQ q:=by cases q;rw [sizeQ];omega
theorem sizeL_length:∀ l:List Qy,l.length≤sizeL l
 |[]=>Nat.le_refl _
 |q::l=>by have :=sizeL_length l;have :=sizeQ_pos q;rw [sizeL,List.length_cons];omega
def badW:List Nm→Bool
 |[]=>false
 |w::l=> !mayWord w || badW l
theorem badW_at {l:List Nm} {i:Nat} (hi:i<l.length):badW (l.drop i)=(!mayWord l[i] || badW (l.drop (i+1))):=by rw [List.drop_eq_getElem_cons hi,badW]
theorem badW_false {l:List Nm}:badW l=false↔∀ w∈l,mayWord w=true:=by
 induction l with
 |nil=>simp [badW]
 |cons a l ih=>simp [badW,ih]
def ownQ (k:Int) (t:Tm) (ws:List Nm) (n:Nat):Int:=
 if k<1∨5<k then 9
 else if 2≤k∧k≤4 then
  if t≠([],[])∨ws≠[]∨n=0 then 9 else if 8<n∨(k=4∧1<n) then 7 else 0
 else if 0<n∨(k=1∧ws≠[])∨(k=5∧t.2≠[]) then 9
 else if nameB t.1=false then 4
 else if k=1 then if mayWord t.2=true then 0 else 9
 else if ws=[]∨badW ws=true then 9
 else if 6<ws.length then 7 else 0
mutual
def mayQ:Nat→Qy→Int
 |d,.mk k t ws ks=>if 6<d then 8 else if ownQ k t ws ks.length≠0 then ownQ k t ws ks.length else mayKs (d+1) ks
def mayKs:Nat→List Qy→Int
 |_,[]=>0
 |d,q::l=>if mayQ d q≠0 then mayQ d q else mayKs d l
end
theorem mayKs_at {d:Nat} {l:List Qy} {i:Nat} (hi:i<l.length):mayKs d (l.drop i)=if mayQ d l[i]≠0 then mayQ d l[i] else mayKs d (l.drop (i+1)):=by rw [List.drop_eq_getElem_cons hi,mayKs]
theorem mayKs_zero:∀ {d:Nat} {l:List Qy},mayKs d l=0→∀ q∈l,mayQ d q=0
 |_,[],_,_,h=>by cases h
 |d,a::l,h,q,hq=>by
  rw [mayKs] at h
  split at h
  ·rename_i h1;exact absurd h h1
  ·rename_i h1
   rcases List.mem_cons.1 hq with rfl|hq
   ·exact Classical.not_not.1 h1
   ·exact mayKs_zero h q hq
theorem mayKs_of:∀ {d:Nat} {l:List Qy},(∀ q∈l,mayQ d q=0)→mayKs d l=0
 |_,[],_=>rfl
 |d,a::l,h=>by
  rw [mayKs,if_neg (by rw [h a (List.mem_cons_self ..)];exact fun e=>e rfl)]
  exact mayKs_of fun q hq=>h q (List.mem_cons_of_mem _ hq)
theorem mayQ_zero {d:Nat} {k:Int} {t:Tm} {ws:List Nm} {ks:List Qy} (h:mayQ d (.mk k t ws ks)=0):d≤6∧ownQ k t ws ks.length=0∧mayKs (d+1) ks=0:=by
 rw [mayQ] at h
 split at h
 ·cases h
 ·split at h
  ·rename_i h1;exact absurd h h1
  ·rename_i h0 h1;exact ⟨by omega,Classical.not_not.1 h1,h⟩
theorem mayQ_of {d:Nat} {k:Int} {t:Tm} {ws:List Nm} {ks:List Qy} (h1:d≤6) (h2:ownQ k t ws ks.length=0) (h3:mayKs (d+1) ks=0):mayQ d (.mk k t ws ks)=0:=by
 rw [mayQ,if_neg (by omega),if_neg (by rw [h2];exact fun e=>e rfl),h3]
mutual
theorem mayQ_deep:∀ {d:Nat} {q:Qy},mayQ d q=0→d+deepQ q≤7
 |d,.mk k t ws ks,h=>by
  obtain ⟨h1,_,h3⟩:=mayQ_zero h
  have :=mayKs_deep h3
  rw [deepQ]
  omega
theorem mayKs_deep:∀ {d:Nat} {l:List Qy},mayKs d l=0→deepL l=0∨d+deepL l≤7
 |_,[],_=> .inl rfl
 |d,a::l,h=>by
  have h1:=mayQ_deep (mayKs_zero h a (List.mem_cons_self ..))
  have h2:=mayKs_deep (mayKs_of fun q hq=>mayKs_zero h q (List.mem_cons_of_mem _ hq))
  rw [deepL]
  omega
end
theorem own_zero {k:Int} {t:Tm} {ws:List Nm} {n:Nat} (h:ownQ k t ws n=0):
  (k=1∧n=0∧ws=[]∧nameB t.1=true∧mayWord t.2=true)∨(k=5∧n=0∧t.2=[]∧nameB t.1=true∧ws≠[]∧badW ws=false∧ws.length≤6)∨
  (2≤k∧k≤4∧t=([],[])∧ws=[]∧0<n∧n≤8∧(k=4→n=1)):=by
 unfold ownQ at h
 split at h
 ·cases h
 ·rename_i h1
  split at h
  ·rename_i h2
   split at h
   ·cases h
   ·rename_i h3
    split at h
    ·cases h
    ·rename_i h4
     refine .inr (.inr ⟨h2.1,h2.2,Classical.not_not.1 fun e=>h3 (.inl e),Classical.not_not.1 fun e=>h3 (.inr (.inl e)),?_,?_,?_⟩)
     ·have :¬ n=0:=fun e=>h3 (.inr (.inr e));omega
     ·have :¬ 8<n:=fun e=>h4 (.inl e);omega
     ·intro e;have :¬ 1<n:=fun e'=>h4 (.inr ⟨e,e'⟩);have :¬ n=0:=fun e=>h3 (.inr (.inr e));omega
  ·rename_i h2
   split at h
   ·cases h
   ·rename_i h3
    have hn:n=0:=by have :¬ 0<n:=fun e=>h3 (.inl e);omega
    split at h
    ·cases h
    ·rename_i h4
     split at h
     ·rename_i h5
      split at h
      ·rename_i h6
       exact .inl ⟨h5,hn,Classical.not_not.1 fun e=>h3 (.inr (.inl ⟨h5,e⟩)),by simpa using h4,h6⟩
      ·cases h
     ·rename_i h5
      have hk:k=5:=by omega
      split at h
      ·cases h
      ·rename_i h6
       split at h
       ·cases h
       ·rename_i h7
        exact .inr (.inl ⟨hk,hn,Classical.not_not.1 fun e=>h3 (.inr (.inr ⟨hk,e⟩)),by simpa using h4,fun e=>h6 (.inl e),by have :¬ badW ws=true:=fun e=>h6 (.inr e);simpa using this,by omega⟩)
mutual
def fitsQ (f:List Fd):Qy→Bool
 |.mk k t ws ks=>if k=1 then decide (0<(placesD f t).length) else if k=5 then decide (0<phraseD f t.1 ws) else if k=2 then decide (fitL f ks=ks.length) else decide (0<fitL f ks)==decide (k=3)
def fitL (f:List Fd):List Qy→Nat
 |[]=>0
 |q::l=>(if fitsQ f q=true then 1 else 0)+fitL f l
end
theorem fitL_le (f:List Fd):∀ l:List Qy,fitL f l≤l.length
 |[]=>Nat.le_refl _
 |q::l=>by have :=fitL_le f l;rw [fitL,List.length_cons];split<;>omega
mutual
def scoreQ (f:List Fd):Qy→Nat
 |.mk k t ws ks=>if fitsQ f (.mk k t ws ks)=false∨k=4 then 0 else if k=1 then (placesD f t).length else if k=5 then phraseD f t.1 ws else scoreL f ks
def scoreL (f:List Fd):List Qy→Nat
 |[]=>0
 |q::l=>scoreQ f q+scoreL f l
end
def goodK (k:Int):Int:=1+(if k<0 then-(k+1) else k)%5
def goodFn (s:Nm):Nm:=if nameB s=true then s else [116]
def goodWd (s:Nm):Nm:=if mayWord s=true then s else [97]
def goodWs (ws:List Nm):List Nm:=(ws.take 3).filter mayWord
mutual
def goodQ:Nat→Qy→Qy
 |d,.mk k t ws ks=>
  if (2≤goodK k∧goodK k≤4)∧d<4∧0<ks.length then .mk (goodK k) ([],[]) [] (goodL (if goodK k=4 then 1 else 3) (d+1) ks)
  else if goodK k=5∧0<(goodWs ws).length then .mk 5 (goodFn t.1,[]) (goodWs ws) []
  else .mk 1 (goodFn t.1,goodWd t.2) [] []
def goodL:Nat→Nat→List Qy→List Qy
 |0,_,_=>[]
 |_+1,_,[]=>[]
 |m+1,d,q::l=>goodQ d q::goodL m d l
end
end Go.Proofs.YtldcadpemnpbmaaGreatDoor
namespace Go.Proofs.YtldcadpemnpbmaaGreatDoor
open Go Go.RowKit
set_option linter.unusedVariables false
theorem drewN_below (w:World) (m:Nat):Below w.heap.size w (w.drewN m):=⟨rfl,rfl,rfl,Nat.le_refl _,fun _ _=>rfl⟩
def boxD (w:World) (id:Int) (A:Option Addr) (n c:Nat):World:=w.alloc (.cells #[.int .i64 id,.slice A n c] 80)
theorem boxD_cells {w wr:World} {id:Int} {A:Option Addr} {n c:Nat} (h:Below (boxD w id A n c).heap.size (boxD w id A n c) wr):
  wr.cell? ⟨w.heap.size,0,none⟩=some (.int .i64 id)∧wr.cell? ⟨w.heap.size,1,none⟩=some (.slice A n c):=by
 have hb:wr.heap[w.heap.size]?=some (.cells #[.int .i64 id,.slice A n c] 80 (0,0)):=(h.block w.heap.size (by simp [boxD])).trans (heap_alloc_new w _)
 exact ⟨by simp [World.cell?,hb],by simp [World.cell?,hb]⟩
theorem boxD_below (w:World) (id:Int) (A:Option Addr) (n c:Nat):Below w.heap.size w (boxD w id A n c):=(Below.refl _ w).alloc (Nat.le_refl _) _
theorem boxD_size (w:World) (id:Int) (A:Option Addr) (n c:Nat):(boxD w id A n c).heap.size=w.heap.size+1:=by simp [boxD]
theorem boxD_out {w wr:World} {id:Int} {A:Option Addr} {n c:Nat} (h:Below (boxD w id A n c).heap.size (boxD w id A n c) wr):Below w.heap.size w wr:=
 (boxD_below w id A n c).trans (h.mono (by rw [boxD_size];omega))
end Go.Proofs.YtldcadpemnpbmaaGreatDoor
set_option linter.unusedVariables false
namespace Go.Proofs.YtldcadpemnpbmaaGreatDoor
open Go Go.RowKit
abbrev qV (k:Int) (f x:ByteArray) (A:Option Addr) (n c:Nat) (K:Option Addr) (m d:Nat):Value:= .agg #[.int .i64 k,.string f,.string x,.slice A n c,.slice K m d]
abbrev qC (k:Int) (f x:ByteArray) (A:Option Addr) (n c:Nat) (K:Option Addr) (m d:Nat):List Value:=[.int .i64 k,.string f,.string x,.slice A n c,.slice K m d]
mutual
def QAt (p:Nat→Prop) (w:World):Qy→List Value→Prop
 |.mk k t ws ks,cs=>∃ f x A c K d ds,cs=qC k f x A ws.length c K ks.length d∧f.data.toList=t.1∧x.data.toList=t.2∧ws.length≤c∧ks.length≤d∧RowP p w A (strs ws)∧RowP p w K ds∧QsAt p w ks ds
def QsAt (p:Nat→Prop) (w:World):List Qy→List Value→Prop
 |[],cs=>cs=[]
 |q::l,cs=>∃ a b,cs=a++b∧QAt p w q a∧QsAt p w l b
end
section
variable {p p':Nat→Prop} {w w':World}
mutual
theorem QAt.turn (hk:∀ A xs,RowP p w A xs→RowP p' w' A xs):∀ {q:Qy} {cs:List Value},QAt p w q cs→QAt p' w' q cs
 |.mk k t ws ks,cs,h=>by
  rw [QAt] at h ⊢
  obtain ⟨f,x,A,c,K,d,ds,h1,h2,h3,h4,h5,h6,h7,h8⟩:=h
  exact ⟨f,x,A,c,K,d,ds,h1,h2,h3,h4,h5,hk _ _ h6,hk _ _ h7,QsAt.turn hk h8⟩
theorem QsAt.turn (hk:∀ A xs,RowP p w A xs→RowP p' w' A xs):∀ {l:List Qy} {cs:List Value},QsAt p w l cs→QsAt p' w' l cs
 |[],cs,h=>by rw [QsAt] at h ⊢;exact h
 |q::l,cs,h=>by
  rw [QsAt] at h ⊢
  obtain ⟨a,b,h1,h2,h3⟩:=h
  exact ⟨a,b,h1,QAt.turn hk h2,QsAt.turn hk h3⟩
end
theorem QAt.keep {q:Qy} {cs:List Value} (h:QAt p w q cs) (hb:∀ b,p b→w'.heap[b]?=w.heap[b]?):QAt p w' q cs:=h.turn fun _ _ h=>h.keep hb
theorem QAt.imp {q:Qy} {cs:List Value} (h:QAt p w q cs) (hp:∀ b,p b→p' b):QAt p' w q cs:=h.turn fun _ _ h=>h.imp hp
theorem QsAt.keep {l:List Qy} {cs:List Value} (h:QsAt p w l cs) (hb:∀ b,p b→w'.heap[b]?=w.heap[b]?):QsAt p w' l cs:=h.turn fun _ _ h=>h.keep hb
theorem QsAt.imp {l:List Qy} {cs:List Value} (h:QsAt p w l cs) (hp:∀ b,p b→p' b):QsAt p' w l cs:=h.turn fun _ _ h=>h.imp hp
theorem QAt.len:∀ {q:Qy} {cs:List Value},QAt p w q cs→cs.length=5
 |.mk k t ws ks,cs,h=>by
  rw [QAt] at h
  obtain ⟨f,x,A,c,K,d,ds,rfl,_⟩:=h
  rfl
theorem QAt.one:∀ {q:Qy} {cs:List Value},QAt p w q cs→∀ u∈cs,u.oneCell'=true
 |.mk k t ws ks,cs,h,u,hu=>by
  rw [QAt] at h
  obtain ⟨f,x,A,c,K,d,ds,rfl,_⟩:=h
  simp only [List.mem_cons,List.mem_nil_iff,or_false] at hu
  rcases hu with rfl|rfl|rfl|rfl|rfl<;>rfl
theorem QsAt.len:∀ {l:List Qy} {cs:List Value},QsAt p w l cs→cs.length=l.length*5
 |[],cs,h=>by rw [QsAt] at h;subst h;rfl
 |q::l,cs,h=>by
  rw [QsAt] at h
  obtain ⟨a,b,rfl,h1,h2⟩:=h
  have :=h1.len
  have :=QsAt.len h2
  simp only [List.length_append,List.length_cons]
  omega
theorem QsAt.at_:∀ {l:List Qy} {cs:List Value} {i:Nat},QsAt p w l cs→(hi:i<l.length)→∃ a,QAt p w l[i] a∧∀ j u,a[j]?=some u→cs[i*5+j]?=some u
 |[],_,i,_,h=>by simp at h
 |q::l,cs,0,h,_=>by
  rw [QsAt] at h
  obtain ⟨a,b,rfl,h1,h2⟩:=h
  refine ⟨a,h1,fun j u hu=> ?_⟩
  have hj:j<a.length:=(List.getElem?_eq_some_iff.1 hu).1
  rw [Nat.zero_mul,Nat.zero_add,List.getElem?_append_left hj]
  exact hu
 |q::l,cs,i+1,h,hi=>by
  rw [QsAt] at h
  obtain ⟨a,b,rfl,h1,h2⟩:=h
  obtain ⟨a',h3,h4⟩:=QsAt.at_ (i:=i) h2 (by simpa using hi)
  refine ⟨a',h3,fun j u hu=> ?_⟩
  have :=h1.len
  rw [List.getElem?_append_right (by omega),show (i+1)*5+j-a.length=i*5+j by omega]
  exact h4 j u hu
theorem QsAt.nil:QsAt p w [] []:=by rw [QsAt]
theorem QsAt.snoc:∀ {l:List Qy} {cs a:List Value} {q:Qy},QsAt p w l cs→QAt p w q a→QsAt p w (l++[q]) (cs++a)
 |[],cs,a,q,h,ha=>by
  rw [QsAt] at h
  subst h
  rw [List.nil_append,List.nil_append,QsAt]
  exact ⟨a,[],by simp,ha,QsAt.nil⟩
 |q'::l,cs,a,q,h,ha=>by
  rw [QsAt] at h
  obtain ⟨a',b,rfl,h1,h2⟩:=h
  rw [List.cons_append,QsAt]
  exact ⟨a',b++a,by simp,h1,QsAt.snoc h2 ha⟩
def QV (p:Nat→Prop) (w:World) (q:Qy) (v:Value):Prop:=∃ k f x A n c K m d,v=qV k f x A n c K m d∧QAt p w q (qC k f x A n c K m d)
theorem QV.turn (hk:∀ A xs,RowP p w A xs→RowP p' w' A xs) {q:Qy} {v:Value} (h:QV p w q v):QV p' w' q v:=by
 obtain ⟨k,f,x,A,n,c,K,m,d,e,h⟩:=h
 exact ⟨k,f,x,A,n,c,K,m,d,e,h.turn hk⟩
theorem QV.keep {q:Qy} {v:Value} (h:QV p w q v) (hb:∀ b,p b→w'.heap[b]?=w.heap[b]?):QV p w' q v:=h.turn fun _ _ h=>h.keep hb
theorem QV.imp {q:Qy} {v:Value} (h:QV p w q v) (hp:∀ b,p b→p' b):QV p' w q v:=h.turn fun _ _ h=>h.imp hp
theorem QV.open_ {q:Qy} {v:Value} (h:QV p w q v):∃ k t ws ks f x A c K d ds,q= .mk k t ws ks∧v=qV k f x A ws.length c K ks.length d∧f.data.toList=t.1∧x.data.toList=t.2∧ws.length≤c∧ks.length≤d∧
  RowP p w A (strs ws)∧RowP p w K ds∧QsAt p w ks ds:=by
 obtain ⟨k,f,x,A,n,c,K,m,d,rfl,h⟩:=h
 obtain ⟨k',t,ws,ks⟩:=q
 rw [QAt] at h
 obtain ⟨f',x',A',c',K',d',ds,e,h2,h3,h4,h5,h6,h7,h8⟩:=h
 simp only [List.cons.injEq,Value.int.injEq,true_and,Value.string.injEq,Value.slice.injEq,and_true] at e
 obtain ⟨rfl,rfl,rfl,⟨rfl,rfl,rfl⟩,rfl,rfl,rfl⟩:=e
 exact ⟨k,t,ws,ks,f,x,A,c,K,d,ds,rfl,rfl,h2,h3,h4,h5,h6,h7,h8⟩
theorem QV.mk {k:Int} {t:Tm} {ws:List Nm} {ks:List Qy} {f x:ByteArray} {A K:Option Addr} {n c m d:Nat} {ds:List Value} (hn:ws.length=n) (hm:ks.length=m) (hf:f.data.toList=t.1) (hx:x.data.toList=t.2) (hc:ws.length≤c) (hd:ks.length≤d)
  (hA:RowP p w A (strs ws)) (hK:RowP p w K ds) (h:QsAt p w ks ds):QV p w (.mk k t ws ks) (qV k f x A n c K m d):=by
 subst hn hm
 refine ⟨k,f,x,A,_,c,K,_,d,rfl,?_⟩
 rw [QAt]
 exact ⟨f,x,A,c,K,d,ds,rfl,hf,hx,hc,hd,hA,hK,h⟩
theorem QAt.val {q:Qy} {cs:List Value} (h:QAt p w q cs):∃ k f x A n c K m d,cs=qC k f x A n c K m d∧QV p w q (qV k f x A n c K m d):=by
 obtain ⟨k',t,ws,ks⟩:=q
 have h0:=h
 rw [QAt] at h
 obtain ⟨f',x',A',c',K',d',ds,rfl,h2⟩:=h
 exact ⟨k',f',x',A',_,c',K',_,d',rfl,_,_,_,_,_,_,_,_,_,rfl,h0⟩
theorem kid_at {K:Option Addr} {ks:List Qy} {ds:List Value} (hK:RowP p w K ds) (hks:QsAt p w ks ds) {i:Nat} (hi:i<ks.length):
  ∃ b off k f x A n c K' m d,K=some ⟨b,off,none⟩∧p b∧QV p w ks[i] (qV k f x A n c K' m d)∧w.cell? ⟨b,off+i*5,none⟩=some (.int .i64 k)∧w.cell? ⟨b,off+i*5+1,none⟩=some (.string f)∧w.cell? ⟨b,off+i*5+2,none⟩=some (.string x)∧
   w.cell? ⟨b,off+i*5+3,none⟩=some (.slice A n c)∧w.cell? ⟨b,off+i*5+4,none⟩=some (.slice K' m d):=by
 obtain ⟨a,h1,h2⟩:=hks.at_ hi
 have hl:=hks.len
 rcases hK with rfl|⟨b,off,rfl,hb,hc⟩
 ·simp at hl;omega
 ·obtain ⟨k,f,x,A,n,c,K',m,d,rfl,hv⟩:=h1.val
  exact ⟨b,off,k,f,x,A,n,c,K',m,d,rfl,hb,hv,hc _ _ (h2 0 _ rfl),by have :=hc _ _ (h2 1 _ rfl);rwa [← Nat.add_assoc] at this,by have :=hc _ _ (h2 2 _ rfl);rwa [← Nat.add_assoc] at this,by have :=hc _ _ (h2 3 _ rfl);rwa [← Nat.add_assoc] at this,
   by have :=hc _ _ (h2 4 _ rfl);rwa [← Nat.add_assoc] at this⟩
end
def QIn (w:World) (q:Qy) (v:Value):Prop:=QV (fun b=>b<w.heap.size) w q v
theorem QIn.later {w w':World} {q:Qy} {v:Value} (h:QIn w q v) (hb:Below w.heap.size w w'):QIn w' q v:=QV.imp (QV.keep h fun b hb'=>hb.block b hb') fun b hb'=>Nat.lt_of_lt_of_le hb' hb.size
def boxQ (w:World) (k:Int) (f x:ByteArray) (A:Option Addr) (n c:Nat) (K:Option Addr) (m d:Nat):World:=w.alloc (.cells #[.int .i64 k,.string f,.string x,.slice A n c,.slice K m d] 27)
section
variable {w wr:World} {k:Int} {f x:ByteArray} {A K:Option Addr} {n c m d:Nat}
theorem boxQ_size:(boxQ w k f x A n c K m d).heap.size=w.heap.size+1:=by simp [boxQ]
theorem boxQ_below:Below w.heap.size w (boxQ w k f x A n c K m d):=(Below.refl _ w).alloc (Nat.le_refl _) _
theorem boxQ_of (h:Below (boxQ w k f x A n c K m d).heap.size (boxQ w k f x A n c K m d) wr):
  Below w.heap.size w wr∧wr.cell? ⟨w.heap.size,0,none⟩=some (.int .i64 k)∧wr.cell? ⟨w.heap.size,1,none⟩=some (.string f)∧wr.cell? ⟨w.heap.size,2,none⟩=some (.string x)∧wr.cell? ⟨w.heap.size,3,none⟩=some (.slice A n c)∧wr.cell? ⟨w.heap.size,4,none⟩=some (.slice K m d):=by
 have hb:wr.heap[w.heap.size]?=some (.cells #[.int .i64 k,.string f,.string x,.slice A n c,.slice K m d] 27 (0,0)):=(h.block w.heap.size (by rw [boxQ_size];omega)).trans (heap_alloc_new w _)
 exact ⟨boxQ_below.trans (h.mono (by rw [boxQ_size];omega)),by simp [World.cell?,hb],by simp [World.cell?,hb],by simp [World.cell?,hb],by simp [World.cell?,hb],by simp [World.cell?,hb]⟩
end
mutual
def FineQ:Qy→Prop
 |.mk k t ws ks=>(t.1.length≤100000000∧t.2.length≤100000000)∧(ws.length≤9∧∀ w∈ws,w.length≤100000000)∧ks.length≤9∧FineL ks
def FineL:List Qy→Prop
 |[]=>True
 |q::l=>FineQ q∧FineL l
end
theorem fineL_mem:∀ {l:List Qy} {q:Qy},FineL l→q∈l→FineQ q
 |[],_,_,h=>by cases h
 |a::l,q,h,hq=>by
  rw [FineL] at h
  rcases List.mem_cons.1 hq with rfl|hq
  ·exact h.1
  ·exact fineL_mem h.2 hq
theorem fineL_of:∀ {l:List Qy},(∀ q∈l,FineQ q)→FineL l
 |[],_=>by rw [FineL];trivial
 |a::l,h=>by rw [FineL];exact ⟨h a (List.mem_cons_self ..),fineL_of fun q hq=>h q (List.mem_cons_of_mem _ hq)⟩
end Go.Proofs.YtldcadpemnpbmaaGreatDoor
set_option linter.unusedVariables false
namespace Go.Proofs.YtldcadpemnpbmaaGreatDoor
open Go
theorem word_len {w:Nm} (h:mayWord w=true):w≠[]∧w.length≤30:=by
 have h':w≠[]∧w.length≤30∧∀ c∈signs w,inWord c=true∧fold c=c:=of_decide_eq_true h
 exact ⟨h'.1,h'.2.1⟩
theorem name_bytes {s:Nm} (h:nameB s=true):(∀ c∈s,97≤c.toNat∧c.toNat≤122)∧1≤s.length∧s.length≤12:=by
 rw [nameB,Bool.and_eq_true,Bool.and_eq_true,decide_eq_true_iff,decide_eq_true_iff] at h
 refine ⟨fun c hc=> ?_,h.2⟩
 have :=List.all_eq_true.1 h.1 c hc
 rw [smallB,Bool.and_eq_true,decide_eq_true_iff,decide_eq_true_iff] at this
 exact this
end Go.Proofs.YtldcadpemnpbmaaGreatDoor
set_option linter.unusedVariables false
namespace Go.Proofs.YtldcadpemnpbmaaGreatDoor
open Go Go.RowKit
mutual
def RawQ (b:Nat):Qy→Prop
 |.mk k t ws ks=>(-9223372036854775808≤k∧k≤9223372036854775807)∧(t.1.length≤b∧t.2.length≤b)∧(∀ w∈ws,w.length≤b)∧RawL b ks
def RawL (b:Nat):List Qy→Prop
 |[]=>True
 |q::l=>RawQ b q∧RawL b l
end
theorem rawL_mem {b:Nat}:∀ {l:List Qy} {q:Qy},RawL b l→q∈l→RawQ b q
 |[],_,_,h=>by cases h
 |a::l,q,h,hq=>by
  rw [RawL] at h
  rcases List.mem_cons.1 hq with rfl|hq
  ·exact h.1
  ·exact rawL_mem h.2 hq
theorem goodFn_is (s:Nm):nameB (goodFn s)=true:=by
 unfold goodFn
 split
 ·rename_i h;exact h
 ·rfl
theorem mayWord_a:mayWord [97]=true:=by decide+kernel
theorem goodWd_is (s:Nm):mayWord (goodWd s)=true:=by
 unfold goodWd
 split
 ·rename_i h;exact h
 ·exact mayWord_a
theorem goodL_length:∀ (m d:Nat) (l:List Qy),(goodL m d l).length=min m l.length
 |0,_,_=>by simp [goodL]
 |m+1,_,[]=>by simp [goodL]
 |m+1,d,q::l=>by rw [goodL,List.length_cons,goodL_length m d l,List.length_cons];omega
theorem goodL_map:∀ (m d:Nat) (l:List Qy),goodL m d l=(l.take m).map (goodQ d)
 |0,_,_=>by simp [goodL]
 |m+1,_,[]=>by simp [goodL]
 |m+1,d,q::l=>by rw [goodL,goodL_map m d l];rfl
theorem goodWs_is (ws:List Nm):(∀ w∈goodWs ws,mayWord w=true)∧(goodWs ws).length≤3:=by
 unfold goodWs
 refine ⟨fun w hw=>(List.mem_filter.1 hw).2,?_⟩
 have :=List.length_filter_le mayWord (ws.take 3)
 rw [List.length_take] at this
 omega
theorem good_may:∀ (n:Nat) {d:Nat} {q:Qy},4≤d+n→d≤5→mayQ d (goodQ d q)=0∧deepQ (goodQ d q)≤n+1
 |n,d,.mk k t ws ks,hn,hd=>by
  rw [goodQ]
  split
  ·rename_i h
   obtain ⟨⟨h1,h2⟩,h3,h4⟩:=h
   obtain ⟨n,rfl⟩:∃ n',n=n'+1:=⟨n-1,by omega⟩
   have ih:∀ q∈goodL (if goodK k=4 then 1 else 3) (d+1) ks,mayQ (d+1) q=0∧deepQ q≤n+1:=fun q hq=>by
    rw [goodL_map] at hq
    obtain ⟨y,_,rfl⟩:=List.mem_map.1 hq
    exact good_may n (by omega) (by omega)
   have hl:=goodL_length (if goodK k=4 then 1 else 3) (d+1) ks
   constructor
   ·refine mayQ_of (by omega) ?_ (mayKs_of fun q hq=>(ih q hq).1)
    rw [ownQ,if_neg (by omega),if_pos ⟨h1,h2⟩,hl]
    by_cases h5:goodK k=4
    ·rw [if_pos h5,if_neg (fun hh=>hh.elim (fun h=>h rfl) fun hh=>hh.elim (fun h=>h rfl) (fun h=>by omega)),if_neg (by omega)]
    ·rw [if_neg h5,if_neg (fun hh=>hh.elim (fun h=>h rfl) fun hh=>hh.elim (fun h=>h rfl) (fun h=>by omega)),if_neg (by omega)]
   ·rw [deepQ]
    have :∀ l:List Qy,(∀ q∈l,deepQ q≤n+1)→deepL l≤n+1:=fun l=>by
     induction l with
     |nil=>intro _;rw [deepL];omega
     |cons a l ih=>intro h;rw [deepL];have :=h a (List.mem_cons_self ..);have :=ih fun q hq=>h q (List.mem_cons_of_mem _ hq);omega
    have :=this _ fun q hq=>(ih q hq).2
    omega
  ·split
   ·rename_i h1 h2
    obtain ⟨g1,g2⟩:=goodWs_is ws
    have g0:goodWs ws≠[]:=fun e=>by rw [e] at h2;exact absurd h2.2 (by decide)
    refine ⟨mayQ_of (by omega) ?_ rfl,by rw [deepQ,deepL];omega⟩
    rw [ownQ,if_neg (by decide),if_neg (by decide),if_neg (fun hh=>hh.elim (fun h=>absurd h (by simp)) fun hh=>hh.elim (fun h=>absurd h.1 (by decide)) (fun h=>h.2 rfl))]
    simp only
    rw [if_neg (by rw [goodFn_is];decide),if_neg (c:=(5:Int)=1) (by decide),if_neg (fun hh=>hh.elim g0 fun h=>by rw [badW_false.2 g1] at h;cases h),if_neg (by omega)]
   ·refine ⟨mayQ_of (by omega) ?_ rfl,by rw [deepQ,deepL];omega⟩
    rw [ownQ,if_neg (by decide),if_neg (by decide),if_neg (fun hh=>hh.elim (fun h=>absurd h (by simp)) fun hh=>hh.elim (fun h=>h.2 rfl) (fun h=>absurd h.1 (by decide)))]
    simp only
    rw [if_neg (by rw [goodFn_is];decide),if_pos trivial,if_pos (goodWd_is _)]
theorem may_fine:∀ (n:Nat) {d:Nat} {q:Qy},deepQ q≤n→mayQ d q=0→FineQ q
 |0,_,q,h,_=>by have :=deepQ_pos q;omega
 |n+1,d,.mk k t ws ks,h,hm=>by
  obtain ⟨hd,ho,hl⟩:=mayQ_zero hm
  have hk:FineL ks:=fineL_of fun q hq=>by
   have :=deepL_mem hq
   rw [deepQ] at h
   exact may_fine n (by omega) (mayKs_zero hl q hq)
  rw [FineQ]
  rcases own_zero ho with ⟨rfl,h1,rfl,h2,h3⟩|⟨rfl,h1,h2,h3,h4,h5,h6⟩|⟨h1,h2,h3,rfl,h4,h5,_⟩
  ·have a:=(name_bytes h2).2.2
   have b:=(word_len h3).2
   exact ⟨⟨by omega,by omega⟩,⟨by simp,by simp⟩,by omega,hk⟩
  ·have a:=(name_bytes h3).2.2
   exact ⟨⟨by omega,by rw [h2];simp⟩,⟨by omega,fun w hw=>by have :=(word_len (badW_false.1 h5 w hw)).2;omega⟩,by omega,hk⟩
  ·subst h3
   exact ⟨⟨by simp,by simp⟩,⟨by simp,by simp⟩,by omega,hk⟩
theorem rawL_of {b:Nat}:∀ {l:List Qy},(∀ q∈l,RawQ b q)→RawL b l
 |[],_=>by rw [RawL];trivial
 |a::l,h=>by rw [RawL];exact ⟨h a (List.mem_cons_self ..),rawL_of fun q hq=>h q (List.mem_cons_of_mem _ hq)⟩
end Go.Proofs.YtldcadpemnpbmaaGreatDoor
namespace Go.Proofs.YtldcadpemnpbmaaGreatDoor
open Go Go.RowKit
set_option linter.unusedVariables false
theorem wf_bd {a:Int} (h:(Lit.int .i64 a).wf=true): -9223372036854775808≤a∧a≤9223372036854775807:=by
 have e1:IntKind.i64.min= -9223372036854775808:=rfl
 have e2:IntKind.i64.max=9223372036854775807:=rfl
 simp [Lit.wf] at h
 omega
end Go.Proofs.YtldcadpemnpbmaaGreatDoor
namespace Go.Proofs.YtldcadpemnpbmaaGreatDoor
open Go Go.RowKit Go.ChangeShapes Go.WideShapes Go.ChangeAt Go.Joins
set_option linter.unusedVariables false
theorem bulk_one {H:Type} (d:DataW H):1≤Rows.uptoBulk d:=by
 cases d with
 |lit l=>cases l<;>simp [Rows.uptoBulk]
 |_=>simp [Rows.uptoBulk]
theorem bulk_mem {H:Type} {d:DataW H}:∀ {l:List (DataW H)},d∈l→Rows.uptoBulk d≤Rows.uptoBulkAll l
 |x::l,h=>by
  simp only [Rows.uptoBulkAll]
  rcases List.mem_cons.1 h with rfl|h
  ·omega
  ·have :=bulk_mem h;omega
theorem bulk_str {H:Type} (s:List UInt8):Rows.uptoBulk (DataW.lit (H:=H) (.string s))=s.length+1:=by simp [Rows.uptoBulk]
theorem bulk_elem {H:Type} {d:DataW H} {es sp:List (DataW H)} (h:d∈es):Rows.uptoBulk d<Rows.uptoBulk (.slice es sp):=by
 have :=bulk_mem h
 simp only [Rows.uptoBulk]
 omega
theorem bulk_part {H:Type} {d:DataW H} {ps:List (DataW H)} (h:d∈ps):Rows.uptoBulk d<Rows.uptoBulk (.agg ps):=by
 have :=bulk_mem h
 simp only [Rows.uptoBulk]
 omega
def AllR {α:Type} (R:α→List Value→Prop):List α→List Value→Prop
 |[],vs=>vs=[]
 |q::l,vs=>∃ a b,vs=a++b∧R q a∧AllR R l b
theorem AllR.snoc {α:Type} {R:α→List Value→Prop}:∀ {l:List α} {vs:List Value} {q:α} {a:List Value},AllR R l vs→R q a→AllR R (l++[q]) (vs++a)
 |[],vs,q,a,h,ha=>by cases h;exact ⟨a,[],by simp,ha,rfl⟩
 |x::l,vs,q,a,h,ha=>by
  obtain ⟨u,v,rfl,h1,h2⟩:=h
  exact ⟨u,v++a,by simp,h1,AllR.snoc h2 ha⟩
theorem AllR.cat {α:Type} {R:α→List Value→Prop} {f:Nat→α × List Value} {n:Nat} (h:∀ i,i<n→R (f i).1 (f i).2):∀ k,k≤n→AllR R ((List.range k).map fun i=>(f i).1) (catTo (fun i=>(f i).2) k)
 |0,_=>rfl
 |k+1,hk=>by
  rw [List.range_succ,List.map_append,catTo]
  exact (AllR.cat h k (by omega)).snoc (h k (by omega))
theorem in_row {α:Type} [Inhabited α] {H:Type} {enc:TypeId × Value→H} {W:World} {R:α→List Value→Prop} {t e:TypeId} {z N:Nat} (ht:Tryz.prog.underlying t=some (.slice e)) (ce:Tryz.prog.cellsOf e=z) (hz:0<z)
  (open1:∀ {fuel:Nat} {cs:List Value} {y:DataW H × List MemPlace},Rows.uptoBulk y.1<N→DataW.trod enc Tryz.prog W 0 (fun _=>true) true fuel e cs=some y→∃ q,R q cs)
  {fuel:Nat} {cs:List Value} {x:DataW H × List MemPlace} (h:DataW.trod enc Tryz.prog W 0 (fun _=>true) true fuel t cs=some x) (hN:Rows.uptoBulk x.1≤N):
  ∃ A len cap l vs,cs=[.slice A len cap]∧len≤cap∧cap≤maxLen∧l.length=len∧RowP (fun b=>b<W.heap.size) W A vs∧AllR R l vs:=by
 rcases Deep.open_slice ht h with ⟨hcs,_⟩|⟨ad,len,cap,m,n,D,Pl,rfl,_,hl,hm,hmm,hx1,hx⟩
 ·exact ⟨none,0,0,[],[],hcs,Nat.le_refl _,Nat.zero_le _,rfl,.inl rfl,rfl⟩
 ·simp only [if_true] at hmm
  have each:∀ i,i<len→∃ q:α × List Value,R q.1 q.2∧q.2.length=z∧∀ j u,q.2[j]?=some u→W.cell? (ad.add (i*z+j))=some u:=fun i hi=>by
   obtain ⟨cs',h1,h2⟩:=hx i (by omega)
   obtain ⟨_,hlen,hcell⟩:=World.cells?_some h1
   have hb:Rows.uptoBulk (D i)<N:=by
    refine Nat.lt_of_lt_of_le ?_ hN
    rw [hx1]
    exact bulk_elem (List.mem_map.2 ⟨i,List.mem_range.2 hi,rfl⟩)
   obtain ⟨q,hq⟩:=open1 (y:=(D i,Pl i)) hb h2
   rw [ce] at hlen
   refine ⟨(q,cs'),hq,hlen,fun j u hu=> ?_⟩
   have hj:j<z:=by
    rcases Nat.lt_or_ge j z with h|h
    ·exact h
    ·rw [List.getElem?_eq_none (by rw [hlen];exact h)] at hu;cases hu
   have :=hcell j (by rw [ce];exact hj)
   rw [Deep.add_add,ce] at this
   rw [this]
   exact hu
  obtain ⟨f,hf⟩:=Deep.choose_lt each
  by_cases h0:len=0
  ·subst h0
   exact ⟨some ad,0,cap,[],[],rfl,hl,hm,rfl,.inl rfl,rfl⟩
  ·obtain ⟨_,hl0,hc0⟩:=hf 0 (by omega)
   obtain ⟨u0,hu0⟩:∃ u,(f 0).2[0]?=some u:=⟨_,List.getElem?_eq_getElem (by rw [hl0];exact hz)⟩
   have c00:=hc0 0 u0 hu0
   obtain ⟨b,off,spot⟩:=ad
   have hs:spot=none:=by simpa [Addr.add] using World.cell?_spot c00
   subst hs
   have hblt:b<W.heap.size:=by simpa [Addr.add_lit] using World.block_lt_of_cell? W _ c00
   refine ⟨some ⟨b,off,none⟩,len,cap,(List.range len).map fun i=>(f i).1,catTo (fun i=>(f i).2) len,rfl,hl,hm,by simp,.inr ⟨b,off,rfl,hblt,catTo_row (n:=len) (z:=z) (fun i hi=>(hf i hi).2.1) (fun i hi j u hu=> ?_) len (Nat.le_refl _)⟩,AllR.cat (n:=len) (fun i hi=>(hf i hi).1) len (Nat.le_refl _)⟩
   have :=(hf i hi).2.2 j u hu
   rwa [Addr.add_lit] at this
theorem allR_strs {P:Nm→Prop}:∀ {l:List Nm} {vs:List Value},AllR (fun q cs=>cs=[.string ⟨q.toArray⟩]∧P q) l vs→vs=strs l∧∀ q∈l,P q
 |[],vs,h=>⟨h,fun q hq=>by cases hq⟩
 |x::l,vs,h=>by
  obtain ⟨a,b,rfl,⟨rfl,hp⟩,h2⟩:=h
  obtain ⟨rfl,h3⟩:=allR_strs h2
  refine ⟨rfl,fun q hq=> ?_⟩
  rcases List.mem_cons.1 hq with rfl|hq
  ·exact hp
  ·exact h3 q hq
theorem allR_qs {p:Nat→Prop} {w:World} {P:Qy→Prop}:∀ {l:List Qy} {vs:List Value},AllR (fun q cs=>QAt p w q cs∧P q) l vs→QsAt p w l vs∧∀ q∈l,P q
 |[],vs,h=>⟨by rw [QsAt];exact h,fun q hq=>by cases hq⟩
 |x::l,vs,h=>by
  obtain ⟨a,b,rfl,⟨h1,hp⟩,h2⟩:=h
  obtain ⟨h3,h4⟩:=allR_qs h2
  refine ⟨by rw [QsAt];exact ⟨a,b,rfl,h1,h3⟩,fun q hq=> ?_⟩
  rcases List.mem_cons.1 hq with rfl|hq
  ·exact hp
  ·exact h4 q hq
theorem query_cells:Tryz.prog.cellsOf 27=5:=by kernel_rfl
theorem term_cells:Tryz.prog.cellsOf 23=2:=by kernel_rfl
set_option maxRecDepth 100000 in
theorem in_query {H:Type} {enc:TypeId × Value→H} {W:World} (b:Nat) (M:Nat):∀ {fuel:Nat} {cs:List Value} {x:DataW H × List MemPlace},Rows.uptoBulk x.1≤M→Rows.uptoBulk x.1≤b→
  DataW.trod enc Tryz.prog W 0 (fun _=>true) true fuel 27 cs=some x→∃ q,QAt (fun b=>b<W.heap.size) W q cs∧(RawQ b q∧RawQ maxLen q):=by
 induction M with
 |zero=>intro fuel cs x h;have :=bulk_one x.1;omega
 |succ M ih=>
  intro fuel cs x hM hb h
  obtain ⟨y0,y1,y2,y3,n,rfl,hl,g0,g1,g2,g3⟩:=trod_struct4 Tryz.underlying27 h
  have b1:=bulk_part (d:=y1.1) (ps:=[y0.1,y1.1,y2.1,y3.1]) (by simp)
  have b2:=bulk_part (d:=y2.1) (ps:=[y0.1,y1.1,y2.1,y3.1]) (by simp)
  have b3:=bulk_part (d:=y3.1) (ps:=[y0.1,y1.1,y2.1,y3.1]) (by simp)
  rw [query_cells] at hl
  obtain ⟨v0,v1,v2,v3,v4,rfl⟩:∃ v0 v1 v2 v3 v4,cs=[v0,v1,v2,v3,v4]:=by
   match cs,hl with
   |[v0,v1,v2,v3,v4],_=>exact ⟨v0,v1,v2,v3,v4,rfl⟩
  have c0:Tryz.prog.cellsOf 3=1:=by kernel_rfl
  have c2:Tryz.prog.cellsOf 24=1:=by kernel_rfl
  have c3:Tryz.prog.cellsOf 25=1:=by kernel_rfl
  have cs1:Tryz.prog.cellsOf 9=1:=by kernel_rfl
  simp [c0] at g0
  simp [term_cells] at g1
  simp [c2] at g2
  simp [c3] at g3
  obtain ⟨k,e0,_,hk⟩:=DataW.trod_int Tryz.underlying3 g0
  obtain ⟨z0,z1,n2,hz,_,s0,s1⟩:=trod_struct2 Tryz.underlying23 g1
  simp [cs1] at s0 s1
  obtain ⟨f,e1,hf1,hf2⟩:=DataW.trod_string Tryz.underlying9 s0
  obtain ⟨s,e2,hs1,hs2⟩:=DataW.trod_string Tryz.underlying9 s1
  simp only [List.cons.injEq,and_true] at e0 e1 e2
  subst e0 e1 e2
  have hM':Rows.uptoBulk (DataW.agg [y0.1,y1.1,y2.1,y3.1])≤M+1:=hM
  have hb':Rows.uptoBulk (DataW.agg [y0.1,y1.1,y2.1,y3.1])≤b:=hb
  have hy1:y1.1= .agg [z0.1,z1.1]:=by rw [hz]
  have bf:f.data.toList.length<Rows.uptoBulk y1.1:=by
   have h1:Rows.uptoBulk z0.1=f.data.toList.length+1:=by rw [hf1];exact bulk_str _
   have :=bulk_part (d:=z0.1) (ps:=[z0.1,z1.1]) (by simp)
   rw [hy1]
   omega
  have bs:s.data.toList.length<Rows.uptoBulk y1.1:=by
   have h1:Rows.uptoBulk z1.1=s.data.toList.length+1:=by rw [hs1];exact bulk_str _
   have :=bulk_part (d:=z1.1) (ps:=[z0.1,z1.1]) (by simp)
   rw [hy1]
   omega
  have hfm:f.data.toList.length≤maxLen:=by rw [show f.data.toList.length=f.size from Array.length_toList];exact hf2
  have hsm:s.data.toList.length≤maxLen:=by rw [show s.data.toList.length=s.size from Array.length_toList];exact hs2
  obtain ⟨A,an,ac,ws,vs,ea,ha1,ha2,ha3,ha4,ha5⟩:=in_row (α:=Nm) (R:=fun q cs=>cs=[.string ⟨q.toArray⟩]∧(q.length≤b∧q.length≤maxLen)) (N:=Rows.uptoBulk y2.1) Tryz.underlying24 cs1 (by decide) (fun {fuel cs y} hN h=>by
   obtain ⟨s,e,hd,hm⟩:=DataW.trod_string Tryz.underlying9 h
   refine ⟨s.data.toList,e,?_,by rw [show s.data.toList.length=s.size from Array.length_toList];exact hm⟩
   have h1:Rows.uptoBulk y.1=s.data.toList.length+1:=by rw [hd];exact bulk_str _
   omega) g2 (Nat.le_refl _)
  obtain ⟨K,kn,kc,ks,us,ek,hk1,hk2,hk3,hk4,hk5⟩:=in_row (α:=Qy) (R:=fun q cs=>QAt (fun b=>b<W.heap.size) W q cs∧(RawQ b q∧RawQ maxLen q)) (N:=Rows.uptoBulk y3.1) Tryz.underlying25 query_cells (by decide) (fun {fuel cs y} hN h=>
   ih (by omega) (by omega) h) g3 (Nat.le_refl _)
  simp only [List.cons.injEq,and_true] at ea ek
  subst ea ek
  obtain ⟨rfl,hws⟩:=allR_strs ha5
  obtain ⟨hqs,hrk⟩:=allR_qs hk5
  have hkb:=wf_bd hk
  refine ⟨.mk k (f.data.toList,s.data.toList) ws ks,?_,?_,?_⟩
  ·rw [QAt]
   exact ⟨f,s,A,ac,K,kc,us,by rw [ha3,hk3],rfl,rfl,by omega,by omega,ha4,hk4,hqs⟩
  ·rw [RawQ]
   exact ⟨hkb,⟨by simp only;omega,by simp only;omega⟩,fun w hw=>(hws w hw).1,rawL_of fun q hq=>(hrk q hq).1⟩
  ·rw [RawQ]
   exact ⟨hkb,⟨hfm,hsm⟩,fun w hw=>(hws w hw).2,rawL_of fun q hq=>(hrk q hq).2⟩
end Go.Proofs.YtldcadpemnpbmaaGreatDoor
namespace Go.Proofs.YtldcadpemnpbmaaGreatDoor
open Go Go.RowKit Go.ChangeShapes Go.WideShapes Go.ChangeAt Go.Joins
set_option linter.unusedVariables false
theorem bulk_all2 {H:Type} (a b:DataW H):Rows.uptoBulkAll [a,b]=Rows.uptoBulk a+Rows.uptoBulk b:=by simp [Rows.uptoBulkAll]
set_option maxRecDepth 100000 in
theorem open_query {H:Type} {enc:TypeId × Value→H} {W:World} {r:Reach} {b0 b:Nat} {v:Value} {d:DataW H} {p:List MemPlace} (hv:Value.okWide Tryz.prog W r b0 27 v) (h:DataW.Trod enc Tryz.prog W 0 (fun _=>true) true 27 v d p) (hb:Rows.uptoBulk d≤b):
  ∃ q,QIn W q v∧RawQ b q∧RawQ maxLen q:=by
 obtain ⟨cs,rfl,hsz⟩:=okWide_struct Tryz.underlying27 hv
 obtain ⟨fuel,hf⟩:=h
 obtain ⟨q,h1,h2,h3⟩:=in_query b (Rows.uptoBulk d) (x:=(d,p)) (Nat.le_refl _) hb hf
 obtain ⟨k,f,x,A,n,c,K,m,d',e,hq⟩:=h1.val
 have e':cs.toList=qC k f x A n c K m d':=e
 have e2:cs=#[.int .i64 k,.string f,.string x,.slice A n c,.slice K m d']:=by
  apply Array.toList_inj.1
  exact e'
 subst e2
 exact ⟨q,hq,h2,h3⟩
end Go.Proofs.YtldcadpemnpbmaaGreatDoor
set_option linter.unusedVariables false
namespace Go.Proofs.YtldcadpemnpbmaaGreatDoor
open Go
abbrev GP:=Nm × List Pn
def addP:List GP→Nm→Pn→List GP
 |[],t,a=>[(t,[a])]
 |p::g,t,a=>if p.1=t then (p.1,p.2++[a])::g else p::addP g t a
def getP:List GP→Nm→List Pn
 |[],_=>[]
 |p::g,t=>if p.1=t then p.2 else getP g t
theorem getP_add (t u:Nm) (a:Pn):∀ g:List GP,getP (addP g t a) u=if t=u then getP g u++[a] else getP g u
 |[]=>by by_cases h:t=u<;>simp [addP,getP,h]
 |p::g=>by
  rw [addP]
  by_cases h1:p.1=t
  ·rw [if_pos h1,getP,getP]
   by_cases h2:t=u
   ·rw [if_pos h2,if_pos (h1.trans h2),if_pos (h1.trans h2)]
   ·rw [if_neg h2,if_neg (fun e=>h2 (h1.symm.trans e)),if_neg (fun e=>h2 (h1.symm.trans e))]
  ·rw [if_neg h1,getP,getP,getP_add t u a g]
   by_cases h2:p.1=u
   ·rw [if_pos h2,if_pos h2,if_neg (fun e=>h1 (h2.trans e.symm))]
   ·rw [if_neg h2,if_neg h2]
theorem addP_keys (t:Nm) (a:Pn):∀ g:List GP,(addP g t a).map (·.1)=if t∈g.map (·.1) then g.map (·.1) else g.map (·.1)++[t]
 |[]=>by simp [addP]
 |p::g=>by
  rw [addP]
  by_cases h1:p.1=t
  ·rw [if_pos h1,if_pos (by simp [h1])]
   simp
  ·rw [if_neg h1,List.map_cons,addP_keys t a g]
   by_cases h2:t∈g.map (·.1)
   ·rw [if_pos h2,if_pos (show t∈(p::g).map (·.1) from List.mem_cons_of_mem _ h2)]
    simp
   ·rw [if_neg h2,if_neg (by rw [List.map_cons,List.mem_cons];exact fun h=>h.elim (fun e=>h1 e.symm) h2)]
    simp
theorem addP_mem {t:Nm} {a:Pn} {g:List GP} {x:Nm}:x∈(addP g t a).map (·.1)↔x∈g.map (·.1)∨x=t:=by
 rw [addP_keys]
 split
 ·rename_i h
  exact ⟨.inl,fun h'=>h'.elim id fun e=>e▸h⟩
 ·rw [List.mem_append,List.mem_singleton]
theorem addP_nodup {t:Nm} {a:Pn} {g:List GP} (h:(g.map (·.1)).Nodup):((addP g t a).map (·.1)).Nodup:=by
 rw [addP_keys]
 split
 ·exact h
 ·rename_i hn
  rw [List.nodup_append]
  exact ⟨h,by simp,fun x hx y hy e=>by rw [List.mem_singleton] at hy;subst hy;subst e;exact hn hx⟩
def turnP (i:Nat) (d:List Fd) (g:List GP) (ts:List Tm):List GP:=ts.foldl (fun g t=>addP g (keyT t) ((i:Int),placesD d t)) g
theorem turnP_take {i:Nat} {d:List Fd} {g:List GP} {ts:List Tm} {k:Nat} (hk:k<ts.length):turnP i d g (ts.take (k+1))=addP (turnP i d g (ts.take k)) (keyT ts[k]) ((i:Int),placesD d ts[k]):=by
 unfold turnP
 rw [List.take_succ_eq_append_getElem hk,List.foldl_append]
 rfl
theorem getP_turn (i:Nat) (d:List Fd) (key:Nm):∀ (ts:List Tm) (g:List GP),getP (turnP i d g ts) key=getP g key++postIn i d ts key
 |[],g=>by simp [turnP,postIn]
 |t::ts,g=>by
  rw [show turnP i d g (t::ts)=turnP i d (addP g (keyT t) ((i:Int),placesD d t)) ts from rfl,getP_turn i d key ts,getP_add]
  unfold postIn
  by_cases h:keyT t=key
  ·rw [if_pos h,List.filter_cons_of_pos (by simpa using h),List.map_cons,List.append_assoc]
   rfl
  ·rw [if_neg h,List.filter_cons_of_neg (by simpa using h)]
theorem turnP_nodup (i:Nat) (d:List Fd):∀ (ts:List Tm) (g:List GP),(g.map (·.1)).Nodup→((turnP i d g ts).map (·.1)).Nodup
 |[],g,h=>h
 |t::ts,g,h=>turnP_nodup i d ts _ (addP_nodup h)
theorem turnP_mem (i:Nat) (d:List Fd) {x:Nm}:∀ (ts:List Tm) (g:List GP),x∈(turnP i d g ts).map (·.1)↔x∈g.map (·.1)∨∃ t∈ts,keyT t=x
 |[],g=>by simp [turnP]
 |t::ts,g=>by
  rw [show turnP i d g (t::ts)=turnP i d (addP g (keyT t) ((i:Int),placesD d t)) ts from rfl,turnP_mem i d ts,addP_mem]
  constructor
  ·rintro ((h|h)|⟨t',h1,h2⟩)
   ·exact .inl h
   ·exact .inr ⟨t,List.mem_cons_self ..,h.symm⟩
   ·exact .inr ⟨t',List.mem_cons_of_mem _ h1,h2⟩
  ·rintro (h|⟨t',h1,h2⟩)
   ·exact .inl (.inl h)
   ·rcases List.mem_cons.1 h1 with rfl|h1
    ·exact .inl (.inr h2.symm)
    ·exact .inr ⟨t',h1,h2⟩
structure Stand (g:List GP) (l:List En):Prop where
 posts:∀ key,getP g key=postsE 0 l key
 nodup:(g.map (·.1)).Nodup
 keys:∀ x,x∈g.map (·.1)↔x∈keysE l
theorem Stand.nil:Stand [] []:=⟨fun _=>rfl,List.nodup_nil,fun x=>by simp [keysE]⟩
theorem Stand.turned {g:List GP} {l:List En} (h:Stand g l) (q:En):Stand (turnP l.length q.2.1 g (termsD q.2.1)) (l++[q]):=by
 refine ⟨fun key=> ?_,turnP_nodup _ _ _ _ h.nodup,fun x=> ?_⟩
 ·rw [getP_turn,h.posts,postsE_snoc,Nat.zero_add]
 ·rw [turnP_mem,h.keys,mem_keysE,mem_keysE]
  constructor
  ·rintro (⟨q',hq',h'⟩|h')
   ·exact ⟨q',List.mem_append_left _ hq',h'⟩
   ·exact ⟨q,by simp,h'⟩
  ·rintro ⟨q',hq',h'⟩
   rcases List.mem_append.1 hq' with hq'|hq'
   ·exact .inl ⟨q',hq',h'⟩
   ·rw [List.mem_singleton.1 hq'] at h';exact .inr h'
theorem keysE_nodup (l:List En):(keysE l).Nodup:=List.Pairwise.imp (fun h e=>by subst e;exact absurd h (List.lt_irrefl _)) (rise_keysE l)
theorem Stand.perm {g:List GP} {l:List En} (h:Stand g l):(g.map (·.1)).Perm (keysE l):=(List.perm_ext_iff_of_nodup h.nodup (keysE_nodup l)).2 h.keys
theorem Stand.length {g:List GP} {l:List En} (h:Stand g l):g.length=(keysE l).length:=by have :=h.perm.length_eq;rwa [List.length_map] at this
theorem sorted_keys {ks:List Nm} {l:List En} (h:ks.Perm (keysE l)):ks.mergeSort (fun x y=>decide (x≤y))=keysE l:=by
 have hp:=(List.mergeSort_perm ks (fun x y=>decide (x≤y))).trans h
 have hs:(ks.mergeSort fun x y=>decide (x≤y)).Pairwise (fun x y:Nm=>x≤y):=by
  have :=List.pairwise_mergeSort (le:=fun x y:Nm=>decide (x≤y)) (fun a b c h1 h2=>by
   simp only [decide_eq_true_eq] at*
   exact List.le_trans h1 h2) (fun a b=>by
   simp only [Bool.or_eq_true,decide_eq_true_eq]
   exact List.le_total a b) ks
  exact this.imp fun h=>by simpa using h
 refine hp.eq_of_pairwise (le:=fun x y:Nm=>x≤y) (fun a b _ _ h1 h2=>List.le_antisymm h1 h2) hs ((rise_keysE l).imp fun h=>Std.le_of_lt h)
end Go.Proofs.YtldcadpemnpbmaaGreatDoor
