import Derived.Test.YtpehcaidjlemiaaGreatDoorMKZz
import Derived.Test.YtpehcaidjlemiaaGreatDoorMKQ18
import Derived.Test.YtpehcaidjlemiaaGreatDoorMKQ31
import Derived.Test.YtpehcaidjlemiaaGreatDoorMKQ11
import Derived.Carry
import Derived.Test.YtpehcaidjlemiaaGreatDoorMKQ28
import Derived.Shelf.SlicesE.Clone
import Derived.Test.YtpehcaidjlemiaaGreatDoorProg
import Derived.Test.YtpehcaidjlemiaaGreatDoorMKQ27
set_option maxHeartbeats 2000000
set_option maxRecDepth 100000
set_option linter.unusedVariables false
namespace Go.Proofs.YtpehcaidjlemiaaGreatDoor
open Go Go.RowKit
structure qct (T:TypeId) (b0 base P:Nat) (v1 v2:Value) (xs ys:List Int) (w:World):Prop where
 cells:w.heap[P]?=some (.cells #[v1,v2,.slice none 0 0,.slice none 0 0] T (0,0))
 le:b0<=P
 hbase:b0<=base
 size:base<=w.heap.size
 ids:w.ownsRow base 3 1 v1 xs.length (qab xs)
 seqs:w.ownsRow base 3 1 v2 ys.length (qab ys)
 apart:∀ g,v1.ownBlock=some g->v2.ownBlock≠some g
section
variable {T:TypeId} {b0 base P:Nat} {v1 v2:Value} {xs ys:List Int} {w w':World}
theorem qct.lt (h:qct T b0 base P v1 v2 xs ys w):P<w.heap.size:=(Array.getElem?_eq_some_iff.1 h.cells).1
theorem qct.keep (h:qct T b0 base P v1 v2 xs ys w) (hk:∀ k,k<w.heap.size->k=P∨v1.ownBlock=some k∨v2.ownBlock=some k->w'.heap[k]?=w.heap[k]?) (hs:w.heap.size<=w'.heap.size):qct T b0 base P v1 v2 xs ys w':=
 ⟨(hk P h.lt (.inl rfl)).trans h.cells,h.le,h.hbase,Nat.le_trans h.size hs,qat h.ids fun g hg=>hk g (h.ids.lt g hg).2 (.inr (.inl hg)),qat h.seqs fun g hg=>hk g (h.seqs.lt g hg).2 (.inr (.inr hg)),h.apart⟩
theorem qct.below (h:qct T b0 base P v1 v2 xs ys w) (hb:Below w.heap.size w w'):qct T b0 base P v1 v2 xs ys w':=h.keep (fun k hk _=>hb.block k hk) hb.size
theorem qct.id (h:qct T b0 base P v1 v2 xs ys w) (hT:T≠3) {v':Value} {x:Int} (hown:w'.ownsRow base 3 1 v' (xs.length+1) (qab xs++[.int .i64 x])) (hg:w.grownBy w' v1.ownBlock) (hat:v'.ownBlock=v1.ownBlock∨v'.ownBlock=some w.heap.size):
  w'.heap[P]?=some (.cells #[v1,v2,.slice none 0 0,.slice none 0 0] T (0,0))/\qct T b0 base P v' v2 (xs++[x]) ys (w'.setCell ⟨P,0,none⟩ v')/\Below b0 w (w'.setCell ⟨P,0,none⟩ v')/\∀ k,k<w.heap.size->k≠P->v1.ownBlock≠some k->(w'.setCell ⟨P,0,none⟩ v').heap[k]?=w.heap[k]?:=by
 have hlt:=h.lt;obtain ⟨h1,h2,h3,h4,h5,h6,h7⟩:=h;have hP:w'.heap[P]?=some (.cells #[v1,v2,.slice none 0 0,.slice none 0 0] T (0,0)):=(hg.block P hlt (fun e=>qai h5 h1 hT e.symm)).trans h1;refine ⟨hP,⟨by simpa using heap_setCell_same w' P 0 _ _ v' hP,h2,h3,by have :=hg.size;simp;omega,?_,?_,fun g hg' e=> ?_⟩,((Below.refl b0 w).grown hg (Nat.le_trans h3 h4) fun k hk=>by have :=(h5.lt k hk).1;omega).setCell (p:=⟨P,0,none⟩) h2 v',fun k hk hkP hkv=>(Below.heap_setCell _ _ _ _ (show k≠P from hkP)).trans (hg.block k hk (fun e=>hkv e.symm))⟩
 ·have :=qat (w':=w'.setCell ⟨P,0,none⟩ v') hown fun g hg'=>Below.heap_setCell _ _ _ _ (fun e=>qai hown hP hT (by rw [hg',e]))
  rw [List.length_append,List.length_singleton];simpa [qab] using this
 ·have h6':w'.ownsRow base 3 1 v2 ys.length (qab ys):=qat h6 fun g hg'=>hg.block g (h6.lt g hg').2 fun e=>h7 g e.symm hg'
  exact qat h6' fun g hg'=>Below.heap_setCell _ _ _ _ (fun e=>qai h6' hP hT (by rw [hg',e]))
 ·rcases hat with hat|hat
  ·exact h7 g (hat▸hg') e
  ·rw [hat] at hg'
   injection hg' with hg'
   have :=(h6.lt g e).2;omega
theorem qct.seq (h:qct T b0 base P v1 v2 xs ys w) (hT:T≠3) {v':Value} {x:Int} (hown:w'.ownsRow base 3 1 v' (ys.length+1) (qab ys++[.int .i64 x])) (hg:w.grownBy w' v2.ownBlock) (hat:v'.ownBlock=v2.ownBlock∨v'.ownBlock=some w.heap.size):
  w'.heap[P]?=some (.cells #[v1,v2,.slice none 0 0,.slice none 0 0] T (0,0))/\qct T b0 base P v1 v' xs (ys++[x]) (w'.setCell ⟨P,1,none⟩ v')/\Below b0 w (w'.setCell ⟨P,1,none⟩ v')/\∀ k,k<w.heap.size->k≠P->v2.ownBlock≠some k->(w'.setCell ⟨P,1,none⟩ v').heap[k]?=w.heap[k]?:=by
 have hlt:=h.lt;obtain ⟨h1,h2,h3,h4,h5,h6,h7⟩:=h;have hP:w'.heap[P]?=some (.cells #[v1,v2,.slice none 0 0,.slice none 0 0] T (0,0)):=(hg.block P hlt (fun e=>qai h6 h1 hT e.symm)).trans h1;refine ⟨hP,⟨by simpa using heap_setCell_same w' P 1 _ _ v' hP,h2,h3,by have :=hg.size;simp;omega,?_,?_,fun g hg' e=> ?_⟩,((Below.refl b0 w).grown hg (Nat.le_trans h3 h4) fun k hk=>by have :=(h6.lt k hk).1;omega).setCell (p:=⟨P,1,none⟩) h2 v',fun k hk hkP hkv=>(Below.heap_setCell _ _ _ _ (show k≠P from hkP)).trans (hg.block k hk (fun e=>hkv e.symm))⟩
 ·have h5':w'.ownsRow base 3 1 v1 xs.length (qab xs):=qat h5 fun g hg'=>hg.block g (h5.lt g hg').2 fun e=>h7 g hg' e.symm
  exact qat h5' fun g hg'=>Below.heap_setCell _ _ _ _ (fun e=>qai h5' hP hT (by rw [hg',e]))
 ·have :=qat (w':=w'.setCell ⟨P,1,none⟩ v') hown fun g hg'=>Below.heap_setCell _ _ _ _ (fun e=>qai hown hP hT (by rw [hg',e]))
  rw [List.length_append,List.length_singleton];simpa [qab] using this
 ·rcases hat with hat|hat
  ·exact h7 g hg' (hat▸e)
  ·rw [hat] at e
   injection e with e
   have :=(h5.lt g hg').2;omega
end
structure qdJ (T:TypeId) (b0 base P:Nat) (v1 v2 v3 v4:Value) (ks:List Nm) (ls:List (List Pn)) (w:World):Prop where
 cells:w.heap[P]?=some (.cells #[v1,v2,v3,v4] T (0,0))
 le:b0<=P
 hbase:b0<=base
 size:base<=w.heap.size
 keys:∃ bk,w.ownsRow bk 9 1 v3 ks.length (qae ks)
 lists:∃ cs,w.ownsRow base 71 1 v4 ls.length cs/\LG b0 w ls cs
section
variable {T:TypeId} {b0 base P:Nat} {v1 v2 v3 v4:Value} {xs ys:List Int} {ks:List Nm} {ls:List (List Pn)} {w w':World}
theorem qdJ.lt (h:qdJ T b0 base P v1 v2 v3 v4 ks ls w):P<w.heap.size:=(Array.getElem?_eq_some_iff.1 h.cells).1
theorem qdJ.below (h:qdJ T b0 base P v1 v2 v3 v4 ks ls w) (hb:Below w.heap.size w w'):qdJ T b0 base P v1 v2 v3 v4 ks ls w':=by
 have hlt:=h.lt;obtain ⟨h1,h2,h3,h4,⟨bk,h5⟩,cs,h6,h7⟩:=h;exact ⟨(hb.block P hlt).trans h1,h2,h3,Nat.le_trans h4 hb.size,⟨bk,qao h5 hb⟩,cs,qao h6 hb,h7.keep (.of_below hb (by omega))⟩
theorem qdJ.list (h:qdJ T b0 base P v1 v2 v3 v4 ks ls w) (hT:¬ PoK T) (hT1:T≠9) (hT2:T≠71) {v':Value} {l:List Pn} {A:Option Addr} {c:Nat} (hc:l.length<=c/\c<=maxLen) (hp:qb9 b0 w A l) {cs:List Value} (h6:w.ownsRow base 71 1 v4 ls.length cs) (h7:LG b0 w ls cs)
  (hown:w'.ownsRow base 71 1 v' (ls.length+1) (cs++[.slice A l.length c])) (hg:w.grownBy w' v4.ownBlock):
  w'.heap[P]?=some (.cells #[v1,v2,v3,v4] T (0,0))/\qdJ T b0 base P v1 v2 v3 v' ks (ls++[l]) (w'.setCell ⟨P,3,none⟩ v')/\Below b0 w (w'.setCell ⟨P,3,none⟩ v')/\qar b0 w (w'.setCell ⟨P,3,none⟩ v')/\
   (∀ k,k<base->k≠P->(w'.setCell ⟨P,3,none⟩ v').heap[k]?=w.heap[k]?)/\∀ (k:Nat) (cs:Array Value) (t:TypeId) (fr:Nat × Nat),k≠P->w.heap[k]?=some (.cells cs t fr)->t≠71->(w'.setCell ⟨P,3,none⟩ v').heap[k]?=some (.cells cs t fr):=by
 have hlt:=h.lt;obtain ⟨h1,h2,h3,h4,⟨bk,h5⟩,_⟩:=h;have hP:w'.heap[P]?=some (.cells #[v1,v2,v3,v4] T (0,0)):=(hg.block P hlt (fun e=>qai h6 h1 hT2 e.symm)).trans h1;have hk1:qar b0 w w':=qar.grown h6 h3 (by unfold PoK;decide) hg h4;have hk2:qar b0 w' (w'.setCell ⟨P,3,none⟩ v'):=qar.setCell hP h2 hT v';refine ⟨hP,⟨by simpa using heap_setCell_same w' P 3 _ _ v' hP,h2,h3,by have :=hk1.size;simp;omega,⟨bk,?_⟩,cs++[.slice A l.length c],?_,(h7.snoc hc hp).keep (hk1.trans hk2)⟩,((Below.refl b0 w).grown hg (Nat.le_trans h3 h4) fun k hk=>by have :=(h6.lt k hk).1;omega).setCell (p:=⟨P,3,none⟩) h2 v',hk1.trans hk2,
  fun k hk hkP=>(Below.heap_setCell _ _ _ _ (show k≠P from hkP)).trans (hg.block k (by omega) (fun e=>by have :=(h6.lt k e.symm).1;omega)),
  fun k cs' t fr hkP hk ht=>(Below.heap_setCell _ _ _ _ (show k≠P from hkP)).trans ((hg.block k (Array.getElem?_eq_some_iff.1 hk).1 (fun e=>qai h6 hk ht e.symm)).trans hk)⟩
 ·have h5':=qgQ h5 h6 (by decide) hg
  exact qat h5' fun g hg'=>Below.heap_setCell _ _ _ _ (fun e=>qai h5' hP hT1 (by rw [hg',e]))
 ·rw [List.length_append,List.length_singleton]
  exact qat hown fun g hg'=>Below.heap_setCell _ _ _ _ (fun e=>qai hown hP hT2 (by rw [hg',e]))
theorem qdJ.rows {A3 A4:Option Addr} {n3 c3 n4 c4:Nat} (h:qdJ T b0 base P v1 v2 (.slice A3 n3 c3) (.slice A4 n4 c4) ks ls w):Row w w.heap.size A3 (qae ks)/\qcC w w.heap.size A4 ls:=by
 obtain ⟨_,_,_,_,⟨_,h5⟩,cs,h6,h7⟩:=h;exact ⟨qbv h5,cs,h7.cells,qbv h6⟩
theorem qct.lists (h:qct T b0 base P v1 v2 xs ys w) (hT:¬ PoK T) (hT1:T≠9) {bk:Nat} {v3:Value} {ks:List Nm} (hk:w.ownsRow bk 9 1 v3 ks.length (qae ks)):
    qdJ T b0 w.heap.size P v1 v2 v3 (.slice none 0 0) ks [] (w.setCell ⟨P,2,none⟩ v3)/\qar b0 w (w.setCell ⟨P,2,none⟩ v3)/\Below b0 w (w.setCell ⟨P,2,none⟩ v3):=
  ⟨⟨by simpa using heap_setCell_same w P 2 _ _ v3 h.cells, h.le, by have := h.hbase; have := h.size; omega, by simp, ⟨bk, qat hk fun g hg => Below.heap_setCell _ _ _ _ (fun e => qai hk h.cells hT1 (by rw [hg, e]))⟩, [], World.ownsRow_nil _ _ _ _, LG.nil⟩,
    qar.setCell h.cells h.le hT v3,(Below.refl b0 w).setCell (p:=⟨P,2,none⟩) h.le v3⟩
theorem qct.rowG (h:qct T b0 base P v1 v2 xs ys w):∃ A1 c1 A2 c2,v1= .slice A1 xs.length c1/\v2= .slice A2 ys.length c2/\xs.length<=c1/\ys.length<=c2/\qaY b0 3 w A1 (qab xs)/\qaY b0 3 w A2 (qab ys):=by
 have h5:=h.ids;have h6:=h.seqs;obtain ⟨A1,c1,e1,hc1,_⟩:=qaR h5;obtain ⟨A2,c2,e2,hc2,_⟩:=qaR h6;subst e1 e2;exact ⟨A1,c1,A2,c2,rfl,rfl,hc1,hc2,.of_own h5,.of_own h6⟩
end
def qzd (w:World) (e:Ending) (w':World):Prop:=∃ S B,e= .returned (.pointer (some ⟨B,0,none⟩))/\qcL S w' B [] (-1)/\(∀ k,S k->w.heap.size<=k)/\Below w.heap.size w w'
theorem qze (w:World):qcL (fun k=>k=w.heap.size∨k=w.heap.size+1) ((w.alloc (.map #[] 0)).alloc (.cells #[.slice none 0 0,.map (some w.heap.size),.int .i64 0,.int .i64 (-1)] 126)) (w.heap.size+1) [] (-1):=by
 refine ⟨.slice none 0 0,w.heap.size,0,[],?_,.inr rfl,qa0.nil,⟨[],?_,.inl rfl,rfl,fun i e p h=>(by simp at h),fun i j e f k _ h=>(by simp at h)⟩,qdS.nil,fun q h=>(by cases h),by decide,fun h=>absurd rfl h,fun k h=>by simp;omega⟩
 ·simpa [qdb] using heap_alloc_new (w.alloc (.map #[] 0)) (.cells #[.slice none 0 0,.map (some w.heap.size),.int .i64 0,.int .i64 (-1)] 126)
 ·unfold qa8
  rw [Below.heap_alloc _ _ _ (by simp)];exact heap_alloc_new w _
theorem qzf (w:World):Calls Tryz.prog 29 #[] w (qzd w):=by
 have HF:=qH (qze w);have HB:Hid (Below w.heap.size w ((w.alloc (.map #[] 0)).alloc (.cells #[.slice none 0 0,.map (some w.heap.size),.int .i64 0,.int .i64 (-1)] 126))):=qH (((Below.refl _ _).alloc (Nat.le_refl _) _).alloc (by simp) _);have hmm:=@run_makeMap Tryz.prog
 go_enter Tryz.func29,Tryz.ntmps29
 go_wp2;go_ret;exact ⟨_,_,rfl,HF.out,fun k h=>by omega,HB.out⟩
theorem qzg {w:World} {base:Nat} {e:TypeId} {size g n cap k:Nat} {xs:List Value} {u:Value} (h:w.ownsRow base e size (.slice (some ⟨g,0,none⟩) n cap) n xs):(w.setCell ⟨g,k,none⟩ u).ownsRow base e size (.slice (some ⟨g,0,none⟩) n cap) n (xs.set k u):=by
 refine ⟨by rw [List.length_set];exact h.1,?_⟩;rcases h.2 with ⟨hv,_⟩|⟨g',cap',cur,hv,hg,hh,h1,h2,h3,h4⟩
 ·cases hv
 ·cases hv
  refine .inr ⟨g,cap,cur.setIfInBounds k u,rfl,hg,qcV hh,h1,h2,by simpa using h3,?_⟩;rw [<- h4,Array.toList_setIfInBounds,List.take_set]
theorem qzh {w:World} {base:Nat} {e:TypeId} {size g n cap k:Nat} {xs:List Value} (h:w.ownsRow base e size (.slice (some ⟨g,0,none⟩) n cap) n xs) (hk:k<n*size):(∃ u,w.cell? ⟨g,k,none⟩=some u)/\w.frozen? ⟨g,k,none⟩=false:=by
 rcases h.2 with ⟨hv,_⟩|⟨g',cap',cur,hv,hg,hh,h1,h2,h3,h4⟩
 ·cases hv
 ·cases hv
  have hkc:k<cur.size:=by
   rw [h3];exact Nat.lt_of_lt_of_le hk (Nat.mul_le_mul_right _ h1)
  exact ⟨⟨cur[k],by simp [World.cell?,hh,hkc]⟩,by simp [World.frozen?,hh]⟩
structure qdK (old new:Option Addr->List Value->Prop) (l:List Pn) (j:Nat) (cs:List Value):Prop where
 len:cs.length=l.length*2
 each:∀ i (h:i<l.length),cs[i*2]?=some (.int .i64 l[i].1)/\∃ A c,cs[i*2+1]?=some (.slice A l[i].2.length c)/\l[i].2.length<=c/\c<=maxLen/\(i<j->new A (qab l[i].2))/\(j<=i->old A (qab l[i].2))
section
variable {old new old' new':Option Addr->List Value->Prop} {l:List Pn} {j:Nat} {cs:List Value}
theorem qdK.of (h:qam old l cs):qdK old new l 0 cs:=⟨h.len,fun i hi=>by
 obtain ⟨h1,A,c,h2,h3,h4,h5⟩:=h.at_ hi;have e:l.getD i (0,[])=l[i]:=by simp [hi]
 rw [e] at h1 h2 h3 h5;exact ⟨h1,A,c,h2,h3,h4,fun h=>by omega,fun _=>h5⟩⟩
theorem qdK.imp (h:qdK old new l j cs) (ho:∀ A xs,old A xs->old' A xs) (hn:∀ A xs,new A xs->new' A xs):qdK old' new' l j cs:=⟨h.len,fun i hi=>by
 obtain ⟨h1,A,c,h2,h3,h4,h5,h6⟩:=h.each i hi;exact ⟨h1,A,c,h2,h3,h4,fun h=>hn _ _ (h5 h),fun h=>ho _ _ (h6 h)⟩⟩
theorem qdK.put (h:qdK old new l j cs) (hj:j<l.length) {A:Option Addr} {c:Nat} (hc:l[j].2.length<=c/\c<=maxLen) (hn:new A (qab l[j].2)):qdK old new l (j+1) (cs.set (j*2+1) (.slice A l[j].2.length c)):=⟨by rw [List.length_set];exact h.len,fun i hi=>by
 have hl:=h.len;obtain ⟨h1,A',c',h2,h3,h4,h5,h6⟩:=h.each i hi;rw [List.getElem?_set_ne (by omega)];by_cases hij:i=j
 ·subst hij
  exact ⟨h1,A,c,List.getElem?_set_self (by omega),hc.1,hc.2,fun _=>hn,fun h=>by omega⟩
 ·rw [List.getElem?_set_ne (by omega)]
  exact ⟨h1,A',c',h2,h3,h4,fun h=>h5 (by omega),fun h=>h6 (by omega)⟩⟩
theorem qpU:∀ {l:List Pn} {cs:List Value},cs.length=l.length*2->(∀ i (h:i<l.length),cs[i*2]?=some (.int .i64 l[i].1)/\∃ A c,cs[i*2+1]?=some (.slice A l[i].2.length c)/\l[i].2.length<=c/\c<=maxLen/\new A (qab l[i].2))->qam new l cs
 |[],cs,hl,h=>List.eq_nil_of_length_eq_zero (by simpa using hl)
 |q::l,cs,hl,h=>by
  rcases cs with _|⟨a,_|⟨b,cs⟩⟩
  ·simp at hl
  ·simp at hl;omega
  ·obtain ⟨h1,A,c,h2,h3,h4,h5⟩:=h 0 (by simp)
   simp at h1 h2;subst h1 h2;refine ⟨A,c,cs,rfl,h3,h4,h5,qpU (by simp at hl;omega) fun i hi=> ?_⟩;have :=h (i+1) (by simpa using hi);rw [show (i+1)*2=i*2+1+1 by omega] at this;simpa using this
theorem qdK.all (h:qdK old new l l.length cs):qam new l cs:=qpU h.len fun i hi=>by
 obtain ⟨h1,A,c,h2,h3,h4,h5,h6⟩:=h.each i hi;exact ⟨h1,A,c,h2,h3,h4,h5 hi⟩
end
open Go.Shelf
def qzi:Go.Shelf.Ren:=⟨fun |41=>68|n=>n,fun |4=>4|22=>71|23=>74|n=>n,fun |n=>n⟩
theorem qzj:SlLaysE0.n41 Tryz.prog qzi:={
 mixed:=by kernel_rfl
 f41:=⟨Tryz.f68.name,by kernel_rfl,Tryz.func68.trans (congrArg some (by kernel_rfl))⟩
 t4:=Tryz.underlying4
 a4:=Tryz.isAgg4
 z4:=Tryz.sizeOf4
 v4:=Tryz.zeroValue4
 t22:=Tryz.underlying71
 a22:=Tryz.isAgg71
 z22:=Tryz.sizeOf71
 v22:=Tryz.zeroValue71}
def qzk:Go.Shelf.Ren:=⟨fun |41=>53|n=>n,fun |4=>4|22=>23|23=>3|n=>n,fun |n=>n⟩
theorem qzl:SlLaysE0.n41 Tryz.prog qzk:={
 mixed:=by kernel_rfl
 f41:=⟨Tryz.f53.name,by kernel_rfl,Tryz.func53.trans (congrArg some (by kernel_rfl))⟩
 t4:=Tryz.underlying4
 a4:=Tryz.isAgg4
 z4:=Tryz.sizeOf4
 v4:=Tryz.zeroValue4
 t22:=Tryz.underlying23
 a22:=Tryz.isAgg23
 z22:=Tryz.sizeOf23
 v22:=Tryz.zeroValue23}
theorem qpV {R:Option Addr->List Value->Prop}:∀ {l:List Pn} {cs:List Value},qam R l cs->∀ u∈cs,u.oneCell'=true
 |[],cs,h,u,hu=>by simp only [qam] at h;subst h;cases hu
 |q::l,cs,h,u,hu=>by
  obtain ⟨A,c,cs',rfl,_,_,_,h'⟩:=h;simp only [List.mem_cons] at hu;rcases hu with rfl|rfl|hu
  ·rfl
  ·rfl
  ·exact qpV h' u hu
theorem qzm {ρ:Go.Shelf.Ren} (L:SlLaysE0.n41 Tryz.prog ρ) {i0:TypeInfo} {z:Value} {size bytes:Nat} (hi:Tryz.prog.info? (ρ.t 23)=some i0) (hz0:i0.zero=some z) (hz1:i0.size=size) (hz2:i0.bytes=bytes) (hzs:z.cells.size=size) (hsz:0<size)
  (z23:∀ w,(Go.sizeOf (ρ.t 23)).run Tryz.prog w= .ok size w) {base:Nat} {e:TypeId} {v:Value} {n:Nat} {cs:List Value} {w:World} (h:w.ownsRow base e size v n cs) (hn:n<=maxLen) (hbig:n*bytes<=140737488355328) (h1:∀ u∈cs,u.oneCell'=true):
  Calls Tryz.prog (ρ.f 41) #[v] w fun e w'=>∃ v',e= .returned v'/\w'.ownsRow w.heap.size (ρ.t 23) size v' n cs/\Below w.heap.size w w':=by
 rcases h.2 with ⟨rfl,h0⟩|⟨g,cap,cur,rfl,_⟩
 ·have hc:cs=[]:=List.eq_nil_of_length_eq_zero (by rw [h.1,h0];simp)
  subst hc h0;refine (AnyE.slices_Clone_nil L 0 0 w).mono ?_;rintro e w' ⟨rfl,rfl⟩;exact ⟨_,rfl,World.ownsRow_nil _ _ _ _,Below.refl _ _⟩
 ·refine (AnyE.slices_Clone L i0 z size bytes hi hz0 hz1 hz2 hzs hsz z23 g 0 n cap cs w h.1 hn hbig (fun j u hu=> ?_) h1).mono ?_
  ·have :=h.cells (g:=g) rfl j u hu
   simpa [Addr.add_lit] using this
  ·rintro e w' ⟨v',rfl,ho,_,hb⟩
   exact ⟨v',rfl,ho,hb⟩
theorem qzn {base:Nat} {v:Value} {n:Nat} {cs:List Value} {w:World} (h:w.ownsRow base 74 2 v n cs) (hn:n<=100000000) (h1:∀ u∈cs,u.oneCell'=true):
  Calls Tryz.prog 68 #[v] w fun e w'=>∃ v',e= .returned v'/\w'.ownsRow w.heap.size 74 2 v' n cs/\Below w.heap.size w w':=by
 obtain ⟨i0,hi0,hz0,hz1,hz2⟩:=info_parts qf6;exact qzm qzj hi0 hz0 hz1 hz2 rfl (by decide) Tryz.sizeOf74 h (by unfold maxLen;omega) (by omega) h1
theorem qzo {A:Option Addr} {n c B:Nat} {l:List Int} {w:World} (hl:l.length=n) (h:Row w B A (qab l)) (hne:0<n) (hn:n<=100000000):
  Calls Tryz.prog 53 #[.slice A n c] w fun e w'=>∃ v',e= .returned v'/\w'.ownsRow w.heap.size 3 1 v' n (qab l)/\Below w.heap.size w w':=by
 obtain ⟨i0,hi0,hz0,hz1,hz2⟩:=info_parts qc7;rcases h with h0|⟨b,off,rfl,_,hc⟩
 ·have :=congrArg List.length h0
  simp [qab] at this;subst this;simp at hl;omega
 ·refine (AnyE.slices_Clone qzl i0 _ 1 8 hi0 hz0 hz1 hz2 rfl (by decide) Tryz.sizeOf3 b off n c (qab l) w (by simp [qab,hl]) (by unfold maxLen;omega) (by omega) hc (ints_oneCell _ _)).mono ?_
  rintro e w' ⟨v',rfl,ho,_,hb⟩;exact ⟨v',rfl,ho,hb⟩
def qpW (l:List Pn) (w:World) (e:Ending) (w':World):Prop:=∃ v,e= .returned v/\qbA (fun k=>w.heap.size<=k) w' v l/\Below w.heap.size w w'
def qkI (l:List Pn) (N:Nat) (V:Value) (w:World) (x:Value) (wr:World):Prop:=∃ (j:Nat) (cs:List Value),j<=l.length/\x= .int .i64 (j:Int)/\wr.ownsRow w.heap.size 74 2 V N cs/\
 qdK (Row wr w.heap.size) (qaO (Of (fun k=>w.heap.size<=k) 3 wr) wr) l j cs/\Below w.heap.size w wr
theorem qzp {S:Nat->Prop} {w:World} {B:Nat} {l:List En} {up:Int} (h:qcL S w B l up) (key:ByteArray) (L:List Pn) (hL:L=qal 0 l key.data.toList) (hln:L.length<=10000000) (hne:∀ p∈L,0<p.2.length/\p.2.length<=100000):
    Calls Tryz.prog 32 #[.pointer (some ⟨B,0,none⟩),.string key] w (qpW L w):=by
  obtain ⟨v,M,c,g,h⟩:=h;have c1:=(qcg h.cells).2.1;obtain ⟨v1,⟨m,hm,hv1⟩,ho⟩:=h.map.look key.data.toList;rw [h.stand.posts,<- hL] at ho;have hkv:kV key.data.toList= .string key:=by simp [kV]
  obtain ⟨cs,o1,o2,o3⟩:=ho;have hcl:=qzn o1 (by omega) (qpV o3);have HLK:Hid (qa8 w M c m):=qH hm;have HCL:=qH hcl;have HPO:Hid (qam (Row w w.heap.size) L cs):=qH (o3.imp fun _ _ h=>qaO.row h fun b hb=>hb.lt);have HNE:=qH hne;have HV1:=qH hv1;have HKV:=qH hkv;obtain ⟨N,hN⟩:∃ N,N=L.length:=⟨_,rfl⟩;rw [<- hN] at HCL hln;have HN:=qH hN;clear h hL hm hv1 o1 o2 o3 hcl hne hN hkv
  go_enter Tryz.func32,Tryz.ntmps32
  go_wp2_with (first
    | (refine quN _ (by rfl) _ _ (by rfl) M c m key.data.toList (by rfl) HLK.out (by rw [HKV.out]; rfl) ?_
       rw [HV1.out])
    | (go_at_call 68; (with_reducible refine HCL.out.mono ?_); rintro e w1 ⟨V1, rfl, ho1, hb1⟩
       obtain ⟨A1,k1,rfl,hk1,hu1⟩:=qeH ho1;clear hu1;have HST:Hid (qkI L N (.slice A1 N k1) w (.int .i64 ((0:Nat):Int)) w1):=qH (by
         exact ⟨0,cs,Nat.zero_le _,rfl,ho1,(qdK.of HPO.out).imp (fun _ _ h=>h.below hb1) fun _ _ h=>h,hb1⟩)
       clear ho1 hb1))
  go_loopw [17] (fun x wr=>qkI L N (.slice A1 N k1) w x wr) (fun x _=>N-(intOf x).toNat)
  case atStart=>exact HST.out
  case round=>
    obtain ⟨j,cs2,hj,rfl,hown,hrow,hbw⟩:=hrel;by_cases hlt:j<N
    · have hjl:j<L.length:=by rw [<- HN.out];exact hlt
      obtain ⟨g1,rfl⟩:∃ g1,A1=some ⟨g1,0,none⟩:=by
        rcases hown.2 with ⟨hv,h5⟩|⟨g',cap,cur,hv,_⟩
        · have :=HN.out;omega
        · injection hv with e
          exact ⟨g',e⟩
      obtain ⟨e0,A',c',e1,e2,e3,e4,e5⟩:=hrow.each j hjl;have hne:=HNE.out _ (List.getElem_mem hjl);have hc0:wr.cell? ⟨g1,j*2,none⟩=some (.int .i64 L[j].1):=by have :=hown.cells (g:=g1) rfl _ _ e0;simpa [Addr.add_lit] using this
      have hc1:wr.cell? ⟨g1,j*2+1,none⟩=some (.slice A' L[j].2.length c'):=by have :=hown.cells (g:=g1) rfl _ _ e1;simpa [Addr.add_lit] using this
      have hlt1:=hown.lt g1 rfl;have hold:=e5 (Nat.le_refl _);obtain ⟨csg,frg,hhg⟩:=qeJ hown rfl;obtain ⟨w2,hw2⟩:∃ w2,w2=wr.alloc (.cells #[.int .i64 L[j].1,.slice A' L[j].2.length c'] 74):=⟨_,rfl⟩;have hb2:Below wr.heap.size wr w2:=by rw [hw2];exact (Below.refl _ _).alloc (Nat.le_refl _) _
      have hbs:=hbw.size;have hs2:w2.heap.size=wr.heap.size+1:=by rw [hw2];simp
      have hCI:=qzo (n:=L[j].2.length) (c:=c') rfl (Row.below hold (hb2.mono hbs)) hne.1 (by omega);have HAFT:Hid (∀ (w5:World) (A5:Option Addr) (c5:Nat),w5.ownsRow w2.heap.size 3 1 (.slice A5 L[j].2.length c5) L[j].2.length (qab L[j].2)->L[j].2.length<=c5/\c5<=maxLen->Below w2.heap.size w2 w5->
          (∃ u,w5.cell? ⟨g1,j*2+1,none⟩=some u)/\w5.frozen? ⟨g1,j*2+1,none⟩=false/\qkI L N (.slice (some ⟨g1,0,none⟩) N k1) w (.int .i64 ((j:Int)+1)) (w5.setCell ⟨g1,j*2+1,none⟩ (.slice A5 L[j].2.length c5))):=qH fun w5 A5 c5 ho5 hc5 hb5=>by
        have hb25:=hb2.trans (hb5.mono hb2.size);have hown5:=qao hown hb25;obtain ⟨f1,f2⟩:=qzh (k:=j*2+1) hown5 (by omega);have hs5:=hb5.size;have hkeep:∀ k,k<wr.heap.size->k≠g1->(w5.setCell ⟨g1,j*2+1,none⟩ (.slice A5 L[j].2.length c5)).heap[k]?=wr.heap[k]?:=fun k h1 h2=>(qdI (Ne.symm h2)).trans (hb25.block k h1)
        have hne1:∀ {k:Nat} {u:World},u.heap[g1]?=some (.cells csg 74 frg)->Of (fun k=>w.heap.size<=k) 3 u k->k≠g1:=fun {k u} h1 ⟨_,cs',fr',hh,_⟩ e=>by
          subst e;rw [h1] at hh;injection hh with hh
          injection hh with _ h2 _
          exact absurd h2 (by decide)
        have hg5:w5.heap[g1]?=some (.cells csg 74 frg):=(hb25.block _ hlt1.2).trans hhg;have hn5:qaO (Of (fun k=>w.heap.size<=k) 3 w5) w5 A5 (qab L[j].2):=qpz ho5 fun k h1 _=>by omega
        have hn6:qaO (Of (fun k=>w.heap.size<=k) 3 (w5.setCell ⟨g1,j*2+1,none⟩ (.slice A5 L[j].2.length c5))) (w5.setCell ⟨g1,j*2+1,none⟩ (.slice A5 L[j].2.length c5)) A5 (qab L[j].2):=hn5.keepO fun k hk=>qdI (Ne.symm (hne1 hg5 hk))
        have hrow6:qdK (Row (w5.setCell ⟨g1,j*2+1,none⟩ (.slice A5 L[j].2.length c5)) w.heap.size) (qaO (Of (fun k=>w.heap.size<=k) 3 (w5.setCell ⟨g1,j*2+1,none⟩ (.slice A5 L[j].2.length c5))) (w5.setCell ⟨g1,j*2+1,none⟩ (.slice A5 L[j].2.length c5))) L j cs2:=hrow.imp (fun A xs h=>qaO.keep h fun b hb=>hkeep b (by omega) (by omega)) fun A xs h=>h.keepO fun k hk=>hkeep k hk.lt (hne1 hhg hk)
        refine ⟨f1,f2,j+1,cs2.set (j*2+1) (.slice A5 L[j].2.length c5),hjl,by push_cast;rfl,qzg hown5,hrow6.put hjl hc5 hn6,⟨?_,?_,?_,?_,fun k hk=> ?_⟩⟩
        · exact hb25.os.trans hbw.os
        · exact hb25.tape.trans hbw.tape
        · exact hb25.output.trans hbw.output
        · simp;omega
        · rw [hkeep k (by omega) (by omega)]
          exact hbw.block k hk
      obtain ⟨dd,hdd⟩:∃ dd,dd=L[j].1:=⟨_,rfl⟩;obtain ⟨P,hP⟩:∃ P,P=L[j].2:=⟨_,rfl⟩;rw [<- hdd] at hc0 hw2;rw [<- hP] at hc1 hw2 hCI HAFT hne e2;have HCI:=qH hCI;have HW2:=qH hw2;have j0:(0:Int)<=j:=by omega
      have j1:(j:Int)<N:=by omega
      obtain ⟨hpl0,hpl⟩:=hne;clear hown hrow hbw hhg hold e0 e1 e3 e4 e5 hCI hw2 hdd hP hb2
      go_wp2_with (first
        | (go_at_call 53; rw [show wr.alloc _ = w2 from HW2.out.symm]; (with_reducible refine HCI.out.mono ?_); rintro e w5 ⟨V5, rfl, ho5, hb5⟩
           obtain ⟨A5,c5,rfl,hc5,hu5⟩:=qeH ho5;obtain ⟨⟨u5,hu5'⟩,hf5,hrel5⟩:=HAFT.out w5 A5 c5 ho5 hc5 hb5;have HREL:=qH hrel5;clear hu5 ho5 hb5 hrel5))
      exact ⟨HREL.out,by simp [intOf];omega⟩
    · have hjn:j=L.length:=by have :=HN.out;omega
      subst hjn;have hfin:qbA (fun k=>w.heap.size<=k) wr (.slice A1 N k1) L:=by
        rw [HN.out] at hown;rw [HN.out];exact ⟨cs2,qbk hown (Nat.zero_le _),fun k hk=>(hown.lt k hk).1,hrow.all⟩
      have HFIN:=qH hfin;have HBW:=qH hbw;clear hfin hown hrow hbw;go_wp2;go_ret;exact ⟨_,rfl,HFIN.out,HBW.out⟩
end Go.Proofs.YtpehcaidjlemiaaGreatDoor
