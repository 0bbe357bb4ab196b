import Derived.Test.YtpehcaidjlemiaaGreatDoorMRZz
import Derived.Test.YtpehcaidjlemiaaGreatDoorMRQ11
import Derived.Test.YtpehcaidjlemiaaGreatDoorMRQ01
import Derived.Test.YtpehcaidjlemiaaGreatDoorMRQ04
import Derived.Shelf.Sort.Plain
import Derived.Shelf.Slices.In.SortNone
import Derived.Sort.OwnSorted
import Derived.Sort.Grow
import Derived.Lib.OwnBridge
import Derived.Test.YtpehcaidjlemiaaGreatDoorMRQ03
import Derived.Test.YtpehcaidjlemiaaGreatDoorMRQ06
import Derived.BigCall
import Derived.BigQuiet
import Derived.Deep.QuietTactic
import Derived.Deep.RegionHeld3
import Derived.Deep.AppendLies
import Derived.Test.YtpehcaidjlemiaaGreatDoorMRQ05
import Derived.Test.YtpehcaidjlemiaaGreatDoorMRQ07
import Derived.Test.YtpehcaidjlemiaaGreatDoorMRQ10
import Derived.Test.YtpehcaidjlemiaaGreatDoorMRQ09
import Derived.Shelf.Spec.SlicesInsertGrow
import Derived.Deep.RegionLaw
import Derived.Laws.CopyOwn
set_option maxHeartbeats 8000000
set_option maxRecDepth 100000
set_option linter.unusedVariables false
namespace Go.Proofs.YtpehcaidjlemiaaGreatDoor
open Go Go.RowKit
attribute [local go_sem] Oper.semAt_some
theorem quJ (B:Nat) (w:World):
  Calls Tryz.prog 151 #[.map (some B)] w fun e w'=>e= .returned (.func (.func 187) #[] #[.pointer (some ⟨w.heap.size,0,none⟩)])/\w'=w.alloc (.cells #[.map (some B)] 248):=by
 go_enter Tryz.func151,Tryz.ntmps151
 go_wp2;go_ret;exact ⟨rfl,rfl⟩
def qjB (base r B:Nat) (m:List Ent) (w0:World) (J:List Tm->World->Prop) (wr:World):Prop:=∃ pre:List Tm,qeW wr r B m pre/\qa0 wr B m/\J pre wr/\w0.heap.size<=wr.heap.size
def qec (r n:Nat) (W:World):Nat:=match W.heap[r]? with|some (.mapIter _ _ seen _)=>n-seen.size|_=>0
theorem qn3 {W:World} {r B:Nat} {m:List Ent} {pre:List Tm} (h:qeW W r B m pre):qec r m.length W=m.length-pre.length:=by
 obtain ⟨seen,h1,_,_,rfl⟩:=h;simp [qec,h1]
theorem quK (q b Bx B:Nat) (m:List Ent) (w:World) (hq:1<=q) (hb:b<=w.heap.size) (hm:qa0 w B m) (hc:w.cell? ⟨Bx,0,none⟩=some (.map (some B))):
  qjz q Tryz.prog 187 #[.pointer (some ⟨Bx,0,none⟩)] qhx (qdd w.heap.size) (qcF b) (fun pre _ _=>pre.length<m.length) (fun xs=>xs.Perm (m.map (·.1))) w:=by
 intro lp J W hW hJ hY h0;have hmW:qa0 W B m:=(hW.block B (Array.getElem?_eq_some_iff.1 hm).1).trans hm;have hcW:=(hW.cell (p:=⟨Bx,0,none⟩) (World.block_lt_of_cell? w _ hc)).trans hc;have HJ:=qH hJ;have HY:=qH hY;have hszW:=hW.size;obtain ⟨r,hr⟩:∃ r,r=W.heap.size:=⟨_,rfl⟩;obtain ⟨w2,hw2⟩:∃ w2,w2=W.alloc (.mapIter (some B) m.length #[] m.length):=⟨_,rfl⟩;have hb2:Below W.heap.size W w2:=by rw [hw2];exact (Below.refl _ _).alloc (Nat.le_refl _) _
 have hrel0:qjB b r B m W J w2:=by
  refine ⟨[],⟨[],by rw [hw2,hr];exact heap_alloc_new _ _,by simp,by simp,rfl⟩,(hb2.block B (Array.getElem?_eq_some_iff.1 hmW).1).trans hmW,hJ _ _ _ h0 (qdd.of hb2 hszW),hb2.size⟩
 have HREL:=qH hrel0;have HW2:=qH hw2;have hrb:w.heap.size<=r:=by omega
 have HR:=qH hr;clear hJ hY h0 hm hc hW hrel0 hw2 hb2 hr;refine callsIn_of_wp Tryz.func187 rfl trivial ?_ rfl;simp only [Tryz.ntmps187,List.size_toArray,List.length_cons,List.length_nil,Nat.reduceAdd,Nat.reduceSub,Array.replicate_succ,Array.replicate_zero,List.push_toArray,List.append_toArray,List.nil_append,List.cons_append]
 gi_wp2_with (first
  |(gi_at_range;refine quF _ rfl _ rfl B m rfl hmW ?_;rw [<- HW2.out,<- HR.out])
  |gi_in)
 gi_loopw [3] (fun _ wr=>qjB b r B m W J wr) (fun _ wr=>qec r m.length wr)
 case atStart=>exact HREL.out
 case round=>
  obtain ⟨pre,hit,hmr,hj,hsz⟩:=hrel
  gi_wp2_with (first
   |(gi_at_next;refine quG _ rfl _ rfl w.heap.size r B m pre rfl hmr hit hrb ?_ ?_)
   |gi_in)
  ·intro hp
   gi_wp2
   go_end0
   exact ⟨⟨_,rfl⟩,pre,hp,hj⟩
  ·intro t1 t2 v w3 hlen hmv hit3 hen
   obtain ⟨t,ht⟩:∃ t:Tm,t=(t1,t2):=⟨_,rfl⟩;rw [<- ht] at hit3 hen ⊢;have hj3:=HJ.out _ _ _ hj hmv;have hm3:qa0 w3 B m:=hmv.keep _ _ hmr (by simp);have hl:=qn3 hit;have hsz3:=hmv.below.size;obtain ⟨X,hX⟩:∃ X:ByteArray,X=⟨t.1.toArray⟩:=⟨_,rfl⟩;obtain ⟨Y,hY⟩:∃ Y:ByteArray,Y=⟨t.2.toArray⟩:=⟨_,rfl⟩;have htV:tV t= .agg #[.string X,.string Y]:=by rw [hX,hY];rfl
   rw [htV] at hen ⊢;obtain ⟨w4,hw4⟩:∃ w4,w4=w3.alloc (.cells #[.string X,.string Y] 69):=⟨_,rfl⟩;have hb4:Below w3.heap.size w3 w4:=by rw [hw4];exact (Below.refl _ _).alloc (Nat.le_refl _) _
   have hyy:=HY.out pre t w4 (HJ.out _ _ _ hj3 (qdd.of hb4 (by omega))) hlen;rw [show qhx t=#[.agg #[.string X,.string Y]] by unfold qhx;rw [htV]] at hyy;obtain ⟨fn,tmps,assign,body,hy,hRR⟩:=hyy;have hm4:qa0 w4 B m:=(hb4.block B (Array.getElem?_eq_some_iff.1 hm3).1).trans hm3;have hit4:qeW w4 r B m (pre++[t]):=by
    obtain ⟨seen,g1,g2,g3,g4⟩:=hit3;exact ⟨seen,(hb4.block r (Array.getElem?_eq_some_iff.1 g1).1).trans g1,g2,g3,g4⟩
   have hs4:=hb4.size;rw [hw4] at hy;have HW4:=qH hw4;have HIT4:=qH hit4;have HM4:=qH hm4;have HL:=qH hl;clear hX hY htV hw4 hb4 hit4 hm4 hit hit3 hmr hm3 hmv hj hj3 hl;gi_wp2;rw [HW4.out] at hRR;refine hRR.mono ?_;rintro e W4 ⟨rfl,hJ4,hk4⟩;have hrel:qjB b r B m W J W4:=by
    have hk5:qcF b w4 W4:=by rw [HW4.out];exact hk4
    obtain ⟨seen,g1,g2,g3,g4⟩:=HIT4.out;exact ⟨pre++[t],⟨seen,hk5.keep _ _ g1 (.inl ⟨_,_,_,_,rfl⟩),g2,g3,g4⟩,hk5.keep _ _ HM4.out (.inr ⟨_,_,rfl⟩),hJ4,by have :=hk5.below.size;omega⟩
   have hlt:qec r m.length W4<qec r m.length wr:=by
    have hk5:qcF b w4 W4:=by rw [HW4.out];exact hk4
    obtain ⟨seen,g1,g2,g3,g4⟩:=HIT4.out;have :qeW W4 r B m (pre++[t]):=⟨seen,hk5.keep _ _ g1 (.inl ⟨_,_,_,_,rfl⟩),g2,g3,g4⟩;rw [HL.out,qn3 this,List.length_append,List.length_singleton];omega
   have HRL:=qH hrel;have HLT:=qH hlt;clear hrel hlt hJ4 hk4 hy hRR;gi_wp2;go_roundw
   case rel=>exact HRL.out
   case measure=>exact HLT.out
attribute [local go_sem] Oper.semAt_some
theorem quL (B:Nat) (w:World):
  Calls Tryz.prog 67 #[.map (some B)] w fun e w'=>e= .returned (.func (.func 110) #[] #[.pointer (some ⟨w.heap.size,0,none⟩)])/\w'=w.alloc (.cells #[.map (some B)] 124):=by
 go_enter Tryz.func67,Tryz.ntmps67
 go_wp2;go_ret;exact ⟨rfl,rfl⟩
def qjC (base r B c:Nat) (m:List qaD) (w0:World) (J:List Nm->World->Prop) (wr:World):Prop:=∃ pre:List Nm,ItK wr r B c m pre/\qa1 wr B c m/\J pre wr/\w0.heap.size<=wr.heap.size
theorem qn4 {W:World} {r B c:Nat} {m:List qaD} {pre:List Nm} (h:ItK W r B c m pre):qec r m.length W=m.length-pre.length:=by
 obtain ⟨seen,h1,_,_,rfl⟩:=h;simp [qec,h1]
theorem quM (q b Bx B c:Nat) (m:List qaD) (w:World) (hq:1<=q) (hb:b<=w.heap.size) (hm:qa1 w B c m) (hc:w.cell? ⟨Bx,0,none⟩=some (.map (some B))):
  qjz q Tryz.prog 110 #[.pointer (some ⟨Bx,0,none⟩)] qhy (qdd w.heap.size) (qcF b) (fun pre _ _=>pre.length<m.length) (fun xs=>xs.Perm (m.map (·.1))) w:=by
 intro lp J W hW hJ hY h0;have hmW:qa1 W B c m:=(hW.block B (Array.getElem?_eq_some_iff.1 hm).1).trans hm;have hcW:=(hW.cell (p:=⟨Bx,0,none⟩) (World.block_lt_of_cell? w _ hc)).trans hc;have HJ:=qH hJ;have HY:=qH hY;have hszW:=hW.size;obtain ⟨r,hr⟩:∃ r,r=W.heap.size:=⟨_,rfl⟩;obtain ⟨w2,hw2⟩:∃ w2,w2=W.alloc (.mapIter (some B) (c+m.length) #[] (c+m.length)):=⟨_,rfl⟩;have hb2:Below W.heap.size W w2:=by rw [hw2];exact (Below.refl _ _).alloc (Nat.le_refl _) _
 have hrel0:qjC b r B c m W J w2:=by
  refine ⟨[],⟨[],by rw [hw2,hr];exact heap_alloc_new _ _,by simp,by simp,rfl⟩,(hb2.block B (Array.getElem?_eq_some_iff.1 hmW).1).trans hmW,hJ _ _ _ h0 (qdd.of hb2 hszW),hb2.size⟩
 have HREL:=qH hrel0;have HW2:=qH hw2;have hrb:w.heap.size<=r:=by omega
 have HR:=qH hr;clear hJ hY h0 hm hc hW hrel0 hw2 hb2 hr;refine callsIn_of_wp Tryz.func110 rfl trivial ?_ rfl;simp only [Tryz.ntmps110,List.size_toArray,List.length_cons,List.length_nil,Nat.reduceAdd,Nat.reduceSub,Array.replicate_succ,Array.replicate_zero,List.push_toArray,List.append_toArray,List.nil_append,List.cons_append]
 gi_wp2_with (first
  |(gi_at_range;refine quH _ rfl _ rfl B c m rfl hmW ?_;rw [<- HW2.out,<- HR.out])
  |gi_in)
 gi_loopw [] (fun wr=>qjC b r B c m W J wr) (fun wr=>qec r m.length wr)
 case atStart=>exact HREL.out
 case round=>
  obtain ⟨pre,hit,hmr,hj,hsz⟩:=hrel
  gi_wp2_with (first
   |(gi_at_next;refine quI _ rfl _ rfl w.heap.size r B c m pre rfl hmr hit hrb ?_ ?_)
   |gi_in)
  ·intro hp
   gi_wp2
   go_end0
   exact ⟨⟨_,rfl⟩,pre,hp,hj⟩
  ·intro t v w3 hlen hmv hit3 hen
   have hj3:=HJ.out _ _ _ hj hmv;have hm3:qa1 w3 B c m:=hmv.keep _ _ hmr (by simp);have hl:=qn4 hit;have hsz3:=hmv.below.size;obtain ⟨X,hX⟩:∃ X:ByteArray,X=⟨t.toArray⟩:=⟨_,rfl⟩;have htV:kV t= .string X:=by rw [hX];rfl
   rw [htV] at hen ⊢;have hyy:=HY.out pre t w3 hj3 hlen;rw [show qhy t=#[.string X] by unfold qhy;rw [htV]] at hyy;obtain ⟨fn,tmps,assign,body,hy,hRR⟩:=hyy;have HIT3:=qH hit3;have HM3:=qH hm3;have HL:=qH hl;clear hX htV hit hit3 hmr hm3 hmv hj hj3 hl;gi_wp2;refine hRR.mono ?_;rintro e W4 ⟨rfl,hJ4,hk4⟩;obtain ⟨seen,g1,g2,g3,g4⟩:=HIT3.out;have hit4:ItK W4 r B c m (pre++[t]):=⟨seen,hk4.keep _ _ g1 (.inl ⟨_,_,_,_,rfl⟩),g2,g3,g4⟩;have hrel:qjC b r B c m W J W4:=⟨pre++[t],hit4,hk4.keep _ _ HM3.out (.inr ⟨_,_,rfl⟩),hJ4,by have :=hk4.below.size;omega⟩;have hlt:qec r m.length W4<qec r m.length wr:=by
    rw [HL.out,qn4 hit4,List.length_append,List.length_singleton];omega
   have HRL:=qH hrel;have HLT:=qH hlt;clear hrel hlt hit4 hJ4 hk4 hy hRR g1 g2 g3 g4;gi_wp2;go_roundw
   case rel=>exact HRL.out
   case measure=>exact HLT.out
attribute [local go_sem] Oper.semAt_some
theorem qcF.trans {b:Nat} {w w1 w2:World} (h:qcF b w w1) (k:qcF b w1 w2):qcF b w w2:=⟨h.below.trans k.below,fun i o hi ho=>k.keep i o (h.keep i o hi ho) ho⟩
theorem qcF.of {b:Nat} {w w1:World} (h:Below w.heap.size w w1) (hb:b<=w.heap.size):qcF b w w1:=⟨h.mono hb,fun k o hk _=>(h.block k (Array.getElem?_eq_some_iff.1 hk).1).trans hk⟩
theorem qcF.loop {b:Nat} (W:World) (l:Nat) (x:Loop) (o':Obj) (hl:b<=l) (h:W.heap[l]?=some (.loop x)):qcF b W (W.putObj l o'):=by
 refine ⟨⟨rfl,rfl,rfl,by simp,fun k hk=>World.putObj_heap_other (by omega)⟩,fun k o hk ho=> ?_⟩;rw [World.putObj_heap_other,hk];rintro rfl;rw [h] at hk;cases hk;rcases ho with ⟨_,_,_,_,ho⟩|⟨_,_,ho⟩<;>cases ho
def qeX (base B:Nat) (l:List Tm) (W:World):Prop:=∃ v,W.heap[B]?=some (.cells #[v] 145 (0,0))/\qbI base W v l
theorem qjD {base:Nat} {w:World} {v:Value} {l:List Tm} (h:qbI base w v l) {k:Nat} {o:Obj} (hk:w.heap[k]?=some o) (ho:o.isCells=false):v.ownBlock≠some k:=by
 intro he;rcases h.2 with ⟨rfl,_⟩|⟨g,cap,cur,rfl,_,hh,_⟩
 ·cases he
 ·simp only [Value.ownBlock,Option.some.injEq] at he
  subst he;rw [hh] at hk;cases hk;cases ho
theorem qeX.firm (N base B:Nat) (l:List Tm):qfP N (qeX base B l):=fun W k o o' _ ho hc ⟨v,h1,h2⟩=>by
 have hB:B≠k:=fun e=>by subst e;rw [h1] at ho;injection ho with ho;rw [<- ho] at hc;cases hc
 exact ⟨v,(World.putObj_heap_other hB).trans h1,qax h2 fun g hg=>World.putObj_heap_other fun e=>by subst e;exact qjD h2 ho hc hg⟩
theorem qeX.moved {base base' B:Nat} {l:List Tm} {w w':World} (h:qeX base B l w) (hm:qdd base' w w'):qeX base B l w':=by
 obtain ⟨v,h1,h2⟩:=h;refine ⟨v,hm.keep _ _ h1 (by simp),qax h2 fun g hg=> ?_⟩;rcases h2.2 with ⟨rfl,_⟩|⟨g',cap,cur,rfl,_,hh,_⟩
 ·cases hg
 ·simp only [Value.ownBlock,Option.some.injEq] at hg
  subst hg;rw [hm.keep _ _ hh (by simp),hh]
theorem Below.firm {b N:Nat} {w:World} (hb:b<=N):qfP N (fun W=>Below b w W):=fun W l o o' hl _ _ h=>h.trans ⟨rfl,rfl,rfl,by simp,fun k hk=>World.putObj_heap_other (by omega)⟩
def qjE (w:World) (pre:List Tm) (W:World):Prop:=qeX w.heap.size w.heap.size pre W/\Below w.heap.size w W/\pre.length<=134217728
def quN (f:Value) (w:World) (x:Tm) (a:Act) (W:World):Prop:=∃ Bx,W.heap[Bx]?=some (.cells #[.string ⟨x.1.toArray⟩,.string ⟨x.2.toArray⟩] 69 (0,0))/\a={tmps:=#[.slice none 0 0,f,.pointer (some ⟨w.heap.size,0,none⟩),undef,.slice none 0 0,.pointer (some ⟨Bx,0,none⟩),f,.agg #[.string ⟨x.1.toArray⟩,.string ⟨x.2.toArray⟩],undef,undef,undef,undef,undef],defers:=[]}
def qn5 (ks:List Tm) (w:World) (e:Ending) (w':World):Prop:=∃ v ts,e= .returned v/\ts.Perm ks/\qbI w.heap.size w' v ts/\Below w.heap.size w w'
theorem quO (Bx B:Nat) (m:List Ent) (w:World) (hm:qa0 w B m) (hc:w.cell? ⟨Bx,0,none⟩=some (.map (some B))) (hl:m.length<=134217727):
  Calls Tryz.prog 220 #[.slice none 0 0,.func (.func 187) #[] #[.pointer (some ⟨Bx,0,none⟩)]] w (qn5 (m.map (·.1)) w):=by
 obtain ⟨i0,hi0,hz0,hz1,hz2⟩:=info_parts qsl;refine (callsIn_wide (n:=6)).1 ?_;obtain ⟨w2,hw2⟩:∃ w2,w2=w.alloc (.cells #[.slice none 0 0] 145):=⟨_,rfl⟩;have hb2:Below w.heap.size w w2:=by rw [hw2];exact (Below.refl _ _).alloc (Nat.le_refl _) _
 have hm2:qa0 w2 B m:=(hb2.block B (Array.getElem?_eq_some_iff.1 hm).1).trans hm;have hc2:=(hb2.cell (p:=⟨Bx,0,none⟩) (World.block_lt_of_cell? w _ hc)).trans hc;have hv2:qeX w.heap.size w.heap.size [] w2:=⟨_,by rw [hw2];exact heap_alloc_new w _,qbI.nil⟩;have hs2:w2.heap.size=w.heap.size+1:=by rw [hw2];simp
 have HT:=qH (quK 5 w.heap.size Bx B m w2 (by omega) hb2.size hm2 hc2);have HW2:=qH hw2;have HB2:=qH hb2;have HV2:=qH hv2;clear hw2 hb2 hm2 hc2 hv2 hm hc;refine callsIn_of_wp_marks Tryz.func220 rfl trivial ?_ rfl;simp only [Tryz.ntmps220,List.size_toArray,List.length_cons,List.length_nil,Nat.reduceAdd,Nat.reduceSub,Array.replicate_succ,Array.replicate_zero,List.push_toArray,List.append_toArray,List.nil_append,List.cons_append];gi_wp2;rw [<- HW2.out];refine qnX (by omega) (gf:=187) (lb:=#[.pointer (some ⟨Bx,0,none⟩)]) rfl (enters_of Tryz.func187 (by kernel_rfl) rfl)
  HT.out (fun hb=>qdd.of hb (Nat.le_refl _)) (fun {A B k o} hk hmv ho hnc=>hmv.keep _ _ ho (by rcases hnc with ⟨x,rfl⟩|⟨x,rfl⟩<;>simp))
  (fun h k=>h.trans k) (fun W lp x o' hlp ho=>qcF.loop W lp x o' (by omega) ho) (fun _=>rfl)
  (qjE w) (fun s A' B' h hmv=>⟨h.1.moved hmv,h.2.1.trans (hmv.below.mono (by omega)),h.2.2⟩)
  (fun s=>fun W l o o' h1 h2 h3 h=>⟨qeX.firm _ _ _ _ W l o o' h1 h2 h3 h.1,Below.firm (by omega) W l o o' h1 h2 h3 h.2.1,h.2.2⟩)
  (fun s x W l o o' _ _ _ h=>h) ⟨HV2.out,HB2.out,by simp⟩
  (quN (.func (.func 187) #[] #[.pointer (some ⟨Bx,0,none⟩)]) w) (fun x a' W l o o' _ ho hc h=> ?hAx) ?assign ?body ?done
 case hAx=>
  obtain ⟨Bx',h1,h2⟩:=h;exact ⟨Bx',(World.putObj_heap_other fun e=>by subst e;rw [h1] at ho;injection ho with ho;rw [<- ho] at hc;cases hc).trans h1,h2⟩
 case assign=>
  intro lp pre x W K' hi hx hK';unfold qhx tV;have hb:Below W.heap.size W (W.alloc (.cells #[.string ⟨x.1.toArray⟩,.string ⟨x.2.toArray⟩] 69)):=(Below.refl _ _).alloc (Nat.le_refl _) _;have hsz:=hi.2.1.size;have hi2:qjE w pre (W.alloc (.cells #[.string ⟨x.1.toArray⟩,.string ⟨x.2.toArray⟩] 69)):=⟨hi.1.moved (qdd.of hb (Nat.le_refl _)),hi.2.1.trans (hb.mono hsz),hi.2.2⟩;have HI:=qH hi2;have HB:=qH hb;clear hi hi2 hb;gi_wp2;exact hK' _ _ ⟨W.heap.size,heap_alloc_new _ _,rfl⟩ HI.out hx HB.out (qcF.of HB.out hsz)
 case body=>
  rintro lp pre x a' W ⟨Bt,hx,rfl⟩ ⟨⟨v,hv,hown⟩,hbw,hpl⟩ hlt;obtain ⟨X,hX⟩:∃ X:ByteArray,X=⟨x.1.toArray⟩:=⟨_,rfl⟩;obtain ⟨Y,hY⟩:∃ Y:ByteArray,Y=⟨x.2.toArray⟩:=⟨_,rfl⟩;rw [<- hX,<- hY] at hx ⊢;have hfl:flds [x]=[.string X,.string Y]:=by rw [hX,hY];rfl
  obtain ⟨cx0,cx1⟩:W.cell? ⟨Bt,0,none⟩=some (.string X)/\W.cell? ⟨Bt,1,none⟩=some (.string Y):=⟨by simp [World.cell?,hx],by simp [World.cell?,hx]⟩;have cB:=cell_of_one hv;have fB:=free_of_one hv;have hsz:=hbw.size;have hlB:=lt_of_block hv;obtain ⟨k,hk⟩:∃ k,k=pre.length:=⟨_,rfl⟩;have ho1:W.ownsRow w.heap.size 69 2 v k (flds pre):=by rw [hk];exact hown
  have hkl:k<=134217727:=by omega
  have HO:=qH ho1;have HOW:=qH hown;have HV:=qH hv;have HBW:=qH hbw;have HK:=qH hk;have HFL:=qH hfl;have HLT:=qH hlt;clear hv hown hbw ho1 hk hfl hX hY hlt hpl hx
  gi_wp2_with (gi_at_builtin;refine wpListIn_append_own _ rfl (.tmp 8) (.tmp 10) 145 rfl w.heap.size 69 i0 _ 2 32 Tryz.underlying145 hi0 hz0 hz1 hz2 rfl (by omega) _ k (flds pre) rfl (HO.out.alloc _) ⟨W.heap.size,0,none⟩ 1 1 [.string X,.string Y] rfl rfl (qaU W [.string X,.string Y] 69) (by intro u hu;simp at hu;rcases hu with rfl|rfl<;>rfl) (by unfold maxLen;omega) (by omega) (by simp;omega) ?_)
  intro v' w4 hown4 hgrow4 hz4;clear hz4;obtain ⟨g',cap',hv',_,_⟩:=hown4.form (by omega);have hne:=qao HOW.out HV.out (by decide);have hal:Below W.heap.size W (W.alloc (.cells #[.string X,.string Y] 69)):=(Below.refl _ _).alloc (Nat.le_refl _) _;have hv4:w4.heap[w.heap.size]?=some (.cells #[v] 145 (0,0)):=(hgrow4.block _ (by simp;omega) (fun e=>hne e.symm)).trans ((hal.block _ hlB).trans HV.out);have cB4:=cell_of_one hv4;have fB4:=free_of_one hv4;have hne':=qao hown4 hv4 (by decide);have hs4:W.heap.size<=w4.heap.size:=Nat.le_trans hal.size hgrow4.size;have hkeep:∀ (j:Nat),j<W.heap.size->j≠w.heap.size->v.ownBlock≠some j->(w4.setCell ⟨w.heap.size,0,none⟩ v').heap[j]?=W.heap[j]?:=fun j h1 h2 h3=>by
   rw [Below.heap_setCell _ _ _ _ h2,hgrow4.block j (Nat.lt_of_lt_of_le h1 hal.size) (fun e=>h3 e.symm),hal.block j h1]
  have hnc:∀ (j:Nat) (o:Obj),W.heap[j]?=some o->o.isCells=false->(w4.setCell ⟨w.heap.size,0,none⟩ v').heap[j]?=some o:=fun j o h1 h2=>by
   rw [hkeep j (Array.getElem?_eq_some_iff.1 h1).1 (fun e=> ?_) (qjD HOW.out h1 h2),h1];subst e;have :=HV.out;rw [this] at h1;injection h1 with h1
   rw [<- h1] at h2;cases h2
  have hbl:Below w.heap.size W (w4.setCell ⟨w.heap.size,0,none⟩ v'):=⟨hgrow4.os,hgrow4.tape,hgrow4.output,by simpa using hs4,fun j hj=>hkeep j (by omega) (by omega) (fun e=>by have :=(HO.out.lt j e).1;omega)⟩;have hin:qjE w (pre++[x]) (w4.setCell ⟨w.heap.size,0,none⟩ v'):=by
   refine ⟨⟨v',one_setCell hv4,?_⟩,HBW.out.trans hbl,by rw [List.length_append,List.length_singleton,<- HK.out];omega⟩;have :=ownsRow_setCell_other hown4 (show v'.ownBlock≠some (⟨w.heap.size,0,none⟩:Addr).block from hne') v'
   unfold qbI;rw [List.length_append,List.length_singleton,<- HK.out,qg1,HFL.out];exact this
  have HKO:Hid (KeepsOthers W (w4.setCell ⟨w.heap.size,0,none⟩ v')):=qH ⟨by simpa using hs4,hnc⟩;have HKP:Hid (qcF w.heap.size W (w4.setCell ⟨w.heap.size,0,none⟩ v')):=qH ⟨hbl,fun j o h1 h2=>hnc j o h1 (by rcases h2 with ⟨_,_,_,_,rfl⟩|⟨_,_,rfl⟩<;>rfl)⟩
  have HIN:=qH hin;subst hv';clear hkeep hnc hbl hin hne hne' hal hv4 hgrow4 hown4;gi_wp2;exact ⟨HKO.out,HKP.out,HIN.out⟩
 case done=>
  rintro D' ys W hD2 hys ⟨⟨v,hv,hown⟩,hbw,_⟩ hK';have cB:=cell_of_one hv;have HO:=qH hown;have HBW:=qH hbw;have HV:=qH hv;have HYS:=qH hys;clear hys hown hbw hv;gi_wp2;refine ⟨by simp,.inl ⟨_,_,rfl,run_takeDeferred hK',?_⟩⟩;refine ⟨_,results_tmp rfl _ _ _,?_⟩;refine ⟨v,ys,rfl,HYS.out,qax HO.out fun g hg=>World.putObj_heap_other fun e=> ?_,Below.firm (by omega) W D' _ (.deferred none) hD2 hK' rfl HBW.out⟩;subst e;exact qjD HO.out hK' rfl hg
open Go.Shelf Go.Sort
def quP:Go.Shelf.Ren:=⟨fun |125=>158|128=>201|129=>202|190=>109|258=>157|302=>192|303=>193|304=>194|305=>195|306=>196|307=>197|308=>198|309=>199|310=>200|329=>228|330=>229|333=>227|334=>230|335=>231|336=>188|344=>246|n=>n,fun |0=>0|3=>3|4=>4|5=>5|9=>9|31=>40|46=>260|51=>297|53=>102|131=>142|182=>289|183=>290|218=>317|222=>321|228=>340|229=>312|n=>n,fun |n=>n⟩
theorem qn6:Lays.n190 Tryz.prog quP:={
 mixed:=by kernel_rfl
 f125:=Tryz.func158.trans (congrArg some (by kernel_rfl))
 f128:=Tryz.func201.trans (congrArg some (by kernel_rfl))
 f129:=Tryz.func202.trans (congrArg some (by kernel_rfl))
 f190:=Tryz.func109.trans (congrArg some (by kernel_rfl))
 f258:=Tryz.func157.trans (congrArg some (by kernel_rfl))
 f302:=Tryz.func192.trans (congrArg some (by kernel_rfl))
 f303:=Tryz.func193.trans (congrArg some (by kernel_rfl))
 f304:=Tryz.func194.trans (congrArg some (by kernel_rfl))
 f305:=Tryz.func195.trans (congrArg some (by kernel_rfl))
 f306:=Tryz.func196.trans (congrArg some (by kernel_rfl))
 f307:=Tryz.func197.trans (congrArg some (by kernel_rfl))
 f308:=Tryz.func198.trans (congrArg some (by kernel_rfl))
 f309:=Tryz.func199.trans (congrArg some (by kernel_rfl))
 f310:=Tryz.func200.trans (congrArg some (by kernel_rfl))
 f329:=Tryz.func228.trans (congrArg some (by kernel_rfl))
 f330:=Tryz.func229.trans (congrArg some (by kernel_rfl))
 f333:=Tryz.func227.trans (congrArg some (by kernel_rfl))
 f334:=Tryz.func230.trans (congrArg some (by kernel_rfl))
 f335:=Tryz.func231.trans (congrArg some (by kernel_rfl))
 f336:=Tryz.func188.trans (congrArg some (by kernel_rfl))
 f344:=Tryz.func246.trans (congrArg some (by kernel_rfl))
 t0:=Tryz.underlying0
 a0:=Tryz.isAgg0
 z0:=Tryz.sizeOf0
 v0:=Tryz.zeroValue0
 t3:=Tryz.underlying3
 a3:=Tryz.isAgg3
 z3:=Tryz.sizeOf3
 v3:=Tryz.zeroValue3
 t4:=Tryz.underlying4
 a4:=Tryz.isAgg4
 z4:=Tryz.sizeOf4
 v4:=Tryz.zeroValue4
 t5:=Tryz.underlying5
 a5:=Tryz.isAgg5
 z5:=Tryz.sizeOf5
 v5:=Tryz.zeroValue5
 t9:=Tryz.underlying9
 a9:=Tryz.isAgg9
 z9:=Tryz.sizeOf9
 v9:=Tryz.zeroValue9
 t31:=Tryz.underlying40
 a31:=Tryz.isAgg40
 z31:=Tryz.sizeOf40
 v31:=Tryz.zeroValue40
 t46:=Tryz.underlying260
 a46:=Tryz.isAgg260
 z46:=Tryz.sizeOf260
 v46:=Tryz.zeroValue260
 t51:=Tryz.underlying297
 a51:=Tryz.isAgg297
 z51:=Tryz.sizeOf297
 v51:=Tryz.zeroValue297
 t53:=Tryz.underlying102
 a53:=Tryz.isAgg102
 z53:=Tryz.sizeOf102
 v53:=Tryz.zeroValue102
 t131:=Tryz.underlying142
 a131:=Tryz.isAgg142
 z131:=Tryz.sizeOf142
 v131:=Tryz.zeroValue142
 t182:=Tryz.underlying289
 a182:=Tryz.isAgg289
 z182:=Tryz.sizeOf289
 v182:=Tryz.zeroValue289
 t183:=Tryz.underlying290
 a183:=Tryz.isAgg290
 z183:=Tryz.sizeOf290
 v183:=Tryz.zeroValue290
 t218:=Tryz.underlying317
 a218:=Tryz.isAgg317
 z218:=Tryz.sizeOf317
 v218:=Tryz.zeroValue317
 t222:=Tryz.underlying321
 a222:=Tryz.isAgg321
 z222:=Tryz.sizeOf321
 v222:=Tryz.zeroValue321
 t228:=Tryz.underlying340
 a228:=Tryz.isAgg340
 z228:=Tryz.sizeOf340
 v228:=Tryz.zeroValue340
 t229:=Tryz.underlying312
 a229:=Tryz.isAgg312
 z229:=Tryz.sizeOf312
 v229:=Tryz.zeroValue312}
theorem quQ (base:Nat) (v:Value) (xs:List Nm) (w:World) (ho:qaH base w v xs) (hb:base<=w.heap.size) (hbig:xs.length<=1073741824):
  Calls Tryz.prog 109 #[v] w fun e w'=>e= .returned (.tuple #[])/\qaH base w' v (xs.mergeSort fun x y=>decide (x<=y))/\Below base w w':=by
 have hl2:(xs.mergeSort fun x y=>decide (x<=y)).length=xs.length:=List.length_mergeSort xs;rcases ho.2 with ⟨rfl,h0⟩|⟨g,cap,cur,rfl,hbase,hh,h1,h2,h3,h4⟩
 ·obtain rfl:xs=[]:=List.eq_nil_of_length_eq_zero h0
  exact (Any.slices_Sort_string_none qn6 none 0 w).mono fun e w' ⟨he,hw⟩=>⟨he,by rw [hw];simpa using qaH.nil,by rw [hw];exact Below.refl _ _⟩
 ·have hH:Holds encStr w g 0 xs.toArray:=holds_of_block hh (by simpa [qad] using h4)
  refine (Any.slices_Sort_string qn6 g 0 cap xs w hH (lt_of_block hh) (by omega)).mono fun e w' ⟨he,n,os,hw⟩=>⟨he,?_,?_⟩
  ·rw [hw]
   unfold qaH;rw [hl2];exact ownsRow_sorted hl2 hbase hh h1 h2 h3
  ·rw [hw]
   exact (Below.refl base w).grown (grownBy_sorted _) hb (fun j hj=>by cases hj;exact hbase)
attribute [local go_sem] Oper.semAt_some
def qeY (base B:Nat) (l:List Nm) (W:World):Prop:=∃ v,W.heap[B]?=some (.cells #[v] 40 (0,0))/\qaH base W v l
theorem qjF {base:Nat} {w:World} {v:Value} {l:List Nm} (h:qaH base w v l) {k:Nat} {o:Obj} (hk:w.heap[k]?=some o) (ho:o.isCells=false):v.ownBlock≠some k:=by
 intro he;rcases h.2 with ⟨rfl,_⟩|⟨g,cap,cur,rfl,_,hh,_⟩
 ·cases he
 ·simp only [Value.ownBlock,Option.some.injEq] at he
  subst he;rw [hh] at hk;cases hk;cases ho
theorem qeY.firm (N base B:Nat) (l:List Nm):qfP N (qeY base B l):=fun W k o o' _ ho hc ⟨v,h1,h2⟩=>by
 have hB:B≠k:=fun e=>by subst e;rw [h1] at ho;injection ho with ho;rw [<- ho] at hc;cases hc
 exact ⟨v,(World.putObj_heap_other hB).trans h1,qax h2 fun g hg=>World.putObj_heap_other fun e=>by subst e;exact qjF h2 ho hc hg⟩
theorem qeY.moved {base base' B:Nat} {l:List Nm} {w w':World} (h:qeY base B l w) (hm:qdd base' w w'):qeY base B l w':=by
 obtain ⟨v,h1,h2⟩:=h;refine ⟨v,hm.keep _ _ h1 (by simp),qax h2 fun g hg=> ?_⟩;rcases h2.2 with ⟨rfl,_⟩|⟨g',cap,cur,rfl,_,hh,_⟩
 ·cases hg
 ·simp only [Value.ownBlock,Option.some.injEq] at hg
  subst hg;rw [hm.keep _ _ hh (by simp),hh]
def qn7 (w:World) (pre:List Nm) (W:World):Prop:=qeY w.heap.size w.heap.size pre W/\Below w.heap.size w W/\pre.length<=134217728
def quR (f:Value) (w:World) (x:Nm) (a:Act) (W:World):Prop:=a={tmps:=#[.slice none 0 0,f,.pointer (some ⟨w.heap.size,0,none⟩),undef,.slice none 0 0,kV x,f,kV x,undef,undef,undef,undef,undef],defers:=[]}
def qn8 (ks:List Nm) (w:World) (e:Ending) (w':World):Prop:=∃ v ts,e= .returned v/\ts.Perm ks/\qaH w.heap.size w' v ts/\Below w.heap.size w w'
theorem quS (Bx B c:Nat) (m:List qaD) (w:World) (hm:qa1 w B c m) (hc:w.cell? ⟨Bx,0,none⟩=some (.map (some B))) (hl:m.length<=134217727):
  Calls Tryz.prog 156 #[.slice none 0 0,.func (.func 110) #[] #[.pointer (some ⟨Bx,0,none⟩)]] w (qn8 (m.map (·.1)) w):=by
 obtain ⟨i0,hi0,hz0,hz1,hz2⟩:=info_parts qe9;refine (callsIn_wide (n:=6)).1 ?_;obtain ⟨w2,hw2⟩:∃ w2,w2=w.alloc (.cells #[.slice none 0 0] 40):=⟨_,rfl⟩;have hb2:Below w.heap.size w w2:=by rw [hw2];exact (Below.refl _ _).alloc (Nat.le_refl _) _
 have hm2:qa1 w2 B c m:=(hb2.block B (Array.getElem?_eq_some_iff.1 hm).1).trans hm;have hc2:=(hb2.cell (p:=⟨Bx,0,none⟩) (World.block_lt_of_cell? w _ hc)).trans hc;have hv2:qeY w.heap.size w.heap.size [] w2:=⟨_,by rw [hw2];exact heap_alloc_new w _,qaH.nil⟩;have hs2:w2.heap.size=w.heap.size+1:=by rw [hw2];simp
 have HT:=qH (quM 5 w.heap.size Bx B c m w2 (by omega) hb2.size hm2 hc2);have HW2:=qH hw2;have HB2:=qH hb2;have HV2:=qH hv2;clear hw2 hb2 hm2 hc2 hv2 hm hc;refine callsIn_of_wp_marks Tryz.func156 rfl trivial ?_ rfl;simp only [Tryz.ntmps156,List.size_toArray,List.length_cons,List.length_nil,Nat.reduceAdd,Nat.reduceSub,Array.replicate_succ,Array.replicate_zero,List.push_toArray,List.append_toArray,List.nil_append,List.cons_append];gi_wp2;rw [<- HW2.out];refine qnX (by omega) (gf:=110) (lb:=#[.pointer (some ⟨Bx,0,none⟩)]) rfl (enters_of Tryz.func110 (by kernel_rfl) rfl)
  HT.out (fun hb=>qdd.of hb (Nat.le_refl _)) (fun {A B k o} hk hmv ho hnc=>hmv.keep _ _ ho (by rcases hnc with ⟨x,rfl⟩|⟨x,rfl⟩<;>simp))
  (fun h k=>h.trans k) (fun W lp x o' hlp ho=>qcF.loop W lp x o' (by omega) ho) (fun _=>rfl)
  (qn7 w) (fun s A' B' h hmv=>⟨h.1.moved hmv,h.2.1.trans (hmv.below.mono (by omega)),h.2.2⟩)
  (fun s=>fun W l o o' h1 h2 h3 h=>⟨qeY.firm _ _ _ _ W l o o' h1 h2 h3 h.1,Below.firm (by omega) W l o o' h1 h2 h3 h.2.1,h.2.2⟩)
  (fun s x W l o o' _ _ _ h=>h) ⟨HV2.out,HB2.out,by simp⟩
  (quR (.func (.func 110) #[] #[.pointer (some ⟨Bx,0,none⟩)]) w) (fun x a' W l o o' _ ho hc h=>h) ?assign ?body ?done
 case assign=>
  intro lp pre x W K' hi hx hK';unfold qhy kV;gi_wp2;exact hK' _ _ rfl hi hx (Below.refl _ _) (qcF.of (Below.refl _ _) hi.2.1.size)
 case body=>
  rintro lp pre x a' W rfl ⟨⟨v,hv,hown⟩,hbw,hpl⟩ hlt;unfold kV;obtain ⟨X,hX⟩:∃ X:ByteArray,X=⟨x.toArray⟩:=⟨_,rfl⟩;rw [<- hX];have hfl:qad [x]=[.string X]:=by rw [hX];rfl
  have cB:=cell_of_one hv;have fB:=free_of_one hv;have hsz:=hbw.size;have hlB:=lt_of_block hv;obtain ⟨k,hk⟩:∃ k,k=pre.length:=⟨_,rfl⟩;have ho1:W.ownsRow w.heap.size 9 1 v k (qad pre):=by rw [hk];exact hown
  have hkl:k<=134217727:=by omega
  have HO:=qH ho1;have HOW:=qH hown;have HV:=qH hv;have HBW:=qH hbw;have HK:=qH hk;have HFL:=qH hfl;have HLT:=qH hlt;clear hv hown hbw ho1 hk hfl hX hlt hpl
  gi_wp2_with (gi_at_builtin;refine wpListIn_append_own _ rfl (.tmp 8) (.tmp 10) 40 rfl w.heap.size 9 i0 _ 1 16 Tryz.underlying40 hi0 hz0 hz1 hz2 rfl (by omega) _ k (qad pre) rfl (HO.out.alloc _) ⟨W.heap.size,0,none⟩ 1 1 [.string X] rfl rfl (qaU W [.string X] 9) (by intro u hu;simp at hu;subst hu;rfl) (by unfold maxLen;omega) (by omega) (by simp;omega) ?_)
  intro v' w4 hown4 hgrow4 hz4;clear hz4;obtain ⟨g',cap',hv',_,_⟩:=hown4.form (by omega);have hne:=qao HOW.out HV.out (by decide);have hal:Below W.heap.size W (W.alloc (.cells #[.string X] 9)):=(Below.refl _ _).alloc (Nat.le_refl _) _;have hv4:w4.heap[w.heap.size]?=some (.cells #[v] 40 (0,0)):=(hgrow4.block _ (by simp;omega) (fun e=>hne e.symm)).trans ((hal.block _ hlB).trans HV.out);have cB4:=cell_of_one hv4;have fB4:=free_of_one hv4;have hne':=qao hown4 hv4 (by decide);have hs4:W.heap.size<=w4.heap.size:=Nat.le_trans hal.size hgrow4.size;have hkeep:∀ (j:Nat),j<W.heap.size->j≠w.heap.size->v.ownBlock≠some j->(w4.setCell ⟨w.heap.size,0,none⟩ v').heap[j]?=W.heap[j]?:=fun j h1 h2 h3=>by
   rw [Below.heap_setCell _ _ _ _ h2,hgrow4.block j (Nat.lt_of_lt_of_le h1 hal.size) (fun e=>h3 e.symm),hal.block j h1]
  have hnc:∀ (j:Nat) (o:Obj),W.heap[j]?=some o->o.isCells=false->(w4.setCell ⟨w.heap.size,0,none⟩ v').heap[j]?=some o:=fun j o h1 h2=>by
   rw [hkeep j (Array.getElem?_eq_some_iff.1 h1).1 (fun e=> ?_) (qjF HOW.out h1 h2),h1];subst e;have :=HV.out;rw [this] at h1;injection h1 with h1
   rw [<- h1] at h2;cases h2
  have hbl:Below w.heap.size W (w4.setCell ⟨w.heap.size,0,none⟩ v'):=⟨hgrow4.os,hgrow4.tape,hgrow4.output,by simpa using hs4,fun j hj=>hkeep j (by omega) (by omega) (fun e=>by have :=(HO.out.lt j e).1;omega)⟩;have hin:qn7 w (pre++[x]) (w4.setCell ⟨w.heap.size,0,none⟩ v'):=by
   refine ⟨⟨v',one_setCell hv4,?_⟩,HBW.out.trans hbl,by rw [List.length_append,List.length_singleton,<- HK.out];omega⟩;have :=ownsRow_setCell_other hown4 (show v'.ownBlock≠some (⟨w.heap.size,0,none⟩:Addr).block from hne') v'
   unfold qaH;rw [List.length_append,List.length_singleton,<- HK.out,qiz,HFL.out];exact this
  have HKO:Hid (KeepsOthers W (w4.setCell ⟨w.heap.size,0,none⟩ v')):=qH ⟨by simpa using hs4,hnc⟩;have HKP:Hid (qcF w.heap.size W (w4.setCell ⟨w.heap.size,0,none⟩ v')):=qH ⟨hbl,fun j o h1 h2=>hnc j o h1 (by rcases h2 with ⟨_,_,_,_,rfl⟩|⟨_,_,rfl⟩<;>rfl)⟩
  have HIN:=qH hin;subst hv';clear hkeep hnc hbl hin hne hne' hal hv4 hgrow4 hown4;gi_wp2;exact ⟨HKO.out,HKP.out,HIN.out⟩
 case done=>
  rintro D' ys W hD2 hys ⟨⟨v,hv,hown⟩,hbw,_⟩ hK';have cB:=cell_of_one hv;have HO:=qH hown;have HBW:=qH hbw;have HV:=qH hv;have HYS:=qH hys;clear hys hown hbw hv;gi_wp2;refine ⟨by simp,.inl ⟨_,_,rfl,run_takeDeferred hK',?_⟩⟩;refine ⟨_,results_tmp rfl _ _ _,?_⟩;refine ⟨v,ys,rfl,HYS.out,qax HO.out fun g hg=>World.putObj_heap_other fun e=> ?_,Below.firm (by omega) W D' _ (.deferred none) hD2 hK' rfl HBW.out⟩;subst e;exact qjF HO.out hK' rfl hg
theorem quT (Bx B c:Nat) (m:List qaD) (w:World) (hm:qa1 w B c m) (hc:w.cell? ⟨Bx,0,none⟩=some (.map (some B))) (hl:m.length<=134217727):
  Calls Tryz.prog 108 #[.func (.func 110) #[] #[.pointer (some ⟨Bx,0,none⟩)]] w (qn8 (m.map (·.1)) w):=by
 have HA:=qH (quS Bx B c m w hm hc hl);clear hm hc
 go_enter Tryz.func108,Tryz.ntmps108
 go_wp2_with (go_at_call 156;(with_reducible refine HA.out.mono ?_);rintro e w' ⟨v,ts,rfl,hp,ho,hb⟩)
 go_ret;exact ⟨v,ts,rfl,hp,ho,hb⟩
theorem quU (Bx B c:Nat) (m:List qaD) (l:List En) (w:World) (hm:qa1 w B c m) (hc:w.cell? ⟨Bx,0,none⟩=some (.map (some B))) (hl:m.length<=134217727) (hk:(m.map (·.1)).Perm (qaf l)):
    Calls Tryz.prog 66 #[.func (.func 110) #[] #[.pointer (some ⟨Bx,0,none⟩)]] w (qeL (qaf l) w):=by
  have HA:=qH (quT Bx B c m w hm hc hl);have hks:(m.map (·.1)).length<=134217727:=by simpa using hl
  have HK:=qH hk;obtain ⟨ks,hk2⟩:∃ ks,ks=m.map (·.1):=⟨_,rfl⟩;rw [<- hk2] at hks HA HK;clear hm hc hk hk2
  go_enter Tryz.func66,Tryz.ntmps66
  go_wp2_with (first
    | (go_at_call 108; (with_reducible refine HA.out.mono ?_); rintro e w1 ⟨v, ts, rfl, hp, ho, hb⟩
       have hlt:ts.length<=134217727:=by rw [hp.length_eq];exact hks
       have HS:=qH (quQ w.heap.size v ts w1 ho hb.size (by omega));have HP:=qH hp;have HB:=qH hb;clear hp ho hb)
    |(go_at_call 109;(with_reducible refine HS.out.mono ?_);rintro e w2 ⟨rfl,ho2,hb2⟩))
  go_ret;rw [qsY (HP.out.trans HK.out)] at ho2;exact ⟨v,rfl,ho2,HB.out.trans hb2⟩
theorem qhz (w:World) (m:Nat):Below w.heap.size w (w.drewN m):=⟨rfl,rfl,rfl,Nat.le_refl _,fun _ _=>rfl⟩
def qbC (w:World) (id:Int) (A:Option Addr) (n c:Nat):World:=w.alloc (.cells #[.int .i64 id,.slice A n c] 59)
theorem qfQ {w wr:World} {id:Int} {A:Option Addr} {n c:Nat} (h:Below (qbC w id A n c).heap.size (qbC w id A n c) wr):
  wr.cell? ⟨w.heap.size,0,none⟩=some (.int .i64 id)/\wr.cell? ⟨w.heap.size,1,none⟩=some (.slice A n c):=by
 have hb:wr.heap[w.heap.size]?=some (.cells #[.int .i64 id,.slice A n c] 59 (0,0)):=(h.block w.heap.size (by simp [qbC])).trans (heap_alloc_new w _);exact ⟨by simp [World.cell?,hb],by simp [World.cell?,hb]⟩
theorem qfR (w:World) (id:Int) (A:Option Addr) (n c:Nat):Below w.heap.size w (qbC w id A n c):=(Below.refl _ w).alloc (Nat.le_refl _) _
theorem qjG (w:World) (id:Int) (A:Option Addr) (n c:Nat):(qbC w id A n c).heap.size=w.heap.size+1:=by simp [qbC]
theorem qn9 {w wr:World} {id:Int} {A:Option Addr} {n c:Nat} (h:Below (qbC w id A n c).heap.size (qbC w id A n c) wr):Below w.heap.size w wr:=
 (qfR w id A n c).trans (h.mono (by rw [qjG];omega))
def qhA (a:List Tm) (s:Nm) (ws:List Nm):List Tm:=ws.foldl (fun b x=>qdl b (s,x)) a
def qeZ (l:List Fd) (k:Nat):List Tm:=(l.take k).foldl (fun a f=>qhA a f.1 (qcr l f.1)) []
theorem quV {l:List Fd} {k:Nat} (hk:k<l.length):qeZ l (k+1)=qhA (qeZ l k) l[k].1 (qcr l l[k].1):=by
 unfold qeZ;rw [List.take_succ_eq_append_getElem hk,List.foldl_append];rfl
theorem qjH (l:List Fd):qeZ l l.length=qav l:=by rw [qeZ,List.take_length];rfl
theorem quW (l:List Tm) (t:Tm):(qdl l t).length<=l.length+1:=by
 have :=qgZ l t l.length;unfold qdl;split
 ·omega
 ·simp only [List.length_append,List.length_take,List.length_cons,List.length_drop]
  omega
theorem qoa (s:Nm):∀ (ws:List Nm) (a:List Tm),(qhA a s ws).length<=a.length+ws.length
 |[],a=>Nat.le_refl _
 |x::ws,a=>by
  have h1:=quW a (s,x);have h2:=qoa s ws (qdl a (s,x));simp only [List.length_cons];show (qhA (qdl a (s,x)) s ws).length<=_;omega
theorem qhB {l:List Fd} {M:Nat} (hw:∀ s,(qcr l s).length<=M):∀ k,k<=l.length->(qeZ l k).length<=k*M
 |0,_=>by simp [qeZ]
 |k+1,hk=>by
  have h1:=qhB hw k (by omega);have h2:=qoa (l[k]'(by omega)).1 (qcr l (l[k]'(by omega)).1) (qeZ l k);have h3:=hw (l[k]'(by omega)).1;rw [quV (by omega),Nat.succ_mul];omega
section
variable {S:Nat->Prop} {w:World} {B:Nat} {l:List En} {up:Int}
theorem quX {l:List En} (hg:qcI l) (hn:l.length<=1000):(qaf l).length<=4000000:=by
 have h1:=qg5 (l:=l) (a:=[]) (M:=4000) fun q hq=>by
  have h:=hg q hq;have h1:=qhB (l:=q.2.1) (M:=500) h.wordsS q.2.1.length (Nat.le_refl _);rw [qjH] at h1;exact Nat.le_trans h1 (Nat.le_trans (Nat.mul_le_mul_right _ h.len) (by omega))
 have h2:l.length*4000<=1000*4000:=Nat.mul_le_mul_right _ hn;have h3:(qaf l).length<=l.length*4000+([]:List Nm).length:=h1;simp only [List.length_nil] at h3;omega
theorem quY (h:qcE S w B l up) (hn:l.length<=1000):Calls Tryz.prog 31 #[.pointer (some ⟨B,0,none⟩)] w (qeL (qaf l) w):=by
  obtain ⟨v,M,c,g,h⟩:=h;obtain ⟨c0,c1,c2,c3,_⟩:=qcb h.cells;obtain ⟨m,hm,hk,hl⟩:=h.map.keys;have hp:(m.map (·.1)).Perm (qaf l):=by rw [hk];exact h.stand.perm
  have hlen:m.length<=134217727:=by rw [hl,h.stand.length];have :=quX h.good hn;omega
  have HM:=qH hm;have HP:=qH hp;clear h hm hk hl hp
  go_enter Tryz.func31,Tryz.ntmps31
  go_wp2_with (first
    | (go_at_call 67; (with_reducible refine (quL M w).mono ?_); rintro e w1 ⟨rfl, hw1⟩
       have hb1:Below w.heap.size w w1:=by rw [hw1];exact (Below.refl _ _).alloc (Nat.le_refl _) _
       have hc1:w1.cell? ⟨w.heap.size,0,none⟩=some (.map (some M)):=by rw [hw1];simp
       have hm1:qa1 w1 M c m:=(hb1.block M (Array.getElem?_eq_some_iff.1 HM.out).1).trans HM.out;have HS:=qH (quU w.heap.size M c m l w1 hm1 hc1 hlen HP.out);have HB1:=qH hb1;clear hw1 hb1 hc1 hm1)
    |(go_at_call 66;(with_reducible refine HS.out.mono ?_);rintro e w2 ⟨v2,rfl,ho2,hb2⟩))
  go_ret;exact ⟨_,rfl,ho2.low HB1.out.size,HB1.out.trans (hb2.mono HB1.out.size)⟩
end
theorem qjI {d:List Fd} (h:qdn d):(qav d).length<=4000:=by
 have h1:=qhB (l:=d) (M:=500) h.wordsS d.length (Nat.le_refl _);rw [qjH] at h1;exact Nat.le_trans h1 (Nat.le_trans (Nat.mul_le_mul_right _ h.len) (by omega))
structure qbe (G:List En):Prop where
 may:∀ q∈G,qbb q.2.1=0/\∀ f∈q.2.1,f.1.length<=1024/\f.2.length<=1024
 rise:qah (-1) (G.map (·.2.2))=true
 few:G.length<=100
theorem qbe.good {G:List En} (h:qbe G):qcI G:=fun q hq=>qiG (h.may q hq).1 fun f hf=>((h.may q hq).2 f hf).2
theorem qob {key:Nm} {p:Pn}:∀ {l:List En} {i:Nat},p∈qai i l key->(i:Int)<=p.1/\p.1<(i+l.length:Nat)
 |[],i,h=>by simp [qai] at h
 |q::l,i,h=>by
  rw [qai] at h;rcases List.mem_append.1 h with h|h
  ·unfold qbX at h
   obtain ⟨t,_,rfl⟩:=List.mem_map.1 h;simp only [List.length_cons];omega
  ·have :=qob h
   simp only [List.length_cons];omega
theorem quZ {l:List En} {key:Nm} (h:key∈qaf l):0<(qai 0 l key).length:=by
 obtain ⟨q,hq,t,ht,e⟩:=qes.1 h;exact qiV ⟨q,hq,t,ht,e⟩
theorem qoc {G:List En} (h:qbe G):qdT (qac G)=true:=by
 refine qfO.2 ⟨by simp [qac],by simp [qac],h.rise,qfx.2 (qgg G),fun l hl=> ?_⟩;obtain ⟨key,hk,rfl⟩:=List.mem_map.1 hl;have hn:(qac G).ids.length=G.length:=by simp [qac]
 have hp:=quZ hk;have hm:=qiY (key:=key) (i:=0) (last:= -1) h.good (by omega) (by have :=h.few;omega);unfold qcs;rw [hm,hn,Bool.true_and,Bool.and_eq_true,decide_eq_true_iff,decide_eq_true_iff];refine ⟨by omega,fun p hp'=> ?_⟩;have :=(qob (List.mem_of_getLast? hp')).2;simpa using this
theorem qod {G:List En} (h:qbe G):(qaf G).length<=400000:=by
 have h1:=qg5 (l:=G) (a:=[]) (M:=4000) fun q hq=>qjI (h.good q hq)
 have h2:(qaf G).length<=G.length*4000+([]:List Nm).length:=h1;have :=h.few;simp only [List.length_nil] at h2;omega
theorem qjJ {G:List En} (h:qbe G):qfN (qac G):=by
 refine ⟨by have :=h.few;simp [qac];omega,by have :=qod h;simp only [qac];omega,fun l hl=> ?_⟩;obtain ⟨key,hk,rfl⟩:=List.mem_map.1 hl;have h1:=qgj h.good (key:=key) G 0 (fun q hq=>hq);have h2:=qnk (l:=qai 0 G key) (n:=500) fun p hp=>(qiW h.good p hp).2
 have :=h.few;exact ⟨by omega,by omega⟩
theorem qoe {G:List En} (h:qbe G):qjy (qac G):=by
 have hs:=qjJ h;have hk:=hs.keys;have hi:=hs.ids;refine ⟨by omega,by simp [qac] at hi ⊢;omega,by omega,by simp [qac] at hk ⊢;omega,fun l hl=>⟨by have :=(hs.lists l hl).1;omega,fun p hp=> ?_⟩⟩;obtain ⟨key,hk,rfl⟩:=List.mem_map.1 hl;have :=(qiW h.good p hp).2;omega
open Go.Lib
open Plain (Wd WS Rep qfZ qgI getW)
theorem qu0:(Tryz.prog.info? 104).map (fun i=>(i.zero,i.size,i.bytes))=some (some (.agg #[.int .i64 0,.int .u64 0]),2,16):=by kernel_rfl
def qhC (w:World) (base:Nat) (v:Value) (ws:List Wd) (v':Value) (w':World):Prop:=
 w'.ownsRow base 104 2 v' ws.length (qaB ws)/\w.grownBy w' v.ownBlock/\∀ g,v'.ownBlock=some g->v.ownBlock=some g∨w.heap.size<=g
theorem qu1 {w:World} {base g n c:Nat} {cur:Array Value} {xs:List Value} {e:TypeId} (hg:w.heap[g]?=some (.cells cur e (0,0))) (hb:base<=g) (hn:n<=c) (hc:c<=maxLen) (hs:cur.size=c*2) (hx:cur.toList.take (n*2)=xs):
  w.ownsRow base e 2 (.slice (some ⟨g,0,none⟩) n c) n xs:=by
 refine ⟨?_,.inr ⟨g,c,cur,rfl,hb,hg,hn,hc,hs,hx⟩⟩;rw [<- hx,List.length_take,Array.length_toList,hs];omega
theorem qof (w:World) (base:Nat) (v:Value) (n:Nat) (ws:List Wd) (p:Wd) (VB vc:Nat) (hown:w.ownsRow base 104 2 v n (qaB ws)) (hn:ws.length=n) (hl:n<=33554432)
  (hv1:w.cell? ⟨VB,0,none⟩=some (.int .i64 p.1)) (hv2:w.cell? ⟨VB,1,none⟩=some (.int .u64 p.2)) (hbase:base<=w.heap.size):
  ∃ v' w',(Builtin.append_ #[99,99] 99 #[v,.slice (some ⟨VB,0,none⟩) 1 vc]).run Tryz.prog w= .ok v' w'/\qhC w base v (ws++[p]) v' w':=by
 obtain ⟨i0,hi0,hz0,hz1,hz2⟩:=info_parts qu0;have hnew:∀ j u,(qaB [p])[j]?=some u->w.cell? ((⟨VB,0,none⟩:Addr).add j)=some u:=by
  intro j u hu;rw [Addr.add_lit,Nat.zero_add]
  match j,hu with
  |0,hu=>simp [qaB] at hu;subst hu;exact hv1
  |1,hu=>simp [qaB] at hu;subst hu;exact hv2
  |j+2,hu=>simp [qaB] at hu
 have hone:=qh6 [p];have hlen:(ws++[p]).length=n+1:=by simp [hn]
 have e1:qaB (ws++[p])=qaB ws++qaB [p]:=qkO _ _;have hwl:=qgJ ws;rw [hn] at hwl;unfold qhC;rw [hlen,e1];have hown':=hown;rcases hown'.2 with ⟨rfl,rfl⟩|⟨g,cap,cur,rfl,hbg,hg,hnc,hcm,hcs,htake⟩
 ·have h0:w.ownsRow w.heap.size 104 2 (.slice none 0 0) 0 (qaB ws):=⟨hown.1,.inl ⟨rfl,rfl⟩⟩
  obtain ⟨v',w',hr,h2,h3,_⟩:=run_append_own (P:=Tryz.prog) w w.heap.size 99 99 104 i0 _ 2 16 Tryz.underlying99 hi0 hz0 hz1 hz2 rfl (by decide) _ 0 _ h0 ⟨VB,0,none⟩ 1 vc (qaB [p]) rfl hnew hone (by unfold maxLen;omega) (by omega) (Nat.le_refl _);exact ⟨v',w',hr,qbf h2 hbase,h3,fun g hg=> .inr (h2.lt g hg).1⟩
 ·by_cases hroom:n+1<=cap
  ·obtain ⟨w',hr,h2,h3⟩:=run_append_fits (P:=Tryz.prog) w base 99 99 104 i0 2 Tryz.underlying99 hi0 hz1 g n cap _ hown ⟨VB,0,none⟩ 1 vc (qaB [p]) rfl hnew hone hroom
   exact ⟨_,w',hr,h2,h3,fun g' hg'=> .inl hg'⟩
  ·have holds:∀ j u,(qaB ws)[j]?=some u->w.cell? ((⟨g,0,none⟩:Addr).add j)=some u:=hown.cells (g:=g) rfl
   have hr:=run_append_grow (P:=Tryz.prog) w 99 99 104 i0 _ Tryz.underlying99 hi0 hz0 ⟨g,0,none⟩ n cap (qaB ws) (by rw [hz1];exact hwl) holds ⟨VB,0,none⟩ 1 vc (qaB [p]) (by rw [hz1];rfl) hnew (by omega) (by omega) (by rw [hz2];exact growslice_fits (by omega) (by omega));have hge:=grownCap_ge w (n+1) cap 104;have hcm2:=grownCap_le_maxLen w (n+1) cap 104 (by unfold maxLen;omega);refine ⟨_,_,hr,qu1 (heap_alloc_new w.drew _) hbase hge hcm2 ?_ ?_,⟨rfl,rfl,rfl,by simp,fun k hk _=>Below.heap_alloc w.drew _ _ hk⟩,fun g' hg'=> .inr ?_⟩
   ·simp only [Array.size_append,List.size_toArray,size_zeroCells,hwl]
    simp [qaB,Value.cells];omega
   ·simp only [Array.toList_append,List.append_assoc]
    rw [<- List.append_assoc,List.take_append_of_le_length (by simp [hwl,qaB];omega)];exact List.take_of_length_le (by simp [hwl,qaB];omega)
   ·simp [Value.ownBlock] at hg'
    subst hg';exact Nat.le_refl _
end Go.Proofs.YtpehcaidjlemiaaGreatDoor
