import Derived.Test.YtpehcaidjlemiaaGreatDoorMKZz
import Derived.Test.YtpehcaidjlemiaaGreatDoorMKQ12
import Derived.Test.YtpehcaidjlemiaaGreatDoorMKQ06
import Derived.Test.YtpehcaidjlemiaaGreatDoorMKQ05
import Derived.BigCall
import Derived.BigQuiet
import Derived.Deep.QuietTactic
import Derived.Test.YtpehcaidjlemiaaGreatDoorMKQ04
import Derived.Deep.RegionHeld3
import Derived.Deep.AppendLies
import Derived.Test.YtpehcaidjlemiaaGreatDoorMKQ11
import Derived.Test.YtpehcaidjlemiaaGreatDoorMKQ08
import Derived.Test.YtpehcaidjlemiaaGreatDoorMKQ10
import Derived.Test.YtpehcaidjlemiaaGreatDoorMKQ02
import Derived.Shelf.Spec.SlicesInsertGrow
import Derived.Deep.RegionLaw
import Derived.Laws.CopyOwn
set_option maxHeartbeats 8000000
set_option maxRecDepth 100000
set_option linter.unusedVariables false
namespace Go.Proofs.YtpehcaidjlemiaaGreatDoor
open Go Go.RowKit
attribute [local go_sem] Oper.semAt_some
def qff (base B:Nat) (l:List Nm) (W:World):Prop:=∃ v,W.heap[B]?=some (.cells #[v] 40 (0,0))/\qaJ base W v l
theorem qjO {base:Nat} {w:World} {v:Value} {l:List Nm} (h:qaJ base w v l) {k:Nat} {o:Obj} (hk:w.heap[k]?=some o) (ho:o.isCells=false):v.ownBlock≠some k:=by
 intro he;rcases h.2 with ⟨rfl,_⟩|⟨g,cap,cur,rfl,_,hh,_⟩
 ·cases he
 ·simp only [Value.ownBlock,Option.some.injEq] at he
  subst he;rw [hh] at hk;cases hk;cases ho
theorem qff.firm (N base B:Nat) (l:List Nm):qf9 N (qff base B l):=fun W k o o' _ ho hc ⟨v,h1,h2⟩=>by
 have hB:B≠k:=fun e=>by subst e;rw [h1] at ho;injection ho with ho;rw [<- ho] at hc;cases hc
 exact ⟨v,(World.putObj_heap_other hB).trans h1,qat h2 fun g hg=>World.putObj_heap_other fun e=>by subst e;exact qjO h2 ho hc hg⟩
theorem qff.moved {base base' B:Nat} {l:List Nm} {w w':World} (h:qff base B l w) (hm:qdk base' w w'):qff base B l w':=by
 obtain ⟨v,h1,h2⟩:=h;refine ⟨v,hm.keep _ _ h1 (by simp),qat h2 fun g hg=> ?_⟩;rcases h2.2 with ⟨rfl,_⟩|⟨g',cap,cur,rfl,_,hh,_⟩
 ·cases hg
 ·simp only [Value.ownBlock,Option.some.injEq] at hg
  subst hg;rw [hm.keep _ _ hh (by simp),hh]
def qod (w:World) (pre:List Nm) (W:World):Prop:=qff w.heap.size w.heap.size pre W/\Below w.heap.size w W/\pre.length<=134217728
def qu1 (f:Value) (w:World) (x:Nm) (a:Act) (W:World):Prop:=a={tmps:=#[.slice none 0 0,f,.pointer (some ⟨w.heap.size,0,none⟩),undef,.slice none 0 0,kV x,f,kV x,undef,undef,undef,undef,undef],defers:=[]}
def qoe (ks:List Nm) (w:World) (e:Ending) (w':World):Prop:=∃ v ts,e= .returned v/\ts.Perm ks/\qaJ w.heap.size w' v ts/\Below w.heap.size w w'
theorem qu2 (Bx B c:Nat) (m:List qaF) (w:World) (hm:qa8 w B c m) (hc:w.cell? ⟨Bx,0,none⟩=some (.map (some B))) (hl:m.length<=134217727):
  Calls Tryz.prog 156 #[.slice none 0 0,.func (.func 110) #[] #[.pointer (some ⟨Bx,0,none⟩)]] w (qoe (m.map (·.1)) w):=by
 obtain ⟨i0,hi0,hz0,hz1,hz2⟩:=info_parts qeW;refine (callsIn_wide (n:=6)).1 ?_;obtain ⟨w2,hw2⟩:∃ w2,w2=w.alloc (.cells #[.slice none 0 0] 40):=⟨_,rfl⟩;have hb2:Below w.heap.size w w2:=by rw [hw2];exact (Below.refl _ _).alloc (Nat.le_refl _) _
 have hm2:qa8 w2 B c m:=(hb2.block B (Array.getElem?_eq_some_iff.1 hm).1).trans hm;have hc2:=(hb2.cell (p:=⟨Bx,0,none⟩) (World.block_lt_of_cell? w _ hc)).trans hc;have hv2:qff w.heap.size w.heap.size [] w2:=⟨_,by rw [hw2];exact heap_alloc_new w _,qaJ.nil⟩;have hs2:w2.heap.size=w.heap.size+1:=by rw [hw2];simp
 have HT:=qH (quW 5 w.heap.size Bx B c m w2 (by omega) hb2.size hm2 hc2);have HW2:=qH hw2;have HB2:=qH hb2;have HV2:=qH hv2;clear hw2 hb2 hm2 hc2 hv2 hm hc;refine callsIn_of_wp_marks Tryz.func156 rfl trivial ?_ rfl;simp only [Tryz.ntmps156,List.size_toArray,List.length_cons,List.length_nil,Nat.reduceAdd,Nat.reduceSub,Array.replicate_succ,Array.replicate_zero,List.push_toArray,List.append_toArray,List.nil_append,List.cons_append];gi_wp2;rw [<- HW2.out];refine qn3 (by omega) (gf:=110) (lb:=#[.pointer (some ⟨Bx,0,none⟩)]) rfl (enters_of Tryz.func110 (by kernel_rfl) rfl)
  HT.out (fun hb=>qdk.of hb (Nat.le_refl _)) (fun {A B k o} hk hmv ho hnc=>hmv.keep _ _ ho (by rcases hnc with ⟨x,rfl⟩|⟨x,rfl⟩<;>simp))
  (fun h k=>h.trans k) (fun W lp x o' hlp ho=>qcM.loop W lp x o' (by omega) ho) (fun _=>rfl)
  (qod w) (fun s A' B' h hmv=>⟨h.1.moved hmv,h.2.1.trans (hmv.below.mono (by omega)),h.2.2⟩)
  (fun s=>fun W l o o' h1 h2 h3 h=>⟨qff.firm _ _ _ _ W l o o' h1 h2 h3 h.1,Below.firm (by omega) W l o o' h1 h2 h3 h.2.1,h.2.2⟩)
  (fun s x W l o o' _ _ _ h=>h) ⟨HV2.out,HB2.out,by simp⟩
  (qu1 (.func (.func 110) #[] #[.pointer (some ⟨Bx,0,none⟩)]) w) (fun x a' W l o o' _ ho hc h=>h) ?assign ?body ?done
 case assign=>
  intro lp pre x W K' hi hx hK';unfold qhG kV;gi_wp2;exact hK' _ _ rfl hi hx (Below.refl _ _) (qcM.of (Below.refl _ _) hi.2.1.size)
 case body=>
  rintro lp pre x a' W rfl ⟨⟨v,hv,hown⟩,hbw,hpl⟩ hlt;unfold kV;obtain ⟨X,hX⟩:∃ X:ByteArray,X=⟨x.toArray⟩:=⟨_,rfl⟩;rw [<- hX];have hfl:qae [x]=[.string X]:=by rw [hX];rfl
  have cB:=cell_of_one hv;have fB:=free_of_one hv;have hsz:=hbw.size;have hlB:=lt_of_block hv;obtain ⟨k,hk⟩:∃ k,k=pre.length:=⟨_,rfl⟩;have ho1:W.ownsRow w.heap.size 9 1 v k (qae pre):=by rw [hk];exact hown
  have hkl:k<=134217727:=by omega
  have HO:=qH ho1;have HOW:=qH hown;have HV:=qH hv;have HBW:=qH hbw;have HK:=qH hk;have HFL:=qH hfl;have HLT:=qH hlt;clear hv hown hbw ho1 hk hfl hX hlt hpl
  gi_wp2_with (gi_at_builtin;refine wpListIn_append_own _ rfl (.tmp 8) (.tmp 10) 40 rfl w.heap.size 9 i0 _ 1 16 Tryz.underlying40 hi0 hz0 hz1 hz2 rfl (by omega) _ k (qae pre) rfl (HO.out.alloc _) ⟨W.heap.size,0,none⟩ 1 1 [.string X] rfl rfl (qaN W [.string X] 9) (by intro u hu;simp at hu;subst hu;rfl) (by unfold maxLen;omega) (by omega) (by simp;omega) ?_)
  intro v' w4 hown4 hgrow4 hz4;clear hz4;obtain ⟨g',cap',hv',_,_⟩:=hown4.form (by omega);have hne:=qai HOW.out HV.out (by decide);have hal:Below W.heap.size W (W.alloc (.cells #[.string X] 9)):=(Below.refl _ _).alloc (Nat.le_refl _) _;have hv4:w4.heap[w.heap.size]?=some (.cells #[v] 40 (0,0)):=(hgrow4.block _ (by simp;omega) (fun e=>hne e.symm)).trans ((hal.block _ hlB).trans HV.out);have cB4:=cell_of_one hv4;have fB4:=free_of_one hv4;have hne':=qai hown4 hv4 (by decide);have hs4:W.heap.size<=w4.heap.size:=Nat.le_trans hal.size hgrow4.size;have hkeep:∀ (j:Nat),j<W.heap.size->j≠w.heap.size->v.ownBlock≠some j->(w4.setCell ⟨w.heap.size,0,none⟩ v').heap[j]?=W.heap[j]?:=fun j h1 h2 h3=>by
   rw [Below.heap_setCell _ _ _ _ h2,hgrow4.block j (Nat.lt_of_lt_of_le h1 hal.size) (fun e=>h3 e.symm),hal.block j h1]
  have hnc:∀ (j:Nat) (o:Obj),W.heap[j]?=some o->o.isCells=false->(w4.setCell ⟨w.heap.size,0,none⟩ v').heap[j]?=some o:=fun j o h1 h2=>by
   rw [hkeep j (Array.getElem?_eq_some_iff.1 h1).1 (fun e=> ?_) (qjO HOW.out h1 h2),h1];subst e;have :=HV.out;rw [this] at h1;injection h1 with h1
   rw [<- h1] at h2;cases h2
  have hbl:Below w.heap.size W (w4.setCell ⟨w.heap.size,0,none⟩ v'):=⟨hgrow4.os,hgrow4.tape,hgrow4.output,by simpa using hs4,fun j hj=>hkeep j (by omega) (by omega) (fun e=>by have :=(HO.out.lt j e).1;omega)⟩;have hin:qod w (pre++[x]) (w4.setCell ⟨w.heap.size,0,none⟩ v'):=by
   refine ⟨⟨v',one_setCell hv4,?_⟩,HBW.out.trans hbl,by rw [List.length_append,List.length_singleton,<- HK.out];omega⟩;have :=ownsRow_setCell_other hown4 (show v'.ownBlock≠some (⟨w.heap.size,0,none⟩:Addr).block from hne') v'
   unfold qaJ;rw [List.length_append,List.length_singleton,<- HK.out,qiG,HFL.out];exact this
  have HKO:Hid (KeepsOthers W (w4.setCell ⟨w.heap.size,0,none⟩ v')):=qH ⟨by simpa using hs4,hnc⟩;have HKP:Hid (qcM w.heap.size W (w4.setCell ⟨w.heap.size,0,none⟩ v')):=qH ⟨hbl,fun j o h1 h2=>hnc j o h1 (by rcases h2 with ⟨_,_,_,_,rfl⟩|⟨_,_,rfl⟩<;>rfl)⟩
  have HIN:=qH hin;subst hv';clear hkeep hnc hbl hin hne hne' hal hv4 hgrow4 hown4;gi_wp2;exact ⟨HKO.out,HKP.out,HIN.out⟩
 case done=>
  rintro D' ys W hD2 hys ⟨⟨v,hv,hown⟩,hbw,_⟩ hK';have cB:=cell_of_one hv;have HO:=qH hown;have HBW:=qH hbw;have HV:=qH hv;have HYS:=qH hys;clear hys hown hbw hv;gi_wp2;refine ⟨by simp,.inl ⟨_,_,rfl,run_takeDeferred hK',?_⟩⟩;refine ⟨_,results_tmp rfl _ _ _,?_⟩;refine ⟨v,ys,rfl,HYS.out,qat HO.out fun g hg=>World.putObj_heap_other fun e=> ?_,Below.firm (by omega) W D' _ (.deferred none) hD2 hK' rfl HBW.out⟩;subst e;exact qjO HO.out hK' rfl hg
theorem qu3 (Bx B c:Nat) (m:List qaF) (w:World) (hm:qa8 w B c m) (hc:w.cell? ⟨Bx,0,none⟩=some (.map (some B))) (hl:m.length<=134217727):
  Calls Tryz.prog 108 #[.func (.func 110) #[] #[.pointer (some ⟨Bx,0,none⟩)]] w (qoe (m.map (·.1)) w):=by
 have HA:=qH (qu2 Bx B c m w hm hc hl);clear hm hc
 go_enter Tryz.func108,Tryz.ntmps108
 go_wp2_with (go_at_call 156;(with_reducible refine HA.out.mono ?_);rintro e w' ⟨v,ts,rfl,hp,ho,hb⟩)
 go_ret;exact ⟨v,ts,rfl,hp,ho,hb⟩
theorem qu4 (Bx B c:Nat) (m:List qaF) (l:List En) (w:World) (hm:qa8 w B c m) (hc:w.cell? ⟨Bx,0,none⟩=some (.map (some B))) (hl:m.length<=134217727) (hk:(m.map (·.1)).Perm (qag l)):
    Calls Tryz.prog 66 #[.func (.func 110) #[] #[.pointer (some ⟨Bx,0,none⟩)]] w (qe0 (qag l) w):=by
  have HA:=qH (qu3 Bx B c m w hm hc hl);have hks:(m.map (·.1)).length<=134217727:=by simpa using hl
  have HK:=qH hk;obtain ⟨ks,hk2⟩:∃ ks,ks=m.map (·.1):=⟨_,rfl⟩;rw [<- hk2] at hks HA HK;clear hm hc hk hk2
  go_enter Tryz.func66,Tryz.ntmps66
  go_wp2_with (first
    | (go_at_call 108; (with_reducible refine HA.out.mono ?_); rintro e w1 ⟨v, ts, rfl, hp, ho, hb⟩
       have hlt:ts.length<=134217727:=by rw [hp.length_eq];exact hks
       have HS:=qH (qu0 w.heap.size v ts w1 ho hb.size (by omega));have HP:=qH hp;have HB:=qH hb;clear hp ho hb)
    |(go_at_call 109;(with_reducible refine HS.out.mono ?_);rintro e w2 ⟨rfl,ho2,hb2⟩))
  go_ret;rw [qs6 (HP.out.trans HK.out)] at ho2;exact ⟨v,rfl,ho2,HB.out.trans hb2⟩
theorem qhH (w:World) (m:Nat):Below w.heap.size w (w.drewN m):=⟨rfl,rfl,rfl,Nat.le_refl _,fun _ _=>rfl⟩
def qbH (w:World) (id:Int) (A:Option Addr) (n c:Nat):World:=w.alloc (.cells #[.int .i64 id,.slice A n c] 59)
theorem qga {w wr:World} {id:Int} {A:Option Addr} {n c:Nat} (h:Below (qbH w id A n c).heap.size (qbH w id A n c) wr):
  wr.cell? ⟨w.heap.size,0,none⟩=some (.int .i64 id)/\wr.cell? ⟨w.heap.size,1,none⟩=some (.slice A n c):=by
 have hb:wr.heap[w.heap.size]?=some (.cells #[.int .i64 id,.slice A n c] 59 (0,0)):=(h.block w.heap.size (by simp [qbH])).trans (heap_alloc_new w _);exact ⟨by simp [World.cell?,hb],by simp [World.cell?,hb]⟩
theorem qgb (w:World) (id:Int) (A:Option Addr) (n c:Nat):Below w.heap.size w (qbH w id A n c):=(Below.refl _ w).alloc (Nat.le_refl _) _
theorem qjP (w:World) (id:Int) (A:Option Addr) (n c:Nat):(qbH w id A n c).heap.size=w.heap.size+1:=by simp [qbH]
theorem qof {w wr:World} {id:Int} {A:Option Addr} {n c:Nat} (h:Below (qbH w id A n c).heap.size (qbH w id A n c) wr):Below w.heap.size w wr:=
 (qgb w id A n c).trans (h.mono (by rw [qjP];omega))
def qhI (a:List Tm) (s:Nm) (ws:List Nm):List Tm:=ws.foldl (fun b x=>qds b (s,x)) a
def qfg (l:List Fd) (k:Nat):List Tm:=(l.take k).foldl (fun a f=>qhI a f.1 (qcy l f.1)) []
theorem qu5 {l:List Fd} {k:Nat} (hk:k<l.length):qfg l (k+1)=qhI (qfg l k) l[k].1 (qcy l l[k].1):=by
 unfold qfg;rw [List.take_succ_eq_append_getElem hk,List.foldl_append];rfl
theorem qjQ (l:List Fd):qfg l l.length=qaz l:=by rw [qfg,List.take_length];rfl
theorem qu6 (l:List Tm) (t:Tm):(qds l t).length<=l.length+1:=by
 have :=qg9 l t l.length;unfold qds;split
 ·omega
 ·simp only [List.length_append,List.length_take,List.length_cons,List.length_drop]
  omega
theorem qog (s:Nm):∀ (ws:List Nm) (a:List Tm),(qhI a s ws).length<=a.length+ws.length
 |[],a=>Nat.le_refl _
 |x::ws,a=>by
  have h1:=qu6 a (s,x);have h2:=qog s ws (qds a (s,x));simp only [List.length_cons];show (qhI (qds a (s,x)) s ws).length<=_;omega
theorem qhJ {l:List Fd} {M:Nat} (hw:∀ s,(qcy l s).length<=M):∀ k,k<=l.length->(qfg l k).length<=k*M
 |0,_=>by simp [qfg]
 |k+1,hk=>by
  have h1:=qhJ hw k (by omega);have h2:=qog (l[k]'(by omega)).1 (qcy l (l[k]'(by omega)).1) (qfg l k);have h3:=hw (l[k]'(by omega)).1;rw [qu5 (by omega),Nat.succ_mul];omega
section
variable {S:Nat->Prop} {w:World} {B:Nat} {l:List En} {up:Int}
theorem qu7 {l:List En} (hg:qcP l) (hn:l.length<=1000):(qag l).length<=4000000:=by
 have h1:=qhf (l:=l) (a:=[]) (M:=4000) fun q hq=>by
  have h:=hg q hq;have h1:=qhJ (l:=q.2.1) (M:=500) h.wordsS q.2.1.length (Nat.le_refl _);rw [qjQ] at h1;exact Nat.le_trans h1 (Nat.le_trans (Nat.mul_le_mul_right _ h.len) (by omega))
 have h2:l.length*4000<=1000*4000:=Nat.mul_le_mul_right _ hn;have h3:(qag l).length<=l.length*4000+([]:List Nm).length:=h1;simp only [List.length_nil] at h3;omega
theorem qu8 (h:qcL S w B l up) (hn:l.length<=1000):Calls Tryz.prog 31 #[.pointer (some ⟨B,0,none⟩)] w (qe0 (qag l) w):=by
  obtain ⟨v,M,c,g,h⟩:=h;obtain ⟨c0,c1,c2,c3,_⟩:=qcg h.cells;obtain ⟨m,hm,hk,hl⟩:=h.map.keys;have hp:(m.map (·.1)).Perm (qag l):=by rw [hk];exact h.stand.perm
  have hlen:m.length<=134217727:=by rw [hl,h.stand.length];have :=qu7 h.good hn;omega
  have HM:=qH hm;have HP:=qH hp;clear h hm hk hl hp
  go_enter Tryz.func31,Tryz.ntmps31
  go_wp2_with (first
    | (go_at_call 67; (with_reducible refine (quV M w).mono ?_); rintro e w1 ⟨rfl, hw1⟩
       have hb1:Below w.heap.size w w1:=by rw [hw1];exact (Below.refl _ _).alloc (Nat.le_refl _) _
       have hc1:w1.cell? ⟨w.heap.size,0,none⟩=some (.map (some M)):=by rw [hw1];simp
       have hm1:qa8 w1 M c m:=(hb1.block M (Array.getElem?_eq_some_iff.1 HM.out).1).trans HM.out;have HS:=qH (qu4 w.heap.size M c m l w1 hm1 hc1 hlen HP.out);have HB1:=qH hb1;clear hw1 hb1 hc1 hm1)
    |(go_at_call 66;(with_reducible refine HS.out.mono ?_);rintro e w2 ⟨v2,rfl,ho2,hb2⟩))
  go_ret;exact ⟨_,rfl,ho2.low HB1.out.size,HB1.out.trans (hb2.mono HB1.out.size)⟩
end
theorem qjR {d:List Fd} (h:qdu d):(qaz d).length<=4000:=by
 have h1:=qhJ (l:=d) (M:=500) h.wordsS d.length (Nat.le_refl _);rw [qjQ] at h1;exact Nat.le_trans h1 (Nat.le_trans (Nat.mul_le_mul_right _ h.len) (by omega))
structure qch (G:List En):Prop where
 may:∀ q∈G,qbh q.2.1=0/\∀ f∈q.2.1,f.1.length<=1024/\f.2.length<=1024
 rise:qak (-1) (G.map (·.2.2))=true
 few:G.length<=100
theorem qch.good {G:List En} (h:qch G):qcP G:=fun q hq=>qiN (h.may q hq).1 fun f hf=>((h.may q hq).2 f hf).2
theorem qoh {key:Nm} {p:Pn}:∀ {l:List En} {i:Nat},p∈qal i l key->(i:Int)<=p.1/\p.1<(i+l.length:Nat)
 |[],i,h=>by simp [qal] at h
 |q::l,i,h=>by
  rw [qal] at h;rcases List.mem_append.1 h with h|h
  ·unfold qb0 at h
   obtain ⟨t,_,rfl⟩:=List.mem_map.1 h;simp only [List.length_cons];omega
  ·have :=qoh h
   simp only [List.length_cons];omega
theorem qu9 {l:List En} {key:Nm} (h:key∈qag l):0<(qal 0 l key).length:=by
 obtain ⟨q,hq,t,ht,e⟩:=qeE.1 h;exact qi2 ⟨q,hq,t,ht,e⟩
theorem qoi {G:List En} (h:qch G):qd0 (qad G)=true:=by
 refine qfc.2 ⟨by simp [qad],by simp [qad],h.rise,qfT.2 (qgz G),fun l hl=> ?_⟩;obtain ⟨key,hk,rfl⟩:=List.mem_map.1 hl;have hn:(qad G).ids.length=G.length:=by simp [qad]
 have hp:=qu9 hk;have hm:=qi5 (key:=key) (i:=0) (last:= -1) h.good (by omega) (by have :=h.few;omega);unfold qcz;rw [hm,hn,Bool.true_and,Bool.and_eq_true,decide_eq_true_iff,decide_eq_true_iff];refine ⟨by omega,fun p hp'=> ?_⟩;have :=(qoh (List.mem_of_getLast? hp')).2;simpa using this
theorem qoj {G:List En} (h:qch G):(qag G).length<=400000:=by
 have h1:=qhf (l:=G) (a:=[]) (M:=4000) fun q hq=>qjR (h.good q hq)
 have h2:(qag G).length<=G.length*4000+([]:List Nm).length:=h1;have :=h.few;simp only [List.length_nil] at h2;omega
theorem qjS {G:List En} (h:qch G):qf8 (qad G):=by
 refine ⟨by have :=h.few;simp [qad];omega,by have :=qoj h;simp only [qad];omega,fun l hl=> ?_⟩;obtain ⟨key,hk,rfl⟩:=List.mem_map.1 hl;have h1:=qgC h.good (key:=key) G 0 (fun q hq=>hq);have h2:=qns (l:=qal 0 G key) (n:=500) fun p hp=>(qi3 h.good p hp).2
 have :=h.few;exact ⟨by omega,by omega⟩
theorem qok {G:List En} (h:qch G):qjH (qad G):=by
 have hs:=qjS h;have hk:=hs.keys;have hi:=hs.ids;refine ⟨by omega,by simp [qad] at hi ⊢;omega,by omega,by simp [qad] at hk ⊢;omega,fun l hl=>⟨by have :=(hs.lists l hl).1;omega,fun p hp=> ?_⟩⟩;obtain ⟨key,hk,rfl⟩:=List.mem_map.1 hl;have :=(qi3 h.good p hp).2;omega
open Go.Lib
open Plain (Wd WS Rep qax qcW getW)
theorem qjT:(Tryz.prog.info? 104).map (fun i=>(i.zero,i.size,i.bytes))=some (some (.agg #[.int .i64 0,.int .u64 0]),2,16):=by kernel_rfl
def qfh (w:World) (base:Nat) (v:Value) (ws:List Wd) (v':Value) (w':World):Prop:=
 w'.ownsRow base 104 2 v' ws.length (qaa ws)/\w.grownBy w' v.ownBlock/\∀ g,v'.ownBlock=some g->v.ownBlock=some g∨w.heap.size<=g
theorem qva {w:World} {base g n c:Nat} {ws:List Wd} (h:w.ownsRow base 104 2 (.slice (some ⟨g,0,none⟩) n c) n (qaa ws)):
  ∃ cur:Array Value,base<=g/\w.heap[g]?=some (.cells cur 104 (0,0))/\n<=c/\c<=maxLen/\cur.size=c*2/\cur.toList.take (n*2)=qaa ws:=by
 rcases h.2 with ⟨h',_⟩|⟨g',cap',cur,h',hb,hg,hnc,hcm,hcs,htake⟩
 ·simp at h'
 ·simp only [Value.slice.injEq,Option.some.injEq,Addr.mk.injEq,and_true,true_and] at h'
  obtain ⟨rfl,rfl⟩:=h';exact ⟨cur,hb,hg,hnc,hcm,hcs,htake⟩
theorem qjU {w:World} {base g n c:Nat} {cur:Array Value} {xs:List Value} {e:TypeId} (hg:w.heap[g]?=some (.cells cur e (0,0))) (hb:base<=g) (hn:n<=c) (hc:c<=maxLen) (hs:cur.size=c*2) (hx:cur.toList.take (n*2)=xs):
  w.ownsRow base e 2 (.slice (some ⟨g,0,none⟩) n c) n xs:=by
 refine ⟨?_,.inr ⟨g,c,cur,rfl,hb,hg,hn,hc,hs,hx⟩⟩;rw [<- hx,List.length_take,Array.length_toList,hs];omega
theorem qvb (w:World) (base:Nat) (v:Value) (n:Nat) (ws:List Wd) (p:Wd) (VB vc:Nat) (hown:w.ownsRow base 104 2 v n (qaa ws)) (hn:ws.length=n) (hl:n<=33554432)
  (hv1:w.cell? ⟨VB,0,none⟩=some (.int .i64 p.1)) (hv2:w.cell? ⟨VB,1,none⟩=some (.int .u64 p.2)) (hbase:base<=w.heap.size):
  ∃ v' w',(Builtin.append_ #[99,99] 99 #[v,.slice (some ⟨VB,0,none⟩) 1 vc]).run Tryz.prog w= .ok v' w'/\qfh w base v (ws++[p]) v' w':=by
 obtain ⟨i0,hi0,hz0,hz1,hz2⟩:=info_parts qjT;have hnew:∀ j u,(qaa [p])[j]?=some u->w.cell? ((⟨VB,0,none⟩:Addr).add j)=some u:=by
  intro j u hu;rw [Addr.add_lit,Nat.zero_add]
  match j,hu with
  |0,hu=>simp [qaa] at hu;subst hu;exact hv1
  |1,hu=>simp [qaa] at hu;subst hu;exact hv2
  |j+2,hu=>simp [qaa] at hu
 have hone:=qfq [p];have hlen:(ws++[p]).length=n+1:=by simp [hn]
 have e1:qaa (ws++[p])=qaa ws++qaa [p]:=qgj _ _;have hwl:=qed ws;rw [hn] at hwl;unfold qfh;rw [hlen,e1];have hown':=hown;rcases hown'.2 with ⟨rfl,rfl⟩|⟨g,cap,cur,rfl,hbg,hg,hnc,hcm,hcs,htake⟩
 ·have h0:w.ownsRow w.heap.size 104 2 (.slice none 0 0) 0 (qaa ws):=⟨hown.1,.inl ⟨rfl,rfl⟩⟩
  obtain ⟨v',w',hr,h2,h3,_⟩:=run_append_own (P:=Tryz.prog) w w.heap.size 99 99 104 i0 _ 2 16 Tryz.underlying99 hi0 hz0 hz1 hz2 rfl (by decide) _ 0 _ h0 ⟨VB,0,none⟩ 1 vc (qaa [p]) rfl hnew hone (by unfold maxLen;omega) (by omega) (Nat.le_refl _);exact ⟨v',w',hr,qbk h2 hbase,h3,fun g hg=> .inr (h2.lt g hg).1⟩
 ·by_cases hroom:n+1<=cap
  ·obtain ⟨w',hr,h2,h3⟩:=run_append_fits (P:=Tryz.prog) w base 99 99 104 i0 2 Tryz.underlying99 hi0 hz1 g n cap _ hown ⟨VB,0,none⟩ 1 vc (qaa [p]) rfl hnew hone hroom
   exact ⟨_,w',hr,h2,h3,fun g' hg'=> .inl hg'⟩
  ·have holds:∀ j u,(qaa ws)[j]?=some u->w.cell? ((⟨g,0,none⟩:Addr).add j)=some u:=hown.cells (g:=g) rfl
   have hr:=run_append_grow (P:=Tryz.prog) w 99 99 104 i0 _ Tryz.underlying99 hi0 hz0 ⟨g,0,none⟩ n cap (qaa ws) (by rw [hz1];exact hwl) holds ⟨VB,0,none⟩ 1 vc (qaa [p]) (by rw [hz1];rfl) hnew (by omega) (by omega) (by rw [hz2];exact growslice_fits (by omega) (by omega));have hge:=grownCap_ge w (n+1) cap 104;have hcm2:=grownCap_le_maxLen w (n+1) cap 104 (by unfold maxLen;omega);refine ⟨_,_,hr,qjU (heap_alloc_new w.drew _) hbase hge hcm2 ?_ ?_,⟨rfl,rfl,rfl,by simp,fun k hk _=>Below.heap_alloc w.drew _ _ hk⟩,fun g' hg'=> .inr ?_⟩
   ·simp only [Array.size_append,List.size_toArray,size_zeroCells,hwl]
    simp [qaa,Value.cells];omega
   ·simp only [Array.toList_append,List.append_assoc]
    rw [<- List.append_assoc,List.take_append_of_le_length (by simp [hwl,qaa];omega)];exact List.take_of_length_le (by simp [hwl,qaa];omega)
   ·simp [Value.ownBlock] at hg'
    subst hg';exact Nat.le_refl _
theorem qhK (w:World) (g o dLen dCap:Nat) (a:Addr) (sLen sCap:Nat) (cur:Array Value) (cs:List Value) (n:Nat)
  (hg:w.heap[g]?=some (.cells cur 104 (0,0))) (hn:n=Nat.min sLen dLen) (hl:cs.length=n*2)
  (hsrc:∀ j v,cs[j]?=some v->w.cell? (a.add j)=some v) (hfit:o+cs.length<=cur.size) (h1:∀ v∈cs,v.oneCell'=true):
  (Builtin.copy_ #[99,99] 3 #[.slice (some ⟨g,o,none⟩) dLen dCap,.slice (some a) sLen sCap]).run Tryz.prog w=
   .ok (goInt n) (w.setRow g (splice cur.toList o cs).toArray):=by
 obtain ⟨i0,hi0,hz0,hz1,hz2⟩:=info_parts qjT;have hld:=run_loadCells_list (P:=Tryz.prog) w a cs hsrc;have hst:=run_storeCells_at Tryz.prog g o 104 cs 0 cur w hg (by simpa using hfit) h1;have e:splice cur.toList o cs=cur.toList.take o++cs++cur.toList.drop (o+cs.length):=by simp [splice]
 rw [e];rw [hl] at hld;simp only [Nat.add_zero] at hst;simp [Builtin.copy_,run_underlying Tryz.underlying99,Builtin.lenOf,Builtin.firstCells,sizeOf,typeInfo,hi0,hz1,<- hn,hld,hst]
def qhL (w:World) (base:Nat) (v:Value) (ws:List Wd) (e:Ending) (w':World):Prop:=∃ v',e= .returned v'/\qfh w base v ws v' w'
theorem qvc (w:World) (base:Nat) (A:Option Addr) (n c:Nat) (ws:List Wd) (p:Wd) (VB vc:Nat) (hown:w.ownsRow base 104 2 (.slice A n c) n (qaa ws)) (hn:ws.length=n) (hl:n<=33554432)
  (hv1:w.cell? ⟨VB,0,none⟩=some (.int .i64 p.1)) (hv2:w.cell? ⟨VB,1,none⟩=some (.int .u64 p.2)) (hbase:base<=w.heap.size):
  Calls Tryz.prog 74 #[.slice A n c,.int .i64 n,.slice (some ⟨VB,0,none⟩) 1 vc] w (qhL w base (.slice A n c) (ws++[p])):=by
 obtain ⟨v',w',hr,hgot⟩:=qvb w base _ n ws p VB vc hown hn hl hv1 hv2 hbase;have HR:=qH hr;have HG:=qH hgot;have parts:(A=none/\n=0/\c=0)∨∃ g,A=some ⟨g,0,none⟩/\n<=c/\c<=maxLen:=by
  rcases hown.2 with ⟨hv,h0⟩|⟨g,cap,cur,hv,_,_,hnc,hcm,_⟩
  ·injection hv with h1 h2 h3
   exact .inl ⟨h1,h0,h3⟩
  ·injection hv with h1 h2 h3
   subst h3;exact .inr ⟨g,h1,hnc,hcm⟩
 clear hr hgot hown;rcases parts with ⟨rfl,rfl,rfl⟩|⟨g,rfl,hnc,hcm⟩
 ·go_enter Tryz.func74,Tryz.ntmps74
  go_wp2_with (at_builtin;refine Lib.wpList_append_run _ rfl _ _ _ _ rfl _ _ rfl rfl _ _ HR.out ?_)
  go_ret;exact ⟨_,rfl,HG.out⟩
 ·unfold maxLen at hcm
  by_cases hcn:c=n
  ·subst hcn
   go_enter Tryz.func74,Tryz.ntmps74
   go_wp2_with (at_builtin;refine Lib.wpList_append_run _ rfl _ _ _ _ rfl _ _ rfl rfl _ _ HR.out ?_)
   go_ret;exact ⟨_,rfl,HG.out⟩
  ·go_enter Tryz.func74,Tryz.ntmps74
   go_wp2_with (at_builtin;refine Lib.wpList_append_run _ rfl _ _ _ _ rfl _ _ rfl rfl _ _ HR.out ?_)
   go_ret;exact ⟨_,rfl,HG.out⟩
theorem qhM {α:Type} (A X Z:List α) (k:Nat) (hk:A.length=k):splice (A++Z) k X=A++(X++Z.drop X.length):=by
 subst hk;unfold splice;rw [List.take_left,<- List.drop_drop,List.drop_left]
theorem qvd (w:World) (base g n k:Nat) (ws:List Wd) (p:Wd) (VB vc:Nat) (hown:w.ownsRow base 104 2 (.slice (some ⟨g,0,none⟩) n n) n (qaa ws)) (hn:ws.length=n) (hl:n<=33554432) (hk:k<n)
  (hv1:w.cell? ⟨VB,0,none⟩=some (.int .i64 p.1)) (hv2:w.cell? ⟨VB,1,none⟩=some (.int .u64 p.2)) (hbase:base<=w.heap.size):
  Calls Tryz.prog 74 #[.slice (some ⟨g,0,none⟩) n n,.int .i64 k,.slice (some ⟨VB,0,none⟩) 1 vc] w (qhL w base (.slice (some ⟨g,0,none⟩) n n) (ws.take k++p::ws.drop k)):=by
 obtain ⟨i0,hi0,hz0,hz1,hz2⟩:=info_parts qjT;have hwl:=qed ws;rw [hn] at hwl;have holds:∀ j u,(qaa ws)[j]?=some u->w.cell? ⟨g,j,none⟩=some u:=fun j u hu=>by have :=hown.cells (g:=g) rfl j u hu;rwa [Addr.add_lit,Nat.zero_add] at this
 have hgw:=(hown.lt g rfl).2;have htk:(qaa (ws.take k)).length=k*2:=by rw [qed,List.length_take];omega
 have hold:(Builtin.firstCells i0.size k (.slice (some ⟨g,0,none⟩) k n)).run Tryz.prog w.drew= .ok (qaa (ws.take k)).toArray w.drew:=by
  rw [hz1];exact run_firstCells_some w.drew 2 k ⟨g,0,none⟩ k n _ htk (fun j v hj=>by
   rw [Addr.add_lit,Nat.zero_add];rw [qkZ,List.getElem?_take] at hj;split at hj
   ·exact holds j v hj
   ·cases hj)
 have hr:=Lib.run_append_grow_zeros (P:=Tryz.prog) w 99 3 99 104 i0 _ .i64 .i64 Tryz.underlying99 Tryz.underlying3 hi0 hz0 (some ⟨g,0,none⟩) k n (qaa (ws.take k)) hold (n+1-k) (by omega) (by omega) (by omega) (by omega) (by rw [hz2];omega) (by rw [hz2];exact growslice_fits (by omega) (by omega));rw [show k+(n+1-k)=n+1 by omega] at hr;rw [show ((n+1-k:Nat):Int)=(n:Int)+1-(k:Int) by omega] at hr;have hge:=grownCap_ge w (n+1) n 104;have hcm2:=grownCap_le_maxLen w (n+1) n 104 (by unfold maxLen;omega);obtain ⟨G,hG⟩:∃ G,G=grownCap w (n+1) n 104:=⟨_,rfl⟩;rw [<- hG] at hr hge hcm2;obtain ⟨Z,hZ⟩:∃ Z:List Value,Z=(Builtin.zeroCells (Value.agg #[.int .i64 0,.int .u64 0]).cells (n+1-k)++Builtin.zeroCells (Value.agg #[.int .i64 0,.int .u64 0]).cells (G-(n+1))).toList:=⟨_,rfl⟩;have hZl:Z.length=(G-k)*2:=by
  rw [hZ,Array.length_toList,Array.size_append,size_zeroCells,size_zeroCells];simp [Value.cells];omega
 have hrow:(qaa (ws.take k)).toArray++Builtin.zeroCells (Value.agg #[.int .i64 0,.int .u64 0]).cells (n+1-k)++Builtin.zeroCells (Value.agg #[.int .i64 0,.int .u64 0]).cells (G-(n+1))=(qaa (ws.take k)++Z).toArray:=by
  rw [hZ];apply Array.toList_inj.1;simp
 rw [hrow] at hr;clear hrow hZ hold hG hgw;obtain ⟨W1,hW1⟩:∃ W1,W1=w.drew.alloc (.cells (qaa (ws.take k)++Z).toArray 104):=⟨_,rfl⟩;rw [<- hW1] at hr;have HR:=qH hr;clear hr;have hcm3:=hcm2;unfold maxLen at hcm3;have hN1:W1.heap[w.heap.size]?=some (.cells (qaa (ws.take k)++Z).toArray 104 (0,0)):=by rw [hW1];exact heap_alloc_new w.drew _
 have hO1:∀ j,j<w.heap.size->W1.heap[j]?=w.heap[j]?:=fun j hj=>by rw [hW1];exact Below.heap_alloc w.drew _ _ hj
 have hS1:W1.heap.size=w.heap.size+1/\W1.os=w.os/\W1.tape=w.tape/\W1.output=w.output:=by rw [hW1];exact ⟨by simp,rfl,rfl,rfl⟩
 clear hW1;have hVlt:VB<w.heap.size:=World.block_lt_of_cell? w _ hv1;have hpc:∀ j u,(qaa [p])[j]?=some u->W1.cell? ((⟨VB,0,none⟩:Addr).add j)=some u:=by
  intro j u hu;rw [Addr.add_lit,Nat.zero_add,World.cell?_of_block (w:=w) (hO1 VB hVlt)]
  match j,hu with
  |0,hu=>simp [qaa] at hu;subst hu;exact hv1
  |1,hu=>simp [qaa] at hu;subst hu;exact hv2
  |j+2,hu=>simp [qaa] at hu
 have hcA:=qhK W1 w.heap.size (k*2) (n+1-k) (G-k) ⟨VB,0,none⟩ 1 vc _ (qaa [p]) 1 hN1 (by show 1=min 1 (n+1-k);omega) rfl hpc (by simp [htk,hZl,qaa];omega) (qfq [p]);rw [show (qaa (ws.take k)++Z).toArray.toList=qaa (ws.take k)++Z from rfl,qhM _ _ _ _ htk] at hcA
 have hN2:=setRow_heap W1 w.heap.size _ (qaa (ws.take k)++(qaa [p]++Z.drop (qaa [p]).length)).toArray _ _ hN1;have hO2:∀ j,j<w.heap.size->(W1.setRow w.heap.size (qaa (ws.take k)++(qaa [p]++Z.drop (qaa [p]).length)).toArray).heap[j]?=w.heap[j]?:=fun j hj=>by rw [setRow_other _ _ _ _ (by omega)];exact hO1 j hj
 obtain ⟨W2,hW2⟩:∃ W2,W2=W1.setRow w.heap.size (qaa (ws.take k)++(qaa [p]++Z.drop (qaa [p]).length)).toArray:=⟨_,rfl⟩;have hS2:W2.heap.size=w.heap.size+1/\W2.os=w.os/\W2.tape=w.tape/\W2.output=w.output:=by rw [hW2];exact ⟨by simp [World.setRow,hS1.1],hS1.2.1,hS1.2.2.1,hS1.2.2.2⟩
 rw [<- hW2] at hcA hN2 hO2;clear hW2 hN1 hO1 hS1 hpc;have hgw:=(hown.lt g rfl).2;have hdk:(qaa (ws.drop k)).length=(n-k)*2:=by rw [qed,List.length_drop,hn]
 have hsrc:∀ j u,(qaa (ws.drop k))[j]?=some u->W2.drew.cell? ((⟨g,k*2,none⟩:Addr).add j)=some u:=by
  intro j u hu;rw [Addr.add_lit,World.cell?_of_block (w:=w) (w':=W2.drew) (hO2 g hgw)];rw [qic,List.getElem?_drop] at hu;exact holds _ u hu
 have hA2:(qaa (ws.take k)++qaa [p]).length=(k+1)*2:=by rw [List.length_append,htk];simp [qaa];omega
 have hcB:=qhK W2.drew w.heap.size ((k+1)*2) (n+1-(k+1)) (G-(k+1)) ⟨g,k*2,none⟩ (n-k) (n-k) _ (qaa (ws.drop k)) (n-k) hN2 (by show n-k=min (n-k) (n+1-(k+1));omega) hdk hsrc (by simp [htk,hZl,hdk,qaa];omega) (qfq _);rw [show (qaa (ws.take k)++(qaa [p]++Z.drop (qaa [p]).length)).toArray.toList=(qaa (ws.take k)++qaa [p])++Z.drop (qaa [p]).length by simp,qhM _ _ _ _ hA2] at hcB;have hN3:=setRow_heap W2.drew w.heap.size _ ((qaa (ws.take k)++qaa [p])++(qaa (ws.drop k)++(Z.drop (qaa [p]).length).drop (qaa (ws.drop k)).length)).toArray _ _ hN2;have hO3:∀ j,j<w.heap.size->(W2.drew.setRow w.heap.size ((qaa (ws.take k)++qaa [p])++(qaa (ws.drop k)++(Z.drop (qaa [p]).length).drop (qaa (ws.drop k)).length)).toArray).heap[j]?=w.heap[j]?:=fun j hj=>by rw [setRow_other _ _ _ _ (by omega)];exact hO2 j hj
 obtain ⟨W3,hW3⟩:∃ W3,W3=W2.drew.setRow w.heap.size ((qaa (ws.take k)++qaa [p])++(qaa (ws.drop k)++(Z.drop (qaa [p]).length).drop (qaa (ws.drop k)).length)).toArray:=⟨_,rfl⟩;have hS3:W3.heap.size=w.heap.size+1/\W3.os=w.os/\W3.tape=w.tape/\W3.output=w.output:=by rw [hW3];exact ⟨by simp [World.setRow,hS2.1],hS2.2.1,hS2.2.2.1,hS2.2.2.2⟩
 rw [<- hW3] at hcB hN3 hO3;clear hW3 hN2 hO2 hS2 hsrc;have hws:(ws.take k++p::ws.drop k).length=n+1:=by simp;omega
 have hfin:qfh w base (.slice (some ⟨g,0,none⟩) n n) (ws.take k++p::ws.drop k) (.slice (some ⟨w.heap.size,0,none⟩) (n+1) G) W3:=by
  unfold qfh;rw [hws];refine ⟨qjU hN3 hbase hge hcm2 ?_ ?_,⟨hS3.2.1,hS3.2.2.1,hS3.2.2.2,by omega,fun j hj _=>hO3 j hj⟩,fun g' hg'=> .inr ?_⟩
  ·simp [htk,hZl,hdk,qaa]
   omega
  ·rw [qgj,show qaa (p::ws.drop k)=qaa [p]++qaa (ws.drop k) from rfl]
   show List.take ((n+1)*2) ((qaa (ws.take k)++qaa [p])++(qaa (ws.drop k)++(Z.drop (qaa [p]).length).drop (qaa (ws.drop k)).length))=_;rw [<- List.append_assoc,List.take_append_of_le_length (by simp [htk,hdk,qaa];omega),List.take_of_length_le (by simp [htk,hdk,qaa];omega),List.append_assoc]
  ·simp [Value.ownBlock] at hg'
   subst hg';exact Nat.le_refl _
 have HF:=qH hfin;have HA:=qH hcA;have HB:=qH hcB;have hGk:k+1<G:=by omega
 clear hfin hcA hcB hN3 hO3 hS3 holds hown hv1 hv2
 go_enter Tryz.func74,Tryz.ntmps74
 have hcA:=HA.out
 go_wp2_with (at_builtin;refine Lib.wpList_append_run _ rfl _ _ _ _ rfl _ _ rfl rfl _ _ HR.out ?_)
 clear hcA;have hw1:IntKind.i64.wrap ((k:Int)+1)=(k:Int)+1:=by rw [IntKind.wrap_i64];omega
 have hb1:(0:Int)<=(k:Int)+1:=by omega
 have htn:((k:Int)+1).toNat=k+1:=by omega
 have hGi:¬ (G=k):=by omega
 have hGim:¬ (G=k+1):=by omega
 have hci:¬ (n=k):=by omega
 have hb3:(k:Int)<=(n:Int):=by omega
 have hb4:(k:Int)+1<=(n:Int)+1:=by omega
 go_region_law (refine step_copy_runI rfl _ _ 99 99 rfl (.slice (some ⟨w.heap.size,(k+1)*2,none⟩) (n+1-(k+1)) (G-(k+1))) (.slice (some ⟨g,k*2,none⟩) (n-k) (n-k)) (by simp [Act.eval,Act.put]) (by simp [Act.eval,Act.put]) HB.out ?_)
 all_goals
  go_wp2;go_ret;exact ⟨_,rfl,HF.out⟩
theorem qve (w:World) (base g n c k:Nat) (ws:List Wd) (p:Wd) (VB vc:Nat) (hown:w.ownsRow base 104 2 (.slice (some ⟨g,0,none⟩) n c) n (qaa ws)) (hn:ws.length=n) (hl:n<=33554432) (hk:k<n) (hroom:n+1<=c)
  (hv:w.heap[VB]?=some (.cells #[.int .i64 p.1,.int .u64 p.2] 104 (0,0))) (hVg:VB≠g):
  Calls Tryz.prog 74 #[.slice (some ⟨g,0,none⟩) n c,.int .i64 k,.slice (some ⟨VB,0,none⟩) 1 vc] w (qhL w base (.slice (some ⟨g,0,none⟩) n c) (ws.take k++p::ws.drop k)):=by
 have hwl:=qed ws;rw [hn] at hwl;obtain ⟨cur,hbg,hg,hnc,hcm,hcs,htake⟩:=qva hown;have htk:(qaa (ws.take k)).length=k*2:=by rw [qed,List.length_take];omega
 have hdk:(qaa (ws.drop k)).length=(n-k)*2:=by rw [qed,List.length_drop,hn]
 have hcl:cur.toList.length=c*2:=by rw [Array.length_toList,hcs]
 have hcur:cur.toList=qaa (ws.take k)++(qaa (ws.drop k)++cur.toList.drop (n*2)):=by
  rw [<- List.append_assoc,<- qgj,List.take_append_drop,<- htake,List.take_append_drop]
 obtain ⟨R,hR⟩:∃ R,R=cur.toList.drop (n*2):=⟨_,rfl⟩;have hRl:R.length=(c-n)*2:=by rw [hR,List.length_drop,hcl];omega
 rw [<- hR] at hcur;clear hR htake;obtain ⟨X,hX⟩:∃ X,X=(qaa (ws.drop k)++R).take 2:=⟨_,rfl⟩;obtain ⟨Y,hY⟩:∃ Y,Y=(qaa (ws.drop k)++R).drop 2:=⟨_,rfl⟩;have hXl:X.length=2:=by rw [hX,List.length_take,List.length_append,hdk,hRl];omega
 have hYl:Y.length=(c-k-1)*2:=by rw [hY,List.length_drop,List.length_append,hdk,hRl];omega
 have hcur2:cur.toList=(qaa (ws.take k)++X)++Y:=by rw [hcur,hX,hY,List.append_assoc,List.take_append_drop]
 have hTX:(qaa (ws.take k)++X).length=(k+1)*2:=by rw [List.length_append,htk,hXl];omega
 have holds:∀ j u,(qaa ws)[j]?=some u->w.cell? ⟨g,j,none⟩=some u:=fun j u hu=>by have :=hown.cells (g:=g) rfl j u hu;rwa [Addr.add_lit,Nat.zero_add] at this
 have hsrc:∀ j u,(qaa (ws.drop k))[j]?=some u->w.drew.cell? ((⟨g,k*2,none⟩:Addr).add j)=some u:=by
  intro j u hu;rw [Addr.add_lit];rw [qic,List.getElem?_drop] at hu;exact holds _ u hu
 have hcA:=qhK w.drew g ((k+1)*2) (n+1-(k+1)) (c-(k+1)) ⟨g,k*2,none⟩ (n+1-k) (c-k) cur (qaa (ws.drop k)) (n-k) hg (by show n-k=min (n+1-k) (n+1-(k+1));omega) hdk hsrc (by rw [hcs,hdk];omega) (qfq _);rw [hcur2,qhM _ _ _ _ hTX] at hcA;have hg1:=setRow_heap w.drew g cur ((qaa (ws.take k)++X)++(qaa (ws.drop k)++Y.drop (qaa (ws.drop k)).length)).toArray _ _ hg;have ho1:∀ j,j≠g->(w.drew.setRow g ((qaa (ws.take k)++X)++(qaa (ws.drop k)++Y.drop (qaa (ws.drop k)).length)).toArray).heap[j]?=w.heap[j]?:=fun j hj=>setRow_other w.drew g j _ hj
 obtain ⟨W1,hW1⟩:∃ W1,W1=w.drew.setRow g ((qaa (ws.take k)++X)++(qaa (ws.drop k)++Y.drop (qaa (ws.drop k)).length)).toArray:=⟨_,rfl⟩;have hS1:W1.heap.size=w.heap.size/\W1.os=w.os/\W1.tape=w.tape/\W1.output=w.output:=by rw [hW1];exact ⟨by simp [World.setRow],rfl,rfl,rfl⟩
 rw [<- hW1] at hcA hg1 ho1;clear hW1;have hpc:∀ j u,(qaa [p])[j]?=some u->W1.cell? ((⟨VB,0,none⟩:Addr).add j)=some u:=by
  intro j u hu;obtain ⟨v1,v2,_,_⟩:=qeT hv;rw [Addr.add_lit,Nat.zero_add,World.cell?_of_block (w:=w) (ho1 VB hVg)]
  match j,hu with
  |0,hu=>simp [qaa] at hu;subst hu;exact v1
  |1,hu=>simp [qaa] at hu;subst hu;exact v2
  |j+2,hu=>simp [qaa] at hu
 have hcB:=qhK W1 g (k*2) (n+1-k) (c-k) ⟨VB,0,none⟩ 1 vc _ (qaa [p]) 1 hg1 (by show 1=min 1 (n+1-k);omega) rfl hpc (by simp [htk,hXl,hdk,qaa];try omega) (qfq [p])
 have e1:((qaa (ws.take k)++X)++(qaa (ws.drop k)++Y.drop (qaa (ws.drop k)).length)).toArray.toList=qaa (ws.take k)++(X++(qaa (ws.drop k)++Y.drop (qaa (ws.drop k)).length)):=by simp
 have e2:(X++(qaa (ws.drop k)++Y.drop (qaa (ws.drop k)).length)).drop (qaa [p]).length=qaa (ws.drop k)++Y.drop (qaa (ws.drop k)).length:=by
  rw [show (qaa [p]).length=X.length by rw [hXl];rfl,List.drop_left]
 rw [e1,qhM _ _ _ _ htk,e2] at hcB;have hg2:=setRow_heap W1 g _ (qaa (ws.take k)++(qaa [p]++(qaa (ws.drop k)++Y.drop (qaa (ws.drop k)).length))).toArray _ _ hg1;have ho2:∀ j,j≠g->(W1.setRow g (qaa (ws.take k)++(qaa [p]++(qaa (ws.drop k)++Y.drop (qaa (ws.drop k)).length))).toArray).heap[j]?=w.heap[j]?:=fun j hj=>by rw [setRow_other _ _ _ _ hj];exact ho1 j hj
 obtain ⟨W2,hW2⟩:∃ W2,W2=W1.setRow g (qaa (ws.take k)++(qaa [p]++(qaa (ws.drop k)++Y.drop (qaa (ws.drop k)).length))).toArray:=⟨_,rfl⟩;have hS2:W2.heap.size=w.heap.size/\W2.os=w.os/\W2.tape=w.tape/\W2.output=w.output:=by rw [hW2];exact ⟨by simp [World.setRow,hS1.1],hS1.2.1,hS1.2.2.1,hS1.2.2.2⟩
 rw [<- hW2] at hcB hg2 ho2;clear hW2;have hws:(ws.take k++p::ws.drop k).length=n+1:=by simp;omega
 have hfin:qfh w base (.slice (some ⟨g,0,none⟩) n c) (ws.take k++p::ws.drop k) (.slice (some ⟨g,0,none⟩) (n+1) c) W2:=by
  unfold qfh;rw [hws];refine ⟨qjU hg2 hbg hroom hcm ?_ ?_,⟨hS2.2.1,hS2.2.2.1,hS2.2.2.2,by omega,fun j hj hne=>ho2 j (by rintro rfl;exact hne rfl)⟩,fun g' hg'=> .inl hg'⟩
  ·simp [htk,hYl,hdk,qaa]
   try omega
  ·rw [qgj,show qaa (p::ws.drop k)=qaa [p]++qaa (ws.drop k) from rfl]
   show List.take ((n+1)*2) (qaa (ws.take k)++(qaa [p]++(qaa (ws.drop k)++Y.drop (qaa (ws.drop k)).length)))=_;rw [<- List.append_assoc,<- List.append_assoc,List.take_append_of_le_length (by simp [htk,hdk,qaa];try omega),List.take_of_length_le (by simp [htk,hdk,qaa];try omega),List.append_assoc]
 have hsz:∀ w,(Go.sizeOf 104).run Tryz.prog w= .ok 2 w:=Tryz.sizeOf104;have hov:∀ lb cb,(callFunc 124 #[.slice (some ⟨VB,0,none⟩) 1 vc,.slice (some ⟨g,(k+1)*2,none⟩) lb cb]).run Tryz.prog w= .ok (.value (.bool false)) w:=fun lb cb=>by
  rw [run_callFunc_extern Tryz.func124 (by kernel_rfl) (by kernel_rfl) (by kernel_rfl) (e:=Extern.SlicesOverlaps.overlaps #[99,99] #[4]) (by kernel_rfl),
   Lib.run_overlaps_apart w 99 4 104 Tryz.underlying99 2 hsz ⟨VB,0,none⟩ ⟨g,(k+1)*2,none⟩ 1 vc lb cb hVg 104 104 2 (c*2)
    (by simp [World.shape?,hv]) (by simp [World.shape?,hg,hcs]) (by omega) (by simp [World.frozen?,hv]) (by simp [World.frozen?,hv])]
  rfl
 have HF:=qH hfin;have HA:=qH hcA;clear hfin hcA hg1 hg2 ho1 ho2 hS1 hS2 holds hsrc hpc hown e1 e2 hcur hcur2 hX hY;unfold maxLen at hcm;have hw1:IntKind.i64.wrap ((k:Int)+1)=(k:Int)+1:=by rw [IntKind.wrap_i64];omega
 have hb1:(0:Int)<=(k:Int)+1:=by omega
 have htn:((k:Int)+1).toNat=k+1:=by omega
 have hci:¬ (c=k):=by omega
 have hcim:¬ (c=k+1):=by omega
 have hb3:(k:Int)<=(n:Int)+1:=by omega
 have hb4:(k:Int)+1<=(n:Int)+1:=by omega
 go_enter Tryz.func74,Tryz.ntmps74
 go_wp2_with (simp only [hov])
 go_region_law (refine step_copy_runI rfl _ _ 99 99 rfl (.slice (some ⟨g,(k+1)*2,none⟩) (n+1-(k+1)) (c-(k+1))) (.slice (some ⟨g,k*2,none⟩) (n+1-k) (c-k)) (by simp [Act.eval,Act.put]) (by simp [Act.eval,Act.put]) HA.out ?_)
 all_goals
  go_wp2;go_ret;exact ⟨_,rfl,HF.out⟩
theorem qvf (w:World) (base:Nat) (v:Value) (n k:Nat) (ws:List Wd) (p:Wd) (VB:Nat) (hown:w.ownsRow base 104 2 v n (qaa ws)) (hn:ws.length=n) (hl:n<=33554432) (hk:k<=n)
  (hv:w.heap[VB]?=some (.cells #[.int .i64 p.1,.int .u64 p.2] 104 (0,0))) (hVg:v.ownBlock≠some VB) (hbase:base<=w.heap.size):
  Calls Tryz.prog 74 #[v,.int .i64 k,.slice (some ⟨VB,0,none⟩) 1 1] w (qhL w base v (ws.take k++p::ws.drop k)):=by
 obtain ⟨v1,v2,_,_⟩:=qeT hv;by_cases hkn:k=n
 ·subst hkn
  have e:ws.take k++p::ws.drop k=ws++[p]:=by rw [<- hn,List.take_length,List.drop_length]
  rw [e];obtain ⟨A,c,rfl,_,_⟩:=qaR hown;exact qvc w base A k c ws p VB 1 hown hn hl v1 v2 hbase
 ·have hown':=hown
  rcases hown'.2 with ⟨rfl,h0⟩|⟨g,c,cur,rfl,_,_,hnc,_⟩
  ·omega
  ·by_cases hroom:n+1<=c
   ·exact qve w base g n c k ws p VB 1 hown hn hl (by omega) hroom hv (by rintro rfl;exact hVg rfl)
   ·obtain rfl:c=n:=by omega
    exact qvd w base g c k ws p VB 1 hown hn hl (by omega) v1 v2 hbase
end Go.Proofs.YtpehcaidjlemiaaGreatDoor
