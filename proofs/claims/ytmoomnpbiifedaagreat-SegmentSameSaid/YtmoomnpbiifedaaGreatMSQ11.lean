import Derived.Test.YtmoomnpbiifedaaGreatMSQ10
import Derived.Deep.RegionHeld3
import Derived.Deep.AppendLies
import Derived.Test.YtmoomnpbiifedaaGreatMSQ07
import Derived.BigCall
import Derived.Test.YtmoomnpbiifedaaGreatMSQ01
import Derived.BigQuiet
import Derived.Deep.QuietTactic
import Derived.Test.YtmoomnpbiifedaaGreatMSQ06
import Derived.Test.YtmoomnpbiifedaaGreatMSQ05
set_option linter.unusedVariables false
namespace Go.Proofs.YtmoomnpbiifedaaGreat
open Go Go.RowKit
attribute [local go_sem] Oper.semAt_some
theorem Firm.okP (N:Nat) (l:List Nm) (vs:List Nat) (s:List (Nm × Nat)) (x:Nm × Nat):Firm N (OkP l vs s x):=fun _ _ _ _ _ _ _ h=>h
def NamesInP (l:List Nm) (w:World) (Bl:Nat) (pre:List (Nm × Nat)) (W:World):Prop:=RowVar 23 9 w.heap.size Bl (strs (l.take pre.length)) W∧Below w.heap.size w W
set_option maxHeartbeats 8000000 in
set_option maxRecDepth 100000 in
theorem dictP_Names (B o:Nat) (l:List Nm) (vs:List Nat) (w:World) (h:DictR w B o l vs) (hl:l.length≤1048576):
  Calls Tryz.prog 69 #[.pointer (some ⟨B,o,none⟩)] w (GaveNm l w):=by
 obtain ⟨i0,hi0,hz0,hz1,hz2⟩:=info_parts info_string
 refine (callsIn_wide (n:=6)).1 ?_
 have CL:=Lib.hid (dictP_Len B o l vs w h)
 obtain ⟨n,hn⟩:∃ n,n=l.length:=⟨_,rfl⟩
 have HN:=Lib.hid hn
 obtain ⟨w1,hrun,hown1,hgrow1⟩:=run_make_own (P:=Tryz.prog) w w.heap.size 23 9 i0 _ 1 Tryz.underlying23 hi0 hz0 hz1 .i64 .i64 n (by rw [hz2];omega) (by unfold maxLen;omega) (Nat.le_refl _)
 have hb1:Below w.heap.size w w1:=(Below.refl _ w).grown hgrow1 (Nat.le_refl _) (fun k hk=>by cases hk)
 obtain ⟨w2,hw2⟩:∃ w2,w2=w1.alloc (.cells #[.slice (some ⟨w.heap.size,0,none⟩) 0 n] 23):=⟨_,rfl⟩
 obtain ⟨Bl,hBl⟩:∃ Bl,Bl=w1.heap.size:=⟨_,rfl⟩
 have hb2:Below w.heap.size w w2:=by rw [hw2];exact hb1.alloc hb1.size _
 have hrv2:RowVar 23 9 w.heap.size Bl (strs []) w2:=⟨_,by rw [hw2,hBl];exact heap_alloc_new w1 _,by rw [hw2];exact hown1.alloc _⟩
 have HF:=Lib.hid (dictP_From B o 0 l vs w w2 h hb2 hl (by omega))
 have hBl2:w.heap.size≤Bl:=by rw [hBl];exact hb1.size
 rw [← hn] at CL
 have HB2:=Lib.hid hb2
 have HRV2:=Lib.hid hrv2
 have HW2:=Lib.hid hw2
 have HBL:=Lib.hid hBl
 clear h hn hown1 hgrow1 hb1 hw2 hBl hb2 hrv2
 refine callsIn_of_wp_marks Tryz.func69 rfl trivial ?_ rfl
 simp only [Tryz.ntmps69,List.size_toArray,List.length_cons,List.length_nil,Nat.reduceAdd,Nat.reduceSub,Array.replicate_succ,Array.replicate_zero,List.push_toArray,List.append_toArray,List.nil_append,List.cons_append]
 gi_wp2_with (first
  |(refine ⟨trivial,?_⟩;gi_at_call 92;refine (callsIn_wide.2 CL.out).mono ?_;rintro e w' ⟨rfl,rfl⟩)
  |(gi_at_call 92;refine (callsIn_wide.2 CL.out).mono ?_;rintro e w' ⟨rfl,rfl⟩)
  |(refine ⟨trivial,?_⟩;gi_at_call 53;rw [← HW2.out];refine (callsIn_wide.2 HF.out).mono ?_)
  |(gi_at_call 53;rw [← HW2.out];refine (callsIn_wide.2 HF.out).mono ?_))
 rintro e w3 ⟨D,rfl,hD,hrest,hb3,hz3⟩
 rw [Int.toNat_zero,List.drop_zero,List.drop_zero] at hrest
 have hB3:=HB2.out.trans (hb3.mono HB2.out.size)
 have hrv3:=HRV2.out.below hb3
 have hsz3:w.heap.size≤w3.heap.size:=hB3.size
 have HT:=Lib.hid (fromP_told 5 w.heap.size D l vs w3 (by omega) hsz3 hrest hl)
 have HB3:=Lib.hid hB3
 have HRV3:=Lib.hid hrv3
 have HBL3:Hid (Bl<w3.heap.size):=Lib.hid hrv3.lt
 clear hrest hb3 hB3 hrv3 hrun hz3
 gi_wp2
 rw [← HBL.out]
 refine wpIn_range_tells (by omega) (gf:=93) (lb:=#[.pointer (some ⟨D,0,none⟩)]) rfl (enters_of Tryz.func93 (by kernel_rfl) rfl)
  HT.out (fun hb=>hb) (fun {A B k o} hk hmv ho hnc=>(hmv.block k (Array.getElem?_eq_some_iff.1 ho).1).trans ho)
  (fun h k=>h.trans k) (fun W lp o o' hlp ho hc=>Firm.belowW (N:=w3.heap.size) (w0:=W) (by omega) W lp o o' hlp ho hc (Below.refl _ _)) (fun _=>rfl)
  (NamesInP l w Bl) (fun _ _ _=>False)
  (fun s A' B' h hmv=>⟨h.1.below hmv,h.2.trans (hmv.mono (by have :=h.2.size;omega))⟩)
  (fun s=>(Firm.rowVar _ _ _ _ _ _).and (Firm.belowW hsz3))
  (fun c s W l o o' _ _ _ h=>h)
  (fun s x=>Firm.okP _ _ _ _ _) ⟨by simpa using HRV3.out,HB3.out⟩
  (fun x=>{tmps:=#[.pointer (some ⟨B,o,none⟩),undef,.slice none 0 0,.pointer (some ⟨Bl,0,none⟩),.string ⟨x.1.toArray⟩,.pointer (some ⟨B,o,none⟩),.int .i64 n,.slice (some ⟨w.heap.size,0,none⟩) 0 n,.pointer (some ⟨B,o,none⟩),.func (.func 93) #[] #[.pointer (some ⟨D,0,none⟩)],.string ⟨x.1.toArray⟩,.pointer (some ⟨x.2,0,none⟩),undef,undef,undef,undef,undef],defers:=[]}) ?assign ?body ?done ?stop
 case assign=>
  intro lp x W K' hK'
  unfold encP
  gi_wp2
  exact hK'
 case body=>
  rintro lp pre ⟨x,y⟩ W ⟨hrv,hbw⟩ ⟨hlt,hx,hy⟩
  simp only at hx hy ⊢
  have hst:strs (l.take (pre.length+1))=strs (l.take pre.length)++[.string ⟨x.toArray⟩]:=by
   rw [List.take_succ_eq_append_getElem hlt,hx,strs_append];rfl
  have hlen:(strs (l.take pre.length)).length=pre.length:=by rw [strs_length,List.length_take];omega
  have hRV:=hrv
  obtain ⟨v,hv,hown⟩:=hrv
  rw [hlen] at hown
  have cB:=cell_of_one hv
  have fB:=free_of_one hv
  have hsz:=hbw.size
  obtain ⟨X,hX⟩:∃ t:ByteArray,t=⟨x.toArray⟩:=⟨_,rfl⟩
  rw [← hX] at hst ⊢
  obtain ⟨k,hk⟩:∃ k,k=pre.length:=⟨_,rfl⟩
  rw [← hk] at hst hown hlt hlen hRV
  obtain ⟨xs,hxs⟩:∃ xs,xs=strs (l.take k):=⟨_,rfl⟩
  rw [← hxs] at hst hown hlen hRV
  have HST:=Lib.hid hst
  have HO:=Lib.hid hown
  have HRV:=Lib.hid hRV
  have HV:=Lib.hid hv
  have HBW:=Lib.hid hbw
  have HK:=Lib.hid hk
  have HLEN:=Lib.hid hlen
  have hkl:k≤1048576:=by omega
  clear hst hown hRV hv hbw hk hlen hxs hx hy hX
  gi_wp2_with (gi_at_builtin;refine wpListIn_append_own _ rfl (.tmp 12) (.tmp 14) 23 rfl w.heap.size 9 i0 _ 1 16 Tryz.underlying23 hi0 hz0 hz1 hz2 rfl (by omega) _ k xs rfl (HO.out.alloc _) ⟨W.heap.size,0,none⟩ 1 1 [.string X] rfl rfl (news_at W [.string X] 9) (strs_one 0 X) (by unfold maxLen;omega) (by omega) (by simp;omega) ?_)
  intro v' w4 hown4 hgrow4 hz4
  clear hz4
  obtain ⟨g',cap',hv',_,_⟩:=hown4.form (by omega)
  obtain ⟨cB1,fB1,hrv4,htc⟩:=pushed (by decide) HV.out HLEN.out HO.out ((Below.refl _ W).alloc (Nat.le_refl _) _) hgrow4 hown4 rfl
  subst hv'
  have hko:=htc.others HRV.out
  have hbb:=htc.below HRV.out hBl2 hsz
  have hrv5:NamesInP l w Bl (pre++[(x,y)]) (w4.setCell ⟨Bl,0,none⟩ (.slice (some ⟨g',0,none⟩) (k+1) cap')):=by
   refine ⟨?_,HBW.out.trans hbb⟩
   rw [List.length_append,List.length_singleton,← HK.out,HST.out]
   exact hrv4
  have HKO:=Lib.hid hko
  have HBB:=Lib.hid hbb
  have HRV5:=Lib.hid hrv5
  clear hko hbb hrv5 hrv4 htc hown4 hgrow4
  gi_wp2
  exact ⟨HKO.out,HBB.out,HRV5.out⟩
 case done=>
  rintro D' ys W hD2 hys ⟨hrv,hbw⟩ hK'
  rw [hys,List.take_length] at hrv
  obtain ⟨v,hv,hown⟩:=hrv
  have cB:=cell_of_one hv
  have HO:=Lib.hid hown
  have HBW:=Lib.hid hbw
  have HRV:Hid (RowVar 23 9 w.heap.size Bl (strs l) W):=Lib.hid ⟨v,hv,hown⟩
  clear hys hown hbw
  gi_wp2
  refine ⟨by simp,.inl ⟨_,_,rfl,run_takeDeferred hK',?_⟩⟩
  refine ⟨_,results_tmp rfl _ _ _,?_⟩
  have hfr:=Firm.rowVar 0 _ _ _ _ _ W D' _ (.deferred none) (Nat.zero_le _) hK' rfl HRV.out
  obtain ⟨v2,hv2,ho2⟩:=hfr
  have hne:Bl≠D':=by have :=HBL3.out;omega
  rw [World.putObj_heap_other hne,hv] at hv2
  simp at hv2
  subst hv2
  refine ⟨_,rfl,?_,Firm.belowW (N:=w3.heap.size) hsz3 W D' _ _ hD2 hK' rfl HBW.out⟩
  unfold OwnNm
  rw [strs_length] at ho2
  exact ho2
 case stop=>
  rintro D' c pre W _ _ hh _
  exact hh.elim
end Go.Proofs.YtmoomnpbiifedaaGreat
set_option linter.unusedVariables false
namespace Go.Proofs.YtmoomnpbiifedaaGreat
open Go Go.RowKit
def RowL (base:Nat) (w:World) (A:Option Addr) (xs:List Value):Prop:=RowS 0 w A xs∧(xs=[]∨∃ b off,A=some ⟨b,off,none⟩∧base≤b)
theorem RowL.of_own {base base':Nat} {w:World} {A:Option Addr} {n c:Nat} {xs:List Value} (h:w.ownsRow base' 3 1 (.slice A n c) n xs) (hb:base≤base'):RowL base w A xs:=by
 refine ⟨RowS.of_own h,?_⟩
 rcases h.2 with ⟨hv,hn⟩|⟨g,cap,cur,hv,hg,_⟩
 ·exact .inl (List.eq_nil_of_length_eq_zero (by rw [h.1,hn]))
 ·injection hv with h1 h2 h3
  exact .inr ⟨g,0,h1,by omega⟩
def NewPo (base:Nat) (w:World) (v:Value) (l:List Po):Prop:=∃ cs,w.ownsRow base 63 2 v l.length cs∧PoCells (RowL base w) l cs
section
variable {base:Nat} {w w':World} {v v':Value} {l:List Po}
theorem NewPo.nil:NewPo base w (.slice none 0 0) []:=⟨[],World.ownsRow_nil _ _ _ _,rfl⟩
theorem NewPo.below (h:NewPo base w v l) (hb:Below w.heap.size w w'):NewPo base w' v l:=by
 obtain ⟨cs,h1,h2⟩:=h
 exact ⟨cs,owned_below h1 hb,h2.imp fun _ _ h=>⟨h.1.below hb,h.2⟩⟩
theorem NewPo.push {cs:List Value} (h1:w.ownsRow base 63 2 v l.length cs) (h2:PoCells (RowL base w) l cs) {A:Option Addr} {c:Nat} {d:Int} {ps:List Int} (hc:ps.length≤c) (hcx:c≤maxLen) (hr:RowL base w A (ints ps))
  (hown:w'.ownsRow base 63 2 v' (l.length+1) (cs++[.int .i64 d,.slice A ps.length c])) (hg:w.grownBy w' v.ownBlock):NewPo base w' v' (l++[(d,ps)]):=by
 have h0:=owned_low h1 (Nat.zero_le base)
 refine ⟨_,?_,(h2.imp fun _ _ h=>⟨h.1.grown h0 (by decide) hg,h.2⟩).snoc hc hcx ⟨hr.1.grown h0 (by decide) hg,hr.2⟩⟩
 rw [List.length_append,List.length_singleton]
 exact hown
end
theorem NewPo.low {base base':Nat} {w:World} {v:Value} {l:List Po} (h:NewPo base w v l) (hb:base'≤base):NewPo base' w v l:=by
 obtain ⟨cs,h1,h2⟩:=h
 exact ⟨cs,owned_low h1 hb,h2.imp fun _ _ h=>⟨h.1,h.2.imp id fun ⟨b,off,e,hl⟩=>⟨b,off,e,by omega⟩⟩⟩
def GaveNew (l:List Po) (w:World) (e:Ending) (w':World):Prop:=∃ v,e= .returned v∧NewPo w.heap.size w' v l∧Below w.heap.size w w'
end Go.Proofs.YtmoomnpbiifedaaGreat
namespace Go.Proofs.YtmoomnpbiifedaaGreat
open Go Go.RowKit
set_option linter.unusedVariables false
def FirstRel (l:List UInt8) (r2 r3 n wth i:Value):Prop:=
 r2= .int .i64 0∧r3= .int .i64 0∧∃ k:Nat,k≤9∧k≤l.length∧i= .int .i64 (k:Int)∧n= .int .i64 (valB (l.take k):Int)∧High l k∧∃ z:Int,wth= .int .i64 z∧(k<9→z=((128^k:Nat):Int))
def GaveF (p:Nat × Nat) (w:World) (e:Ending) (w':World):Prop:=e= .returned (.tuple #[.int .i64 (p.1:Int),.int .i64 (p.2:Int)])∧w=w'
set_option maxHeartbeats 2000000 in
set_option maxRecDepth 100000 in
theorem vint_first (A:Option Addr) (m c:Nat) (l:List UInt8) (w:World) (hm:l.length=m) (hr:Row w w.heap.size A (Lib.byteCells l)) (hl:m≤400000000000):
  Calls Tryz.prog 204 #[.slice A m c] w (GaveF (getF l) w):=by
 have HR:=Lib.hid hr
 clear hr
 subst hm
 obtain ⟨r,hrr⟩:∃ r,r=getF l:=⟨_,rfl⟩
 rw [← hrr]
 have HF:=Lib.hid hrr
 clear hrr
 obtain ⟨lim,hlim⟩:∃ lim:Nat,(if (9:Int)<(l.length:Int) then (9:Int) else (l.length:Int))=(lim:Int):=by
  by_cases h:(9:Int)<(l.length:Int)
  ·exact ⟨9,by rw [if_pos h];rfl⟩
  ·exact ⟨l.length,by rw [if_neg h]⟩
 have hl9:lim≤9∧lim≤l.length∧(lim=9∨lim=l.length):=by split at hlim<;>omega
 go_enter Tryz.func204,Tryz.ntmps204
 go_wp2
 go_loop [2,3,4,5,11] (fun r2 r3 n wth i=>FirstRel l r2 r3 n wth i) (fun _ _ _ _ i=>lim-(intOf i).toNat)
 case atStart=>exact ⟨rfl,rfl,0,by omega,by omega,rfl,by simp [valB],High.zero l,1,rfl,fun _=>by simp⟩
 case round=>
  obtain ⟨rfl,rfl,k,hk9,hkl,rfl,rfl,hh,z,rfl,hz⟩:=hrel
  by_cases hlt:k<lim
  ·obtain ⟨b1,o1,e1,_,hc1⟩:=row_byte HR.out (k:=k) (by omega)
   subst e1
   obtain ⟨q,p,v,hq,hv,hv2,hmul,hp,hvp,hqb⟩:=worth_more (l:=l) (k:=k) (by omega) (by omega)
   have hz':=hz (by omega)
   rw [hq] at hz'
   subst hz'
   rw [hv]
   obtain ⟨c,hc⟩:∃ c,c=(l.getD k 0).toNat:=⟨_,rfl⟩
   have hc255:c<256:=by rw [hc];exact UInt8.toNat_lt _
   have HC:=Lib.hid hc
   have HH:=Lib.hid hh
   have HQ:=Lib.hid hq
   have HV:=Lib.hid hv2
   rw [← hc] at hc1 hmul
   clear hc hh hz hq hv hv2
   by_cases c0:c=0∧0<k
   ·obtain ⟨c0,k0⟩:=c0
    have hr0:r=(0,0):=by rw [HF.out];exact getF_zero HH.out (by omega) (by omega) k0 (by rw [← HC.out];exact c0)
    have HR0:=Lib.hid hr0
    subst c0
    have hk0:(0:Int)<(k:Int):=by omega
    clear hr0
    go_wp2
    go_ret2
    rw [HR0.out]
    exact ⟨rfl,rfl⟩
   ·have hpk:Hid (c<128→r=(v+p,k+1)):=Lib.hid fun h=>by rw [HF.out,getF_some HH.out (by omega) (by omega) (by rw [← HC.out];exact h) (by rw [← HC.out];omega),HV.out]
    have hnx:Hid (128≤c→High l (k+1)):=Lib.hid fun h=>HH.out.succ (by rw [← HC.out];exact h)
    by_cases h128:c<128
    ·have HP:=Lib.hid (hpk.out h128)
     clear hpk hnx
     by_cases hc0:c=0
     ·have hcb:((c:Int)==0)=true:=by rw [beq_iff_eq];omega
      have hkb:decide ((0:Int)<(k:Int))=false:=decide_eq_false (by omega)
      have hp0:Hid (p=0):=Lib.hid (by rw [hc0] at hmul;simp at hmul;omega)
      go_wp2
      go_ret2
      rw [HP.out,hp0.out]
      exact ⟨by simp,rfl⟩
     ·have hcb:((c:Int)==0)=false:=by rw [beq_eq_false_iff_ne];omega
      go_wp2
      go_ret2
      rw [HP.out]
      exact ⟨by simp,rfl⟩
    ·have HN:=Lib.hid (hnx.out (by omega))
     clear hpk hnx
     have hcb:((c:Int)==0)=false:=by rw [beq_eq_false_iff_ne];omega
     by_cases k8:k<8
     ·obtain ⟨hq1,hq2⟩:=pow_next HQ.out k8
      have HQ1:=Lib.hid hq1
      clear hq1
      go_wp2
      go_round
      case rel=>exact ⟨rfl,rfl,k+1,by omega,by omega,by go_num,by rw [HV.out];go_num,HN.out,_,rfl,fun _=>by rw [HQ1.out];simp⟩
      case measure=>simp [intOf]<;>omega
     ·have hq8:q=72057594037927936:=by
       have :=HQ.out
       rw [show k=8 by omega] at this
       rw [← this]
      subst hq8
      go_wp2
      go_round
      case rel=>exact ⟨rfl,rfl,k+1,by omega,by omega,by go_num,by rw [HV.out];go_num,HN.out,_,rfl,fun h=>by omega⟩
      case measure=>simp [intOf]<;>omega
  ·have hr0:r=(0,0):=by rw [HF.out];exact getF_none hh (by omega)
   have HR0:=Lib.hid hr0
   clear hr0
   go_wp2
   go_ret2
   rw [HR0.out]
   exact ⟨rfl,rfl⟩
end Go.Proofs.YtmoomnpbiifedaaGreat
namespace Go.Proofs.YtmoomnpbiifedaaGreat
open Go Go.RowKit
set_option linter.unusedVariables false
structure Taker (Be Bb Ba:Nat) (A:Option Addr) (m c:Nat) (e a:Int) (w:World):Prop where
 err:w.heap[Be]?=some (.cells #[.int .i64 e] 31 (0,0))
 bytes:w.heap[Bb]?=some (.cells #[.slice A m c] 86 (0,0))
 place:w.heap[Ba]?=some (.cells #[.int .i64 a] 3 (0,0))
theorem ne_of_types {w:World} {a b:Nat} {u v:Array Value} {t s:TypeId} {f g:Nat × Nat} (h:w.heap[a]?=some (.cells u t f)) (h2:w.heap[b]?=some (.cells v s g)) (hne:t≠s):a≠b:=by
 rintro rfl
 rw [h] at h2
 simp at h2
 exact hne h2.2.1
section
variable {Be Bb Ba:Nat} {A:Option Addr} {m c:Nat} {e a:Int} {w w':World}
theorem Taker.setErr (h:Taker Be Bb Ba A m c e a w) (x:Int):Taker Be Bb Ba A m c x a (w.setCell ⟨Be,0,none⟩ (.int .i64 x)):=
 ⟨one_setCell h.err,(Below.heap_setCell _ _ _ _ (ne_of_types h.bytes h.err (by decide))).trans h.bytes,(Below.heap_setCell _ _ _ _ (ne_of_types h.place h.err (by decide))).trans h.place⟩
theorem Taker.setPlace (h:Taker Be Bb Ba A m c e a w) (x:Int):Taker Be Bb Ba A m c e x (w.setCell ⟨Ba,0,none⟩ (.int .i64 x)):=
 ⟨(Below.heap_setCell _ _ _ _ (ne_of_types h.err h.place (by decide))).trans h.err,(Below.heap_setCell _ _ _ _ (ne_of_types h.bytes h.place (by decide))).trans h.bytes,one_setCell h.place⟩
end
def Took (Be Bb Ba:Nat) (A:Option Addr) (m c:Nat) (n b e:Int) (a':Int) (w:World) (en:Ending) (w':World):Prop:=
 en= .returned (.tuple #[.int .i64 n,.int .i64 b,.int .i64 e])∧Taker Be Bb Ba A m c e a' w'∧Aside w.heap.size Be Ba w w'
theorem aside_set {B C:Nat} {w:World} (x:Value):Aside w.heap.size B C w (w.setCell ⟨B,0,none⟩ x):=
 ⟨rfl,rfl,rfl,by simp,fun k _ hk _=>Below.heap_setCell _ _ _ _ hk⟩
theorem Taker.drewN {Be Bb Ba:Nat} {A:Option Addr} {m c:Nat} {e a:Int} {w:World} (h:Taker Be Bb Ba A m c e a w) (n:Nat):Taker Be Bb Ba A m c e a (w.drewN n):=⟨h.1,h.2,h.3⟩
theorem Aside.drewN {base B C:Nat} {w w1:World} (h:Aside base B C w w1) (n:Nat):Aside base B C w (w1.drewN n):=⟨h.1,h.2.1,h.2.2.1,h.2.2.2.1,h.2.2.2.2⟩
set_option maxHeartbeats 1000000 in
set_option maxRecDepth 100000 in
theorem take_none (Be Bb Ba:Nat) (A:Option Addr) (m c:Nat) (e a most:Int) (w:World) (ht:Taker Be Bb Ba A m c e a w) (he:e≠0):
  Calls Tryz.prog 203 #[.int .i64 most,.pointer (some ⟨Be,0,none⟩),.pointer (some ⟨Bb,0,none⟩),.pointer (some ⟨Ba,0,none⟩)] w (Took Be Bb Ba A m c 0 0 e a w):=by
 have cE:=cell_of_one ht.err
 have heb:(e==0)=false:=by rw [beq_eq_false_iff_ne];exact he
 have HT:=Lib.hid ht
 clear ht he
 go_enter Tryz.func203,Tryz.ntmps203
 go_wp2
 go_quiet (fail)
 go_wp2
 go_ret3
 exact ⟨rfl,HT.out.drewN _,(Aside.refl _ _ _ _).drewN _⟩
set_option maxHeartbeats 1000000 in
set_option maxRecDepth 100000 in
theorem take_bad (Be Bb Ba:Nat) (b off:Nat) (m c:Nat) (a:Nat) (most:Int) (l:List UInt8) (n k:Nat) (w:World) (ht:Taker Be Bb Ba (some ⟨b,off,none⟩) m c 0 a w) (hr:Row w w.heap.size (some ⟨b,off,none⟩) (Lib.byteCells l)) (hm:l.length=m) (hc:m≤c) (hcx:c≤maxLen) (ha:a≤m) (hl:m≤400000000000)
  (hF:getF (l.drop a)=(n,k)) (hbad:k=0∨most<(n:Int)):
  Calls Tryz.prog 203 #[.int .i64 most,.pointer (some ⟨Be,0,none⟩),.pointer (some ⟨Bb,0,none⟩),.pointer (some ⟨Ba,0,none⟩)] w (Took Be Bb Ba (some ⟨b,off,none⟩) m c 0 0 2 a w):=by
 have cE:=cell_of_one ht.err
 have fE:=free_of_one ht.err
 have cB:=cell_of_one ht.bytes
 have cA:=cell_of_one ht.place
 have f1:=fun A' m' c' h1 h2 h3=>vint_first A' m' c' (l.drop a) w h1 h2 h3
 rw [hF] at f1
 have F1:=Lib.hid f1
 have HT:=Lib.hid ht
 have HR:=Lib.hid hr
 unfold maxLen at hcx
 clear ht hr f1
 have hfin:Hid (∀ nq,Took Be Bb Ba (some ⟨b,off,none⟩) m c 0 0 2 a w (.returned (.tuple #[.int .i64 0,.int .i64 0,.int .i64 2])) ((w.setCell ⟨Be,0,none⟩ (.int .i64 2)).drewN nq)):=
  Lib.hid fun nq=>⟨rfl,(HT.out.setErr 2).drewN _,(aside_set _).drewN _⟩
 rcases Nat.eq_zero_or_pos k with hk|hk
 ·subst hk
  go_enter Tryz.func203,Tryz.ntmps203
  go_wp2_with (go_at_call 204;refine (F1.out _ _ _ (by rw [List.length_drop];omega) (row_drop HR.out hm hc ha _ (by first|exact .inl ⟨rfl,by omega⟩|exact .inr rfl)) (by omega)).mono ?_)
  all_goals
   rintro en w2 ⟨rfl,rfl⟩
   go_wp2
   go_quiet (fail)
   go_wp2
   go_ret3
   exact hfin.out _
 ·have hkb:((k:Int)==0)=false:=by rw [beq_eq_false_iff_ne];omega
  have hmost:most<(n:Int):=by omega
  go_enter Tryz.func203,Tryz.ntmps203
  go_wp2_with (go_at_call 204;refine (F1.out _ _ _ (by rw [List.length_drop];omega) (row_drop HR.out hm hc ha _ (by first|exact .inl ⟨rfl,by omega⟩|exact .inr rfl)) (by omega)).mono ?_)
  all_goals
   rintro en w2 ⟨rfl,rfl⟩
   go_wp2
   go_quiet (fail)
   go_wp2
   go_ret3
   exact hfin.out _
set_option maxHeartbeats 1000000 in
set_option maxRecDepth 100000 in
theorem take_good (Be Bb Ba:Nat) (b off:Nat) (m c:Nat) (a:Nat) (most:Int) (l:List UInt8) (n k:Nat) (w:World) (ht:Taker Be Bb Ba (some ⟨b,off,none⟩) m c 0 a w) (hr:Row w w.heap.size (some ⟨b,off,none⟩) (Lib.byteCells l)) (hm:l.length=m) (hc:m≤c) (hcx:c≤maxLen) (ha:a≤m) (hl:m≤400000000000)
  (hF:getF (l.drop a)=(n,k)) (hk:0<k) (hmost:(n:Int)≤most):
  Calls Tryz.prog 203 #[.int .i64 most,.pointer (some ⟨Be,0,none⟩),.pointer (some ⟨Bb,0,none⟩),.pointer (some ⟨Ba,0,none⟩)] w (Took Be Bb Ba (some ⟨b,off,none⟩) m c n ((a:Int)+k) 0 ((a:Int)+k) w):=by
 have cE:=cell_of_one ht.err
 have cB:=cell_of_one ht.bytes
 have cA:=cell_of_one ht.place
 have fA:=free_of_one ht.place
 have hbd:=getF_bd (l.drop a)
 rw [hF,List.length_drop] at hbd
 simp only at hbd
 have f1:=fun A' m' c' h1 h2 h3=>vint_first A' m' c' (l.drop a) w h1 h2 h3
 rw [hF] at f1
 have F1:=Lib.hid f1
 have HT:=Lib.hid ht
 have HR:=Lib.hid hr
 unfold maxLen at hcx
 clear ht hr f1
 have hfin:Hid (∀ nq,Took Be Bb Ba (some ⟨b,off,none⟩) m c n ((a:Int)+k) 0 ((a:Int)+k) w (.returned (.tuple #[.int .i64 n,.int .i64 ((a:Int)+k),.int .i64 0])) ((w.setCell ⟨Ba,0,none⟩ (.int .i64 ((a:Int)+k))).drewN nq)):=
  Lib.hid fun nq=>⟨rfl,(HT.out.setPlace _).drewN _,(aside_set _).swap.drewN _⟩
 have hkb:((k:Int)==0)=false:=by rw [beq_eq_false_iff_ne];omega
 go_enter Tryz.func203,Tryz.ntmps203
 go_wp2_with (go_at_call 204;refine (F1.out _ _ _ (by rw [List.length_drop];omega) (row_drop HR.out hm hc ha _ (by first|exact .inl ⟨rfl,by omega⟩|exact .inr rfl)) (by omega)).mono ?_)
 all_goals
  rintro en w2 ⟨rfl,rfl⟩
  go_wp2
  go_quiet (fail)
  go_wp2
  go_ret3
  exact hfin.out _
end Go.Proofs.YtmoomnpbiifedaaGreat
namespace Go.Proofs.YtmoomnpbiifedaaGreat
open Go Go.RowKit
set_option linter.unusedVariables false
set_option maxHeartbeats 1000000 in
set_option maxRecDepth 100000 in
theorem take_nil (Be Bb Ba:Nat) (A:Option Addr) (m c:Nat) (most:Int) (w:World) (ht:Taker Be Bb Ba A m c 0 0 w) (hm:m=0) (hcx:c≤maxLen):
  Calls Tryz.prog 203 #[.int .i64 most,.pointer (some ⟨Be,0,none⟩),.pointer (some ⟨Bb,0,none⟩),.pointer (some ⟨Ba,0,none⟩)] w (Took Be Bb Ba A m c 0 0 2 0 w):=by
 subst hm
 have cE:=cell_of_one ht.err
 have fE:=free_of_one ht.err
 have cB:=cell_of_one ht.bytes
 have cA:=cell_of_one ht.place
 have hF:getF []=(0,0):=by decide
 have f1:=fun A' m' c' h1 h2 h3=>vint_first A' m' c' [] w h1 h2 h3
 rw [hF] at f1
 have F1:=Lib.hid f1
 have HT:=Lib.hid ht
 unfold maxLen at hcx
 clear ht f1 hF
 have hfin:Hid (∀ nq,Took Be Bb Ba A 0 c 0 0 2 0 w (.returned (.tuple #[.int .i64 0,.int .i64 0,.int .i64 2])) ((w.setCell ⟨Be,0,none⟩ (.int .i64 2)).drewN nq)):=
  Lib.hid fun nq=>⟨rfl,(HT.out.setErr 2).drewN _,(aside_set _).drewN _⟩
 rcases A with _|ad
 ·go_enter Tryz.func203,Tryz.ntmps203
  go_wp2_with (go_at_call 204;refine (F1.out none 0 _ rfl Row.nil (by omega)).mono ?_)
  all_goals
   rintro en w2 ⟨rfl,rfl⟩
   go_wp2
   go_quiet (fail)
   go_wp2
   go_ret3
   exact hfin.out _
 ·go_enter Tryz.func203,Tryz.ntmps203
  go_wp2_with (go_at_call 204;refine (F1.out _ 0 _ rfl Row.nil (by omega)).mono ?_)
  all_goals
   rintro en w2 ⟨rfl,rfl⟩
   go_wp2
   go_quiet (fail)
   go_wp2
   go_ret3
   exact hfin.out _
theorem vint_take_bad (Be Bb Ba:Nat) (A:Option Addr) (m c:Nat) (a:Nat) (most:Int) (l:List UInt8) (w:World) (ht:Taker Be Bb Ba A m c 0 a w) (hr:Row w w.heap.size A (Lib.byteCells l)) (hm:l.length=m) (hc:m≤c) (hcx:c≤maxLen) (ha:a≤m) (hl:m≤400000000000)
  (hbad:(getF (l.drop a)).2=0∨most<((getF (l.drop a)).1:Int)):
  Calls Tryz.prog 203 #[.int .i64 most,.pointer (some ⟨Be,0,none⟩),.pointer (some ⟨Bb,0,none⟩),.pointer (some ⟨Ba,0,none⟩)] w (Took Be Bb Ba A m c 0 0 2 a w):=by
 by_cases h0:l=[]
 ·subst h0
  have hm0:m=0:=by simpa using hm.symm
  have ha0:a=0:=by omega
  subst ha0
  exact take_nil Be Bb Ba A m c most w ht hm0 hcx
 ·obtain ⟨b,off,rfl,_,_⟩:=hr.at_ (by rw [Lib.byteCells_length];exact List.length_pos_iff.2 h0)
  exact take_bad Be Bb Ba b off m c a most l _ _ w ht hr hm hc hcx ha hl rfl hbad
theorem vint_take_good (Be Bb Ba:Nat) (A:Option Addr) (m c:Nat) (a:Nat) (most:Int) (l:List UInt8) (w:World) (ht:Taker Be Bb Ba A m c 0 a w) (hr:Row w w.heap.size A (Lib.byteCells l)) (hm:l.length=m) (hc:m≤c) (hcx:c≤maxLen) (ha:a≤m) (hl:m≤400000000000)
  (hk:(getF (l.drop a)).2≠0) (hmost:((getF (l.drop a)).1:Int)≤most):
  Calls Tryz.prog 203 #[.int .i64 most,.pointer (some ⟨Be,0,none⟩),.pointer (some ⟨Bb,0,none⟩),.pointer (some ⟨Ba,0,none⟩)] w
   (Took Be Bb Ba A m c ((getF (l.drop a)).1:Int) ((a:Int)+((getF (l.drop a)).2:Int)) 0 ((a:Int)+((getF (l.drop a)).2:Int)) w):=by
 have hbd:=getF_bd (l.drop a)
 rw [List.length_drop] at hbd
 obtain ⟨b,off,rfl,_,_⟩:=hr.at_ (by rw [Lib.byteCells_length];omega)
 exact take_good Be Bb Ba b off m c a most l _ _ w ht hr hm hc hcx ha hl rfl (by omega) hmost
def GaveTaker (A:Option Addr) (m c:Nat) (a:Int) (w:World) (e:Ending) (w':World):Prop:=
 e= .returned (.func (.func 203) #[] #[.pointer (some ⟨w.heap.size+2,0,none⟩),.pointer (some ⟨w.heap.size,0,none⟩),.pointer (some ⟨w.heap.size+1,0,none⟩)])∧
 Taker (w.heap.size+2) w.heap.size (w.heap.size+1) A m c (if a<0∨(m:Int)<a then 1 else 0) a w'∧Below w.heap.size w w'∧w'.heap.size=w.heap.size+3
set_option maxHeartbeats 1000000 in
set_option maxRecDepth 100000 in
theorem vint_taker (A:Option Addr) (m c:Nat) (a:Int) (w:World) (hl:m≤400000000000):
  Calls Tryz.prog 188 #[.slice A m c,.int .i64 a] w (GaveTaker A m c a w):=by
 have fin:Hid (∀ x:Int,x=(if a<0∨(m:Int)<a then 1 else 0)→GaveTaker A m c a w
   (.returned (.func (.func 203) #[] #[.pointer (some ⟨w.heap.size+1+1,0,none⟩),.pointer (some ⟨w.heap.size,0,none⟩),.pointer (some ⟨w.heap.size+1,0,none⟩)]))
   (((w.alloc (.cells #[.slice A m c] 86)).alloc (.cells #[.int .i64 a] 3)).alloc (.cells #[.int .i64 x] 31))):=Lib.hid fun x hx=>by
  have s1:(w.alloc (.cells #[.slice A m c] 86)).heap.size=w.heap.size+1:=by simp
  have s2:((w.alloc (.cells #[.slice A m c] 86)).alloc (.cells #[.int .i64 a] 3)).heap.size=w.heap.size+2:=by simp
  refine ⟨rfl,⟨?_,?_,?_⟩,?_,by simp⟩
  ·rw [← hx,← s2]
   exact heap_alloc_new _ _
  ·exact (Below.heap_alloc _ _ _ (by omega)).trans ((Below.heap_alloc _ _ _ (by omega)).trans (heap_alloc_new _ _))
  ·refine (Below.heap_alloc _ _ _ (by omega)).trans ?_
   rw [← s1]
   exact heap_alloc_new _ _
  ·exact (((Below.refl _ w).alloc (Nat.le_refl _) _).alloc (by omega) _).alloc (by omega) _
 by_cases h0:a<0
 ·go_enter Tryz.func188,Tryz.ntmps188
  go_wp2
  go_ret
  exact fin.out 1 (by rw [if_pos (.inl h0)])
 ·by_cases h1:(m:Int)<a
  ·go_enter Tryz.func188,Tryz.ntmps188
   go_wp2
   go_ret
   exact fin.out 1 (by rw [if_pos (.inr h1)])
  ·go_enter Tryz.func188,Tryz.ntmps188
   go_wp2
   go_ret
   exact fin.out 0 (by rw [if_neg (by omega)])
def TookZ (Be Bb Ba:Nat) (A:Option Addr) (m c:Nat) (z:Int × Int × Int) (w:World) (e:Ending) (w':World):Prop:=
 e= .returned (.tuple #[.int .i64 z.1,.int .i64 z.2.1,.int .i64 z.2.2])∧(∃ a',Taker Be Bb Ba A m c z.2.2 a' w'∧(z.2.2=0→a'=z.2.1))∧Aside w.heap.size Be Ba w w'
theorem take_first (Be Bb Ba:Nat) (A:Option Addr) (m c:Nat) (a:Int) (l:List UInt8) (w:World) (ht:Taker Be Bb Ba A m c (if a<0∨(m:Int)<a then 1 else 0) a w) (hr:Row w w.heap.size A (Lib.byteCells l)) (hm:l.length=m) (hc:m≤c) (hcx:c≤maxLen) (hl:m≤400000000000):
  Calls Tryz.prog 203 #[.int .i64 9223372036854775807,.pointer (some ⟨Be,0,none⟩),.pointer (some ⟨Bb,0,none⟩),.pointer (some ⟨Ba,0,none⟩)] w (TookZ Be Bb Ba A m c (getZ l a) w):=by
 by_cases h0:a<0∨(m:Int)<a
 ·rw [if_pos h0] at ht
  rw [getZ_out (by rw [hm];exact h0)]
  refine (take_none Be Bb Ba A m c 1 a _ w ht (by decide)).mono ?_
  rintro e w' ⟨h1,h2,h3⟩
  exact ⟨h1,⟨_,h2,fun h=>absurd h (by decide)⟩,h3⟩
 ·rw [if_neg h0] at ht
  obtain ⟨k,rfl⟩:∃ k:Nat,a=k:=⟨a.toNat,by omega⟩
  have hkm:k≤m:=by omega
  have hbd:=getF_bd (l.drop k)
  by_cases h2:(getF (l.drop k)).2=0
  ·rw [getZ_form (by omega) h2]
   refine (vint_take_bad Be Bb Ba A m c k _ l w ht hr hm hc hcx hkm hl (.inl h2)).mono ?_
   rintro e w' ⟨h1,h2,h3⟩
   exact ⟨h1,⟨_,h2,fun h=>absurd h (by decide)⟩,h3⟩
  ·obtain ⟨j,hj⟩:∃ j,(getF (l.drop k)).2=j+1:=⟨(getF (l.drop k)).2-1,by omega⟩
   rw [getZ_ok (n:=(getF (l.drop k)).1) (k:=j) (by omega) (by rw [← hj]),← hj]
   refine (vint_take_good Be Bb Ba A m c k _ l w ht hr hm hc hcx hkm hl h2 (by omega)).mono ?_
   rintro e w' ⟨h1,h2,h3⟩
   exact ⟨h1,⟨_,h2,fun _=>rfl⟩,h3⟩
set_option maxHeartbeats 1000000 in
set_option maxRecDepth 100000 in
theorem vint_Get (A:Option Addr) (m c:Nat) (a:Int) (l:List UInt8) (w:World) (hr:Row w w.heap.size A (Lib.byteCells l)) (hm:l.length=m) (hc:m≤c) (hcx:c≤maxLen) (hl:m≤400000000000):
  Calls Tryz.prog 172 #[.slice A m c,.int .i64 a] w (GaveZ (getZ l a) w):=by
 have HR:=Lib.hid hr
 clear hr
 obtain ⟨z,hz⟩:∃ z,z=getZ l a:=⟨_,rfl⟩
 rw [← hz]
 have HZ:=Lib.hid hz
 clear hz
 go_enter Tryz.func172,Tryz.ntmps172
 go_wp2_with (go_at_call 188;refine (vint_taker A m c a _ hl).mono ?_)
 rintro en w2 ⟨rfl,ht,hb,hs⟩
 have hr2:=HR.out.below hb
 have t1:=take_first _ _ _ A m c a l w2 ht (hr2.more (by omega)) hm hc hcx hl
 rw [← HZ.out] at t1
 have T1:=Lib.hid t1
 have HB:=Lib.hid hb
 clear t1 hr2 ht hb
 go_wp2_with (go_at_call 203;refine T1.out.mono ?_)
 rintro en w3 ⟨rfl,_,h3⟩
 have hb3:=HB.out.trans (h3.below (by omega) (by omega) (by omega))
 have HB3:=Lib.hid hb3
 clear hb3 h3
 go_wp2
 go_ret3
 exact ⟨rfl,HB3.out⟩
end Go.Proofs.YtmoomnpbiifedaaGreat
namespace Go.Proofs.YtmoomnpbiifedaaGreat
open Go Go.RowKit
set_option linter.unusedVariables false
end Go.Proofs.YtmoomnpbiifedaaGreat
namespace Go.Proofs.YtmoomnpbiifedaaGreat
open Go Go.RowKit
set_option linter.unusedVariables false
theorem Taker.keep {Be Bb Ba:Nat} {A:Option Addr} {m c:Nat} {e a:Int} {w w':World} (h:Taker Be Bb Ba A m c e a w) {B:Nat} (hb:Below B w w') (h1:Be<B) (h2:Bb<B) (h3:Ba<B):Taker Be Bb Ba A m c e a w':=
 ⟨(hb.block _ h1).trans h.err,(hb.block _ h2).trans h.bytes,(hb.block _ h3).trans h.place⟩
def GetRRel (B0 base:Nat) (A:Option Addr) (m c:Nat) (l:List UInt8) (many:Nat) (w:World) (r:Option (List Int × Nat)) (at_ r4 r5 r6 e vl last i:Value) (wr:World):Prop:=
 r4= .slice none 0 0∧r5= .int .i64 0∧r6= .int .i64 0∧e= .int .i64 0∧∃ (acc:List Int) (x:Int) (a k:Nat),k≤many∧i= .int .i64 (k:Int)∧last= .int .i64 x∧at_= .int .i64 (a:Int)∧acc.length=k∧k≤a∧a≤m∧ -1≤x∧x≤4611686018427387904∧
  r=takeR l (many-k) x a acc∧wr.ownsRow base 3 1 vl k (ints acc)∧Taker (B0+2) B0 (B0+1) A m c 0 a wr∧Below B0 w wr∧base≤wr.heap.size
set_option maxHeartbeats 2000000 in
set_option maxRecDepth 100000 in
theorem vint_GetRising (A:Option Addr) (m c:Nat) (a:Int) (l:List UInt8) (w:World) (hr:Row w w.heap.size A (Lib.byteCells l)) (hm:l.length=m) (hc:m≤c) (hcx:c≤maxLen) (hl:m≤400000000000):
  Calls Tryz.prog 173 #[.slice A m c,.int .i64 a] w (GaveR (risZ l a) w):=by
 obtain ⟨i0,hi0,hz0,hz1,hz2⟩:=info_parts info_int
 have HR:=Lib.hid hr
 clear hr
 rcases getZ_split l a with ⟨e,hz,he⟩|⟨many,b,hz,hb,hmany⟩
 ·have hres:=risZ_err hz (by omega)
  rw [hres]
  have HZ:=Lib.hid hz
  clear hz hres he
  go_enter Tryz.func173,Tryz.ntmps173
  go_wp2_with (go_at_call 188;refine (vint_taker A m c a _ (by omega)).mono ?_)
  rintro en w2 ⟨rfl,ht,hb,hs⟩
  have hr2:=HR.out.below hb
  have t1:=take_first _ _ _ A m c a l w2 ht (hr2.more (by omega)) hm hc hcx (by omega)
  rw [HZ.out] at t1
  have T1:=Lib.hid t1
  have HB:=Lib.hid hb
  clear t1 hr2 ht hb
  go_wp2_with (go_at_call 203;refine T1.out.mono ?_)
  rintro en w3 ⟨rfl,_,h3⟩
  have HB3:=Lib.hid (HB.out.trans (h3.below (by omega) (by omega) (by omega)))
  clear h3
  go_wp2
  go_loop [1,9,10,23] (fun t er vl i=>t= .int .i64 0∧er= .int .i64 e∧vl= .slice none 0 0∧i= .int .i64 0) (fun _ _ _ _=>0)
  case atStart=>exact ⟨rfl,rfl,rfl,rfl⟩
  case round=>
   obtain ⟨rfl,rfl,rfl,rfl⟩:=hrel
   go_wp2
   go_ret3
   exact ⟨_,rfl,World.ownsRow_nil _ _ _ _,HB3.out⟩
 ·have hres:=risZ_ok hz
  obtain ⟨r,hr⟩:∃ r,r=takeR l many (-1) b []:=⟨_,rfl⟩
  rw [← hr] at hres
  obtain ⟨z,hzz⟩:∃ z,z=risZ l a:=⟨_,rfl⟩
  rw [← hzz]
  rw [← hzz] at hres
  have HZ:=Lib.hid hz
  have HRES:=Lib.hid hres
  have HRR:=Lib.hid hr
  clear hz hres hr hzz
  go_enter Tryz.func173,Tryz.ntmps173
  go_wp2_with (go_at_call 188;refine (vint_taker A m c a _ (by omega)).mono ?_)
  rintro en w2 ⟨rfl,ht,hb2,hs⟩
  have hr2:=HR.out.below hb2
  have t1:=take_first _ _ _ A m c a l w2 ht (hr2.more (by omega)) hm hc hcx (by omega)
  rw [HZ.out] at t1
  have T1:=Lib.hid t1
  have HB:=Lib.hid hb2
  clear t1 hr2 ht hb2
  go_wp2_with (go_at_call 203;refine T1.out.mono ?_)
  rintro en w3 ⟨rfl,⟨a',ht3,ha'⟩,h3⟩
  have ha3:a'=(b:Int):=ha' rfl
  subst ha3
  have hs3:w2.heap.size≤w3.heap.size:=h3.2.2.2.1
  have HB3:=Lib.hid (HB.out.trans (h3.below (by omega) (by omega) (by omega)))
  have HT3:=Lib.hid ht3
  clear h3 ht3 ha'
  obtain ⟨B0,hB0⟩:∃ B0,B0=w.heap.size:=⟨_,rfl⟩
  rw [← hB0] at HT3
  rw [← hB0] at HB3
  rw [← hB0] at hs
  rw [← hB0]
  have HB0:=Lib.hid hB0
  clear hB0
  go_wp2
  go_loopw [1,4,5,6,9,10,11,23] (fun t r4 r5 r6 e vl last i wr=>GetRRel B0 w2.heap.size A m c l many w r t r4 r5 r6 e vl last i wr) (fun _ _ _ _ _ _ _ i _=>many-(intOf i).toNat)
  case atStart=>exact ⟨rfl,rfl,rfl,rfl,[], -1,b,0,by omega,rfl,rfl,rfl,rfl,by omega,by omega,by omega,by omega,HRR.out,World.ownsRow_nil _ _ _ _,HT3.out,HB3.out,hs3⟩
  case round=>
   obtain ⟨rfl,rfl,rfl,rfl,acc,x,q,k,hk,rfl,rfl,rfl,hacc,hkq,hqm,hx0,hx1,htake,hown,ht,hbw,hsz⟩:=hrel
   by_cases hlt:k<many
   ·obtain ⟨j,hj⟩:∃ j,many-k=j+1:=⟨many-k-1,by omega⟩
    rw [hj,takeR] at htake
    have hbd:=getF_bd (l.drop q)
    rw [List.length_drop,hm] at hbd
    have hrow:=(HR.out.below (HB0.out▸hbw)).more (HB0.out▸hbw).size
    have HBW:=Lib.hid hbw
    have HOWN:=Lib.hid hown
    by_cases hbad:(getF (l.drop q)).2=0∨4611686018427387904-(x+1)<((getF (l.drop q)).1:Int)
    ·rw [if_pos hbad] at htake
     have t1:=vint_take_bad (B0+2) B0 (B0+1) A m c q (4611686018427387904-(x+1)) l wr ht hrow hm hc hcx hqm (by omega) hbad
     have T1:=Lib.hid t1
     have hres:z=([],0,2):=by rw [HRES.out,htake];rfl
     have HR2:=Lib.hid hres
     clear hres t1 hbad htake hbd hj hrow hbw hown ht
     go_wp2_with (go_at_call 203;refine T1.out.mono ?_)
     rintro en w4 ⟨rfl,_,h4⟩
     have HB4:=Lib.hid (HBW.out.trans (h4.below (by have :=HBW.out.size;omega) (by omega) (by omega)))
     clear h4
     go_wp2
     go_ret3
     rw [HR2.out]
     exact ⟨_,rfl,World.ownsRow_nil _ _ _ _,HB0.out▸HB4.out⟩
    ·rw [if_neg hbad] at htake
     have t1:=vint_take_good (B0+2) B0 (B0+1) A m c q (4611686018427387904-(x+1)) l wr ht hrow hm hc hcx hqm (by omega) (by omega) (by omega)
     obtain ⟨f,hf⟩:∃ f,f=(getF (l.drop q)).1:=⟨_,rfl⟩
     obtain ⟨g,hg⟩:∃ g,g=(getF (l.drop q)).2:=⟨_,rfl⟩
     rw [← hf,← hg] at t1 htake
     rw [← hf,← hg] at hbd hbad
     have T1:=Lib.hid t1
     have HTK:=Lib.hid htake
     have hfx:(f:Int)≤4611686018427387904-(x+1):=by omega
     have hg1:1≤g:=by omega
     have hjk:Hid (j=many-(k+1)):=Lib.hid (by omega)
     clear t1 hbad htake hj hrow hbw hown ht hf hg
     go_wp2_with (go_at_call 203;refine T1.out.mono ?_)
     rintro en w4 ⟨rfl,ht4,h4⟩
     have hs4:wr.heap.size≤w4.heap.size:=h4.2.2.2.1
     have hown4:=owned_aside HOWN.out (by omega) (by omega) (Nat.le_refl _) h4
     have HB4:=Lib.hid (HBW.out.trans (h4.below (by have :=HBW.out.size;omega) (by omega) (by omega)))
     have HT4:=Lib.hid ht4
     have HOWN4:=Lib.hid hown4
     clear h4 ht4 hown4
     go_wp2_with (at_builtin;refine wpList_append_own _ rfl (.tmp 41) (.tmp 43) 22 rfl w2.heap.size 3 i0 _ 1 8 Tryz.underlying22 hi0 hz0 hz1 hz2 rfl (by omega) _ k (ints acc) rfl (HOWN4.out.alloc _) ⟨w4.heap.size,0,none⟩ 1 1 [.int .i64 (x+((f:Int)+1))] rfl rfl (news_at w4 [.int .i64 (x+((f:Int)+1))] 3) (by intro u hu;simp at hu;subst hu;rfl) (by unfold maxLen;omega) (by omega) (by simp;omega) ?_)
     intro v5 w5 hown5 hg5 _
     have hb5:Below w2.heap.size w4 w5:=((Below.refl _ w4).alloc (by omega) _).grown hg5 (by simp;omega) fun k hk=>(HOWN4.out.lt k hk).1
     have hfin:GetRRel B0 w2.heap.size A m c l many w r (.int .i64 ((q:Int)+(g:Int))) (.slice none 0 0) (.int .i64 0) (.int .i64 0) (.int .i64 0) v5 (.int .i64 (x+((f:Int)+1))) (.int .i64 ((k:Int)+1)) w5:=
      ⟨rfl,rfl,rfl,rfl,acc++[x+((f:Int)+1)],x+((f:Int)+1),q+g,k+1,by omega,by simp,rfl,by simp,by simp [hacc],by omega,by omega,by omega,by omega,
       by rw [← hjk.out];exact HTK.out,by rw [show ints (acc++[x+((f:Int)+1)])=ints acc++[.int .i64 (x+((f:Int)+1))] by simp [ints],hs];exact hown5,
       by rw [Int.natCast_add];exact HT4.out.keep hb5 (by omega) (by omega) (by omega),HB4.out.trans (hb5.mono (by omega)),by have :=hb5.size;omega⟩
     have HF:=Lib.hid hfin
     clear hfin hb5 hg5 hown5
     go_wp2
     go_roundw
     case rel=>exact HF.out
     case measure=>simp [intOf];omega
   ·have hkm:many-k=0:=by omega
    rw [hkm,takeR] at htake
    have hres:z=(acc,(q:Int),0):=by rw [HRES.out,htake];rfl
    have HR2:=Lib.hid hres
    have HA:=Lib.hid hacc
    clear hres htake hkm hacc
    go_wp2
    go_ret3
    rw [HR2.out]
    refine ⟨_,rfl,?_,HB0.out▸hbw⟩
    simp only
    rw [HA.out]
    exact owned_low hown (by rw [← HB0.out];omega)
end Go.Proofs.YtmoomnpbiifedaaGreat
set_option linter.unusedVariables false
namespace Go.Proofs.YtmoomnpbiifedaaGreat
open Go Go.RowKit
def GaveGet (b:List UInt8) (x:Int) (a many:Nat) (w:World) (e:Ending) (w':World):Prop:=
  Below w.heap.size w w'∧
    ((∃ g v, g.length = many ∧ Stands b x a g ∧ (∀ g', g'.length = many → Stands b x a g' → g' = g) ∧ (∀ p ∈ g, p.2.length ≤ b.length) ∧ e = .returned (.tuple #[v, .int .i64 ((a + (bytesP x g).length : Nat) : Int), .bool true]) ∧ NewPo w.heap.size w' v g) ∨
     ((∀ g',g'.length=many→¬ Stands b x a g')∧e= .returned (.tuple #[.slice none 0 0,.int .i64 0,.bool false])))
def GetPRel (b:List UInt8) (x0:Int) (a0 many:Nat) (w:World) (r6 r7 r8 vo last at_ i:Value) (wr:World):Prop:=
 r6= .slice none 0 0∧r7= .int .i64 0∧r8= .bool false∧∃ (acc:List Po) (k a:Nat) (x:Int),k≤many∧i= .int .i64 (k:Int)∧acc.length=k∧last= .int .i64 x∧at_= .int .i64 (a:Int)∧x=docOf x0 acc∧a=a0+(bytesP x0 acc).length∧a≤b.length∧
  Stands b x0 a0 acc∧ -1≤x∧x<2147483648∧(∀ g,g.length=many→Stands b x0 a0 g→acc=g.take k)∧(∀ p∈acc,p.2.length≤b.length)∧NewPo w.heap.size wr vo acc∧Below w.heap.size w wr
set_option maxHeartbeats 4000000 in
set_option maxRecDepth 100000 in
theorem posting_get (A:Option Addr) (m c:Nat) (b:List UInt8) (x0:Int) (a0 many:Nat) (w:World) (hr:Row w w.heap.size A (Lib.byteCells b)) (hm:b.length=m) (hc:m≤c) (hcx:c≤maxLen) (hl:m≤400000000000) (ha0:a0≤m) (hx0: -1≤x0) (hx1:x0<2147483648) (hmany:many≤1000):
  Calls Tryz.prog 145 #[.slice A m c,.agg #[.int .i64 x0,.int .i64 (a0:Int)],.int .i64 (many:Int)] w (GaveGet b x0 a0 many w):=by
 obtain ⟨i0,hi0,hz0,hz1,hz2⟩:=info_parts info_posting
 have HR:=Lib.hid hr
 have HM:=Lib.hid hm
 clear hr
 go_enter Tryz.func145,Tryz.ntmps145
 go_wp2
 go_quiet (fail)
 go_wp2
 obtain ⟨wq,hwq⟩:∃ wq,wq=World.drewN (w.alloc (.cells #[.int .i64 x0,.int .i64 (a0:Int)] 119)) nq:=⟨_,rfl⟩
 have hbq:Below w.heap.size w wq:=by rw [hwq];exact ((Below.refl _ w).alloc (Nat.le_refl _) _).trans (quiet_below _)
 rw [← hwq]
 have HBQ:=Lib.hid hbq
 clear hwq hbq
 go_loopw [6,7,8,9,10,11,21] (fun r6 r7 r8 vo last at_ i wr=>GetPRel b x0 a0 many w r6 r7 r8 vo last at_ i wr) (fun _ _ _ _ _ _ i _=>many-(intOf i).toNat)
 case atStart=>exact ⟨rfl,rfl,rfl,[],0,a0,x0,by omega,rfl,rfl,rfl,rfl,rfl,by simp [bytesP],by omega,Stands.nil (by omega),hx0,hx1,fun g _ _=>by simp,(by intro p hp;cases hp),NewPo.nil,HBQ.out⟩
 case round=>
  obtain ⟨rfl,rfl,rfl,acc,k,a,x,hk,rfl,hacc,rfl,rfl,hxe,hae,hab,hst,hxl,hxh,huni,hpl,hown,hbw⟩:=hrel
  have hsz:=hbw.size
  by_cases hlt:k<many
  ·have hnx:∀ g,g.length=many→Stands b x0 a0 g→∃ a2:Nat,getZ b (a:Int)=((g.getD k (0,[])).1-(x+1),(a2:Int),0)∧risZ b (a2:Int)=((g.getD k (0,[])).2,(((a0+(bytesP x0 (g.take (k+1))).length:Nat)):Int),0)∧
     x<(g.getD k (0,[])).1∧(g.getD k (0,[])).1<2147483648∧placesB (g.getD k (0,[])).2=true∧g.take (k+1)=acc++[((g.getD k (0,[])).1,(g.getD k (0,[])).2)]:=fun g h1 h2=>by
    obtain ⟨a2,e1,e2,e3,e4,e5,e6,e7⟩:=stands_next h2 hx0 (k:=k) (by omega) (by omega)
    rw [← huni g h1 h2] at e1 e3 e4 e7
    rw [← hxe,← hae] at e1
    rw [← hxe] at e3 e4
    exact ⟨a2,e1,e2,e4,e5,e6,e7⟩
   have HNX:=Lib.hid hnx
   have HUNI:=Lib.hid huni
   have HST:=Lib.hid hst
   have HXE:=Lib.hid hxe
   have HAE:=Lib.hid hae
   have HPL:=Lib.hid hpl
   have HOWN:=Lib.hid hown
   have HA:=Lib.hid hacc
   have HBW:=Lib.hid hbw
   have g1:=vint_Get A m c (a:Int) b wr ((HR.out.below hbw).more hsz) hm hc hcx (by omega)
   clear hnx huni hst hxe hae hpl hown hacc hbw
   rcases getZ_split b (a:Int) with ⟨e,hz,he⟩|⟨dz,a2,hz,ha2,hdz⟩
   ·rw [hz] at g1
    have G1:=Lib.hid g1
    have HNO:Hid (∀ g',g'.length=many→¬ Stands b x0 a0 g'):=Lib.hid fun g h1 h2=>by
     obtain ⟨q,e1,_⟩:=HNX.out g h1 h2
     rw [hz] at e1
     simp only [Prod.mk.injEq] at e1
     omega
    have hne:e≠0:=by omega
    have heb:(e != 0)=true:=by rw [bne_iff_ne];exact hne
    clear g1 hz he
    go_wp2_with (go_at_call 172;refine G1.out.mono ?_)
    rintro en w4 ⟨rfl,hb4⟩
    have HB4:=Lib.hid (HBW.out.trans (hb4.mono hsz))
    clear hb4
    go_wp2
    go_ret3
    exact ⟨HB4.out,.inr ⟨HNO.out,rfl⟩⟩
   ·rw [hz] at g1
    have G1:=Lib.hid g1
    have HZ:=Lib.hid hz
    clear g1 hz
    by_cases hbig:2147483648-(x+1)≤(dz:Int)
    ·have HNO:Hid (∀ g',g'.length=many→¬ Stands b x0 a0 g'):=Lib.hid fun g h1 h2=>by
      obtain ⟨q,e1,_,e3,e4,_⟩:=HNX.out g h1 h2
      rw [HZ.out] at e1
      simp only [Prod.mk.injEq] at e1
      omega
     have hd:decide (2147483648-(x+1)≤(dz:Int))=true:=decide_eq_true hbig
     clear hdz
     go_wp2_with (go_at_call 172;refine G1.out.mono ?_)
     rintro en w4 ⟨rfl,hb4⟩
     have HB4:=Lib.hid (HBW.out.trans (hb4.mono hsz))
     clear hb4
     go_wp2
     go_ret3
     exact ⟨HB4.out,.inr ⟨HNO.out,rfl⟩⟩
    ·have hd:decide (2147483648-(x+1)≤(dz:Int))=false:=decide_eq_false hbig
     go_wp2_with (go_at_call 172;refine G1.out.mono ?_)
     rintro en w4 ⟨rfl,hb4⟩
     have HB4:=Lib.hid (HBW.out.trans (hb4.mono hsz))
     have hs4:=HB4.out.size
     have g2:=vint_GetRising A m c (a2:Int) b w4 ((HR.out.below HB4.out).more hs4) hm hc hcx (by omega)
     have HOW4:=Lib.hid (HOWN.out.below hb4)
     clear hb4
     rcases risZ_split b (a2:Int) with ⟨e,hz2,he⟩|⟨ps,a3,hz2,ha3,hpsl⟩
     ·rw [hz2] at g2
      have G2:=Lib.hid g2
      have HNO:Hid (∀ g',g'.length=many→¬ Stands b x0 a0 g'):=Lib.hid fun g h1 h2=>by
       obtain ⟨q,e1,e2,_⟩:=HNX.out g h1 h2
       rw [HZ.out] at e1
       simp only [Prod.mk.injEq] at e1
       rw [← e1.2.1,hz2] at e2
       simp only [Prod.mk.injEq] at e2
       exact he e2.2.2
      have heb:(e != 0)=true:=by rw [bne_iff_ne];exact he
      clear g2 hz2
      go_wp2_with (go_at_call 173;refine G2.out.mono ?_)
      rintro en w5 ⟨v5,rfl,_,hb5⟩
      have HB5:=Lib.hid (HB4.out.trans (hb5.mono hs4))
      clear hb5
      go_wp2
      go_ret3
      exact ⟨HB5.out,.inr ⟨HNO.out,rfl⟩⟩
     ·rw [hz2] at g2
      have G2:=Lib.hid g2
      have HZ2:=Lib.hid hz2
      clear g2 hz2
      go_wp2_with (go_at_call 173;refine G2.out.mono ?_)
      rintro en w5 ⟨v5,rfl,hown5,hb5⟩
      simp only at hown5
      obtain ⟨A5,c5,rfl,hc5,hr5⟩:=owned_row hown5
      have hcx5:c5≤maxLen:=by
       rcases hown5.2 with ⟨h,_⟩|⟨_,cap,_,h,_,_,_,h4,_⟩
       ·injection h with _ _ h;omega
       ·injection h with _ _ h;rw [h];exact h4
      obtain ⟨F,hF⟩:∃ F,F=ps.length:=⟨_,rfl⟩
      have mp:=may_places_any A5 F c5 ps w5 hr5 hF.symm (by omega)
      rw [← hF] at hc5 hpsl
      rw [← hF]
      have HFL:=Lib.hid hF
      have MP:=Lib.hid mp
      have HR5:=Lib.hid (RowL.of_own (base:=w.heap.size) hown5 (by omega))
      have HB5:=Lib.hid (HB4.out.trans (hb5.mono hs4))
      have hs5:=HB5.out.size
      have HOW5:=Lib.hid (HOW4.out.below hb5)
      clear hown5 hb5 hF mp hr5
      rcases hpb:placesB ps with _|_
      ·rw [hpb] at MP
       have HNO:Hid (∀ g',g'.length=many→¬ Stands b x0 a0 g'):=Lib.hid fun g h1 h2=>by
        obtain ⟨q,e1,e2,_,_,e5,_⟩:=HNX.out g h1 h2
        rw [HZ.out] at e1
        simp only [Prod.mk.injEq] at e1
        rw [← e1.2.1,HZ2.out] at e2
        simp only [Prod.mk.injEq] at e2
        rw [← e2.1,hpb] at e5
        cases e5
       clear hpb
       go_wp2_with (go_at_call 99;refine MP.out.mono ?_;rintro e w' ⟨rfl,rfl⟩)
       go_ret3
       exact ⟨HB5.out,.inr ⟨HNO.out,rfl⟩⟩
      ·rw [hpb] at MP
       have hstep:=stands_step HST.out (by rw [← HXE.out];exact hxl) (d:=(dz:Int)) (q2:=(a2:Int)) (q3:=(a3:Int)) (ps:=ps) (by rw [← HAE.out];exact HZ.out) HZ2.out (by rw [← HXE.out];omega) hpb
       rw [← HXE.out] at hstep
       obtain ⟨y,hy⟩:∃ y,y=x+1+(dz:Int):=⟨_,rfl⟩
       rw [show (dz:Int)+(x+1)=y by omega] at hstep
       have hst2:=hstep.1
       have ha32:a3=a0+(bytesP x0 (acc++[(y,ps)])).length:=by have :=hstep.2;omega
       have huni2:∀ g,g.length=many→Stands b x0 a0 g→acc++[(y,ps)]=g.take (k+1):=fun g h1 h2=>by
        obtain ⟨q,e1,e2,_,_,_,e6⟩:=HNX.out g h1 h2
        rw [HZ.out] at e1
        simp only [Prod.mk.injEq] at e1
        rw [← e1.2.1,HZ2.out] at e2
        simp only [Prod.mk.injEq] at e2
        rw [e6,← e2.1,show y=(g.getD k (0,[])).1 by omega]
       have hpl2:∀ p∈acc++[(y,ps)],p.2.length≤b.length:=fun p hp=>by
        rcases List.mem_append.1 hp with h|h
        ·exact HPL.out p h
        ·simp at h;rw [h];show ps.length≤b.length;rw [← HFL.out];exact hpsl
       have hy2: -1≤y∧y<2147483648:=by omega
       have hdoc:y=docOf x0 (acc++[(y,ps)]):=docOf_step.symm
       obtain ⟨cs,hcs1,hcs2⟩:=HOW5.out
       rw [HA.out] at hcs1
       have HC1:=Lib.hid hcs1
       have HC2:=Lib.hid hcs2
       have HST2:=Lib.hid hst2
       have HA32:=Lib.hid ha32
       have HUNI2:=Lib.hid huni2
       have HPL2:=Lib.hid hpl2
       have HDOC:=Lib.hid hdoc
       have HY:=Lib.hid hy
       clear hpb hstep hst2 ha32 huni2 hpl2 hdoc hcs1 hcs2 HST HNX HUNI HPL HZ HZ2 HOW5 HOW4 HOWN
       have hyx:x+1+(dz:Int)=y:=HY.out.symm
       clear hy
       go_wp2_with (first
        |(go_at_call 99;refine MP.out.mono ?_;rintro e w' ⟨rfl,rfl⟩)
        |(at_builtin;refine wpList_append_own _ rfl (.tmp 58) (.tmp 62) 58 rfl w.heap.size 63 i0 _ 2 32 Tryz.underlying58 hi0 hz0 hz1 hz2 rfl (by omega) _ k cs rfl (HC1.out.alloc _) ⟨w5.heap.size,0,none⟩ 1 1 [.int .i64 y,.slice A5 F c5] rfl rfl (news_at w5 [.int .i64 y,.slice A5 F c5] 63) (by intro u hu;simp at hu;rcases hu with hu|hu<;>(subst hu;rfl)) (by unfold maxLen;omega) (by omega) (by simp;omega) ?_))
       intro v7 w7 hown7 hg7 _
       have hal:=(Below.refl w5.heap.size w5).alloc (Nat.le_refl _) (.cells #[.int .i64 y,.slice A5 F c5] 63)
       have hb7:Below w.heap.size w5 w7:=((Below.refl _ w5).alloc hs5 _).grown hg7 (by simp;omega) fun k hk=>(HC1.out.lt k hk).1
       have hpush:NewPo w.heap.size w7 v7 (acc++[(y,ps)]):=
        NewPo.push (c:=c5) (A:=A5) (cs:=cs) (by rw [HA.out];exact HC1.out.alloc _) (HC2.out.imp fun _ _ h=>⟨h.1.below hal,h.2⟩) (by rw [← HFL.out];exact hc5) hcx5 ⟨HR5.out.1.below hal,HR5.out.2⟩ (by rw [HA.out,← HFL.out];exact hown7) hg7
       have hfin:GetPRel b x0 a0 many w (.slice none 0 0) (.int .i64 0) (.bool false) v7 (.int .i64 y) (.int .i64 (a3:Int)) (.int .i64 ((k:Int)+1)) w7:=
        ⟨rfl,rfl,rfl,acc++[(y,ps)],k+1,a3,y,by omega,by simp,by simp [HA.out],rfl,rfl,HDOC.out,HA32.out,ha3,HST2.out,hy2.1,hy2.2,HUNI2.out,HPL2.out,hpush,HB5.out.trans hb7⟩
       have HF:=Lib.hid hfin
       clear hfin hb7 hg7 hown7 hpush hal
       go_wp2
       go_roundw
       case rel=>exact HF.out
       case measure=>simp [intOf];omega
  ·obtain rfl:k=many:=by omega
   have hfin:Below w.heap.size w wr∧((∃ g v,g.length=k∧Stands b x0 a0 g∧(∀ g',g'.length=k→Stands b x0 a0 g'→g'=g)∧(∀ p∈g,p.2.length≤b.length)∧Ending.returned (.tuple #[u9,.int .i64 (a:Int),.bool true])= .returned (.tuple #[v,.int .i64 ((a0+(bytesP x0 g).length:Nat):Int),.bool true])∧NewPo w.heap.size wr v g)):=
    ⟨hbw,acc,u9,hacc,hst,fun g' h1 h2=>by rw [huni g' h1 h2,List.take_of_length_le (by omega)],hpl,by rw [hae],hown⟩
   have HF:=Lib.hid hfin
   clear hfin hst huni hpl hown hbw hxe hae
   go_wp2
   go_ret3
   exact ⟨HF.out.1,.inl HF.out.2⟩
end Go.Proofs.YtmoomnpbiifedaaGreat
set_option linter.unusedVariables false
namespace Go.Proofs.YtmoomnpbiifedaaGreat
open Go Go.RowKit
section
variable (B:Nat) (bs:List UInt8) (l:List Po) (w:World) (h:LIn w B bs l)
include h
theorem in_has (k:Int) (hk0: -1≤k):Calls Tryz.prog 127 #[.pointer (some ⟨B,0,none⟩),.int .i64 k] w fun e w'=>e= .returned (.bool (decide (0≤k∧k<(blocksP l.length:Int))))∧w=w':=by
 have HB:=Lib.hid (in_Blocks B bs l w h)
 clear h
 obtain ⟨n,hn⟩:∃ n,n=blocksP l.length:=⟨_,rfl⟩
 rw [← hn] at HB
 rw [← hn]
 clear hn
 by_cases hz:k<0
 ·have hd:decide (0≤k∧k<(n:Int))=false:=decide_eq_false (by omega)
  rw [hd]
  have hg:decide (0≤k)=false:=decide_eq_false (by omega)
  go_enter Tryz.func127,Tryz.ntmps127
  go_wp2
  go_ret
  exact ⟨rfl,rfl⟩
 ·have hg:decide (0≤k)=true:=decide_eq_true (by omega)
  have hd:decide (0≤k∧k<(n:Int))=decide (k<(n:Int)):=by
   by_cases h2:k<(n:Int)
   ·rw [decide_eq_true h2,decide_eq_true ⟨by omega,h2⟩]
   ·rw [decide_eq_false h2,decide_eq_false (fun h=>h2 h.2)]
  rw [hd]
  clear hd
  go_enter Tryz.func127,Tryz.ntmps127
  go_wp2_with (go_at_call 104;refine HB.out.mono ?_;rintro e w' ⟨rfl,rfl⟩)
  go_ret
  exact ⟨rfl,rfl⟩
end
end Go.Proofs.YtmoomnpbiifedaaGreat
