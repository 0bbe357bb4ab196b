import Derived.Test.YtpehcaidjlemiaaGreatDoorMCZz
import Derived.Test.YtpehcaidjlemiaaGreatDoorMCQ19
import Derived.Test.YtpehcaidjlemiaaGreatDoorMCQ18
import Derived.Deep.RegionHeld3
import Derived.Deep.AppendLies
import Derived.Test.YtpehcaidjlemiaaGreatDoorMCQ07
import Derived.Test.YtpehcaidjlemiaaGreatDoorMCQ09
import Derived.BigCall
import Derived.Test.YtpehcaidjlemiaaGreatDoorMCQ01
import Derived.BigQuiet
import Derived.Deep.QuietTactic
import Derived.Test.YtpehcaidjlemiaaGreatDoorMCQ08
set_option maxHeartbeats 8000000
set_option maxRecDepth 100000
set_option linter.unusedVariables false
namespace Go.Proofs.YtpehcaidjlemiaaGreatDoor
open Go Go.RowKit
attribute [local go_sem] Oper.semAt_some
def qfe (x:Nm × Nat):Array Value:=#[.string ⟨x.1.toArray⟩,.pointer (some ⟨x.2,0,none⟩)]
def OkP (l:List Nm) (vs:List Nat) (pre:List (Nm × Nat)) (x:Nm × Nat) (W:World):Prop:=∃ h:pre.length<l.length,x.1=l[pre.length]/\x.2=vs.getD pre.length 0
def qkg (b:Nat) (l:List Nm) (w0:World) (J:List (Nm × Nat)->World->Prop) (i:Value) (wr:World):Prop:=∃ pre:List (Nm × Nat),pre.length<=l.length/\i= .int .i64 (pre.length:Int)/\J pre wr/\Below b w0 wr
theorem qwV (m b D:Nat) (l:List Nm) (vs:List Nat) (w:World) (hm:1<=m) (hb:b<=w.heap.size) (h:qo8 b D l vs w) (hl:l.length<=1048576):
  qkf m Tryz.prog 99 #[.pointer (some ⟨D,0,none⟩)] qfe (fun A B=>Below A.heap.size A B) (Below b) (OkP l vs) (fun xs=>xs.length=l.length) (fun _=>True) w:=by
 intro lp J X W hW hJ hY h0;obtain ⟨A,c,hblk,hnc,hcm,hrow⟩:=h.var;have hvl:=h.vlen;have hblkW:=(hW.block D (lt_of_block hblk)).trans hblk;have c1:=cell_of_one hblkW;have HROW:=qH (hrow.below (hW.mono hb));have HJ:=qH hJ;have HY:=qH hY;have HREL:Hid (qkg b l W J (.int .i64 ((0:Nat):Int)) W):=qH ⟨[],Nat.zero_le _,rfl,h0,Below.refl _ _⟩;have hbW:b<=W.heap.size:=Nat.le_trans hb hW.size;obtain ⟨n,hn⟩:∃ n,n=l.length:=⟨_,rfl⟩;rw [<- hn] at hnc hl c1;have HN:=qH hn;have HV:=qH hvl;clear hJ hY h0 h hblk hblkW hrow hW hn hvl;refine callsIn_of_wp Tryz.func99 rfl trivial ?_ rfl;simp only [Tryz.ntmps99,List.size_toArray,List.length_cons,List.length_nil,Nat.reduceAdd,Nat.reduceSub,Array.replicate_succ,Array.replicate_zero,List.push_toArray,List.append_toArray,List.nil_append,List.cons_append];gi_wp2
 gi_loopw [7] (qkg b l W J) (fun i _=>n-(intOf i).toNat)
 case atStart=>exact HREL.out
 case round=>
  obtain ⟨pre,hpl,rfl,hj,hbw⟩:=hrel;obtain ⟨k,hk⟩:∃ k,k=pre.length:=⟨_,rfl⟩;rw [<- hk,<- HN.out] at hpl;rw [<- hk];have hsz:=hbw.size;by_cases hlt:k<n
  ·have hkl:k<l.length:=by rw [<- HN.out];exact hlt
   obtain ⟨b1,o1,rfl,hb1,hcs⟩:=(HROW.out.below hbw).at_ (by rw [qgx HV.out];omega);obtain ⟨g1,g2⟩:=qgy HV.out hkl;have d1:=hcs _ _ g1;have d2:=hcs _ _ g2;rw [<- Nat.add_assoc] at d2;obtain ⟨x,hx⟩:∃ x,x=l[k]:=⟨_,rfl⟩;obtain ⟨y,hy⟩:∃ y,y=vs.getD k 0:=⟨_,rfl⟩;rw [<- hx] at d1;rw [<- hy] at d2;have hok:∀ W1,OkP l vs pre (x,y) W1:=fun W1=>⟨by rw [<- hk];exact hkl,by simp only [<- hk];exact hx,by simp only [<- hk];exact hy⟩
   obtain ⟨X1,hX1⟩:∃ t:ByteArray,t=⟨x.toArray⟩:=⟨_,rfl⟩;rw [<- hX1] at d1;have HOK:=qH hok;have HX1:=qH hX1;have HK:=qH hk;have HJ0:=qH hj;have hkn:(k:Int)<(n:Int):=by omega
   have hk0:(0:Int)<=(k:Int):=by omega
   clear g1 g2 hcs hx hy hok hX1 hk hj hkl;obtain ⟨w3,hw3⟩:∃ w3,w3=wr.alloc (.cells #[.string X1,.pointer (some ⟨y,0,none⟩)] 177):=⟨_,rfl⟩;have hb3:Below wr.heap.size wr w3:=by rw [hw3];exact (Below.refl _ _).alloc (Nat.le_refl _) _
   have hyy:=HY.out pre (x,y) w3 (HJ.out _ _ _ HJ0.out hb3) (HOK.out w3);rw [show qfe (x,y)=#[.string X1,.pointer (some ⟨y,0,none⟩)] by unfold qfe;rw [HX1.out]] at hyy;obtain ⟨fn,tmps,assign,body,hy,hR⟩:=hyy;rw [hw3] at hy;have HB3:=qH (hbw.trans (hb3.mono (by omega)));have HW3:=qH hw3;clear hw3 hb3;gi_wp2;rw [HW3.out] at hR;refine hR.mono ?_;rintro e W4 (⟨rfl,hJ4,hk4⟩|⟨rfl,hX4⟩)
   ·have hrel:qkg b l W J (.int .i64 ((k:Int)+1)) W4:=by
     refine ⟨pre++[(x,y)],?_,?_,hJ4,HB3.out.trans ?_⟩
     ·rw [List.length_append,List.length_singleton,<- HK.out,<- HN.out];omega
     ·rw [List.length_append,List.length_singleton,<- HK.out];rfl
     ·rw [HW3.out];exact hk4
    have HR:=qH hrel;clear hrel hJ4 hk4 hy hR;gi_wp2;go_roundw
    case rel=>exact HR.out
    case measure=>simp [intOf];omega
   ·gi_wp2
    refine bodyPost_ret (results_none rfl _ _ _) rfl ?_;exact ⟨⟨_,rfl⟩,.inr ⟨_,trivial,hX4⟩⟩
  ·have hkn:pre.length=l.length:=by rw [<- hk,<- HN.out];omega
   gi_wp2
   go_end0
   exact ⟨⟨_,rfl⟩,.inl ⟨_,hkn,hj⟩⟩
theorem qax.rowVar (N:Nat) (T E:TypeId) (base B:Nat) (xs:List Value):qax N (fun W=>qbk T E base B xs W):=fun W l o o' _ ho hc ⟨v,h1,h2⟩=>by
 have hB:B≠l:=fun e=>by subst e;rw [h1] at ho;injection ho with ho;rw [<- ho] at hc;cases hc
 refine ⟨v,(World.putObj_heap_other hB).trans h1,qav h2 fun g hg=>World.putObj_heap_other fun e=> ?_⟩;subst e;rcases h2.2 with ⟨rfl,_⟩|⟨g',cap,cur,rfl,_,hh,_⟩
 ·cases hg
 ·simp only [Value.ownBlock,Option.some.injEq] at hg
  subst hg;rw [hh] at ho;injection ho with ho
  rw [<- ho] at hc;cases hc
theorem qbT.others {T E:TypeId} {base B:Nat} {xs:List Value} {w w':World} (h:qbk T E base B xs w) (ht:qbT B w w'):KeepsOthers w w':=by
 refine ⟨ht.2.2.2.1,fun k o hk hc=> ?_⟩;have hlt:=(Array.getElem?_eq_some_iff.1 hk).1;obtain ⟨v,h1,h2⟩:=h;rw [ht.2.2.2.2 k hlt ?_ ?_,hk]
 ·rintro rfl
  rw [h1] at hk;injection hk with hk
  rw [<- hk] at hc;cases hc
 ·intro u t hu he
  rw [h1] at hu;simp at hu;rw [<- hu.1] at he;rcases h2.2 with ⟨rfl,_⟩|⟨g',cap,cur,rfl,_,hh,_⟩
  ·cases he
  ·simp only [Value.ownBlock,Option.some.injEq] at he
   subst he;rw [hh] at hk;injection hk with hk
   rw [<- hk] at hc;cases hc
attribute [local go_sem] Oper.semAt_some
theorem qax.okP (N:Nat) (l:List Nm) (vs:List Nat) (s:List (Nm × Nat)) (x:Nm × Nat):qax N (OkP l vs s x):=fun _ _ _ _ _ _ _ h=>h
def qpb (l:List Nm) (w:World) (Bl:Nat) (pre:List (Nm × Nat)) (W:World):Prop:=qbk 40 9 w.heap.size Bl (qad (l.take pre.length)) W/\Below w.heap.size w W
theorem qwW (B o:Nat) (l:List Nm) (vs:List Nat) (w:World) (h:qbN w B o l vs) (hl:l.length<=1048576):
  Calls Tryz.prog 56 #[.pointer (some ⟨B,o,none⟩)] w (qeU l w):=by
 obtain ⟨i0,hi0,hz0,hz1,hz2⟩:=info_parts qfl;refine (callsIn_wide (n:=6)).1 ?_;have CL:=qH (qji B o l vs w h);obtain ⟨n,hn⟩:∃ n,n=l.length:=⟨_,rfl⟩;have HN:=qH hn;obtain ⟨w1,hrun,hown1,hgrow1⟩:=run_make_own (P:=Tryz.prog) w w.heap.size 40 9 i0 _ 1 Tryz.underlying40 hi0 hz0 hz1 .i64 .i64 n (by rw [hz2];omega) (by unfold maxLen;omega) (Nat.le_refl _);have hb1:Below w.heap.size w w1:=(Below.refl _ w).grown hgrow1 (Nat.le_refl _) (fun k hk=>by cases hk);obtain ⟨w2,hw2⟩:∃ w2,w2=w1.alloc (.cells #[.slice (some ⟨w.heap.size,0,none⟩) 0 n] 40):=⟨_,rfl⟩;obtain ⟨Bl,hBl⟩:∃ Bl,Bl=w1.heap.size:=⟨_,rfl⟩;have hb2:Below w.heap.size w w2:=by rw [hw2];exact hb1.alloc hb1.size _
 have hrv2:qbk 40 9 w.heap.size Bl (qad []) w2:=⟨_,by rw [hw2,hBl];exact heap_alloc_new w1 _,by rw [hw2];exact hown1.alloc _⟩;have HF:=qH (qwU B o 0 l vs w w2 h hb2 hl (by omega));have hBl2:w.heap.size<=Bl:=by rw [hBl];exact hb1.size
 rw [<- hn] at CL;have HB2:=qH hb2;have HRV2:=qH hrv2;have HW2:=qH hw2;have HBL:=qH hBl;clear h hn hown1 hgrow1 hb1 hw2 hBl hb2 hrv2;refine callsIn_of_wp_marks Tryz.func56 rfl trivial ?_ rfl;simp only [Tryz.ntmps56,List.size_toArray,List.length_cons,List.length_nil,Nat.reduceAdd,Nat.reduceSub,Array.replicate_succ,Array.replicate_zero,List.push_toArray,List.append_toArray,List.nil_append,List.cons_append]
 gi_wp2_with (first
  |(refine ⟨trivial,?_⟩;gi_at_call 98;refine (callsIn_wide.2 CL.out).mono ?_;rintro e w' ⟨rfl,rfl⟩)
  |(gi_at_call 98;refine (callsIn_wide.2 CL.out).mono ?_;rintro e w' ⟨rfl,rfl⟩)
  |(refine ⟨trivial,?_⟩;gi_at_call 54;rw [<- HW2.out];refine (callsIn_wide.2 HF.out).mono ?_)
  |(gi_at_call 54;rw [<- HW2.out];refine (callsIn_wide.2 HF.out).mono ?_))
 rintro e w3 ⟨D,rfl,hD,hrest,hb3,hz3⟩;rw [Int.toNat_zero,List.drop_zero,List.drop_zero] at hrest;have hB3:=HB2.out.trans (hb3.mono HB2.out.size);have hrv3:=HRV2.out.below hb3;have hsz3:w.heap.size<=w3.heap.size:=hB3.size;have HT:=qH (qwV 5 w.heap.size D l vs w3 (by omega) hsz3 hrest hl);have HB3:=qH hB3;have HRV3:=qH hrv3;have HBL3:Hid (Bl<w3.heap.size):=qH hrv3.lt;clear hrest hb3 hB3 hrv3 hrun hz3;gi_wp2;rw [<- HBL.out];refine qpa (by omega) (gf:=99) (lb:=#[.pointer (some ⟨D,0,none⟩)]) rfl (enters_of Tryz.func99 (by kernel_rfl) rfl)
  HT.out (fun hb=>hb) (fun {A B k o} hk hmv ho hnc=>(hmv.block k (Array.getElem?_eq_some_iff.1 ho).1).trans ho)
  (fun h k=>h.trans k) (fun W lp o o' hlp ho hc=>qax.belowW (N:=w3.heap.size) (w0:=W) (by omega) W lp o o' hlp ho hc (Below.refl _ _)) (fun _=>rfl)
  (qpb l w Bl) (fun _ _ _=>False)
  (fun s A' B' h hmv=>⟨h.1.below hmv,h.2.trans (hmv.mono (by have :=h.2.size;omega))⟩)
  (fun s=>(qax.rowVar _ _ _ _ _ _).and (qax.belowW hsz3))
  (fun c s W l o o' _ _ _ h=>h)
  (fun s x=>qax.okP _ _ _ _ _) ⟨by simpa using HRV3.out,HB3.out⟩
  (fun x=>{tmps:=#[.pointer (some ⟨B,o,none⟩),undef,.slice none 0 0,.pointer (some ⟨Bl,0,none⟩),.string ⟨x.1.toArray⟩,.pointer (some ⟨B,o,none⟩),.int .i64 n,.slice (some ⟨w.heap.size,0,none⟩) 0 n,.pointer (some ⟨B,o,none⟩),.func (.func 99) #[] #[.pointer (some ⟨D,0,none⟩)],.string ⟨x.1.toArray⟩,.pointer (some ⟨x.2,0,none⟩),undef,undef,undef,undef,undef],defers:=[]}) ?assign ?body ?done ?stop
 case assign=>
  intro lp x W K' hK';unfold qfe;gi_wp2;exact hK'
 case body=>
  rintro lp pre ⟨x,y⟩ W ⟨hrv,hbw⟩ ⟨hlt,hx,hy⟩;simp only at hx hy ⊢;have hst:qad (l.take (pre.length+1))=qad (l.take pre.length)++[.string ⟨x.toArray⟩]:=by
   rw [List.take_succ_eq_append_getElem hlt,hx,qiH];rfl
  have hlen:(qad (l.take pre.length)).length=pre.length:=by rw [qeQ,List.length_take];omega
  have hRV:=hrv;obtain ⟨v,hv,hown⟩:=hrv;rw [hlen] at hown;have cB:=cell_of_one hv;have fB:=free_of_one hv;have hsz:=hbw.size;obtain ⟨X,hX⟩:∃ t:ByteArray,t=⟨x.toArray⟩:=⟨_,rfl⟩;rw [<- hX] at hst ⊢;obtain ⟨k,hk⟩:∃ k,k=pre.length:=⟨_,rfl⟩;rw [<- hk] at hst hown hlt hlen hRV;obtain ⟨xs,hxs⟩:∃ xs,xs=qad (l.take k):=⟨_,rfl⟩;rw [<- hxs] at hst hown hlen hRV;have HST:=qH hst;have HO:=qH hown;have HRV:=qH hRV;have HV:=qH hv;have HBW:=qH hbw;have HK:=qH hk;have HLEN:=qH hlen;have hkl:k<=1048576:=by omega
  clear hst hown hRV hv hbw hk hlen hxs hx hy hX
  gi_wp2_with (gi_at_builtin;refine wpListIn_append_own _ rfl (.tmp 12) (.tmp 14) 40 rfl w.heap.size 9 i0 _ 1 16 Tryz.underlying40 hi0 hz0 hz1 hz2 rfl (by omega) _ k xs rfl (HO.out.alloc _) ⟨W.heap.size,0,none⟩ 1 1 [.string X] rfl rfl (qaQ W [.string X] 9) (qhr 0 X) (by unfold maxLen;omega) (by omega) (by simp;omega) ?_)
  intro v' w4 hown4 hgrow4 hz4;clear hz4;obtain ⟨g',cap',hv',_,_⟩:=hown4.form (by omega);obtain ⟨cB1,fB1,hrv4,htc⟩:=pushed (by decide) HV.out HLEN.out HO.out ((Below.refl _ W).alloc (Nat.le_refl _) _) hgrow4 hown4 rfl;subst hv';have hko:=htc.others HRV.out;have hbb:=htc.below HRV.out hBl2 hsz;have hrv5:qpb l w Bl (pre++[(x,y)]) (w4.setCell ⟨Bl,0,none⟩ (.slice (some ⟨g',0,none⟩) (k+1) cap')):=by
   refine ⟨?_,HBW.out.trans hbb⟩;rw [List.length_append,List.length_singleton,<- HK.out,HST.out];exact hrv4
  have HKO:=qH hko;have HBB:=qH hbb;have HRV5:=qH hrv5;clear hko hbb hrv5 hrv4 htc hown4 hgrow4;gi_wp2;exact ⟨HKO.out,HBB.out,HRV5.out⟩
 case done=>
  rintro D' ys W hD2 hys ⟨hrv,hbw⟩ hK';rw [hys,List.take_length] at hrv;obtain ⟨v,hv,hown⟩:=hrv;have cB:=cell_of_one hv;have HO:=qH hown;have HBW:=qH hbw;have HRV:Hid (qbk 40 9 w.heap.size Bl (qad l) W):=qH ⟨v,hv,hown⟩;clear hys hown hbw;gi_wp2;refine ⟨by simp,.inl ⟨_,_,rfl,run_takeDeferred hK',?_⟩⟩;refine ⟨_,results_tmp rfl _ _ _,?_⟩;have hfr:=qax.rowVar 0 _ _ _ _ _ W D' _ (.deferred none) (Nat.zero_le _) hK' rfl HRV.out;obtain ⟨v2,hv2,ho2⟩:=hfr;have hne:Bl≠D':=by have :=HBL3.out;omega
  rw [World.putObj_heap_other hne,hv] at hv2;simp at hv2;subst hv2;refine ⟨_,rfl,?_,qax.belowW (N:=w3.heap.size) hsz3 W D' _ _ hD2 hK' rfl HBW.out⟩;unfold qaI;rw [qeQ] at ho2;exact ho2
 case stop=>
  rintro D' c pre W _ _ hh _;exact hh.elim
def qwX (l:List UInt8) (r2 r3 n wth i:Value):Prop:=
 r2= .int .i64 0/\r3= .int .i64 0/\∃ k:Nat,k<=9/\k<=l.length/\i= .int .i64 (k:Int)/\n= .int .i64 (qa5 (l.take k):Int)/\qdA l k/\∃ z:Int,wth= .int .i64 z/\(k<9->z=((128^k:Nat):Int))
def qwY (p:Nat × Nat) (w:World) (e:Ending) (w':World):Prop:=e= .returned (.tuple #[.int .i64 (p.1:Int),.int .i64 (p.2:Int)])/\w=w'
theorem qkh (A:Option Addr) (m c:Nat) (l:List UInt8) (w:World) (hm:l.length=m) (hr:Row w w.heap.size A (Lib.byteCells l)) (hl:m<=400000000000):
  Calls Tryz.prog 248 #[.slice A m c] w (qwY (qar l) w):=by
 have HR:=qH hr;clear hr;subst hm;obtain ⟨r,hrr⟩:∃ r,r=qar l:=⟨_,rfl⟩;rw [<- hrr];have HF:=qH hrr;clear hrr;obtain ⟨lim,hlim⟩:∃ lim:Nat,(if (9:Int)<(l.length:Int) then (9:Int) else (l.length:Int))=(lim:Int):=by
  by_cases h:(9:Int)<(l.length:Int)
  ·exact ⟨9,by rw [if_pos h];rfl⟩
  ·exact ⟨l.length,by rw [if_neg h]⟩
 have hl9:lim<=9/\lim<=l.length/\(lim=9∨lim=l.length):=by split at hlim<;>omega
 go_enter Tryz.func248,Tryz.ntmps248
 go_wp2
 go_loop [2,3,4,5,11] (fun r2 r3 n wth i=>qwX l r2 r3 n wth i) (fun _ _ _ _ i=>lim-(intOf i).toNat)
 case atStart=>exact ⟨rfl,rfl,0,by omega,by omega,rfl,by simp [qa5],qdA.zero l,1,rfl,fun _=>by simp⟩
 case round=>
  obtain ⟨rfl,rfl,k,hk9,hkl,rfl,rfl,hh,z,rfl,hz⟩:=hrel;by_cases hlt:k<lim
  ·obtain ⟨b1,o1,e1,_,hc1⟩:=qtU HR.out (k:=k) (by omega)
   subst e1;obtain ⟨q,p,v,hq,hv,hv2,hmul,hp,hvp,hqb⟩:=quh (l:=l) (k:=k) (by omega) (by omega);have hz':=hz (by omega);rw [hq] at hz';subst hz';rw [hv];obtain ⟨c,hc⟩:∃ c,c=(l.getD k 0).toNat:=⟨_,rfl⟩;have hc255:c<256:=by rw [hc];exact UInt8.toNat_lt _
   have HC:=qH hc;have HH:=qH hh;have HQ:=qH hq;have HV:=qH hv2;rw [<- hc] at hc1 hmul;clear hc hh hz hq hv hv2;by_cases c0:c=0/\0<k
   ·obtain ⟨c0,k0⟩:=c0
    have hr0:r=(0,0):=by rw [HF.out];exact qs3 HH.out (by omega) (by omega) k0 (by rw [<- HC.out];exact c0)
    have HR0:=qH hr0;subst c0;have hk0:(0:Int)<(k:Int):=by omega
    clear hr0;go_wp2;go_ret2;rw [HR0.out];exact ⟨rfl,rfl⟩
   ·have hpk:Hid (c<128->r=(v+p,k+1)):=qH fun h=>by rw [HF.out,qmE HH.out (by omega) (by omega) (by rw [<- HC.out];exact h) (by rw [<- HC.out];omega),HV.out]
    have hnx:Hid (128<=c->qdA l (k+1)):=qH fun h=>HH.out.succ (by rw [<- HC.out];exact h)
    by_cases h128:c<128
    ·have HP:=qH (hpk.out h128)
     clear hpk hnx;by_cases hc0:c=0
     ·have hcb:((c:Int)==0)=true:=by rw [beq_iff_eq];omega
      have hkb:decide ((0:Int)<(k:Int))=false:=decide_eq_false (by omega);have hp0:Hid (p=0):=qH (by rw [hc0] at hmul;simp at hmul;omega);go_wp2;go_ret2;rw [HP.out,hp0.out];exact ⟨by simp,rfl⟩
     ·have hcb:((c:Int)==0)=false:=by rw [beq_eq_false_iff_ne];omega
      go_wp2;go_ret2;rw [HP.out];exact ⟨by simp,rfl⟩
    ·have HN:=qH (hnx.out (by omega))
     clear hpk hnx;have hcb:((c:Int)==0)=false:=by rw [beq_eq_false_iff_ne];omega
     by_cases k8:k<8
     ·obtain ⟨hq1,hq2⟩:=qui HQ.out k8
      have HQ1:=qH hq1;clear hq1;go_wp2
      go_round
      case rel=>exact ⟨rfl,rfl,k+1,by omega,by omega,by go_num,by rw [HV.out];go_num,HN.out,_,rfl,fun _=>by rw [HQ1.out];simp⟩
      case measure=>simp [intOf]<;>omega
     ·have hq8:q=72057594037927936:=by
       have :=HQ.out;rw [show k=8 by omega] at this;rw [<- this]
      subst hq8;go_wp2
      go_round
      case rel=>exact ⟨rfl,rfl,k+1,by omega,by omega,by go_num,by rw [HV.out];go_num,HN.out,_,rfl,fun h=>by omega⟩
      case measure=>simp [intOf]<;>omega
  ·have hr0:r=(0,0):=by rw [HF.out];exact qs2 hh (by omega)
   have HR0:=qH hr0;clear hr0;go_wp2;go_ret2;rw [HR0.out];exact ⟨rfl,rfl⟩
structure qbQ (Be Bb Ba:Nat) (A:Option Addr) (m c:Nat) (e a:Int) (w:World):Prop where
 err:w.heap[Be]?=some (.cells #[.int .i64 e] 34 (0,0))
 bytes:w.heap[Bb]?=some (.cells #[.slice A m c] 178 (0,0))
 place:w.heap[Ba]?=some (.cells #[.int .i64 a] 3 (0,0))
theorem qh3 {w:World} {a b:Nat} {u v:Array Value} {t s:TypeId} {f g:Nat × Nat} (h:w.heap[a]?=some (.cells u t f)) (h2:w.heap[b]?=some (.cells v s g)) (hne:t≠s):a≠b:=by
 rintro rfl;rw [h] at h2;simp at h2;exact hne h2.2.1
section
variable {Be Bb Ba:Nat} {A:Option Addr} {m c:Nat} {e a:Int} {w w':World}
theorem qbQ.setErr (h:qbQ Be Bb Ba A m c e a w) (x:Int):qbQ Be Bb Ba A m c x a (w.setCell ⟨Be,0,none⟩ (.int .i64 x)):=
 ⟨one_setCell h.err,(Below.heap_setCell _ _ _ _ (qh3 h.bytes h.err (by decide))).trans h.bytes,(Below.heap_setCell _ _ _ _ (qh3 h.place h.err (by decide))).trans h.place⟩
theorem qbQ.setPlace (h:qbQ Be Bb Ba A m c e a w) (x:Int):qbQ Be Bb Ba A m c e x (w.setCell ⟨Ba,0,none⟩ (.int .i64 x)):=
 ⟨(Below.heap_setCell _ _ _ _ (qh3 h.err h.place (by decide))).trans h.err,(Below.heap_setCell _ _ _ _ (qh3 h.bytes h.place (by decide))).trans h.bytes,one_setCell h.place⟩
end
def qeH (Be Bb Ba:Nat) (A:Option Addr) (m c:Nat) (n b e:Int) (a':Int) (w:World) (en:Ending) (w':World):Prop:=
 en= .returned (.tuple #[.int .i64 n,.int .i64 b,.int .i64 e])/\qbQ Be Bb Ba A m c e a' w'/\qbd w.heap.size Be Ba w w'
theorem qki {B C:Nat} {w:World} (x:Value):qbd w.heap.size B C w (w.setCell ⟨B,0,none⟩ x):=
 ⟨rfl,rfl,rfl,by simp,fun k _ hk _=>Below.heap_setCell _ _ _ _ hk⟩
theorem qbQ.drewN {Be Bb Ba:Nat} {A:Option Addr} {m c:Nat} {e a:Int} {w:World} (h:qbQ Be Bb Ba A m c e a w) (n:Nat):qbQ Be Bb Ba A m c e a (w.drewN n):=⟨h.1,h.2,h.3⟩
theorem qbd.drewN {base B C:Nat} {w w1:World} (h:qbd base B C w w1) (n:Nat):qbd base B C w (w1.drewN n):=⟨h.1,h.2.1,h.2.2.1,h.2.2.2.1,h.2.2.2.2⟩
theorem qwZ (Be Bb Ba:Nat) (A:Option Addr) (m c:Nat) (e a most:Int) (w:World) (ht:qbQ Be Bb Ba A m c e a w) (he:e≠0):
  Calls Tryz.prog 247 #[.int .i64 most,.pointer (some ⟨Be,0,none⟩),.pointer (some ⟨Bb,0,none⟩),.pointer (some ⟨Ba,0,none⟩)] w (qeH Be Bb Ba A m c 0 0 e a w):=by
 have cE:=cell_of_one ht.err;have heb:(e==0)=false:=by rw [beq_eq_false_iff_ne];exact he
 have HT:=qH ht;clear ht he
 go_enter Tryz.func247,Tryz.ntmps247
 go_wp2
 go_quiet (fail)
 go_wp2
 go_ret3
 exact ⟨rfl,HT.out.drewN _,(qbd.refl _ _ _ _).drewN _⟩
theorem qw0 (Be Bb Ba:Nat) (b off:Nat) (m c:Nat) (a:Nat) (most:Int) (l:List UInt8) (n k:Nat) (w:World) (ht:qbQ Be Bb Ba (some ⟨b,off,none⟩) m c 0 a w) (hr:Row w w.heap.size (some ⟨b,off,none⟩) (Lib.byteCells l)) (hm:l.length=m) (hc:m<=c) (hcx:c<=maxLen) (ha:a<=m) (hl:m<=400000000000)
  (hF:qar (l.drop a)=(n,k)) (hbad:k=0∨most<(n:Int)):
  Calls Tryz.prog 247 #[.int .i64 most,.pointer (some ⟨Be,0,none⟩),.pointer (some ⟨Bb,0,none⟩),.pointer (some ⟨Ba,0,none⟩)] w (qeH Be Bb Ba (some ⟨b,off,none⟩) m c 0 0 2 a w):=by
 have cE:=cell_of_one ht.err;have fE:=free_of_one ht.err;have cB:=cell_of_one ht.bytes;have cA:=cell_of_one ht.place;have f1:=fun A' m' c' h1 h2 h3=>qkh A' m' c' (l.drop a) w h1 h2 h3
 rw [hF] at f1;have F1:=qH f1;have HT:=qH ht;have HR:=qH hr;unfold maxLen at hcx;clear ht hr f1;have hfin:Hid (∀ nq,qeH Be Bb Ba (some ⟨b,off,none⟩) m c 0 0 2 a w (.returned (.tuple #[.int .i64 0,.int .i64 0,.int .i64 2])) ((w.setCell ⟨Be,0,none⟩ (.int .i64 2)).drewN nq)):=
  qH fun nq=>⟨rfl,(HT.out.setErr 2).drewN _,(qki _).drewN _⟩
 rcases Nat.eq_zero_or_pos k with hk|hk
 ·subst hk
  go_enter Tryz.func247,Tryz.ntmps247
  go_wp2_with (go_at_call 248;refine (F1.out _ _ _ (by rw [List.length_drop];omega) (qjy HR.out hm hc ha _ (by first|exact .inl ⟨rfl,by omega⟩|exact .inr rfl)) (by omega)).mono ?_)
  all_goals
   rintro en w2 ⟨rfl,rfl⟩;go_wp2
   go_quiet (fail)
   go_wp2
   go_ret3
   exact hfin.out _
 ·have hkb:((k:Int)==0)=false:=by rw [beq_eq_false_iff_ne];omega
  have hmost:most<(n:Int):=by omega
  go_enter Tryz.func247,Tryz.ntmps247
  go_wp2_with (go_at_call 248;refine (F1.out _ _ _ (by rw [List.length_drop];omega) (qjy HR.out hm hc ha _ (by first|exact .inl ⟨rfl,by omega⟩|exact .inr rfl)) (by omega)).mono ?_)
  all_goals
   rintro en w2 ⟨rfl,rfl⟩;go_wp2
   go_quiet (fail)
   go_wp2
   go_ret3
   exact hfin.out _
theorem qw1 (Be Bb Ba:Nat) (b off:Nat) (m c:Nat) (a:Nat) (most:Int) (l:List UInt8) (n k:Nat) (w:World) (ht:qbQ Be Bb Ba (some ⟨b,off,none⟩) m c 0 a w) (hr:Row w w.heap.size (some ⟨b,off,none⟩) (Lib.byteCells l)) (hm:l.length=m) (hc:m<=c) (hcx:c<=maxLen) (ha:a<=m) (hl:m<=400000000000)
  (hF:qar (l.drop a)=(n,k)) (hk:0<k) (hmost:(n:Int)<=most):
  Calls Tryz.prog 247 #[.int .i64 most,.pointer (some ⟨Be,0,none⟩),.pointer (some ⟨Bb,0,none⟩),.pointer (some ⟨Ba,0,none⟩)] w (qeH Be Bb Ba (some ⟨b,off,none⟩) m c n ((a:Int)+k) 0 ((a:Int)+k) w):=by
 have cE:=cell_of_one ht.err;have cB:=cell_of_one ht.bytes;have cA:=cell_of_one ht.place;have fA:=free_of_one ht.place;have hbd:=qeY (l.drop a);rw [hF,List.length_drop] at hbd;simp only at hbd;have f1:=fun A' m' c' h1 h2 h3=>qkh A' m' c' (l.drop a) w h1 h2 h3
 rw [hF] at f1;have F1:=qH f1;have HT:=qH ht;have HR:=qH hr;unfold maxLen at hcx;clear ht hr f1;have hfin:Hid (∀ nq,qeH Be Bb Ba (some ⟨b,off,none⟩) m c n ((a:Int)+k) 0 ((a:Int)+k) w (.returned (.tuple #[.int .i64 n,.int .i64 ((a:Int)+k),.int .i64 0])) ((w.setCell ⟨Ba,0,none⟩ (.int .i64 ((a:Int)+k))).drewN nq)):=
  qH fun nq=>⟨rfl,(HT.out.setPlace _).drewN _,(qki _).swap.drewN _⟩
 have hkb:((k:Int)==0)=false:=by rw [beq_eq_false_iff_ne];omega
 go_enter Tryz.func247,Tryz.ntmps247
 go_wp2_with (go_at_call 248;refine (F1.out _ _ _ (by rw [List.length_drop];omega) (qjy HR.out hm hc ha _ (by first|exact .inl ⟨rfl,by omega⟩|exact .inr rfl)) (by omega)).mono ?_)
 all_goals
  rintro en w2 ⟨rfl,rfl⟩;go_wp2
  go_quiet (fail)
  go_wp2
  go_ret3
  exact hfin.out _
theorem qw2 (Be Bb Ba:Nat) (A:Option Addr) (m c:Nat) (most:Int) (w:World) (ht:qbQ Be Bb Ba A m c 0 0 w) (hm:m=0) (hcx:c<=maxLen):
  Calls Tryz.prog 247 #[.int .i64 most,.pointer (some ⟨Be,0,none⟩),.pointer (some ⟨Bb,0,none⟩),.pointer (some ⟨Ba,0,none⟩)] w (qeH Be Bb Ba A m c 0 0 2 0 w):=by
 subst hm;have cE:=cell_of_one ht.err;have fE:=free_of_one ht.err;have cB:=cell_of_one ht.bytes;have cA:=cell_of_one ht.place;have hF:qar []=(0,0):=by decide
 have f1:=fun A' m' c' h1 h2 h3=>qkh A' m' c' [] w h1 h2 h3
 rw [hF] at f1;have F1:=qH f1;have HT:=qH ht;unfold maxLen at hcx;clear ht f1 hF;have hfin:Hid (∀ nq,qeH Be Bb Ba A 0 c 0 0 2 0 w (.returned (.tuple #[.int .i64 0,.int .i64 0,.int .i64 2])) ((w.setCell ⟨Be,0,none⟩ (.int .i64 2)).drewN nq)):=
  qH fun nq=>⟨rfl,(HT.out.setErr 2).drewN _,(qki _).drewN _⟩
 rcases A with _|ad
 ·go_enter Tryz.func247,Tryz.ntmps247
  go_wp2_with (go_at_call 248;refine (F1.out none 0 _ rfl Row.nil (by omega)).mono ?_)
  all_goals
   rintro en w2 ⟨rfl,rfl⟩;go_wp2
   go_quiet (fail)
   go_wp2
   go_ret3
   exact hfin.out _
 ·go_enter Tryz.func247,Tryz.ntmps247
  go_wp2_with (go_at_call 248;refine (F1.out _ 0 _ rfl Row.nil (by omega)).mono ?_)
  all_goals
   rintro en w2 ⟨rfl,rfl⟩;go_wp2
   go_quiet (fail)
   go_wp2
   go_ret3
   exact hfin.out _
theorem qpc (Be Bb Ba:Nat) (A:Option Addr) (m c:Nat) (a:Nat) (most:Int) (l:List UInt8) (w:World) (ht:qbQ Be Bb Ba A m c 0 a w) (hr:Row w w.heap.size A (Lib.byteCells l)) (hm:l.length=m) (hc:m<=c) (hcx:c<=maxLen) (ha:a<=m) (hl:m<=400000000000)
  (hbad:(qar (l.drop a)).2=0∨most<((qar (l.drop a)).1:Int)):
  Calls Tryz.prog 247 #[.int .i64 most,.pointer (some ⟨Be,0,none⟩),.pointer (some ⟨Bb,0,none⟩),.pointer (some ⟨Ba,0,none⟩)] w (qeH Be Bb Ba A m c 0 0 2 a w):=by
 by_cases h0:l=[]
 ·subst h0
  have hm0:m=0:=by simpa using hm.symm
  have ha0:a=0:=by omega
  subst ha0;exact qw2 Be Bb Ba A m c most w ht hm0 hcx
 ·obtain ⟨b,off,rfl,_,_⟩:=hr.at_ (by rw [Lib.byteCells_length];exact List.length_pos_iff.2 h0)
  exact qw0 Be Bb Ba b off m c a most l _ _ w ht hr hm hc hcx ha hl rfl hbad
theorem qpd (Be Bb Ba:Nat) (A:Option Addr) (m c:Nat) (a:Nat) (most:Int) (l:List UInt8) (w:World) (ht:qbQ Be Bb Ba A m c 0 a w) (hr:Row w w.heap.size A (Lib.byteCells l)) (hm:l.length=m) (hc:m<=c) (hcx:c<=maxLen) (ha:a<=m) (hl:m<=400000000000)
  (hk:(qar (l.drop a)).2≠0) (hmost:((qar (l.drop a)).1:Int)<=most):
  Calls Tryz.prog 247 #[.int .i64 most,.pointer (some ⟨Be,0,none⟩),.pointer (some ⟨Bb,0,none⟩),.pointer (some ⟨Ba,0,none⟩)] w
   (qeH Be Bb Ba A m c ((qar (l.drop a)).1:Int) ((a:Int)+((qar (l.drop a)).2:Int)) 0 ((a:Int)+((qar (l.drop a)).2:Int)) w):=by
 have hbd:=qeY (l.drop a);rw [List.length_drop] at hbd;obtain ⟨b,off,rfl,_,_⟩:=hr.at_ (by rw [Lib.byteCells_length];omega);exact qw1 Be Bb Ba b off m c a most l _ _ w ht hr hm hc hcx ha hl rfl (by omega) hmost
def qpe (A:Option Addr) (m c:Nat) (a:Int) (w:World) (e:Ending) (w':World):Prop:=
 e= .returned (.func (.func 247) #[] #[.pointer (some ⟨w.heap.size+2,0,none⟩),.pointer (some ⟨w.heap.size,0,none⟩),.pointer (some ⟨w.heap.size+1,0,none⟩)])/\
 qbQ (w.heap.size+2) w.heap.size (w.heap.size+1) A m c (if a<0∨(m:Int)<a then 1 else 0) a w'/\Below w.heap.size w w'/\w'.heap.size=w.heap.size+3
theorem qkj (A:Option Addr) (m c:Nat) (a:Int) (w:World) (hl:m<=400000000000):
  Calls Tryz.prog 232 #[.slice A m c,.int .i64 a] w (qpe A m c a w):=by
 have fin:Hid (∀ x:Int,x=(if a<0∨(m:Int)<a then 1 else 0)->qpe A m c a w
   (.returned (.func (.func 247) #[] #[.pointer (some ⟨w.heap.size+1+1,0,none⟩),.pointer (some ⟨w.heap.size,0,none⟩),.pointer (some ⟨w.heap.size+1,0,none⟩)]))
   (((w.alloc (.cells #[.slice A m c] 178)).alloc (.cells #[.int .i64 a] 3)).alloc (.cells #[.int .i64 x] 34))):=qH fun x hx=>by
  have s1:(w.alloc (.cells #[.slice A m c] 178)).heap.size=w.heap.size+1:=by simp
  have s2:((w.alloc (.cells #[.slice A m c] 178)).alloc (.cells #[.int .i64 a] 3)).heap.size=w.heap.size+2:=by simp
  refine ⟨rfl,⟨?_,?_,?_⟩,?_,by simp⟩
  ·rw [<- hx,<- s2]
   exact heap_alloc_new _ _
  ·exact (Below.heap_alloc _ _ _ (by omega)).trans ((Below.heap_alloc _ _ _ (by omega)).trans (heap_alloc_new _ _))
  ·refine (Below.heap_alloc _ _ _ (by omega)).trans ?_
   rw [<- s1];exact heap_alloc_new _ _
  ·exact (((Below.refl _ w).alloc (Nat.le_refl _) _).alloc (by omega) _).alloc (by omega) _
 by_cases h0:a<0
 ·go_enter Tryz.func232,Tryz.ntmps232
  go_wp2;go_ret;exact fin.out 1 (by rw [if_pos (.inl h0)])
 ·by_cases h1:(m:Int)<a
  ·go_enter Tryz.func232,Tryz.ntmps232
   go_wp2;go_ret;exact fin.out 1 (by rw [if_pos (.inr h1)])
  ·go_enter Tryz.func232,Tryz.ntmps232
   go_wp2;go_ret;exact fin.out 0 (by rw [if_neg (by omega)])
def qw3 (Be Bb Ba:Nat) (A:Option Addr) (m c:Nat) (z:Int × Int × Int) (w:World) (e:Ending) (w':World):Prop:=
 e= .returned (.tuple #[.int .i64 z.1,.int .i64 z.2.1,.int .i64 z.2.2])/\(∃ a',qbQ Be Bb Ba A m c z.2.2 a' w'/\(z.2.2=0->a'=z.2.1))/\qbd w.heap.size Be Ba w w'
theorem qkk (Be Bb Ba:Nat) (A:Option Addr) (m c:Nat) (a:Int) (l:List UInt8) (w:World) (ht:qbQ Be Bb Ba A m c (if a<0∨(m:Int)<a then 1 else 0) a w) (hr:Row w w.heap.size A (Lib.byteCells l)) (hm:l.length=m) (hc:m<=c) (hcx:c<=maxLen) (hl:m<=400000000000):
  Calls Tryz.prog 247 #[.int .i64 9223372036854775807,.pointer (some ⟨Be,0,none⟩),.pointer (some ⟨Bb,0,none⟩),.pointer (some ⟨Ba,0,none⟩)] w (qw3 Be Bb Ba A m c (qbA l a) w):=by
 by_cases h0:a<0∨(m:Int)<a
 ·rw [if_pos h0] at ht
  rw [qmI (by rw [hm];exact h0)];refine (qwZ Be Bb Ba A m c 1 a _ w ht (by decide)).mono ?_;rintro e w' ⟨h1,h2,h3⟩;exact ⟨h1,⟨_,h2,fun h=>absurd h (by decide)⟩,h3⟩
 ·rw [if_neg h0] at ht
  obtain ⟨k,rfl⟩:∃ k:Nat,a=k:=⟨a.toNat,by omega⟩;have hkm:k<=m:=by omega
  have hbd:=qeY (l.drop k);by_cases h2:(qar (l.drop k)).2=0
  ·rw [qmJ (by omega) h2]
   refine (qpc Be Bb Ba A m c k _ l w ht hr hm hc hcx hkm hl (.inl h2)).mono ?_;rintro e w' ⟨h1,h2,h3⟩;exact ⟨h1,⟨_,h2,fun h=>absurd h (by decide)⟩,h3⟩
  ·obtain ⟨j,hj⟩:∃ j,(qar (l.drop k)).2=j+1:=⟨(qar (l.drop k)).2-1,by omega⟩
   rw [qiV (n:=(qar (l.drop k)).1) (k:=j) (by omega) (by rw [<- hj]),<- hj];refine (qpd Be Bb Ba A m c k _ l w ht hr hm hc hcx hkm hl h2 (by omega)).mono ?_;rintro e w' ⟨h1,h2,h3⟩;exact ⟨h1,⟨_,h2,fun _=>rfl⟩,h3⟩
theorem qw4 (A:Option Addr) (m c:Nat) (a:Int) (l:List UInt8) (w:World) (hr:Row w w.heap.size A (Lib.byteCells l)) (hm:l.length=m) (hc:m<=c) (hcx:c<=maxLen) (hl:m<=400000000000):
  Calls Tryz.prog 216 #[.slice A m c,.int .i64 a] w (quj (qbA l a) w):=by
 have HR:=qH hr;clear hr;obtain ⟨z,hz⟩:∃ z,z=qbA l a:=⟨_,rfl⟩;rw [<- hz];have HZ:=qH hz;clear hz
 go_enter Tryz.func216,Tryz.ntmps216
 go_wp2_with (go_at_call 232;refine (qkj A m c a _ hl).mono ?_)
 rintro en w2 ⟨rfl,ht,hb,hs⟩;have hr2:=HR.out.below hb;have t1:=qkk _ _ _ A m c a l w2 ht (hr2.more (by omega)) hm hc hcx hl;rw [<- HZ.out] at t1;have T1:=qH t1;have HB:=qH hb;clear t1 hr2 ht hb
 go_wp2_with (go_at_call 247;refine T1.out.mono ?_)
 rintro en w3 ⟨rfl,_,h3⟩;have hb3:=HB.out.trans (h3.below (by omega) (by omega) (by omega));have HB3:=qH hb3;clear hb3 h3;go_wp2
 go_ret3
 exact ⟨rfl,HB3.out⟩
theorem qbQ.keep {Be Bb Ba:Nat} {A:Option Addr} {m c:Nat} {e a:Int} {w w':World} (h:qbQ Be Bb Ba A m c e a w) {B:Nat} (hb:Below B w w') (h1:Be<B) (h2:Bb<B) (h3:Ba<B):qbQ Be Bb Ba A m c e a w':=
 ⟨(hb.block _ h1).trans h.err,(hb.block _ h2).trans h.bytes,(hb.block _ h3).trans h.place⟩
def qpf (B0 base:Nat) (A:Option Addr) (m c:Nat) (l:List UInt8) (many:Nat) (w:World) (r:Option (List Int × Nat)) (at_ r4 r5 r6 e vl last i:Value) (wr:World):Prop:=
 r4= .slice none 0 0/\r5= .int .i64 0/\r6= .int .i64 0/\e= .int .i64 0/\∃ (acc:List Int) (x:Int) (a k:Nat),k<=many/\i= .int .i64 (k:Int)/\last= .int .i64 x/\at_= .int .i64 (a:Int)/\acc.length=k/\k<=a/\a<=m/\ -1<=x/\x<=4611686018427387904/\
  r=qcm l (many-k) x a acc/\wr.ownsRow base 3 1 vl k (qaa acc)/\qbQ (B0+2) B0 (B0+1) A m c 0 a wr/\Below B0 w wr/\base<=wr.heap.size
theorem qw5 (A:Option Addr) (m c:Nat) (a:Int) (l:List UInt8) (w:World) (hr:Row w w.heap.size A (Lib.byteCells l)) (hm:l.length=m) (hc:m<=c) (hcx:c<=maxLen) (hl:m<=400000000000):
  Calls Tryz.prog 217 #[.slice A m c,.int .i64 a] w (quk (qcR l a) w):=by
 obtain ⟨i0,hi0,hz0,hz1,hz2⟩:=info_parts qds;have HR:=qH hr;clear hr;rcases qhz l a with ⟨e,hz,he⟩|⟨many,b,hz,hb,hmany⟩
 ·have hres:=qjA hz (by omega)
  rw [hres];have HZ:=qH hz;clear hz hres he
  go_enter Tryz.func217,Tryz.ntmps217
  go_wp2_with (go_at_call 232;refine (qkj A m c a _ (by omega)).mono ?_)
  rintro en w2 ⟨rfl,ht,hb,hs⟩;have hr2:=HR.out.below hb;have t1:=qkk _ _ _ A m c a l w2 ht (hr2.more (by omega)) hm hc hcx (by omega);rw [HZ.out] at t1;have T1:=qH t1;have HB:=qH hb;clear t1 hr2 ht hb
  go_wp2_with (go_at_call 247;refine T1.out.mono ?_)
  rintro en w3 ⟨rfl,_,h3⟩;have HB3:=qH (HB.out.trans (h3.below (by omega) (by omega) (by omega)));clear h3;go_wp2
  go_loop [1,9,10,23] (fun t er vl i=>t= .int .i64 0/\er= .int .i64 e/\vl= .slice none 0 0/\i= .int .i64 0) (fun _ _ _ _=>0)
  case atStart=>exact ⟨rfl,rfl,rfl,rfl⟩
  case round=>
   obtain ⟨rfl,rfl,rfl,rfl⟩:=hrel;go_wp2
   go_ret3
   exact ⟨_,rfl,World.ownsRow_nil _ _ _ _,HB3.out⟩
 ·have hres:=qjB hz
  obtain ⟨r,hr⟩:∃ r,r=qcm l many (-1) b []:=⟨_,rfl⟩;rw [<- hr] at hres;obtain ⟨z,hzz⟩:∃ z,z=qcR l a:=⟨_,rfl⟩;rw [<- hzz];rw [<- hzz] at hres;have HZ:=qH hz;have HRES:=qH hres;have HRR:=qH hr;clear hz hres hr hzz
  go_enter Tryz.func217,Tryz.ntmps217
  go_wp2_with (go_at_call 232;refine (qkj A m c a _ (by omega)).mono ?_)
  rintro en w2 ⟨rfl,ht,hb2,hs⟩;have hr2:=HR.out.below hb2;have t1:=qkk _ _ _ A m c a l w2 ht (hr2.more (by omega)) hm hc hcx (by omega);rw [HZ.out] at t1;have T1:=qH t1;have HB:=qH hb2;clear t1 hr2 ht hb2
  go_wp2_with (go_at_call 247;refine T1.out.mono ?_)
  rintro en w3 ⟨rfl,⟨a',ht3,ha'⟩,h3⟩;have ha3:a'=(b:Int):=ha' rfl;subst ha3;have hs3:w2.heap.size<=w3.heap.size:=h3.2.2.2.1;have HB3:=qH (HB.out.trans (h3.below (by omega) (by omega) (by omega)));have HT3:=qH ht3;clear h3 ht3 ha';obtain ⟨B0,hB0⟩:∃ B0,B0=w.heap.size:=⟨_,rfl⟩;rw [<- hB0] at HT3;rw [<- hB0] at HB3;rw [<- hB0] at hs;rw [<- hB0];have HB0:=qH hB0;clear hB0;go_wp2
  go_loopw [1,4,5,6,9,10,11,23] (fun t r4 r5 r6 e vl last i wr=>qpf B0 w2.heap.size A m c l many w r t r4 r5 r6 e vl last i wr) (fun _ _ _ _ _ _ _ i _=>many-(intOf i).toNat)
  case atStart=>exact ⟨rfl,rfl,rfl,rfl,[], -1,b,0,by omega,rfl,rfl,rfl,rfl,by omega,by omega,by omega,by omega,HRR.out,World.ownsRow_nil _ _ _ _,HT3.out,HB3.out,hs3⟩
  case round=>
   obtain ⟨rfl,rfl,rfl,rfl,acc,x,q,k,hk,rfl,rfl,rfl,hacc,hkq,hqm,hx0,hx1,htake,hown,ht,hbw,hsz⟩:=hrel;by_cases hlt:k<many
   ·obtain ⟨j,hj⟩:∃ j,many-k=j+1:=⟨many-k-1,by omega⟩
    rw [hj,qcm] at htake;have hbd:=qeY (l.drop q);rw [List.length_drop,hm] at hbd;have hrow:=(HR.out.below (HB0.out▸hbw)).more (HB0.out▸hbw).size;have HBW:=qH hbw;have HOWN:=qH hown;by_cases hbad:(qar (l.drop q)).2=0∨4611686018427387904-(x+1)<((qar (l.drop q)).1:Int)
    ·rw [if_pos hbad] at htake
     have t1:=qpc (B0+2) B0 (B0+1) A m c q (4611686018427387904-(x+1)) l wr ht hrow hm hc hcx hqm (by omega) hbad;have T1:=qH t1;have hres:z=([],0,2):=by rw [HRES.out,htake];rfl
     have HR2:=qH hres;clear hres t1 hbad htake hbd hj hrow hbw hown ht
     go_wp2_with (go_at_call 247;refine T1.out.mono ?_)
     rintro en w4 ⟨rfl,_,h4⟩;have HB4:=qH (HBW.out.trans (h4.below (by have :=HBW.out.size;omega) (by omega) (by omega)));clear h4;go_wp2
     go_ret3
     rw [HR2.out];exact ⟨_,rfl,World.ownsRow_nil _ _ _ _,HB0.out▸HB4.out⟩
    ·rw [if_neg hbad] at htake
     have t1:=qpd (B0+2) B0 (B0+1) A m c q (4611686018427387904-(x+1)) l wr ht hrow hm hc hcx hqm (by omega) (by omega) (by omega);obtain ⟨f,hf⟩:∃ f,f=(qar (l.drop q)).1:=⟨_,rfl⟩;obtain ⟨g,hg⟩:∃ g,g=(qar (l.drop q)).2:=⟨_,rfl⟩;rw [<- hf,<- hg] at t1 htake;rw [<- hf,<- hg] at hbd hbad;have T1:=qH t1;have HTK:=qH htake;have hfx:(f:Int)<=4611686018427387904-(x+1):=by omega
     have hg1:1<=g:=by omega
     have hjk:Hid (j=many-(k+1)):=qH (by omega);clear t1 hbad htake hj hrow hbw hown ht hf hg
     go_wp2_with (go_at_call 247;refine T1.out.mono ?_)
     rintro en w4 ⟨rfl,ht4,h4⟩;have hs4:wr.heap.size<=w4.heap.size:=h4.2.2.2.1;have hown4:=qkZ HOWN.out (by omega) (by omega) (Nat.le_refl _) h4;have HB4:=qH (HBW.out.trans (h4.below (by have :=HBW.out.size;omega) (by omega) (by omega)));have HT4:=qH ht4;have HOWN4:=qH hown4;clear h4 ht4 hown4
     go_wp2_with (at_builtin;refine wpList_append_own _ rfl (.tmp 41) (.tmp 43) 23 rfl w2.heap.size 3 i0 _ 1 8 Tryz.underlying23 hi0 hz0 hz1 hz2 rfl (by omega) _ k (qaa acc) rfl (HOWN4.out.alloc _) ⟨w4.heap.size,0,none⟩ 1 1 [.int .i64 (x+((f:Int)+1))] rfl rfl (qaQ w4 [.int .i64 (x+((f:Int)+1))] 3) (by intro u hu;simp at hu;subst hu;rfl) (by unfold maxLen;omega) (by omega) (by simp;omega) ?_)
     intro v5 w5 hown5 hg5 _;have hb5:Below w2.heap.size w4 w5:=((Below.refl _ w4).alloc (by omega) _).grown hg5 (by simp;omega) fun k hk=>(HOWN4.out.lt k hk).1
     have hfin:qpf B0 w2.heap.size A m c l many w r (.int .i64 ((q:Int)+(g:Int))) (.slice none 0 0) (.int .i64 0) (.int .i64 0) (.int .i64 0) v5 (.int .i64 (x+((f:Int)+1))) (.int .i64 ((k:Int)+1)) w5:=
      ⟨rfl,rfl,rfl,rfl,acc++[x+((f:Int)+1)],x+((f:Int)+1),q+g,k+1,by omega,by simp,rfl,by simp,by simp [hacc],by omega,by omega,by omega,by omega,
       by rw [<- hjk.out];exact HTK.out,by rw [show qaa (acc++[x+((f:Int)+1)])=qaa acc++[.int .i64 (x+((f:Int)+1))] by simp [qaa],hs];exact hown5,
       by rw [Int.natCast_add];exact HT4.out.keep hb5 (by omega) (by omega) (by omega),HB4.out.trans (hb5.mono (by omega)),by have :=hb5.size;omega⟩
     have HF:=qH hfin;clear hfin hb5 hg5 hown5;go_wp2;go_roundw
     case rel=>exact HF.out
     case measure=>simp [intOf];omega
   ·have hkm:many-k=0:=by omega
    rw [hkm,qcm] at htake;have hres:z=(acc,(q:Int),0):=by rw [HRES.out,htake];rfl
    have HR2:=qH hres;have HA:=qH hacc;clear hres htake hkm hacc;go_wp2
    go_ret3
    rw [HR2.out];refine ⟨_,rfl,?_,HB0.out▸hbw⟩;simp only;rw [HA.out];exact qbc hown (by rw [<- HB0.out];omega)
end Go.Proofs.YtpehcaidjlemiaaGreatDoor
