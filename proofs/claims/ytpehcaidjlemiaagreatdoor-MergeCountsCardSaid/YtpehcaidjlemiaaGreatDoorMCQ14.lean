import Derived.Test.YtpehcaidjlemiaaGreatDoorMCZz
import Derived.Test.YtpehcaidjlemiaaGreatDoorMCQ13
import Derived.Test.YtpehcaidjlemiaaGreatDoorMCQ08
import Derived.BigCall
import Derived.BigQuiet
import Derived.Deep.QuietTactic
import Derived.Deep.AppendLies
import Derived.Deep.RegionLaw
set_option maxHeartbeats 4000000
set_option maxRecDepth 100000
set_option linter.unusedVariables false
namespace Go.Proofs.YtpehcaidjlemiaaGreatDoor
open Go Go.RowKit
def qgJ (base B n m:Nat) (l:List Hd) (w:World) (e:Ending) (w':World):Prop:=(∃ v,e= .returned v)/\∃ l',l'.Perm l/\qeF qaF l' n m/\HAt base w' B l'/\qaE base w w'/\∀ q,n<=q->l'[q]?=l[q]?
def qow (base B n m:Nat) (l:List Hd) (w:World) (v7:Value) (wr:World):Prop:=∃ (k:Nat) (l':List Hd),v7= .int .i64 (k:Int)/\k<=l.length/\m<=k/\l'.Perm l/\qdU qaF l' k n m/\HAt base wr B l'/\qaE base w wr/\∀ q,n<=q->l'[q]?=l[q]?
theorem qjX {l:List Hd} {a b q:Nat} (ha:a<l.length) (hb:b<l.length) (h1:a≠q) (h2:b≠q):(qce l a b ha hb)[q]?=l[q]?:=by
 rw [show qce l a b ha hb=(l.set a l[b]).set b l[a] from rfl,List.getElem?_set_ne h2,List.getElem?_set_ne h1]
theorem qox (base B i n m:Nat) (l:List Hd) (w:World) (h:HAt base w B l) (hi:i<=l.length) (hn:n<=l.length) (hl:l.length<=1000000) (hd:qdU qaF l i n m) (hmi:m<=i):
  Calls Tryz.prog 138 #[ifH B,.int .i64 (i:Int),.int .i64 (n:Int)] w (qgJ base B n m l w):=by
 have HST:=qH (show qow base B n m l w (.int .i64 (i:Int)) w from ⟨i,l,rfl,hi,hmi,.refl _,hd,h,.refl _ _,fun _ _=>rfl⟩)
 clear h hd hmi
 go_enter Tryz.func138,Tryz.ntmps138
 go_wp2
 go_loopw [7,8,9,10] (fun v7 v8 v9 v10 wr=>qow base B n m l w v7 wr) (fun v7 _ _ _ _=>n-(intOf v7).toNat)
 case atStart=>exact HST.out
 case round=>
  clear HST
  rename_i KK hKK
  obtain ⟨k,l',rfl,hk,hmk,hp,hu,hat,hm,hsame⟩:=hrel;have hlen:=hp.length_eq;obtain ⟨a,ha⟩:∃ a,a=2*k+1:=⟨_,rfl⟩;have haI:2*(k:Int)+1=(a:Int):=by omega
  have HA:=qH ha;clear ha;have d2:decide ((a:Int)<0)=false:=decide_eq_false (by omega);by_cases hna:n<=a
  ·have d1:decide ((n:Int)<=(a:Int))=true:=decide_eq_true (by omega)
   have hfin:∀ v,qgJ base B n m l w (.returned v) wr:=fun v=>⟨⟨v,rfl⟩,l',hp,hu.stop (by omega) (fun c hc h0 hpc=>absurd hc (by have :=HA.out;omega)),hat,hm,hsame⟩
   have HFIN:=qH hfin;clear hp hu hat hm hsame hfin hlen;go_wp2;go_ret;exact HFIN.out _
  ·have d1:decide ((n:Int)<=(a:Int))=false:=decide_eq_false (by omega)
   have hal:a<l'.length:=by omega
   have hkl:k<l'.length:=by have :=HA.out;omega
   by_cases h2n:a+1<n
   ·have hal2:a+1<l'.length:=by omega
    obtain ⟨v1,hm1,C1⟩:=hat.less hal2 hal;rw [show ((a+1:Nat):Int)=(a:Int)+1 by omega] at C1;have d3:decide ((a:Int)+1<(n:Int))=true:=decide_eq_true (by omega);by_cases hlt:l'[a+1].1<l'[a].1
    ·rw [decide_eq_true hlt] at C1
     have HC1:=qH C1;clear C1;have hmin:∀ q (hq:q<n) (h0:0<q) (hpq:(q-1)/2=k),qaF (l'[a+1]'(by omega))<=qaF (l'[q]'(by omega)):=fun q hq h0 hpq=>by
      have hqa:q=a∨q=a+1:=by have :=HA.out;omega
      rcases hqa with rfl|rfl
      ·exact Int.le_of_lt hlt
      ·exact Int.le_refl _
     have HCP:Hid ((a+1-1)/2=k):=qH (by have :=HA.out;omega);clear hlt;by_cases hlt2:l'[a+1].1<l'[k].1
     ·have hst:=hu.step (k:=a+1) (by omega) (by omega) (by omega) HCP.out hmk hlt2 hmin
      have HLT:=qH hst;have hnm:n-(a+1)<n-k:=by have :=HA.out;omega
      have HMIN:=qH hlt2;have HP:=qH hp;have HAT:=qH hat;have HM:=qH hm;have HS:=qH hsame;clear hmin hlt2 hp hat hm hsame hu hst
      go_wp2_with first
       |(go_at_call 279;refine (HC3.out).mono ?_;rintro e w3 ⟨⟨v,rfl⟩,hat3,hmild3⟩)
       |(go_at_call 278;refine (HC2.out).mono ?_;rintro e w2 ⟨rfl,hb2⟩;obtain ⟨v3,hm3,C3⟩:=((HAT1.out).below hb2).swaps hkl hal2;rw [show ((a+1:Nat):Int)=(a:Int)+1 by omega] at C3;have HC3:=qH C3;have HB2:=qH ((HB1.out).trans (hb2.mono HB1.out.size));clear C3 hb2)
       |(go_at_call 278;refine (HC1.out).mono ?_;rintro e w1 ⟨rfl,hb1⟩;have hat1:=(HAT.out).below hb1;have HB1:=qH hb1;clear hb1 HC1;obtain ⟨v2,hm2,C2⟩:=hat1.less hal2 hkl;rw [show ((a+1:Nat):Int)=(a:Int)+1 by omega] at C2;rw [show decide (l'[a+1].1<l'[k].1)=true from decide_eq_true (by have :=HMIN.out;omega)] at C2;have HC2:=qH C2;have HAT1:=qH hat1;clear C2 hat1)
      go_roundw
      case rel=>exact ⟨(a+1),_,by go_num,by omega,by have :=HA.out;omega,(qgH hkl hal2).trans HP.out,HLT.out,hat3,(HM.out).trans ((qaE.of_below HB2.out (by have :=HAT.out.1;have :=HAT.out.lt;omega)).trans hmild3),fun q hq=>(qjX hkl hal2 (by omega) (by omega)).trans (HS.out q hq)⟩
      case measure=>simp [intOf];omega
     ·have hstp:=hu.stop (by omega) (fun q hq h0 hpq=>Int.le_trans (Int.not_lt.1 hlt2) (hmin q hq h0 hpq))
      have HFIN:=qH (show ∀ v w2,Below wr.heap.size wr w2->qgJ base B n m l w (.returned v) w2 from fun v w2 hb=>⟨⟨v,rfl⟩,l',hp,hstp,hat.below hb,hm.trans (.of_below hb (by have :=hat.1;have :=hat.lt;omega)),hsame⟩)
      have HMIN:=qH hlt2;have HP:=qH hp;have HAT:=qH hat;have HM:=qH hm;have HS:=qH hsame;clear hmin hlt2 hp hat hm hsame hu hstp
      go_wp2_with first
       |(go_at_call 278;refine (HC2.out).mono ?_;rintro e w2 ⟨rfl,hb2⟩)
       |(go_at_call 278;refine (HC1.out).mono ?_;rintro e w1 ⟨rfl,hb1⟩;have hat1:=(HAT.out).below hb1;have HB1:=qH hb1;clear hb1 HC1;obtain ⟨v2,hm2,C2⟩:=hat1.less hal2 hkl;rw [show ((a+1:Nat):Int)=(a:Int)+1 by omega] at C2;rw [show decide (l'[a+1].1<l'[k].1)=false from decide_eq_false (by have :=HMIN.out;omega)] at C2;have HC2:=qH C2;have HAT1:=qH hat1;clear C2 hat1)
      go_ret;exact HFIN.out _ _ ((HB1.out).trans (hb2.mono HB1.out.size))
    ·rw [decide_eq_false hlt] at C1
     have HC1:=qH C1;clear C1;have hmin:∀ q (hq:q<n) (h0:0<q) (hpq:(q-1)/2=k),qaF (l'[a]'(by omega))<=qaF (l'[q]'(by omega)):=fun q hq h0 hpq=>by
      have hqa:q=a∨q=a+1:=by have :=HA.out;omega
      rcases hqa with rfl|rfl
      ·exact Int.le_refl _
      ·exact Int.not_lt.1 hlt
     have HCP:Hid ((a-1)/2=k):=qH (by have :=HA.out;omega);clear hlt;by_cases hlt2:l'[a].1<l'[k].1
     ·have hst:=hu.step (k:=a) (by omega) (by omega) (by omega) HCP.out hmk hlt2 hmin
      have HLT:=qH hst;have hnm:n-a<n-k:=by have :=HA.out;omega
      have HMIN:=qH hlt2;have HP:=qH hp;have HAT:=qH hat;have HM:=qH hm;have HS:=qH hsame;clear hmin hlt2 hp hat hm hsame hu hst
      go_wp2_with first
       |(go_at_call 279;refine (HC3.out).mono ?_;rintro e w3 ⟨⟨v,rfl⟩,hat3,hmild3⟩)
       |(go_at_call 278;refine (HC2.out).mono ?_;rintro e w2 ⟨rfl,hb2⟩;obtain ⟨v3,hm3,C3⟩:=((HAT1.out).below hb2).swaps hkl hal;have HC3:=qH C3;have HB2:=qH ((HB1.out).trans (hb2.mono HB1.out.size));clear C3 hb2)
       |(go_at_call 278;refine (HC1.out).mono ?_;rintro e w1 ⟨rfl,hb1⟩;have hat1:=(HAT.out).below hb1;have HB1:=qH hb1;clear hb1 HC1;obtain ⟨v2,hm2,C2⟩:=hat1.less hal hkl;rw [show decide (l'[a].1<l'[k].1)=true from decide_eq_true (by have :=HMIN.out;omega)] at C2;have HC2:=qH C2;have HAT1:=qH hat1;clear C2 hat1)
      go_roundw
      case rel=>exact ⟨a,_,by go_num,by omega,by have :=HA.out;omega,(qgH hkl hal).trans HP.out,HLT.out,hat3,(HM.out).trans ((qaE.of_below HB2.out (by have :=HAT.out.1;have :=HAT.out.lt;omega)).trans hmild3),fun q hq=>(qjX hkl hal (by omega) (by omega)).trans (HS.out q hq)⟩
      case measure=>simp [intOf];omega
     ·have hstp:=hu.stop (by omega) (fun q hq h0 hpq=>Int.le_trans (Int.not_lt.1 hlt2) (hmin q hq h0 hpq))
      have HFIN:=qH (show ∀ v w2,Below wr.heap.size wr w2->qgJ base B n m l w (.returned v) w2 from fun v w2 hb=>⟨⟨v,rfl⟩,l',hp,hstp,hat.below hb,hm.trans (.of_below hb (by have :=hat.1;have :=hat.lt;omega)),hsame⟩)
      have HMIN:=qH hlt2;have HP:=qH hp;have HAT:=qH hat;have HM:=qH hm;have HS:=qH hsame;clear hmin hlt2 hp hat hm hsame hu hstp
      go_wp2_with first
       |(go_at_call 278;refine (HC2.out).mono ?_;rintro e w2 ⟨rfl,hb2⟩)
       |(go_at_call 278;refine (HC1.out).mono ?_;rintro e w1 ⟨rfl,hb1⟩;have hat1:=(HAT.out).below hb1;have HB1:=qH hb1;clear hb1 HC1;obtain ⟨v2,hm2,C2⟩:=hat1.less hal hkl;rw [show decide (l'[a].1<l'[k].1)=false from decide_eq_false (by have :=HMIN.out;omega)] at C2;have HC2:=qH C2;have HAT1:=qH hat1;clear C2 hat1)
      go_ret;exact HFIN.out _ _ ((HB1.out).trans (hb2.mono HB1.out.size))
   ·have d3:decide ((a:Int)+1<(n:Int))=false:=decide_eq_false (by omega)
    have hmin:∀ q (hq:q<n) (h0:0<q) (hpq:(q-1)/2=k),qaF (l'[a]'(by omega))<=qaF (l'[q]'(by omega)):=fun q hq h0 hpq=>by
     have hqa:q=a:=by have :=HA.out;omega
     subst hqa;exact Int.le_refl _
    have HCP:Hid ((a-1)/2=k):=qH (by have :=HA.out;omega);have h2n':a+1<=n+0∨True:= .inr trivial;clear h2n';by_cases hlt2:l'[a].1<l'[k].1
    ·have hst:=hu.step (k:=a) (by omega) (by omega) (by omega) HCP.out hmk hlt2 hmin
     have HLT:=qH hst;have hnm:n-a<n-k:=by have :=HA.out;omega
     have HMIN:=qH hlt2;have HP:=qH hp;have HAT:=qH hat;have HM:=qH hm;have HS:=qH hsame;clear hmin hlt2 hp hat hm hsame hu hst;have hat1:=HAT.out;have HB1:=qH (Below.refl wr.heap.size wr)
     (obtain ⟨v2,hm2,C2⟩:=hat1.less hal hkl;rw [show decide (l'[a].1<l'[k].1)=true from decide_eq_true (by have :=HMIN.out;omega)] at C2;have HC2:=qH C2;have HAT1:=qH hat1;clear C2 hat1)
     go_wp2_with first
      |(go_at_call 279;refine (HC3.out).mono ?_;rintro e w3 ⟨⟨v,rfl⟩,hat3,hmild3⟩)
      |(go_at_call 278;refine (HC2.out).mono ?_;rintro e w2 ⟨rfl,hb2⟩;obtain ⟨v3,hm3,C3⟩:=((HAT1.out).below hb2).swaps hkl hal;have HC3:=qH C3;have HB2:=qH ((HB1.out).trans (hb2.mono HB1.out.size));clear C3 hb2)
     go_roundw
     case rel=>exact ⟨a,_,by go_num,by omega,by have :=HA.out;omega,(qgH hkl hal).trans HP.out,HLT.out,hat3,(HM.out).trans ((qaE.of_below HB2.out (by have :=HAT.out.1;have :=HAT.out.lt;omega)).trans hmild3),fun q hq=>(qjX hkl hal (by omega) (by omega)).trans (HS.out q hq)⟩
     case measure=>simp [intOf];omega
    ·have hstp:=hu.stop (by omega) (fun q hq h0 hpq=>Int.le_trans (Int.not_lt.1 hlt2) (hmin q hq h0 hpq))
     have HFIN:=qH (show ∀ v w2,Below wr.heap.size wr w2->qgJ base B n m l w (.returned v) w2 from fun v w2 hb=>⟨⟨v,rfl⟩,l',hp,hstp,hat.below hb,hm.trans (.of_below hb (by have :=hat.1;have :=hat.lt;omega)),hsame⟩)
     have HMIN:=qH hlt2;have HP:=qH hp;have HAT:=qH hat;have HM:=qH hm;have HS:=qH hsame;clear hmin hlt2 hp hat hm hsame hu hstp;have hat1:=HAT.out;have HB1:=qH (Below.refl wr.heap.size wr)
     (obtain ⟨v2,hm2,C2⟩:=hat1.less hal hkl;rw [show decide (l'[a].1<l'[k].1)=false from decide_eq_false (by have :=HMIN.out;omega)] at C2;have HC2:=qH C2;have HAT1:=qH hat1;clear C2 hat1)
     go_wp2_with first
      |(go_at_call 278;refine (HC2.out).mono ?_;rintro e w2 ⟨rfl,hb2⟩)
     go_ret;exact HFIN.out _ _ ((HB1.out).trans (hb2.mono HB1.out.size))
theorem qoy:(Tryz.prog.info? 170).map (fun i=>(i.zero,i.size,i.bytes))=some (some (.agg #[.int .i64 0,.int .i64 0,.int .i64 0]),3,24):=by kernel_rfl
def qoz (l:List (List Int)) (w:World) (e:Ending) (w':World):Prop:=∃ v H,e= .returned v/\qd5 l l.length H/\H.length<=l.length/\w'.ownsRow w.heap.size 170 3 v H.length (hds H)/\Below w.heap.size w w'
def qvA (l:List (List Int)) (w:World) (v3 i:Value) (wr:World):Prop:=∃ (k:Nat) (H:List Hd),k<=l.length/\i= .int .i64 (k:Int)/\qd5 l k H/\H.length<=k/\wr.ownsRow w.heap.size 170 3 v3 H.length (hds H)/\Below w.heap.size w wr
theorem qvB (A:Option Addr) (m c:Nat) (l:List (List Int)) (w:World) (hL:Lol (Value.int .i64) w w.heap.size A l) (hm:l.length=m) (hm2:m<=100000):
  Calls Tryz.prog 91 #[.slice A m c] w (qoz l w):=by
 obtain ⟨i0,hi0,hz0,hz1,hz2⟩:=info_parts qoy;have HL:=qH hL;have HM:=qH hm;clear hL hm
 go_enter Tryz.func91,Tryz.ntmps91
 go_wp2
 go_loopw [3,4,5,8] (fun v3 u4 u5 i wr=>qvA l w v3 i wr) (fun _ _ _ i _=>m-(intOf i).toNat)
 case atStart=>exact ⟨0,[],Nat.zero_le _,rfl,qvo l,Nat.le_refl _,World.ownsRow_nil _ _ _ _,Below.refl _ _⟩
 case round=>
  obtain ⟨k,H,hk,rfl,hH,hHk,hown,hbw⟩:=hrel;rw [HM.out] at hk;by_cases hlt:k<m
  ·have hkl:k<l.length:=by rw [HM.out];exact hlt
   obtain ⟨b1,o1,A',c',rfl,hb1,hc1,⟨hc2,hc3⟩,hr1⟩:=(HL.out.below hbw).at_ hkl;have hio:InO l (k,0)↔0<l[k].length:=⟨fun h=>(qdf.1 h).2,fun h=>qdf.2 ⟨hkl,h⟩⟩;have hi0':(0:Int)<=k:=by omega
   have hi1:(k:Int)<m:=by omega
   obtain ⟨n,hn⟩:∃ n,n=l[k].length:=⟨_,rfl⟩;rw [<- hn] at hc1 hc2 hio;by_cases h0:0<n
   ·obtain ⟨b2,o2,rfl,hb2,hc4⟩:=qcO hr1 (k:=0) (by omega)
    have hv:l[k][0]'(by omega)=qaK l (k,0):=(qfq hkl (by omega)).symm;rw [hv,Nat.add_zero] at hc4;have hput:=hH.put (hio.2 h0);obtain ⟨x,hx⟩:∃ x,x=qaK l (k,0):=⟨_,rfl⟩;rw [<- hx] at hc4 hput;have hsz:=hbw.size;obtain ⟨N,hN⟩:∃ N,N=H.length:=⟨_,rfl⟩;have HO:=qH hown;rw [<- hN] at HO hHk;have HN:=qH hN;have HP:=qH hput;have HB:=qH hbw;have hd1:decide ((0:Int)<(n:Int))=true:=decide_eq_true (by omega);unfold maxLen at hc3;clear hx hv hN hown hput hH hio hn hr1 hbw
    go_wp2_with (at_builtin;refine wpList_append_own _ rfl (.tmp 16) (.tmp 22) 165 rfl w.heap.size 170 i0 _ 3 24 Tryz.underlying165 hi0 hz0 hz1 hz2 rfl (by omega) _ N (hds H) rfl (HO.out.alloc _) ⟨wr.heap.size,0,none⟩ 1 1 [.int .i64 x,.int .i64 (k:Int),.int .i64 0] rfl rfl (qaQ wr [.int .i64 x,.int .i64 (k:Int),.int .i64 0] 170) (by intro u hu;simp at hu;rcases hu with rfl|rfl|rfl<;>rfl) (by unfold maxLen;omega) (by omega) (by simp;omega) ?_;intro v7 w7 hown7 hg7 _)
    have hbl7:Below w.heap.size w w7:=((HB.out).alloc (by omega) _).grown hg7 (by simp;omega) (fun q hq=>((HO.out).lt q hq).1);go_roundw
    case rel=>
     refine ⟨k+1,H++[(x,k,0)],by rw [HM.out];omega,by go_num,HP.out,by rw [List.length_append,<- HN.out];simp;omega,?_,hbl7⟩;rw [List.length_append,<- HN.out,qhQ];exact hown7
    case measure=>simp [intOf];omega
   ·have hsk:=hH.skip fun h=>h0 (hio.1 h)
    have HSK:=qH hsk;have HO:=qH hown;have hd1:decide ((0:Int)<(n:Int))=false:=decide_eq_false (by omega);clear hsk hown hH hio hn hr1;go_wp2;go_roundw
    case rel=>exact ⟨k+1,H,by rw [HM.out];omega,by go_num,HSK.out,by omega,HO.out,hbw⟩
    case measure=>simp [intOf];omega
  ·have hkm:k=l.length:=by have :=HM.out;omega
   have HFIN:=qH (show qoz l w (.returned u3) wr from ⟨_,H,rfl,hkm▸hH,by omega,hown,hbw⟩)
   clear hH hown hbw hkm hHk;go_wp2;go_ret;exact HFIN.out
abbrev ifX (x:Hd):Value:= .iface 170 (.agg #[.int .i64 x.1,.int .i64 (x.2.1:Int),.int .i64 (x.2.2:Int)])
theorem qoA (v:Value) (w:World):(Instr.typeAssert (.iface 170 v) 20 170 false).run Tryz.prog w= .ok v w:=by kernel_rfl
theorem HAt.pushed {base B:Nat} {w w1:World} {l:List Hd} {x:Hd} {v v':Value} {o:Obj} (hb:base<=B) (hB:w.heap[B]?=some (.cells #[v] 165 (0,0))) (hown:w.ownsRow base 170 3 v l.length (hds l))
  (hg:((w.alloc o).drew).grownBy w1 v.ownBlock) (ho:w1.ownsRow base 170 3 v' (l.length+1) (hds l++[.int .i64 x.1,.int .i64 (x.2.1:Int),.int .i64 (x.2.2:Int)])) (hbs:base<=w.heap.size):
  w1.heap[B]?=some (.cells #[v] 165 (0,0))/\HAt base (w1.setCell ⟨B,0,none⟩ v') B (l++[x])/\qaE base w (w1.setCell ⟨B,0,none⟩ v'):=by
 have hlt:=(Array.getElem?_eq_some_iff.1 hB).1;have hal:Below w.heap.size w ((w.alloc o).drew):=((Below.refl _ w).alloc (Nat.le_refl _) _).drew;have hown':=qan hown hal;have hne:v.ownBlock≠some B:=fun e=>by
  obtain ⟨cs,h⟩:=qfa hown e;rw [hB] at h;injection h with h
  injection h with _ h
  exact absurd h (by decide)
 have h1:w1.heap[B]?=some (.cells #[v] 165 (0,0)):=by
  rw [hg.block B (Nat.lt_of_lt_of_le hlt hal.size) (fun e=>hne e.symm),hal.block B hlt,hB]
 have hne':v'.ownBlock≠some B:=fun e=>by
  obtain ⟨cs,h⟩:=qfa ho e;rw [h1] at h;injection h with h
  injection h with _ h
  exact absurd h (by decide)
 refine ⟨h1,⟨hb,v',one_setCell h1,?_⟩,?_⟩
 ·rw [List.length_append,qhQ]
  exact ownsRow_setCell_other ho hne' _
 ·exact ((qaE.of_below hal hbs).trans (qaE.grownOwn hown' (.inl rfl) hg (Nat.le_trans hbs hal.size))).trans (qaE.setCell h1 (.inr rfl) hb v')
theorem qvC (base B:Nat) (l:List Hd) (x:Hd) (w:World) (h:HAt base w B l) (hl:l.length<=1000000) (hbs:base<=w.heap.size):
    Calls Tryz.prog 281 #[.pointer (some ⟨B,0,none⟩),ifX x] w fun e w'=>(∃ v,e= .returned v)/\HAt base w' B (l++[x])/\qaE base w w':=by
  obtain ⟨i0,hi0,hz0,hz1,hz2⟩:=info_parts qoy;obtain ⟨hb,v,hB,hown⟩:=h;have hlt:=(Array.getElem?_eq_some_iff.1 hB).1;have c0:=cell_of_one hB;have c1:∀ o,(w.alloc o).cell? ⟨B,0,none⟩=some v:=fun o=>(((Below.refl w.heap.size w).alloc (Nat.le_refl _) o).cell (p:=⟨B,0,none⟩) hlt).trans c0
  have HB:=qH hB;have HE:=qH hown;have HBS:=qH hbs;obtain ⟨x1,x2,x3⟩:=x;obtain ⟨n,hn⟩:∃ n,n=l.length:=⟨_,rfl⟩;have HN:=qH hn;rw [<- hn] at hl;have hta:=qoA (.agg #[.int .i64 x1,.int .i64 (x2:Int),.int .i64 (x3:Int)]);clear hB hown hn hbs
  go_enter Tryz.func281,Tryz.ntmps281
  go_upto_region 0 with fail
  go_region_law (first
      | (refine step_append_lies _ (by rfl) _ _ _ (by rfl) base 170 i0 _ 3 24 Tryz.underlying165 hi0 hz0 hz1 hz2 rfl (by omega) v n (hds l) (by rfl) ((HN.out ▸ HE.out.alloc _).drew)
          ⟨w.heap.size,0,none⟩ 1 1 [.int .i64 x1,.int .i64 (x2:Int),.int .i64 (x3:Int)] (by rfl) (by rfl) (World.news_of_block (cs:=#[.int .i64 x1,.int .i64 (x2:Int),.int .i64 (x3:Int)]) (t:=170) (fr:=(0,0)) (heap_alloc_new w _)) (by intro u hu;simp at hu;rcases hu with hu|hu|hu<;>(subst hu;rfl))
          (by omega) (by unfold maxLen;omega) (by omega) (by have :=HBS.out;simp;omega) (w.heap.size+1) (by simp) ?_
         intro gg cap w1 hown1 hgrow hat hlt1;obtain ⟨hv1,hh1,hm1⟩:=HAt.pushed (x:=(x1,x2,x3)) hb HB.out HE.out hgrow (HN.out▸hown1) HBS.out;have cB:=cell_of_one hv1;have fB:=free_of_one hv1))
  all_goals
    rw [<- HN.out] at hh1 hm1
    go_end0
    exact ⟨⟨_,rfl⟩,hh1,hm1⟩
theorem qvD (base B:Nat) (l:List Hd) (x:Hd) (w:World) (h:HAt base w B (l++[x])) (hl:l.length<=1000000):
  Calls Tryz.prog 280 #[.pointer (some ⟨B,0,none⟩)] w fun e w'=>e= .returned (ifX x)/\HAt base w' B l/\qaE base w w':=by
 have hlt:=h.lt;have hb:=h.1;obtain ⟨g,c,q1,q2,q3,q4,q5,x1,x2,x3⟩:=h.at_ (k:=l.length) (by simp);have e0:(l++[x])[l.length]'(by simp)=x:=by simp
 rw [e0] at x1 x2 x3;have e1:(l++[x]).length=l.length+1:=by simp
 rw [e1] at q1 q2 q3;have hcut:=qvq q2 (m:=l.length) (by omega);rw [qhQ,List.take_append_of_le_length (by rw [qhP];omega),List.take_of_length_le (by rw [qhP];omega)] at hcut;have hgl:=(q2.lt g rfl).2;have c0:=cell_of_one q1;have hal:∀ o,Below w.heap.size w (w.alloc o):=fun o=>(Below.refl w.heap.size w).alloc (Nat.le_refl _) o
 have hB1:∀ o,(w.alloc o).heap[B]?=some (.cells #[.slice (some ⟨g,0,none⟩) (l.length+1) c] 165 (0,0)):=fun o=>((hal o).block B hlt).trans q1
 have c1:=fun o=>cell_of_one (hB1 o)
 have f1:=fun o=>free_of_one (hB1 o)
 have hset:HAt base (w.setCell ⟨B,0,none⟩ (.slice (some ⟨g,0,none⟩) l.length c)) B l:=⟨hb,_,one_setCell q1,ownsRow_setCell_other hcut (by simpa [Value.ownBlock] using q5) _⟩;have hfin:∀ o,HAt base ((w.setCell ⟨B,0,none⟩ (.slice (some ⟨g,0,none⟩) l.length c)).alloc o) B l/\qaE base w ((w.setCell ⟨B,0,none⟩ (.slice (some ⟨g,0,none⟩) l.length c)).alloc o):=fun o=>by
  have hs:(w.setCell ⟨B,0,none⟩ (.slice (some ⟨g,0,none⟩) l.length c)).heap.size=w.heap.size:=by simp [World.setCell]
  have hbl:=(Below.refl _ (w.setCell ⟨B,0,none⟩ (.slice (some ⟨g,0,none⟩) l.length c))).alloc (Nat.le_refl _) o;exact ⟨hset.below hbl,(qaE.setCell q1 (.inr rfl) hb _).trans (qaE.of_below hbl (by rw [hs];omega))⟩
 have HFIN:=qH hfin;obtain ⟨y1,y2,y3⟩:=x;obtain ⟨n,hn⟩:∃ n,n=l.length:=⟨_,rfl⟩;rw [<- hn] at hl c0 c1 x1 x2 x3 HFIN q3;have x1a:∀ o,(w.alloc o).cell? ⟨g,n*3,none⟩=some (.int .i64 y1):=fun o=>((hal o).cell (p:=⟨g,n*3,none⟩) hgl).trans x1
 unfold maxLen at q4;clear hn hcut hB1 hal hfin hset q1 q2 e0 e1 h;simp only at x1 x2 x3
 go_enter Tryz.func280,Tryz.ntmps280
 go_wp2_with (go_at_call 93;refine (qf4 _ _ _ _).mono ?_;rintro e w1 ⟨rfl,rfl⟩)
 go_ret;exact ⟨rfl,HFIN.out _⟩
theorem qvE (base B:Nat) (l:List Hd) (x:Hd) (w:World) (h:HAt base w B l) (hl:l.length<=100000) (hh:qbF qaF l l.length):
  Calls Tryz.prog 95 #[ifH B,ifX x] w (qfy base B (l++[x]) w):=by
 have hbs:base<=w.heap.size:=by have :=h.1;have :=h.lt;omega
 have C1:=qH (qvC base B l x w h (by omega) hbs);have hm1:=qvy B w;obtain ⟨n,hn⟩:∃ n,n=l.length:=⟨_,rfl⟩;have HN:=qH hn;have HH:=qH hh;rw [<- hn] at hl;clear h hn hh
 go_enter Tryz.func95,Tryz.ntmps95
 go_wp2_with first
  |(go_at_call 139;refine (C3.out).mono ?_;rintro e w3 ⟨⟨v3,rfl⟩,l',hp,hh3,hat3,hm3⟩)
  |(go_at_call 93;refine (C2.out).mono ?_;rintro e w2 ⟨rfl,rfl⟩)
  |(go_at_call 281;refine (C1.out).mono ?_;rintro e w1 ⟨⟨v1,rfl⟩,hat1,hmild1⟩;obtain ⟨v2,hm2,C2⟩:=hat1.len_;have C3:=qH (qvz base B n (l++[x]) w1 hat1 (by rw [HN.out];simp) (by have :=HN.out;simp;omega) (by rw [HN.out];exact (HH.out).put x));rw [List.length_append,List.length_singleton,<- HN.out] at C2;rw [show ((n+1:Nat):Int)=(n:Int)+1 by omega] at C2;have C2:=qH C2;have HAT:=qH hat1;clear hat1)
 go_end0
 exact ⟨⟨_,rfl⟩,l',hp,hh3,hat3,hmild1.trans hm3⟩
def qvF (base B:Nat) (l:List Hd) (w:World) (e:Ending) (w':World):Prop:=∃ x l',e= .returned (ifX x)/\(x::l').Perm l/\l[0]?=some x/\qbF qaF l' l'.length/\HAt base w' B l'/\qaE base w w'
theorem qvG {l l2:List Hd} {m:Nat} (hm:m=l.length-1) (hl:0<l.length) (hml:m<l.length) (hp:l2.Perm (qce l 0 m hl hml)) (hk:l2[m]?=(qce l 0 m hl hml)[m]?) (hh:qeF qaF l2 m 0):
  ∃ x l3,l2=l3++[x]/\l3.length=m/\l[0]?=some x/\(x::l3).Perm l/\qbF qaF l3 l3.length:=by
 subst hm;have hlen:l2.length=l.length:=by rw [hp.length_eq,qem]
 have hx:(qce l 0 (l.length-1) hl (by omega))[l.length-1]?=some l[0]:=by
  rw [List.getElem?_eq_getElem (by rw [qem];omega),qd4,if_pos rfl]
 rw [hx,List.getElem?_eq_getElem (by omega),Option.some.injEq] at hk;have hsp:l2=l2.take (l.length-1)++[l[0]]:=by
  have :=List.take_succ_eq_append_getElem (l:=l2) (i:=l.length-1) (by omega);rw [show l.length-1+1=l.length by omega,List.take_of_length_le (by omega),hk] at this;exact this
 have h3:(l2.take (l.length-1)).length=l.length-1:=by rw [List.length_take];omega
 refine ⟨l[0],l2.take (l.length-1),hsp,h3,List.getElem?_eq_getElem hl,?_,?_⟩
 ·refine (List.perm_append_singleton _ _).symm.trans ?_
  rw [<- hsp];exact hp.trans (qgH hl (by omega))
 ·have hn:qbF qaF (l2.take (l.length-1)++[l[0]]) (l2.take (l.length-1)).length:=by
   rw [<- hsp,h3];exact hh.all
  exact hn.init
theorem qvH {l:List Hd} {m:Nat} (hm:m=l.length-1) (hl:0<l.length) (hml:m<l.length) (hh:qbF qaF l l.length):qdU qaF (qce l 0 m hl hml) 0 m 0:=by
 subst hm;exact hh.popF hl
theorem qvI (base B:Nat) (l:List Hd) (w:World) (h:HAt base w B l) (h0:0<l.length) (hl:l.length<=100000) (hh:qbF qaF l l.length):
  Calls Tryz.prog 94 #[ifH B] w (qvF base B l w):=by
 obtain ⟨m,hm⟩:∃ m,m=l.length-1:=⟨_,rfl⟩;have hml:m<l.length:=by omega
 obtain ⟨v1,hm1,C1⟩:=h.len_;obtain ⟨v2,hm2,C2⟩:=h.swaps h0 hml;rw [show (l.length:Int)=(m:Int)+1 by omega] at C1;have hsl:=qem (l:=l) h0 hml;have hdn:qdU qaF (qce l 0 m h0 hml) 0 m 0:=qvH hm h0 hml hh;have hsplit:=fun l2=>qvG (l:=l) (l2:=l2) hm h0 hml
 rw [show ((0:Nat):Int)=0 from rfl] at C2
 have HC2:=qH C2;have HC1:=qH C1;have HSP:=qH hsplit;have HDN:=qH hdn;have HSL:=qH hsl;have HM:=qH hm;have hm3:m<=100000:=by omega
 clear hh h hsplit hdn hsl hm C1 C2;have HL:=qH hl;clear hl
 go_enter Tryz.func94,Tryz.ntmps94
 go_wp2_with first
  |(go_at_call 280;refine (C4.out).mono ?_;rintro e w4 ⟨rfl,hat4,hmild4⟩)
  |(go_at_call 138;refine (C3.out).mono ?_;rintro e w3 ⟨⟨v3,rfl⟩,l2,hp,hf,hat3,hmild3,hsame⟩;obtain ⟨x,l3,e1,e2,e3,e4,e5⟩:=HSP.out l2 hp (hsame m (Nat.le_refl _)) hf;have C4:=qH (qvD base B l3 x w3 (e1▸hat3) (by have :=HM.out;omega));have hm5:=qvx B w3;have HX:=qH (And.intro e3 (And.intro e4 e5));clear e1 e2 e3 e4 e5 hp hf hsame hat3)
  |(go_at_call 279;refine (HC2.out).mono ?_;rintro e w2 ⟨⟨v4,rfl⟩,hat2,hmild2⟩;have C3:=qox base B 0 m 0 _ w2 hat2 (Nat.zero_le _) (by rw [HSL.out];omega) (by rw [HSL.out];have :=HL.out;omega) HDN.out (Nat.zero_le _);rw [show ((0:Nat):Int)=0 from rfl] at C3;have C3:=qH C3;clear hat2)
  |(go_at_call 93;refine (HC1.out).mono ?_;rintro e w1 ⟨rfl,rfl⟩)
 go_ret;obtain ⟨e3,e4,e5⟩:=HX.out;exact ⟨x,l3,rfl,e4,e3,e5,hat4,(hmild2.trans hmild3).trans hmild4⟩
def qoB (base B:Nat) (l:List Hd) (w:World) (v3:Value) (wr:World):Prop:=∃ (k:Nat) (l':List Hd),v3= .int .i64 ((k:Int)-1)/\k<=l.length/\l'.Perm l/\qeF qaF l' l.length k/\HAt base wr B l'/\qaE base w wr
theorem qvJ (base B:Nat) (l:List Hd) (w:World) (h:HAt base w B l) (hl:l.length<=100000):
  Calls Tryz.prog 92 #[ifH B] w (qfy base B l w):=by
 obtain ⟨v1,hm1,C1⟩:=h.len_;have HST:=qH (show qoB base B l w (.int .i64 ((l.length:Int)/2-1)) w from ⟨l.length/2,l,by rw [show ((l.length/2:Nat):Int)=(l.length:Int)/2 by omega],by omega,.refl _,qvr _ _,h,.refl _ _⟩)
 have HC1:=qH C1;clear h C1
 go_enter Tryz.func92,Tryz.ntmps92
 go_wp2_with (go_at_call 93;refine (HC1.out).mono ?_;rintro e w1 ⟨rfl,rfl⟩)
 go_loopw [3] (fun v3 wr=>qoB base B l w1 v3 wr) (fun v3 _=>(intOf v3+1).toNat)
 case atStart=>exact HST.out
 case round=>
  clear HST hm1 HC1;obtain ⟨k,l',rfl,hk,hp,hf,hat,hm⟩:=hrel;have hlen:=hp.length_eq;cases k with
  |zero=>
   have HFIN:=qH (show ∀ v,qfy base B l w1 (.returned v) wr from fun v=>⟨⟨v,rfl⟩,l',hp,hlen▸hf.all,hat,hm⟩)
   clear hp hf hat hm hlen;go_wp2
   go_end0
   exact HFIN.out _
  |succ j=>
   have HC:=qH (qox base B j l.length j l' wr hat (by omega) (by omega) (by omega) hf.down (Nat.le_refl _));have HP:=qH hp;have HM:=qH hm;clear hp hf hat hm hlen
   go_wp2_with (go_at_call 138;refine (HC.out).mono ?_;rintro e w2 ⟨⟨v,rfl⟩,l2,hp2,hf2,hat2,hm2,_⟩)
   go_roundw
   case rel=>exact ⟨j,l2,by go_num,by omega,hp2.trans HP.out,hf2,hat2,(HM.out).trans hm2⟩
   case measure=>simp [intOf]
def qvK (l:List Int) (w:World) (r last i:Value) (wr:World):Prop:=r= .bool false/\∃ (k:Nat) (x:Int),k<=l.length/\i= .int .i64 (k:Int)/\last= .int .i64 x/\qaj x (l.drop k)=qaj (-1) l/\Below w.heap.size w wr
theorem qvL (A:Option Addr) (n c:Nat) (l:List Int) (w:World) (hr:Row w w.heap.size A (qaa l)) (hn:l.length=n) (hl:n<=9223372036854775807):
  Calls Tryz.prog 90 #[.slice A n c] w fun e w'=>e= .returned (.bool (!qaj (-1) l))/\Below w.heap.size w w':=by
 have HR:=qH hr;clear hr;obtain ⟨ans,hans⟩:∃ ans,ans= !qaj (-1) l:=⟨_,rfl⟩;rw [<- hans];have HA:=qH hans;have HN:=qH hn;clear hans hn
 go_enter Tryz.func90,Tryz.ntmps90
 go_wp2
 go_loopw [2,3,5,8] (fun r last u i wr=>qvK l w r last i wr) (fun _ _ _ i _=>n-(intOf i).toNat)
 case atStart=>exact ⟨rfl,0, -1,Nat.zero_le _,rfl,rfl,rfl,Below.refl _ _⟩
 case round=>
  obtain ⟨rfl,k,x,hk,rfl,rfl,hx,hbw⟩:=hrel;rw [HN.out] at hk;by_cases hlt:k<n
  ·have hkl:k<l.length:=by rw [HN.out];exact hlt
   obtain ⟨b1,o1,rfl,_,hc1⟩:=qcO (HR.out.below hbw) hkl;have hdr:l.drop k=l[k]::l.drop (k+1):=List.drop_eq_getElem_cons hkl;rw [hdr,qaj] at hx;obtain ⟨y,hy⟩:∃ y,y=l[k]:=⟨_,rfl⟩;rw [<- hy] at hc1 hx;have hi0:(0:Int)<=k:=by omega
   have hi1:(k:Int)<n:=by omega
   clear hy hdr;by_cases hxy:y<=x
   ·have hv:ans=true:=by rw [HA.out,<- hx,decide_eq_false (by omega)];rfl
    have d1:decide (y<=x)=true:=decide_eq_true hxy;subst hv;clear hx hkl hxy;go_wp2;go_ret;exact ⟨rfl,hbw⟩
   ·have d1:decide (y<=x)=false:=decide_eq_false hxy
    rw [decide_eq_true (by omega),Bool.true_and] at hx;have HX:=qH hx;clear hx hkl hxy;go_wp2;go_roundw
    case rel=>exact ⟨rfl,k+1,y,by rw [HN.out];omega,by go_num,rfl,HX.out,hbw⟩
    case measure=>simp [intOf];omega
  ·have hv:ans=false:=by
    rw [HA.out,<- hx,List.drop_of_length_le (by rw [HN.out];omega)];rfl
   subst hv;clear hx;go_wp2;go_ret;exact ⟨rfl,hbw⟩
def qvM (ls:List (List Int)) (w:World) (r u i:Value) (wr:World):Prop:=r= .int .i64 0/\∃ k:Nat,k<=ls.length/\i= .int .i64 (k:Int)/\Below w.heap.size w wr/\∀ j (hj:j<ls.length),j<k->qaj (-1) ls[j]=true
theorem qvN (A:Option Addr) (n c:Nat) (ls:List (List Int)) (w:World) (hn:ls.length=n) (hnx:n<=9223372036854775807) (hr:Lol (Value.int .i64) w w.heap.size A ls):
  Calls Tryz.prog 137 #[.slice A n c,.func (.func 90) #[] #[]] w fun e w'=>(∃ r:Int,e= .returned (.int .i64 r)/\decide (0<=r)= !(ls.all (qaj (-1))))/\Below w.heap.size w w':=by
 have HR:=qH hr;have HN:=qH hn;clear hr hn
 go_enter Tryz.func137,Tryz.ntmps137
 go_wp2
 go_loopw [4,5,8] (fun r u i wr=>qvM ls w r u i wr) (fun _ _ i _=>n-(intOf i).toNat)
 case atStart=>exact ⟨rfl,0,Nat.zero_le _,rfl,Below.refl _ _,fun j _ hj=>by omega⟩
 case round=>
  obtain ⟨rfl,k,hk,rfl,hbw,hall⟩:=hrel;rw [HN.out] at hk;have HALL:=qH hall;clear hall;by_cases hkn:k<n
  ·have hlt:k<ls.length:=by rw [HN.out];exact hkn
   obtain ⟨b1,o1,A',c',rfl,hb1,hc1,hl1,hp1⟩:=(HR.out.below hbw).at_ hlt;have hi0:(0:Int)<=k:=by omega
   have hi1:(k:Int)<n:=by omega
   obtain ⟨L,hL⟩:∃ L,L=ls[k]:=⟨_,rfl⟩;rw [<- hL] at hc1 hl1 hp1;obtain ⟨m,hm⟩:∃ m,m=L.length:=⟨_,rfl⟩;rw [<- hm] at hc1 hl1;have hsz:=hbw.size;have HW:=qH (qvL A' m c' L wr (hp1.more hsz) hm.symm (by have :=hl1.2;unfold maxLen at this;omega));have HL:=qH hL;obtain ⟨z,hz⟩:∃ z,z=qaj (-1) L:=⟨_,rfl⟩;rw [<- hz] at HW;have HZ:=qH hz;have HBW:=qH hbw;clear hL hm hz hp1 hl1 hbw;cases z with
   |false=>
    have hbad:Hid (ls.all (qaj (-1))=false):=qH (by
     rw [List.all_eq_false];exact ⟨_,List.getElem_mem hlt,by rw [<- HL.out,<- HZ.out];decide⟩)
    go_wp2_with (go_at_call 90;(with_reducible refine HW.out.mono ?_);rintro e w5 ⟨rfl,hb5⟩)
    go_ret;exact ⟨⟨_,rfl,by rw [hbad.out];exact decide_eq_true hi0⟩,HBW.out.trans (hb5.mono hsz)⟩
   |true=>
    have HOK:Hid (∀ j (hj:j<ls.length),j<k+1->qaj (-1) ls[j]=true):=qH fun i hi hik=>by
     by_cases e:i=k
     ·subst e
      rw [<- HL.out,<- HZ.out]
     ·exact HALL.out i hi (by omega)
    go_wp2_with (go_at_call 90;(with_reducible refine HW.out.mono ?_);rintro e w5 ⟨rfl,hb5⟩)
    go_roundw
    case rel=>exact ⟨rfl,k+1,by rw [HN.out];omega,by go_num,HBW.out.trans (hb5.mono hsz),HOK.out⟩
    case measure=>simp [intOf];omega
  ·have hgood:Hid (ls.all (qaj (-1))=true):=qH (List.all_eq_true.2 fun l hl=>by
    obtain ⟨j,hj,rfl⟩:=List.mem_iff_getElem.1 hl;exact HALL.out j hj (by have :=HN.out;omega))
   have HBW:=qH hbw;clear hbw;go_wp2;go_ret;exact ⟨⟨_,rfl,by rw [hgood.out];rfl⟩,HBW.out⟩
theorem qvO (A:Option Addr) (n c:Nat) (ls:List (List Int)) (w:World) (hn:ls.length=n) (hnx:n<=9223372036854775807) (hr:Lol (Value.int .i64) w w.heap.size A ls):
  Calls Tryz.prog 89 #[.slice A n c,.func (.func 90) #[] #[]] w fun e w'=>e= .returned (.bool (!(ls.all (qaj (-1)))))/\Below w.heap.size w w':=by
 have C:=qH (qvN A n c ls w hn hnx hr);clear hn hnx hr;obtain ⟨z,hz⟩:∃ z,z= !(ls.all (qaj (-1))):=⟨_,rfl⟩;rw [<- hz] at C ⊢;clear hz
 go_enter Tryz.func89,Tryz.ntmps89
 go_wp2_with (go_at_call 137;(with_reducible refine C.out.mono ?_);rintro e w1 ⟨⟨r,rfl,hr⟩,hb⟩)
 go_ret;exact ⟨rfl,hb⟩
end Go.Proofs.YtpehcaidjlemiaaGreatDoor
