import Derived.Test.YtpehcaidjlemiaaGreatDoorMCZz
import Derived.Shelf.SlicesE.Clone
import Derived.Shelf.SlicesQ.IndexFunc
import Derived.Test.YtpehcaidjlemiaaGreatDoorProg
import Derived.Test.YtpehcaidjlemiaaGreatDoorMCQ04
import Derived.Test.YtpehcaidjlemiaaGreatDoorMCQ12
import Derived.Deep.RegionHeld3
import Derived.Test.YtpehcaidjlemiaaGreatDoorMCQ27
import Derived.Test.YtpehcaidjlemiaaGreatDoorMCQ09
import Derived.Test.YtpehcaidjlemiaaGreatDoorMCQ26
import Derived.Deep.DeepCutAuto
import Derived.Deep.AppendLies
set_option maxHeartbeats 4000000
set_option maxRecDepth 100000
set_option linter.unusedVariables false
namespace Go.Proofs.YtpehcaidjlemiaaGreatDoor
open Go.Shelf Go.RowKit
def qyC:Go.Shelf.Ren:=⟨fun |41=>154|n=>n,fun |4=>4|22=>57|23=>121|n=>n,fun |n=>n⟩
theorem qpL:SlLaysE0.n41 Tryz.prog qyC:={
 mixed:=by kernel_rfl
 f41:=⟨Tryz.f154.name,by kernel_rfl,Tryz.func154.trans (congrArg some (by kernel_rfl))⟩
 t4:=Tryz.underlying4
 a4:=Tryz.isAgg4
 z4:=Tryz.sizeOf4
 v4:=Tryz.zeroValue4
 t22:=Tryz.underlying57
 a22:=Tryz.isAgg57
 z22:=Tryz.sizeOf57
 v22:=Tryz.zeroValue57}
def qyD:Go.Shelf.Ren:=⟨fun |6=>183|8=>146|n=>n,fun |0=>0|3=>3|4=>4|22=>57|23=>121|25=>247|n=>n,fun |n=>n⟩
theorem qyE:SlLaysH0.n8 Tryz.prog qyD:={
 mixed:=by kernel_rfl
 f6:=⟨Tryz.f183.name,by kernel_rfl,Tryz.func183.trans (congrArg some (by kernel_rfl))⟩
 f8:=⟨Tryz.f146.name,by kernel_rfl,Tryz.func146.trans (congrArg some (by kernel_rfl))⟩
 t0:=Tryz.underlying0
 a0:=Tryz.isAgg0
 z0:=Tryz.sizeOf0
 v0:=Tryz.zeroValue0
 t3:=Tryz.underlying3
 a3:=Tryz.isAgg3
 z3:=Tryz.sizeOf3
 v3:=Tryz.zeroValue3
 t4:=Tryz.underlying4
 a4:=Tryz.isAgg4
 z4:=Tryz.sizeOf4
 v4:=Tryz.zeroValue4
 t22:=Tryz.underlying57
 a22:=Tryz.isAgg57
 z22:=Tryz.sizeOf57
 v22:=Tryz.zeroValue57
 t25:=Tryz.underlying247
 a25:=Tryz.isAgg247
 z25:=Tryz.sizeOf247
 v25:=Tryz.zeroValue247}
open Go
theorem qyF (A:Option Addr) (n c:Nat) (l:List Fd) (w:World) (hl:l.length=n) (hr:qaA w w.heap.size A l) (hA:A=none∨∃ b o,A=some ⟨b,o,none⟩) (hn:n<=1048576):
  Calls Tryz.prog 154 #[.slice A n c] w fun e w'=>∃ v,e= .returned v/\qaG w.heap.size w' v l/\Below w.heap.size w w':=by
 obtain ⟨i0,hi0,hz0,hz1,hz2⟩:=info_parts ql3;rcases hA with rfl|⟨b,o,rfl⟩
 ·have hl0:l=[]:=by
   cases l with
   |nil=>rfl
   |cons f l=>obtain ⟨_,_,e,_⟩:=hr.at_ (k:=0) (by simp);cases e
  subst hl0;refine (AnyE.slices_Clone_nil qpL n c w).mono ?_;rintro e w' ⟨rfl,rfl⟩;exact ⟨_,rfl,qaG.nil,Below.refl _ _⟩
 ·have hc:∀ j u,(flds l)[j]?=some u->w.cell? ⟨b,o+j,none⟩=some u:=fun j u hu=>by
   rcases hr with h|⟨b',o',e,_,hc⟩
   ·rw [h] at hu;simp at hu
   ·cases e
    exact hc j u hu
  refine (AnyE.slices_Clone qpL i0 _ 2 32 hi0 hz0 hz1 hz2 rfl (by decide) Tryz.sizeOf121 b o n c (flds l) w (by rw [qfo,hl]) (by unfold maxLen;omega) (by omega) hc (qiJ l)).mono ?_;rintro e w' ⟨v,rfl,hown,_,hb⟩;refine ⟨v,rfl,?_,hb⟩;unfold qaG;rw [hl];exact hown
theorem qyG (id:Int) (A:Option Addr) (n c:Nat) (l:List Fd) (w:World) (hl:l.length=n) (hr:qaA w w.heap.size A l) (hA:A=none∨∃ b o,A=some ⟨b,o,none⟩) (hn:n<=1048576):
    Calls Tryz.prog 105 #[qc0 id A n c] w fun e w'=>∃ v,e= .returned (.agg #[.int .i64 id,v])/\qaG w.heap.size w' v l/\Below w.heap.size w w':=by
  obtain ⟨w1,hw1⟩:∃ w1,w1=(w.alloc (.cells #[.int .i64 id,.slice A n c] 59)).alloc (.cells #[.int .i64 0,.slice none 0 0] 59):=⟨_,rfl⟩;have hb1:Below w.heap.size w w1:=by rw [hw1];exact ((Below.refl _ w).alloc (Nat.le_refl _) _).alloc (by simp) _
  have hs1:w1.heap.size=w.heap.size+2:=by rw [hw1];simp
  have hk0:w1.heap[w.heap.size]?=some (.cells #[.int .i64 id,.slice A n c] 59 (0,0)):=by
    rw [hw1,Below.heap_alloc _ _ _ (by simp)];exact heap_alloc_new w _
  have hk1:w1.heap[w.heap.size+1]?=some (.cells #[.int .i64 0,.slice none 0 0] 59 (0,0)):=by
    rw [hw1];simpa using heap_alloc_new (w.alloc (.cells #[.int .i64 id,.slice A n c] 59)) (.cells #[.int .i64 0,.slice none 0 0] 59)
  have HS:Hid (∀ w',Below w1.heap.size w1 w'->w'.cell? ⟨w.heap.size,0,none⟩=some (.int .i64 id)/\w'.cell? ⟨w.heap.size,1,none⟩=some (.slice A n c)):=qH fun w' h=>by
    have :=(h.block w.heap.size (by omega)).trans hk0;exact ⟨(qcD this).1,(qcD this).2.1⟩
  have HK1:Hid (∀ w',Below w1.heap.size w1 w'->w'.heap[w.heap.size+1]?=some (.cells #[.int .i64 0,.slice none 0 0] 59 (0,0))):=qH fun w' h=>(h.block _ (by omega)).trans hk1
  have HC:Hid (∀ w',Below w1.heap.size w1 w'->Calls Tryz.prog 154 #[.slice A n c] w' fun e w''=>∃ v,e= .returned v/\qaG w'.heap.size w'' v l/\Below w'.heap.size w' w''):=qH fun w' h=>qyF A n c l w' hl (hr.later (hb1.trans (h.mono hb1.size))) hA hn
  have HW1:=qH hw1;have HB1:=qH hb1;have HS1:=qH hs1;clear hw1 hb1 hs1 hk0 hk1 hr hA hl
  go_enter Tryz.func105,Tryz.ntmps105
  go_wp2;rw [show (w.alloc _).alloc _=w1 from HW1.out.symm]
  go_region_held3 (fun w'=>w'.cell? ⟨w.heap.size,0,none⟩=some (.int .i64 id)/\w'.cell? ⟨w.heap.size,1,none⟩=some (.slice A n c))
    (first|exact HS.out _ (Below.refl _ _).drew|exact HS.out _ HB4.out|exact HSE.out)
    (first
      | (go_at_call 154; (with_reducible refine (HC.out _ (Below.refl _ w1).drew).mono ?_); rintro e w4 ⟨v, rfl, ho4, hb4⟩
         obtain ⟨A4,c4,rfl,_,_⟩:=ho4.row;have HB4:Hid (Below w1.heap.size w1 w4):=qH ((Below.refl _ w1).drew.trans hb4);have HO4:Hid (qaG w1.heap.size w4 (.slice A4 l.length c4) l):=qH ho4;have hz:=qcD (HK1.out _ HB4.out);have r0:=hz.1;have r1:=hz.2.1;have r2:=hz.2.2.1;have r3:=hz.2.2.2;have HSE:Hid (((w4.setCell ⟨w.heap.size+1,0,none⟩ (.int .i64 id)).setCell ⟨w.heap.size+1,1,none⟩ (.slice A4 l.length c4)).cell? ⟨w.heap.size,0,none⟩=some (.int .i64 id)/\((w4.setCell ⟨w.heap.size+1,0,none⟩ (.int .i64 id)).setCell ⟨w.heap.size+1,1,none⟩ (.slice A4 l.length c4)).cell? ⟨w.heap.size,1,none⟩=some (.slice A n c)):=qH (by
           have hq:=HS.out _ HB4.out;have hne:∀ (u:World) (k:Nat) (v:Value) (o:Nat),(u.setCell ⟨w.heap.size+1,k,none⟩ v).cell? ⟨w.heap.size,o,none⟩=u.cell? ⟨w.heap.size,o,none⟩:=fun u k v o=>by
             simp only [World.cell?];rw [qdJ (by omega)]
           rw [hne,hne,hne,hne];exact hq)
         clear ho4 hb4 hz))
  all_goals
    go_wp2;obtain ⟨we,hwe⟩:∃ we,we=(w4.setCell ⟨w.heap.size+1,0,none⟩ (.int .i64 id)).setCell ⟨w.heap.size+1,1,none⟩ (.slice A4 l.length c4):=⟨_,rfl⟩;have h3:we.heap[w.heap.size+1]?=some (.cells #[.int .i64 id,.slice A4 l.length c4] 59 (0,0)):=by rw [hwe,qcW (qcW (HK1.out _ HB4.out))];rfl
    have hbe:Below w.heap.size w we:=by rw [hwe];exact ((HB1.out.trans (HB4.out.mono HB1.out.size)).setCell (by simp) _).setCell (by simp) _
    have hs1:=HS1.out;have hoe:qaG w.heap.size we (.slice A4 l.length c4) l:=by
      rw [hwe];exact (show qaG w1.heap.size _ _ _ from ownsRow_setCell_below (ownsRow_setCell_below HO4.out (a:=⟨w.heap.size+1,0,none⟩) (by simp;omega) _) (a:=⟨w.heap.size+1,1,none⟩) (by simp;omega) _).low (by omega)
    rw [<- hwe];obtain ⟨d0,d1,_,_⟩:=qcD h3;exact bodyPost_ret (v:= .agg #[.int .i64 id,.slice A4 l.length c4]) (by simp [results,Tryz.results105,go_sem,d0,d1]) rfl ⟨_,rfl,hoe,hbe⟩
theorem qyH {w:World} {b:Nat} {x y z:Value} {t:TypeId} (h:w.heap[b]?=some (.cells #[x,y,z] t (0,0))):w.frozen? ⟨b,0,none⟩=false/\w.frozen? ⟨b,1,none⟩=false/\w.frozen? ⟨b,2,none⟩=false:=by
 simp [World.frozen?,h]
def qpM (id:Int) (l:List Fd) (seq:Int) (w:World) (e:Ending) (w':World):Prop:=
 ∃ A c,e= .returned (.agg #[.int .i64 id,.slice A l.length c,.int .i64 seq])/\(l.length<=c/\c<=maxLen)/\qaG w.heap.size w' (.slice A l.length c) l/\Below w.heap.size w w'
theorem qyI (id:Int) (A:Option Addr) (n c:Nat) (l:List Fd) (seq:Int) (w:World) (hl:l.length=n) (hr:qaA w w.heap.size A l) (hA:A=none∨∃ b o,A=some ⟨b,o,none⟩) (hn:n<=1048576):
    Calls Tryz.prog 64 #[.agg #[.int .i64 id,.slice A n c,.int .i64 seq]] w (qpM id l seq w):=by
  obtain ⟨w1,hw1⟩:∃ w1,w1=(w.alloc (.cells #[.int .i64 id,.slice A n c,.int .i64 seq] 61)).alloc (.cells #[.int .i64 0,.slice none 0 0,.int .i64 0] 61):=⟨_,rfl⟩;have hb1:Below w.heap.size w w1:=by rw [hw1];exact ((Below.refl _ w).alloc (Nat.le_refl _) _).alloc (by simp) _
  have hs1:w1.heap.size=w.heap.size+2:=by rw [hw1];simp
  have hk0:w1.heap[w.heap.size]?=some (.cells #[.int .i64 id,.slice A n c,.int .i64 seq] 61 (0,0)):=by
    rw [hw1,Below.heap_alloc _ _ _ (by simp)];exact heap_alloc_new w _
  have hk1:w1.heap[w.heap.size+1]?=some (.cells #[.int .i64 0,.slice none 0 0,.int .i64 0] 61 (0,0)):=by
    rw [hw1];simpa using heap_alloc_new (w.alloc (.cells #[.int .i64 id,.slice A n c,.int .i64 seq] 61)) (.cells #[.int .i64 0,.slice none 0 0,.int .i64 0] 61)
  have HS:Hid (∀ w',Below w1.heap.size w1 w'->w'.cell? ⟨w.heap.size,0,none⟩=some (.int .i64 id)/\w'.cell? ⟨w.heap.size,1,none⟩=some (.slice A n c)/\w'.cell? ⟨w.heap.size,2,none⟩=some (.int .i64 seq)):=qH fun w' h=>qeK ((h.block w.heap.size (by omega)).trans hk0)
  have HK1:Hid (∀ w',Below w1.heap.size w1 w'->w'.heap[w.heap.size+1]?=some (.cells #[.int .i64 0,.slice none 0 0,.int .i64 0] 61 (0,0))):=qH fun w' h=>(h.block _ (by omega)).trans hk1
  have HC:Hid (∀ w',Below w1.heap.size w1 w'->Calls Tryz.prog 105 #[qc0 id A n c] w' fun e w''=>∃ v,e= .returned (.agg #[.int .i64 id,v])/\qaG w'.heap.size w'' v l/\Below w'.heap.size w' w''):=qH fun w' h=>qyG id A n c l w' hl (hr.later (hb1.trans (h.mono hb1.size))) hA hn
  have HW1:=qH hw1;have HB1:=qH hb1;have HS1:=qH hs1;clear hw1 hb1 hs1 hk0 hk1 hr hA hl
  go_enter Tryz.func64,Tryz.ntmps64
  go_wp2;rw [show (w.alloc _).alloc _=w1 from HW1.out.symm]
  go_region_held3 (fun w'=>w'.cell? ⟨w.heap.size,0,none⟩=some (.int .i64 id)/\w'.cell? ⟨w.heap.size,1,none⟩=some (.slice A n c)/\w'.cell? ⟨w.heap.size,2,none⟩=some (.int .i64 seq))
    (first|exact HS.out _ (Below.refl _ _).drew|exact HS.out _ HB4.out|exact HSE.out)
    (first
      | (go_at_call 105; (with_reducible refine (HC.out _ (Below.refl _ w1).drew).mono ?_); rintro e w4 ⟨v, rfl, ho4, hb4⟩
         obtain ⟨A4,c4,rfl,hc4,_⟩:=qeC ho4;have HB4:Hid (Below w1.heap.size w1 w4):=qH ((Below.refl _ w1).drew.trans hb4);have HO4:Hid (qaG w1.heap.size w4 (.slice A4 l.length c4) l):=qH ho4;have hz:=qeK (HK1.out _ HB4.out);have hf:=qyH (HK1.out _ HB4.out);have r0:=hz.1;have r1:=hz.2.1;have r2:=hz.2.2;have r3:=hf.1;have r4:=hf.2.1;have r5:=hf.2.2;have HSE:Hid ((((w4.setCell ⟨w.heap.size+1,0,none⟩ (.int .i64 id)).setCell ⟨w.heap.size+1,1,none⟩ (.slice A4 l.length c4)).setCell ⟨w.heap.size+1,2,none⟩ (.int .i64 seq)).cell? ⟨w.heap.size,0,none⟩=some (.int .i64 id)/\(((w4.setCell ⟨w.heap.size+1,0,none⟩ (.int .i64 id)).setCell ⟨w.heap.size+1,1,none⟩ (.slice A4 l.length c4)).setCell ⟨w.heap.size+1,2,none⟩ (.int .i64 seq)).cell? ⟨w.heap.size,1,none⟩=some (.slice A n c)/\
             (((w4.setCell ⟨w.heap.size+1,0,none⟩ (.int .i64 id)).setCell ⟨w.heap.size+1,1,none⟩ (.slice A4 l.length c4)).setCell ⟨w.heap.size+1,2,none⟩ (.int .i64 seq)).cell? ⟨w.heap.size,2,none⟩=some (.int .i64 seq)):=qH (by
           have hq:=HS.out _ HB4.out;have hne:∀ (u:World) (k:Nat) (v:Value) (o:Nat),(u.setCell ⟨w.heap.size+1,k,none⟩ v).cell? ⟨w.heap.size,o,none⟩=u.cell? ⟨w.heap.size,o,none⟩:=fun u k v o=>by
             simp only [World.cell?];rw [qdJ (by omega)]
           simp only [hne];exact hq)
         clear ho4 hb4 hz hf))
  all_goals
    go_wp2;obtain ⟨we,hwe⟩:∃ we,we=((w4.setCell ⟨w.heap.size+1,0,none⟩ (.int .i64 id)).setCell ⟨w.heap.size+1,1,none⟩ (.slice A4 l.length c4)).setCell ⟨w.heap.size+1,2,none⟩ (.int .i64 seq):=⟨_,rfl⟩;have h3:we.heap[w.heap.size+1]?=some (.cells #[.int .i64 id,.slice A4 l.length c4,.int .i64 seq] 61 (0,0)):=by rw [hwe,qcW (qcW (qcW (HK1.out _ HB4.out)))];rfl
    have hbe:Below w.heap.size w we:=by rw [hwe];exact (((HB1.out.trans (HB4.out.mono HB1.out.size)).setCell (by simp) _).setCell (by simp) _).setCell (by simp) _
    have hs1:=HS1.out;have hoe:qaG w.heap.size we (.slice A4 l.length c4) l:=by
      rw [hwe];exact (show qaG w1.heap.size _ _ _ from ownsRow_setCell_below (ownsRow_setCell_below (ownsRow_setCell_below HO4.out (a:=⟨w.heap.size+1,0,none⟩) (by simp;omega) _) (a:=⟨w.heap.size+1,1,none⟩) (by simp;omega) _) (a:=⟨w.heap.size+1,2,none⟩) (by simp;omega) _).low (by omega)
    rw [<- hwe];obtain ⟨d0,d1,d2⟩:=qeK h3;exact bodyPost_ret (v:= .agg #[.int .i64 id,.slice A4 l.length c4,.int .i64 seq]) (by simp [results,Tryz.results64,go_sem,d0,d1,d2]) rfl ⟨_,_,rfl,hc4,hoe,hbe⟩
theorem qyJ (s:ByteArray) (w:World) (hs:s.size<=9223372036854775807):
  Calls Tryz.prog 145 #[.string s] w fun e w'=>e= .returned (.bool (qbl s.data.toList))/\Below w.heap.size w w':=by
 have hsz:s.data.toList.length=s.size:=Array.length_toList;by_cases h0:s.size=0
 ·have he:s=ByteArray.empty:=by
   have :s.data.toList=[]:=List.eq_nil_of_length_eq_zero (by omega);cases s with|mk d=>cases d with|mk l=>simp at this;subst this;rfl
  have hm:qbl s.data.toList=false:=by rw [he];rfl
  rw [hm];subst he;clear hm hsz h0
  go_enter Tryz.func145,Tryz.ntmps145
  go_wp2;go_ret;exact ⟨rfl,Below.refl _ _⟩
 ·have hne:s.data.toList≠[]:=fun h=>h0 (by rw [<- hsz,h];rfl)
  have hs0:(s.toList==[])=false:=by
   rw [Lib.toList_data];simpa using hne
  obtain ⟨z,hz⟩:∃ z,z=qbl s.data.toList:=⟨_,rfl⟩;rw [<- hz];have HZ:=qH hz;clear hz hne;by_cases h12:12<s.size
  ·have hzf:z=false:=by
    rw [HZ.out,qbl,hsz];have d:decide (s.size<=12)=false:=decide_eq_false (by omega);rw [d];simp
   subst hzf;clear hsz h0
   go_enter Tryz.func145,Tryz.ntmps145
   go_wp2;go_ret;exact ⟨rfl,Below.refl _ _⟩
  ·have hs12:s.size<=12:=by omega
   have h1:1<=s.size:=by omega
   have HSZ:=qH hsz;clear hsz h0 h12
   go_enter Tryz.func145,Tryz.ntmps145
   go_wp2
   go_loopw [2,13] (fun r i wr=>r= .bool false/\qpE s.data.toList w i wr) (fun _ i _=>s.size-(intOf i).toNat)
   case atStart=>exact ⟨rfl,0,by omega,rfl,Below.refl _ _,fun j _ hj=>by omega⟩
   case round=>
    obtain ⟨rfl,k,hk,rfl,hbw,hall⟩:=hrel;rw [HSZ.out] at hk;by_cases hlt:k<s.size
    ·have hkl:k<s.data.toList.length:=by rw [HSZ.out];exact hlt
     have i0:(0:Int)<=k:=by omega
     have i1:(k:Int)<s.size:=by omega
     have hb:s[k]=s.data.toList[k]:=rfl;cases hsm:qdO s.data.toList[k] with
     |true=>
      have h2:=hsm;rw [qdO,<- hb,Bool.and_eq_true,decide_eq_true_iff,decide_eq_true_iff] at h2;have j1:(97:Int)<=s[k].toNat:=by omega
      have j2:(s[k].toNat:Int)<=122:=by omega
      have HN:Hid (∀ j (hj:j<s.data.toList.length),j<k+1->qdO s.data.toList[j]=true):=qH fun j hj hjk=>by
       by_cases e:j=k
       ·subst e;exact hsm
       ·exact hall j hj (by omega)
      clear hall hsm h2 hb;go_wp2;go_roundw
      case rel=>exact ⟨rfl,k+1,by have :=HSZ.out;omega,by go_num,hbw,HN.out⟩
      case measure=>simp [intOf];omega
     |false=>
      have h2:=hsm;rw [qdO,<- hb,Bool.and_eq_false_iff,decide_eq_false_iff_not,decide_eq_false_iff_not] at h2;have hbad:z=false:=by rw [HZ.out];exact qlT hkl hsm
      subst hbad;have j1:(s[k].toNat:Int)<97∨(97:Int)<=s[k].toNat/\(122:Int)<s[k].toNat:=by omega
      clear hall hsm h2 hb;rcases j1 with j1|⟨j1,j2⟩
      all_goals
       go_wp2;go_ret;exact ⟨rfl,hbw⟩
    ·have e:=qlU (s:=s.data.toList) (fun j hj=>hall j hj (by rw [HSZ.out] at hj;omega))
     have d1:(decide (1<=s.size)&&decide (s.size<=12))=true:=by simp [h1,hs12]
     rw [HSZ.out,<- HZ.out,d1] at e;subst e;clear hall d1;go_wp2;go_ret;exact ⟨rfl,hbw⟩
theorem qyK (s:ByteArray) (w:World) (hs:s.size<=268435456):
  Calls Tryz.prog 148 #[.string s] w (qeR (qaL s.data.toList) w):=by
 obtain ⟨i0,hi0,hz0,hz1,hz2⟩:=info_parts qlF;have hwl:=qlt s.data.toList;have hsz:s.data.toList.length=s.size:=Array.length_toList;rw [hsz] at hwl
 go_enter Tryz.func148,Tryz.ntmps148
 go_wp2_with (go_at_call 155;refine (qlA s _ (by omega)).mono ?_)
 rintro e w1 ⟨v,rfl,hown,hb⟩;obtain ⟨A,c,rfl,_,hrow⟩:=qaM hown;obtain ⟨ws,hl⟩:∃ ws,ws=qaL s.data.toList:=⟨_,rfl⟩;rw [<- hl] at hrow hwl;rw [<- hl];have FIN:Hid (∀ e w',qeR ws w e w'->qeR (qaL s.data.toList) w e w'):=by rw [<- hl];exact fun _ _ h=>h
 have HB:=qH hb;have HR:=qH hrow;clear hl hb hown hrow;go_wp2
 go_loopw [2,3,4,10] (fun a b o i wr=>qlG ws w1 a b o i wr) (fun _ _ _ i _=>ws.length-(intOf i).toNat)
 case atStart=>exact ⟨0,_,rfl,rfl,rfl,Nat.zero_le _,by omega,rfl,World.ownsRow_nil _ _ _ _,Below.refl _ _,rfl⟩
 case round=>
  obtain ⟨k,vo,rfl,rfl,rfl,hk,hk5,rfl,hown,hbw,her⟩:=hrel;by_cases hlt:k<ws.length
  ·obtain ⟨b1,o1,e1,_,hc1⟩:=qio (HR.out.below hbw) hlt
   subst e1;have hat:=qlE hlt;have htk:=qlD hlt;obtain ⟨tx,htx⟩:∃ tx:ByteArray,tx=⟨ws[k].toArray⟩:=⟨_,rfl⟩;have htl:ws[k].length=tx.size:=by rw [htx];simp [ByteArray.size]
   rw [<- htx] at hc1 htk;rw [htl,her] at hat;clear htx htl her;have HTK:=qH htk;clear htk;have hszj:=hbw.size;by_cases h30:30<tx.size
   ·rw [if_pos h30] at hat
    have HAT:=qH hat;clear hat;go_wp2;go_ret2;exact FIN.out _ _ ⟨_,by rw [HAT.out];rfl,fun h=>by rw [HAT.out] at h;omega,fun _=>rfl,HB.out.trans (hbw.mono HB.out.size)⟩
   ·rw [if_neg h30] at hat
    by_cases h500:k=500
    ·rw [if_pos (by omega)] at hat
     have HAT:=qH hat;subst h500;clear hat;go_wp2;go_ret2;exact FIN.out _ _ ⟨_,by rw [HAT.out];rfl,fun h=>by rw [HAT.out] at h;omega,fun _=>rfl,HB.out.trans (hbw.mono HB.out.size)⟩
    ·rw [if_neg (by omega)] at hat
     have HAT:=qH hat;clear hat;have h5:(k:Int)<500:=by omega
     go_wp2_with (at_builtin;refine wpList_append_own _ rfl (.tmp 20) (.tmp 24) 187 rfl w1.heap.size 245 i0 _ 2 24 Tryz.underlying187 hi0 hz0 hz1 hz2 rfl (by omega) _ k (qdN 0 (ws.take k)) rfl (hown.alloc _) ⟨wr.heap.size,0,none⟩ 1 1 [.string tx,.int .i64 k] rfl rfl (qaQ wr [.string tx,.int .i64 k] 245) (by intro u hu;simp at hu;rcases hu with hu|hu<;>(subst hu;rfl)) (by unfold maxLen;omega) (by omega) (by simp;omega) ?_)
     intro v' w5 hown5 hgrow5 _;have hbw5:=(hbw.alloc (by omega) _).grown hgrow5 (by simp;omega) (fun j hj=>(hown.lt j hj).1);rw [<- HTK.out] at hown5;clear hgrow5;go_wp2;go_roundw
     case rel=>exact ⟨k+1,_,rfl,rfl,rfl,by omega,by omega,by go_num,hown5,hbw5,HAT.out.symm⟩
     case measure=>simp [intOf];omega
  ·have hkl:k=ws.length:=by omega
   have her0:qbz 0 ws=0:=by rw [<- her,List.drop_of_length_le (by omega)];rfl
   rw [hkl,List.take_length] at hown;have HE:=qH her0;clear her her0 hkl;go_wp2;go_ret2;exact FIN.out _ _ ⟨_,by rw [HE.out];rfl,fun _=>qbc hown HB.out.size,fun h=>absurd HE.out h,HB.out.trans (hbw.mono HB.out.size)⟩
def qkF (f:Fd):List Value:=[.string ⟨f.1.toArray⟩,.string ⟨f.2.toArray⟩]
theorem qyL {w:World} {B b o:Nat} {zs:List Fd} (h:qaA w B (some ⟨b,o,none⟩) zs):∀ j,j<zs.length->∀ i v,(qkF zs[j]!)[i]?=some v->w.cell? ⟨b,o+j*2+i,none⟩=some v:=fun j hj i v hv=>by
 obtain ⟨_,_,e,_,h1,h2⟩:=h.at_ hj;cases e;rw [getElem!_pos zs j hj] at hv
 match i,hv with
 |0,hv=>cases hv;exact h1
 |1,hv=>cases hv;exact h2
 |i+2,hv=>simp [qkF] at hv
def qd9 (seen:List Nm) (f:Fd):Nat × Int:=if qbl f.1=false then (0,4) else if f.1∈seen then (0,5) else if qbz 0 (qaL f.2)≠0 then (0,qbz 0 (qaL f.2)) else ((qaL f.2).length,0)
theorem qyM {seen:List Nm} {n k:Nat} {l:List Fd} (hk:k<l.length):qdb seen n (l.drop k)=if (qd9 seen l[k]).2≠0 then (qd9 seen l[k]).2 else qdb (seen++[l[k].1]) (n+(qd9 seen l[k]).1) (l.drop (k+1)):=by
 rw [qpH hk,qd9];by_cases h1:qbl l[k].1=false
 ·simp [h1]
 ·by_cases h2:l[k].1∈seen
  ·simp [h1,h2]
  ·by_cases h3:qbz 0 (qaL l[k].2)=0
   ·simp [h1,h2,h3]
   ·simp [h1,h2,h3]
theorem qyN {seen:List Nm} {f:Fd}:(qd9 seen f).1<=500:=by
 unfold qd9;split
 ·exact Nat.zero_le _
 ·split
  ·exact Nat.zero_le _
  ·split
   ·exact Nat.zero_le _
   ·rename_i h
    have :=qkD (Classical.not_not.1 h) (by omega);show (qaL f.2).length<=500;omega
theorem qyO (B:Nat) (x:ByteArray) (f:Fd) (w:World) (hB:w.cell? ⟨B,0,none⟩=some (.string x)):
  Calls Tryz.prog 147 #[.agg #[.string ⟨f.1.toArray⟩,.string ⟨f.2.toArray⟩],.pointer (some ⟨B,0,none⟩)] w fun e w'=>e= .returned (.bool (decide (f.1=x.data.toList)))/\Below w.heap.size w w':=by
 have hc:∀ o,(w.alloc o).cell? ⟨B,0,none⟩=some (.string x):=fun o=>Lib.cell?_alloc_some _ hB
 obtain ⟨y,hy,hy2⟩:=qbW f.1;obtain ⟨z,hz⟩:∃ z,z=decide (f.1=x.data.toList):=⟨_,rfl⟩;rw [<- hz,<- hy];rw [<- hy2] at hz;have HB:Hid (∀ o,Below w.heap.size w (w.alloc o)):=qH fun o=>(Below.refl _ _).alloc (Nat.le_refl _) o
 clear hB hy hy2;by_cases he:y.data.toList=x.data.toList
 ·have t1:=ql0 he
  rw [he] at hz;have hzt:z=true:=by rw [hz];exact decide_eq_true rfl
  subst hzt;clear he hz
  go_enter Tryz.func147,Tryz.ntmps147
  go_wp2;go_ret;exact ⟨rfl,HB.out _⟩
 ·have t1:=ql1 he
  have hzf:z=false:=by rw [hz];exact decide_eq_false he
  subst hzf;clear he hz
  go_enter Tryz.func147,Tryz.ntmps147
  go_wp2;go_ret;exact ⟨rfl,HB.out _⟩
theorem qyP (B:Nat) (x:ByteArray) (b o k c:Nat) (zs:List Fd) (w:World) (hB:w.cell? ⟨B,0,none⟩=some (.string x)) (hBl:B<w.heap.size) (hk:zs.length=k) (hb:b<w.heap.size) (hr:qaA w w.heap.size (some ⟨b,o,none⟩) zs) (hkn:k<=1073741824):
  Calls Tryz.prog 146 #[.slice (some ⟨b,o,none⟩) k c,.func (.func 147) #[] #[.pointer (some ⟨B,0,none⟩)]] w fun e w'=>e= .returned (.bool (decide (x.data.toList∈zs.map (·.1))))/\Below w.heap.size w w':=by
 have e:(zs.take k).any (fun f=>decide (f.1=x.data.toList))=decide (x.data.toList∈zs.map (·.1)):=by
  rw [List.take_of_length_le (by omega),Bool.eq_iff_iff,List.any_eq_true,decide_eq_true_iff,List.mem_map];constructor
  ·rintro ⟨f,hf,h⟩;exact ⟨f,hf,of_decide_eq_true h⟩
  ·rintro ⟨f,hf,h⟩;exact ⟨f,hf,decide_eq_true h⟩
 rw [<- e];exact AnyQ.slices_ContainsFunc qyE 2 Tryz.isAgg121 Tryz.sizeOf121 qkF (fun _=>rfl) (fun f=>decide (f.1=x.data.toList)) 147 #[.pointer (some ⟨B,0,none⟩)] (enters_of Tryz.func147 (by kernel_rfl) rfl) b o k c zs w
  (fun W f hW=>(qyO B x f W ((hW.cell (p:=⟨B,0,none⟩) hBl).trans hB)).mono fun e w' ⟨h1,h2⟩=>⟨h1,hW.trans (h2.mono hW.size)⟩) (by omega) (by omega) hb (qyL hr)
theorem qyQ (x y:ByteArray) (b o k c:Nat) (zs:List Fd) (w:World) (hk:zs.length=k) (hb:b<w.heap.size) (hr:qaA w w.heap.size (some ⟨b,o,none⟩) zs) (hkn:k<=1073741824) (hx:x.size<=9223372036854775807) (hy:y.size<=268435456):
    Calls Tryz.prog 103 #[.agg #[.string x,.string y],.slice (some ⟨b,o,none⟩) k c] w fun e w'=>
      e= .returned (.tuple #[.int .i64 ((qd9 (zs.map (·.1)) (x.data.toList,y.data.toList)).1:Int),.int .i64 (qd9 (zs.map (·.1)) (x.data.toList,y.data.toList)).2])/\Below w.heap.size w w':=by
  obtain ⟨w1,hw1⟩:∃ w1,w1=w.alloc (.cells #[.string x,.string y] 121):=⟨_,rfl⟩;have hblk:w1.heap[w.heap.size]?=some (.cells #[.string x,.string y] 121 (0,0)):=by rw [hw1];exact heap_alloc_new _ _
  have hb1:Below w.heap.size w w1:=by rw [hw1];exact (Below.refl _ _).alloc (Nat.le_refl _) _
  have hs1:w1.heap.size=w.heap.size+1:=by rw [hw1];simp
  have HC:Hid (∀ w',Below w1.heap.size w1 w'->Below w.heap.size w w'/\w'.cell? ⟨w.heap.size,0,none⟩=some (.string x)/\w'.cell? ⟨w.heap.size,1,none⟩=some (.string y)/\w.heap.size<w'.heap.size/\b<w'.heap.size/\qaA w' w'.heap.size (some ⟨b,o,none⟩) zs):=qH fun w' h=>by
    have h0:=hb1.trans (h.mono hb1.size);have hk:w'.heap[w.heap.size]?=some (.cells #[.string x,.string y] 121 (0,0)):=(h.block _ (by omega)).trans hblk;exact ⟨h0,by simp [World.cell?,hk],by simp [World.cell?,hk],lt_of_block hk,by have :=h0.size;omega,hr.later h0⟩
  have HW1:=qH hw1;have N1:Hid (∀ w',Calls Tryz.prog 145 #[.string x] w' fun e w''=>e= .returned (.bool (qbl x.data.toList))/\Below w'.heap.size w' w''):=qH fun w'=>qyJ x w' hx
  have H1:Hid (∀ w',Below w1.heap.size w1 w'->Calls Tryz.prog 146 #[.slice (some ⟨b,o,none⟩) k c,.func (.func 147) #[] #[.pointer (some ⟨w.heap.size,0,none⟩)]] w' fun e w''=>e= .returned (.bool (decide (x.data.toList∈zs.map (·.1))))/\Below w'.heap.size w' w''):=qH fun w' h=>by
    obtain ⟨_,h1,_,h2,h3,h4⟩:=HC.out w' h;exact qyP w.heap.size x b o k c zs w' h1 h2 hk h3 h4 hkn
  have T1:Hid (∀ w',Calls Tryz.prog 148 #[.string y] w' (qeR (qaL y.data.toList) w')):=qH fun w'=>qyK y w' hy
  obtain ⟨r,hrr⟩:∃ r,r=qd9 (zs.map (·.1)) (x.data.toList,y.data.toList):=⟨_,rfl⟩;rw [<- hrr];unfold qd9 at hrr;simp only at hrr;obtain ⟨z1,hz1⟩:∃ z1,z1=qbl x.data.toList:=⟨_,rfl⟩;obtain ⟨z2,hz2⟩:∃ z2,z2=decide (x.data.toList∈zs.map (·.1)):=⟨_,rfl⟩;rw [<- hz1] at N1 hrr;rw [<- hz2] at H1;have hz3:x.data.toList∈zs.map (·.1)↔z2=true:=by rw [hz2,decide_eq_true_iff]
  simp only [hz3] at hrr;obtain ⟨ws,hws⟩:∃ ws,ws=qaL y.data.toList:=⟨_,rfl⟩;rw [<- hws] at T1 hrr;clear hw1 hblk hb1 hs1 hz1 hz2 hz3 hws hb hr hk;cases z1 with
  |false=>
    rw [if_pos rfl] at hrr;subst hrr
    go_enter Tryz.func103,Tryz.ntmps103
    go_wp2_with (go_at_call 145;rw [show w.alloc _=w1 from HW1.out.symm];(with_reducible refine (N1.out _).mono ?_);rintro e w2 ⟨rfl,hb2⟩)
    go_ret2;exact ⟨rfl,(HC.out _ hb2).1⟩
  |true=>
    rw [if_neg (by decide)] at hrr;cases z2 with
    |true=>
      rw [if_pos rfl] at hrr;subst hrr
      go_enter Tryz.func103,Tryz.ntmps103
      go_wp2_with (first
        | (go_at_call 145; rw [show w.alloc _ = w1 from HW1.out.symm]; (with_reducible refine (N1.out _).mono ?_); rintro e w2 ⟨rfl, hb2⟩
           have HB2:=qH hb2;clear hb2)
        | (go_at_call 146; (with_reducible refine (H1.out _ HB2.out).mono ?_); rintro e w3 ⟨rfl, hb3⟩
           have HB3:=qH (HB2.out.trans (hb3.mono HB2.out.size));clear hb3))
      go_ret2;exact ⟨rfl,(HC.out _ HB3.out).1⟩
    |false=>
      rw [if_neg (by decide)] at hrr;have HRR:=qH hrr;clear hrr
      go_enter Tryz.func103,Tryz.ntmps103
      go_wp2_with (first
        | (go_at_call 145; rw [show w.alloc _ = w1 from HW1.out.symm]; (with_reducible refine (N1.out _).mono ?_); rintro e w2 ⟨rfl, hb2⟩
           have HB2:=qH hb2;clear hb2)
        | (go_at_call 146; (with_reducible refine (H1.out _ HB2.out).mono ?_); rintro e w3 ⟨rfl, hb3⟩
           have HB3:=qH (HB2.out.trans (hb3.mono HB2.out.size));have a1:=(HC.out _ HB3.out).2.2.1;clear hb3)
        | (go_at_call 148; (with_reducible refine (T1.out _).mono ?_); rintro e w4 ⟨v, rfl, h1, h2, hb4⟩
           have HB4:=qH (HB3.out.trans (hb4.mono HB3.out.size));obtain ⟨A3,n3,c3,rfl,hn3⟩:∃ A3 n3 c3,v= .slice A3 n3 c3/\r=(n3,qbz 0 ws):=by
             by_cases hz:qbz 0 ws=0
             · rcases (h1 hz).2 with ⟨hv,hn⟩|⟨g,cap,cur,hv,_⟩
               · exact ⟨none,0,0,hv,by rw [HRR.out,if_neg (by rw [hz];decide),hz,hn]⟩
               · exact ⟨_,_,_,hv,by rw [HRR.out,if_neg (by rw [hz];decide),hz]⟩
             · exact ⟨none,0,0,h2 hz,by rw [HRR.out,if_pos hz]⟩
           obtain ⟨E,hE⟩:∃ E,E=qbz 0 ws:=⟨_,rfl⟩;rw [<- hE] at hn3 ⊢;clear h1 h2 hb4 hE))
      go_ret2;rw [hn3];exact ⟨rfl,(HC.out _ HB4.out).1⟩
theorem qyR (id:Int) (A:Option Addr) (n c:Nat) (l:List Fd) (w:World) (hl:l.length=n) (hr:qaA w w.heap.size A l) (hn:n<=1073741824) (hnc:n<=c) (ht:∀ f∈l,f.1.length<=1073741824/\f.2.length<=268435456):
    Calls Tryz.prog 62 #[qc0 id A n c] w fun e w'=>e= .returned (.int .i64 (qa9 l))/\Below w.heap.size w w':=by
  obtain ⟨R,hR⟩:∃ R,R=qa9 l:=⟨_,rfl⟩;rw [<- hR];have HRR:=qH hR;have HR:=qH hr;have HT:=qH ht;have HB1:Hid (∀ w1,w1=qbD w id A n c->∀ wr,Below w1.heap.size w1 wr->Below w.heap.size w wr/\wr.cell? ⟨w.heap.size,0,none⟩=some (.int .i64 id)/\wr.cell? ⟨w.heap.size,1,none⟩=some (.slice A n c)):=qH fun w1 e wr h=>by subst e;exact ⟨qoh h,qf2 h⟩
  clear hR hr ht;by_cases h8:8<n
  · have hR7:R=7:=by rw [HRR.out,qa9,if_pos (by omega)]
    subst hR7;have HB0:=qH (HB1.out _ rfl _ (Below.refl _ _)).1
    go_enter Tryz.func62,Tryz.ntmps62
    go_wp2;go_ret;exact ⟨rfl,HB0.out⟩
  · have hn8:n<=8:=by omega
    have HE:Hid (qdb (qeJ l 0) 0 (l.drop 0)=R):=qH (by rw [HRR.out,qa9,if_neg (by omega)];rfl);clear h8;subst hl
    go_enter Tryz.func62,Tryz.ntmps62
    go_wp2;obtain ⟨w1,hw1⟩:∃ w1,w1=qbD w id A l.length c:=⟨_,rfl⟩;have HB2:=qH (HB1.out w1 hw1);rw [show w.alloc _=w1 from hw1.symm]
    clear hw1 HB1
    go_loopw [2,3,15] (fun r a i wr=>qpI l R w1 r a i wr) (fun _ _ i _=>l.length-(intOf i).toNat)
    case atStart=>exact ⟨rfl,0,0,by omega,by omega,rfl,rfl,Below.refl _ _,HE.out⟩
    case round=>
      obtain ⟨rfl,k,m,hk,hm,rfl,rfl,hbw,hgo⟩:=hrel;obtain ⟨hb0,a0,a1⟩:=HB2.out _ hbw;by_cases hlt:k<l.length
      · obtain ⟨b1,o1,e1,hb1,hc1,hc2⟩:=(HR.out.below hb0).at_ hlt
        subst e1;rw [qyM hlt] at hgo;have ht8:=HT.out _ (List.getElem_mem hlt);obtain ⟨x,hx,hx2⟩:=qbW l[k].1;obtain ⟨y,hy,hy2⟩:=qbW l[k].2;rw [<- hx] at hc1;rw [<- hy] at hc2;have i0:(0:Int)<=k:=by omega
        have i1:(k:Int)<l.length:=by omega
        have i2:(k:Int)<=c:=by omega
        obtain ⟨w2,hw2⟩:∃ w2,w2=wr.alloc (.cells #[.string x,.string y] 121):=⟨_,rfl⟩;have hblk:w2.heap[wr.heap.size]?=some (.cells #[.string x,.string y] 121 (0,0)):=by rw [hw2];exact heap_alloc_new _ _
        have hb2:Below wr.heap.size wr w2:=by rw [hw2];exact (Below.refl _ _).alloc (Nat.le_refl _) _
        have hbr:=hbw.size;have hr1:qaA w2 w2.heap.size (some ⟨b1,o1,none⟩) (l.take k):=((HR.out.later hb0).later hb2).cut k;obtain ⟨r,hrr⟩:∃ r,r=qd9 (qeJ l k) l[k]:=⟨_,rfl⟩;have hr5:r.1<=500:=by rw [hrr];exact qyN
        have HMF:Hid (∀ w',Below w2.heap.size w2 w'->Calls Tryz.prog 103 #[.agg #[.string x,.string y],.slice (some ⟨b1,o1,none⟩) k c] w' fun e w''=>e= .returned (.tuple #[.int .i64 (r.1:Int),.int .i64 r.2])/\Below w'.heap.size w' w''):=qH fun w' h=>by
          have hs0:=hb0.size;have hs2:=hb2.size;have hs3:=h.size;have :=qyQ x y b1 o1 k c (l.take k) w' (by rw [List.length_take];omega) (by omega) (hr1.later h) (by omega) (by rw [hx,qeV];have :=ht8.1;omega) (by rw [hy,qeV];exact ht8.2);rw [hx2,hy2] at this;rw [hrr];exact this
        rw [<- hrr] at hgo;have HS:Hid (∀ w',Below w2.heap.size w2 w'->Below w1.heap.size w1 w'/\w'.cell? ⟨wr.heap.size,0,none⟩=some (.string x)/\w'.cell? ⟨wr.heap.size,1,none⟩=some (.string y)/\w'.cell? ⟨w.heap.size,1,none⟩=some (.slice (some ⟨b1,o1,none⟩) l.length c)):=qH fun w' h=>by
          have h1:=hbw.trans ((hb2.trans (h.mono hb2.size)).mono hbw.size);have hk:w'.heap[wr.heap.size]?=some (.cells #[.string x,.string y] 121 (0,0)):=(h.block _ (lt_of_block hblk)).trans hblk;exact ⟨h1,by simp [World.cell?,hk],by simp [World.cell?,hk],(HB2.out _ h1).2.2⟩
        have HW2:=qH hw2;have HGO:=qH hgo;have HB0:=qH hb0;clear hx hx2 hy hy2 ht8 hw2 hblk hb2 hr1 hrr hgo hb0 hb1 hbw;obtain ⟨q,E⟩:=r;simp only at hr5 HMF HGO
        go_upto_region 7 with fail
        rw [show wr.alloc _=w2 from HW2.out.symm]
        go_region_held3 (fun w'=>w'.cell? ⟨wr.heap.size,0,none⟩=some (.string x)/\w'.cell? ⟨wr.heap.size,1,none⟩=some (.string y)/\w'.cell? ⟨w.heap.size,1,none⟩=some (.slice (some ⟨b1,o1,none⟩) l.length c))
          (first|exact (HS.out _ (Below.refl _ _).drew).2|exact (HS.out _ HB3.out).2)
          (first
            | (go_at_call 103; (with_reducible refine (HMF.out _ (Below.refl _ w2).drew).mono ?_); rintro e w3 ⟨rfl, hb3⟩
               have HB3:Hid (Below w2.heap.size w2 w3):=qH ((Below.refl _ w2).drew.trans hb3);clear hb3))
        by_cases hE:E=0
        · subst hE
          have hgo:=HGO.out;rw [if_neg (by decide),<- qpG hlt] at hgo;have HGO2:=qH hgo;have hm5:m<=4000:=by omega
          clear hgo;go_wp2;refine ⟨⟨rfl,k+1,m+q,by omega,by omega,?_,by go_num,(HS.out _ HB3.out).1,HGO2.out⟩,by simp [intOf];omega⟩
          push_cast
          rfl
        · have hgo:=HGO.out
          rw [if_pos hE] at hgo;subst hgo;go_wp2;go_ret;exact ⟨rfl,(HB2.out _ (HS.out _ HB3.out).1).1⟩
      · have hkl:k=l.length:=by omega
        subst hkl;rw [List.drop_length,qdb] at hgo;have HB0:=qH hb0;clear hb0;by_cases h5:500<m
        · rw [if_pos h5] at hgo
          subst hgo;go_wp2;go_ret;exact ⟨rfl,HB0.out⟩
        · rw [if_neg h5] at hgo
          subst hgo;have h5':m<=500:=by omega
          clear h5;go_wp2;go_ret;exact ⟨rfl,HB0.out⟩
theorem qyS (i:Nat) (d:List Fd) (ts:List Tm) (key:Nm):(qbe i d ts key).length<=ts.length:=by
 unfold qbe;rw [List.length_map];exact List.length_filter_le _ _
theorem qpN {M:Nat}:∀ {l:List En} {i:Nat} {key:Nm},(∀ q∈l,(qas q.2.1).length<=M)->(qag i l key).length<=l.length*M
 |[],i,key,_=>by simp [qag]
 |q::l,i,key,h=>by
  have h1:=qpN (l:=l) (i:=i+1) (key:=key) fun x hx=>h x (List.mem_cons_of_mem _ hx)
  have h2:=qyS i q.2.1 (qas q.2.1) key;have h3:=h q (List.mem_cons_self ..);rw [qag,List.length_append,List.length_cons,Nat.add_mul,Nat.one_mul];omega
end Go.Proofs.YtpehcaidjlemiaaGreatDoor
