import Derived.Shelf.SlicesE.Clone
import Derived.Shelf.SlicesQ.IndexFunc
import Derived.Test.YtldcadpemnpbmaaGreatDoorProg
import Derived.Test.YtldcadpemnpbmaaGreatDoorMLQ04
import Derived.Test.YtldcadpemnpbmaaGreatDoorMLQ05
import Derived.Deep.RegionHeld3
import Derived.Test.YtldcadpemnpbmaaGreatDoorMLQ23
import Derived.Test.YtldcadpemnpbmaaGreatDoorMLQ06
import Derived.Test.YtldcadpemnpbmaaGreatDoorMLQ26
import Derived.Test.YtldcadpemnpbmaaGreatDoorMLQ21
import Derived.Deep.DeepCutAuto
import Derived.Test.YtldcadpemnpbmaaGreatDoorMLQ09
import Derived.Deep.AppendLies
set_option linter.unusedVariables false
namespace Go.Proofs.YtldcadpemnpbmaaGreatDoor
open Go.Shelf Go.RowKit
def layCloneFd_ren:Go.Shelf.Ren:=⟨fun |41=>220|n=>n,fun |4=>4|22=>78|23=>77|n=>n,fun |n=>n⟩
theorem layCloneFd:SlLaysE0.n41 Tryz.prog layCloneFd_ren:={
 mixed:=by kernel_rfl
 f41:=⟨Tryz.f220.name,by kernel_rfl,Tryz.func220.trans (congrArg some (by kernel_rfl))⟩
 t4:=Tryz.underlying4
 a4:=Tryz.isAgg4
 z4:=Tryz.sizeOf4
 v4:=Tryz.zeroValue4
 t22:=Tryz.underlying78
 a22:=Tryz.isAgg78
 z22:=Tryz.sizeOf78
 v22:=Tryz.zeroValue78}
def layHasFd_ren:Go.Shelf.Ren:=⟨fun |6=>257|8=>213|n=>n,fun |0=>0|3=>3|4=>4|22=>78|23=>77|25=>288|n=>n,fun |n=>n⟩
theorem layHasFd:SlLaysH0.n8 Tryz.prog layHasFd_ren:={
 mixed:=by kernel_rfl
 f6:=⟨Tryz.f257.name,by kernel_rfl,Tryz.func257.trans (congrArg some (by kernel_rfl))⟩
 f8:=⟨Tryz.f213.name,by kernel_rfl,Tryz.func213.trans (congrArg some (by kernel_rfl))⟩
 t0:=Tryz.underlying0
 a0:=Tryz.isAgg0
 z0:=Tryz.sizeOf0
 v0:=Tryz.zeroValue0
 t3:=Tryz.underlying3
 a3:=Tryz.isAgg3
 z3:=Tryz.sizeOf3
 v3:=Tryz.zeroValue3
 t4:=Tryz.underlying4
 a4:=Tryz.isAgg4
 z4:=Tryz.sizeOf4
 v4:=Tryz.zeroValue4
 t22:=Tryz.underlying78
 a22:=Tryz.isAgg78
 z22:=Tryz.sizeOf78
 v22:=Tryz.zeroValue78
 t25:=Tryz.underlying288
 a25:=Tryz.isAgg288
 z25:=Tryz.sizeOf288
 v25:=Tryz.zeroValue288}
end Go.Proofs.YtldcadpemnpbmaaGreatDoor
namespace Go.Proofs.YtldcadpemnpbmaaGreatDoor
open Go Go.RowKit
set_option linter.unusedVariables false
theorem clone_fd (A:Option Addr) (n c:Nat) (l:List Fd) (w:World) (hl:l.length=n) (hr:FRow w w.heap.size A l) (hA:A=none∨∃ b o,A=some ⟨b,o,none⟩) (hn:n≤1048576):
  Calls Tryz.prog 220 #[.slice A n c] w fun e w'=>∃ v,e= .returned v∧OwnFd w.heap.size w' v l∧Below w.heap.size w w':=by
 obtain ⟨i0,hi0,hz0,hz1,hz2⟩:=info_parts info_field
 rcases hA with rfl|⟨b,o,rfl⟩
 ·have hl0:l=[]:=by
   cases l with
   |nil=>rfl
   |cons f l=>obtain ⟨_,_,e,_⟩:=hr.at_ (k:=0) (by simp);cases e
  subst hl0
  refine (AnyE.slices_Clone_nil layCloneFd n c w).mono ?_
  rintro e w' ⟨rfl,rfl⟩
  exact ⟨_,rfl,OwnFd.nil,Below.refl _ _⟩
 ·have hc:∀ j u,(flds l)[j]?=some u→w.cell? ⟨b,o+j,none⟩=some u:=fun j u hu=>by
   rcases hr with h|⟨b',o',e,_,hc⟩
   ·rw [h] at hu;simp at hu
   ·cases e
    exact hc j u hu
  refine (AnyE.slices_Clone layCloneFd i0 _ 2 32 hi0 hz0 hz1 hz2 rfl (by decide) Tryz.sizeOf77 b o n c (flds l) w (by rw [flds_length,hl]) (by unfold maxLen;omega) (by omega) hc (flds_oneCell l)).mono ?_
  rintro e w' ⟨v,rfl,hown,_,hb⟩
  refine ⟨v,rfl,?_,hb⟩
  unfold OwnFd
  rw [hl]
  exact hown
set_option maxHeartbeats 2000000 in
set_option maxRecDepth 100000 in
theorem doc_Clone (id:Int) (A:Option Addr) (n c:Nat) (l:List Fd) (w:World) (hl:l.length=n) (hr:FRow w w.heap.size A l) (hA:A=none∨∃ b o,A=some ⟨b,o,none⟩) (hn:n≤1048576):
    Calls Tryz.prog 164 #[docV id A n c] w fun e w'=>∃ v,e= .returned (.agg #[.int .i64 id,v])∧OwnFd w.heap.size w' v l∧Below w.heap.size w w':=by
  obtain ⟨w1,hw1⟩:∃ w1,w1=(w.alloc (.cells #[.int .i64 id,.slice A n c] 80)).alloc (.cells #[.int .i64 0,.slice none 0 0] 80):=⟨_,rfl⟩
  have hb1:Below w.heap.size w w1:=by rw [hw1];exact ((Below.refl _ w).alloc (Nat.le_refl _) _).alloc (by simp) _
  have hs1:w1.heap.size=w.heap.size+2:=by rw [hw1];simp
  have hk0:w1.heap[w.heap.size]?=some (.cells #[.int .i64 id,.slice A n c] 80 (0,0)):=by
    rw [hw1,Below.heap_alloc _ _ _ (by simp)]
    exact heap_alloc_new w _
  have hk1:w1.heap[w.heap.size+1]?=some (.cells #[.int .i64 0,.slice none 0 0] 80 (0,0)):=by
    rw [hw1]
    simpa using heap_alloc_new (w.alloc (.cells #[.int .i64 id,.slice A n c] 80)) (.cells #[.int .i64 0,.slice none 0 0] 80)
  have HS:Hid (∀ w',Below w1.heap.size w1 w'→w'.cell? ⟨w.heap.size,0,none⟩=some (.int .i64 id)∧w'.cell? ⟨w.heap.size,1,none⟩=some (.slice A n c)):=Lib.hid fun w' h=>by
    have :=(h.block w.heap.size (by omega)).trans hk0
    exact ⟨(two_cells this).1,(two_cells this).2.1⟩
  have HK1:Hid (∀ w',Below w1.heap.size w1 w'→w'.heap[w.heap.size+1]?=some (.cells #[.int .i64 0,.slice none 0 0] 80 (0,0))):=Lib.hid fun w' h=>(h.block _ (by omega)).trans hk1
  have HC:Hid (∀ w',Below w1.heap.size w1 w'→Calls Tryz.prog 220 #[.slice A n c] w' fun e w''=>∃ v,e= .returned v∧OwnFd w'.heap.size w'' v l∧Below w'.heap.size w' w''):=Lib.hid fun w' h=>clone_fd A n c l w' hl (hr.later (hb1.trans (h.mono hb1.size))) hA hn
  have HW1:=Lib.hid hw1
  have HB1:=Lib.hid hb1
  have HS1:=Lib.hid hs1
  clear hw1 hb1 hs1 hk0 hk1 hr hA hl
  go_enter Tryz.func164,Tryz.ntmps164
  go_wp2
  rw [show (w.alloc _).alloc _=w1 from HW1.out.symm]
  go_region_held3 (fun w'=>w'.cell? ⟨w.heap.size,0,none⟩=some (.int .i64 id)∧w'.cell? ⟨w.heap.size,1,none⟩=some (.slice A n c))
    (first|exact HS.out _ (Below.refl _ _).drew|exact HS.out _ HB4.out|exact HSE.out)
    (first
      | (go_at_call 220; (with_reducible refine (HC.out _ (Below.refl _ w1).drew).mono ?_); rintro e w4 ⟨v, rfl, ho4, hb4⟩
         obtain ⟨A4,c4,rfl,_,_⟩:=ho4.row
         have HB4:Hid (Below w1.heap.size w1 w4):=Lib.hid ((Below.refl _ w1).drew.trans hb4)
         have HO4:Hid (OwnFd w1.heap.size w4 (.slice A4 l.length c4) l):=Lib.hid ho4
         have hz:=two_cells (HK1.out _ HB4.out)
         have r0:=hz.1
         have r1:=hz.2.1
         have r2:=hz.2.2.1
         have r3:=hz.2.2.2
         have HSE:Hid (((w4.setCell ⟨w.heap.size+1,0,none⟩ (.int .i64 id)).setCell ⟨w.heap.size+1,1,none⟩ (.slice A4 l.length c4)).cell? ⟨w.heap.size,0,none⟩=some (.int .i64 id)∧((w4.setCell ⟨w.heap.size+1,0,none⟩ (.int .i64 id)).setCell ⟨w.heap.size+1,1,none⟩ (.slice A4 l.length c4)).cell? ⟨w.heap.size,1,none⟩=some (.slice A n c)):=Lib.hid (by
           have hq:=HS.out _ HB4.out
           have hne:∀ (u:World) (k:Nat) (v:Value) (o:Nat),(u.setCell ⟨w.heap.size+1,k,none⟩ v).cell? ⟨w.heap.size,o,none⟩=u.cell? ⟨w.heap.size,o,none⟩:=fun u k v o=>by
             simp only [World.cell?]
             rw [set_ne (by omega)]
           rw [hne,hne,hne,hne]
           exact hq)
         clear ho4 hb4 hz))
  all_goals
    go_wp2
    obtain ⟨we,hwe⟩:∃ we,we=(w4.setCell ⟨w.heap.size+1,0,none⟩ (.int .i64 id)).setCell ⟨w.heap.size+1,1,none⟩ (.slice A4 l.length c4):=⟨_,rfl⟩
    have h3:we.heap[w.heap.size+1]?=some (.cells #[.int .i64 id,.slice A4 l.length c4] 80 (0,0)):=by rw [hwe,set_at (set_at (HK1.out _ HB4.out))];rfl
    have hbe:Below w.heap.size w we:=by rw [hwe];exact ((HB1.out.trans (HB4.out.mono HB1.out.size)).setCell (by simp) _).setCell (by simp) _
    have hs1:=HS1.out
    have hoe:OwnFd w.heap.size we (.slice A4 l.length c4) l:=by
      rw [hwe]
      exact (show OwnFd w1.heap.size _ _ _ from ownsRow_setCell_below (ownsRow_setCell_below HO4.out (a:=⟨w.heap.size+1,0,none⟩) (by simp;omega) _) (a:=⟨w.heap.size+1,1,none⟩) (by simp;omega) _).low (by omega)
    rw [← hwe]
    obtain ⟨d0,d1,_,_⟩:=two_cells h3
    exact bodyPost_ret (v:= .agg #[.int .i64 id,.slice A4 l.length c4]) (by simp [results,Tryz.results164,go_sem,d0,d1]) rfl ⟨_,rfl,hoe,hbe⟩
end Go.Proofs.YtldcadpemnpbmaaGreatDoor
namespace Go.Proofs.YtldcadpemnpbmaaGreatDoor
open Go Go.RowKit
set_option linter.unusedVariables false
theorem three_more {w:World} {b:Nat} {x y z:Value} {t:TypeId} (h:w.heap[b]?=some (.cells #[x,y,z] t (0,0))):w.frozen? ⟨b,0,none⟩=false∧w.frozen? ⟨b,1,none⟩=false∧w.frozen? ⟨b,2,none⟩=false:=by
 simp [World.frozen?,h]
def GotEn (id:Int) (l:List Fd) (seq:Int) (w:World) (e:Ending) (w':World):Prop:=
 ∃ A c,e= .returned (.agg #[.int .i64 id,.slice A l.length c,.int .i64 seq])∧(l.length≤c∧c≤maxLen)∧OwnFd w.heap.size w' (.slice A l.length c) l∧Below w.heap.size w w'
set_option maxHeartbeats 2000000 in
set_option maxRecDepth 100000 in
theorem buf_clone (id:Int) (A:Option Addr) (n c:Nat) (l:List Fd) (seq:Int) (w:World) (hl:l.length=n) (hr:FRow w w.heap.size A l) (hA:A=none∨∃ b o,A=some ⟨b,o,none⟩) (hn:n≤1048576):
    Calls Tryz.prog 94 #[.agg #[.int .i64 id,.slice A n c,.int .i64 seq]] w (GotEn id l seq w):=by
  obtain ⟨w1,hw1⟩:∃ w1,w1=(w.alloc (.cells #[.int .i64 id,.slice A n c,.int .i64 seq] 85)).alloc (.cells #[.int .i64 0,.slice none 0 0,.int .i64 0] 85):=⟨_,rfl⟩
  have hb1:Below w.heap.size w w1:=by rw [hw1];exact ((Below.refl _ w).alloc (Nat.le_refl _) _).alloc (by simp) _
  have hs1:w1.heap.size=w.heap.size+2:=by rw [hw1];simp
  have hk0:w1.heap[w.heap.size]?=some (.cells #[.int .i64 id,.slice A n c,.int .i64 seq] 85 (0,0)):=by
    rw [hw1,Below.heap_alloc _ _ _ (by simp)]
    exact heap_alloc_new w _
  have hk1:w1.heap[w.heap.size+1]?=some (.cells #[.int .i64 0,.slice none 0 0,.int .i64 0] 85 (0,0)):=by
    rw [hw1]
    simpa using heap_alloc_new (w.alloc (.cells #[.int .i64 id,.slice A n c,.int .i64 seq] 85)) (.cells #[.int .i64 0,.slice none 0 0,.int .i64 0] 85)
  have HS:Hid (∀ w',Below w1.heap.size w1 w'→w'.cell? ⟨w.heap.size,0,none⟩=some (.int .i64 id)∧w'.cell? ⟨w.heap.size,1,none⟩=some (.slice A n c)∧w'.cell? ⟨w.heap.size,2,none⟩=some (.int .i64 seq)):=Lib.hid fun w' h=>three_cells ((h.block w.heap.size (by omega)).trans hk0)
  have HK1:Hid (∀ w',Below w1.heap.size w1 w'→w'.heap[w.heap.size+1]?=some (.cells #[.int .i64 0,.slice none 0 0,.int .i64 0] 85 (0,0))):=Lib.hid fun w' h=>(h.block _ (by omega)).trans hk1
  have HC:Hid (∀ w',Below w1.heap.size w1 w'→Calls Tryz.prog 164 #[docV id A n c] w' fun e w''=>∃ v,e= .returned (.agg #[.int .i64 id,v])∧OwnFd w'.heap.size w'' v l∧Below w'.heap.size w' w''):=Lib.hid fun w' h=>doc_Clone id A n c l w' hl (hr.later (hb1.trans (h.mono hb1.size))) hA hn
  have HW1:=Lib.hid hw1
  have HB1:=Lib.hid hb1
  have HS1:=Lib.hid hs1
  clear hw1 hb1 hs1 hk0 hk1 hr hA hl
  go_enter Tryz.func94,Tryz.ntmps94
  go_wp2
  rw [show (w.alloc _).alloc _=w1 from HW1.out.symm]
  go_region_held3 (fun w'=>w'.cell? ⟨w.heap.size,0,none⟩=some (.int .i64 id)∧w'.cell? ⟨w.heap.size,1,none⟩=some (.slice A n c)∧w'.cell? ⟨w.heap.size,2,none⟩=some (.int .i64 seq))
    (first|exact HS.out _ (Below.refl _ _).drew|exact HS.out _ HB4.out|exact HSE.out)
    (first
      | (go_at_call 164; (with_reducible refine (HC.out _ (Below.refl _ w1).drew).mono ?_); rintro e w4 ⟨v, rfl, ho4, hb4⟩
         obtain ⟨A4,c4,rfl,hc4,_⟩:=owned_roomed ho4
         have HB4:Hid (Below w1.heap.size w1 w4):=Lib.hid ((Below.refl _ w1).drew.trans hb4)
         have HO4:Hid (OwnFd w1.heap.size w4 (.slice A4 l.length c4) l):=Lib.hid ho4
         have hz:=three_cells (HK1.out _ HB4.out)
         have hf:=three_more (HK1.out _ HB4.out)
         have r0:=hz.1
         have r1:=hz.2.1
         have r2:=hz.2.2
         have r3:=hf.1
         have r4:=hf.2.1
         have r5:=hf.2.2
         have HSE:Hid ((((w4.setCell ⟨w.heap.size+1,0,none⟩ (.int .i64 id)).setCell ⟨w.heap.size+1,1,none⟩ (.slice A4 l.length c4)).setCell ⟨w.heap.size+1,2,none⟩ (.int .i64 seq)).cell? ⟨w.heap.size,0,none⟩=some (.int .i64 id)∧(((w4.setCell ⟨w.heap.size+1,0,none⟩ (.int .i64 id)).setCell ⟨w.heap.size+1,1,none⟩ (.slice A4 l.length c4)).setCell ⟨w.heap.size+1,2,none⟩ (.int .i64 seq)).cell? ⟨w.heap.size,1,none⟩=some (.slice A n c)∧
             (((w4.setCell ⟨w.heap.size+1,0,none⟩ (.int .i64 id)).setCell ⟨w.heap.size+1,1,none⟩ (.slice A4 l.length c4)).setCell ⟨w.heap.size+1,2,none⟩ (.int .i64 seq)).cell? ⟨w.heap.size,2,none⟩=some (.int .i64 seq)):=Lib.hid (by
           have hq:=HS.out _ HB4.out
           have hne:∀ (u:World) (k:Nat) (v:Value) (o:Nat),(u.setCell ⟨w.heap.size+1,k,none⟩ v).cell? ⟨w.heap.size,o,none⟩=u.cell? ⟨w.heap.size,o,none⟩:=fun u k v o=>by
             simp only [World.cell?]
             rw [set_ne (by omega)]
           simp only [hne]
           exact hq)
         clear ho4 hb4 hz hf))
  all_goals
    go_wp2
    obtain ⟨we,hwe⟩:∃ we,we=((w4.setCell ⟨w.heap.size+1,0,none⟩ (.int .i64 id)).setCell ⟨w.heap.size+1,1,none⟩ (.slice A4 l.length c4)).setCell ⟨w.heap.size+1,2,none⟩ (.int .i64 seq):=⟨_,rfl⟩
    have h3:we.heap[w.heap.size+1]?=some (.cells #[.int .i64 id,.slice A4 l.length c4,.int .i64 seq] 85 (0,0)):=by rw [hwe,set_at (set_at (set_at (HK1.out _ HB4.out)))];rfl
    have hbe:Below w.heap.size w we:=by rw [hwe];exact (((HB1.out.trans (HB4.out.mono HB1.out.size)).setCell (by simp) _).setCell (by simp) _).setCell (by simp) _
    have hs1:=HS1.out
    have hoe:OwnFd w.heap.size we (.slice A4 l.length c4) l:=by
      rw [hwe]
      exact (show OwnFd w1.heap.size _ _ _ from ownsRow_setCell_below (ownsRow_setCell_below (ownsRow_setCell_below HO4.out (a:=⟨w.heap.size+1,0,none⟩) (by simp;omega) _) (a:=⟨w.heap.size+1,1,none⟩) (by simp;omega) _) (a:=⟨w.heap.size+1,2,none⟩) (by simp;omega) _).low (by omega)
    rw [← hwe]
    obtain ⟨d0,d1,d2⟩:=three_cells h3
    exact bodyPost_ret (v:= .agg #[.int .i64 id,.slice A4 l.length c4,.int .i64 seq]) (by simp [results,Tryz.results94,go_sem,d0,d1,d2]) rfl ⟨_,_,rfl,hc4,hoe,hbe⟩
end Go.Proofs.YtldcadpemnpbmaaGreatDoor
namespace Go.Proofs.YtldcadpemnpbmaaGreatDoor
open Go Go.RowKit
set_option linter.unusedVariables false
def encF (f:Fd):List Value:=[.string ⟨f.1.toArray⟩,.string ⟨f.2.toArray⟩]
theorem encF_row {w:World} {B b o:Nat} {zs:List Fd} (h:FRow w B (some ⟨b,o,none⟩) zs):∀ j,j<zs.length→∀ i v,(encF zs[j]!)[i]?=some v→w.cell? ⟨b,o+j*2+i,none⟩=some v:=fun j hj i v hv=>by
 obtain ⟨_,_,e,_,h1,h2⟩:=h.at_ hj
 cases e
 rw [getElem!_pos zs j hj] at hv
 match i,hv with
 |0,hv=>cases hv;exact h1
 |1,hv=>cases hv;exact h2
 |i+2,hv=>simp [encF] at hv
def mayOne (seen:List Nm) (f:Fd):Nat × Int:=if nameB f.1=false then (0,4) else if f.1∈seen then (0,5) else if errFrom 0 (words f.2)≠0 then (0,errFrom 0 (words f.2)) else ((words f.2).length,0)
theorem mayF_one {seen:List Nm} {n k:Nat} {l:List Fd} (hk:k<l.length):mayF seen n (l.drop k)=if (mayOne seen l[k]).2≠0 then (mayOne seen l[k]).2 else mayF (seen++[l[k].1]) (n+(mayOne seen l[k]).1) (l.drop (k+1)):=by
 rw [mayF_at hk,mayOne]
 by_cases h1:nameB l[k].1=false
 ·simp [h1]
 ·by_cases h2:l[k].1∈seen
  ·simp [h1,h2]
  ·by_cases h3:errFrom 0 (words l[k].2)=0
   ·simp [h1,h2,h3]
   ·simp [h1,h2,h3]
theorem mayOne_le {seen:List Nm} {f:Fd}:(mayOne seen f).1≤500:=by
 unfold mayOne
 split
 ·exact Nat.zero_le _
 ·split
  ·exact Nat.zero_le _
  ·split
   ·exact Nat.zero_le _
   ·rename_i h
    have :=errFrom_zero (Classical.not_not.1 h) (by omega)
    show (words f.2).length≤500
    omega
set_option maxHeartbeats 1000000 in
set_option maxRecDepth 100000 in
theorem doc_named (B:Nat) (x:ByteArray) (f:Fd) (w:World) (hB:w.cell? ⟨B,0,none⟩=some (.string x)):
  Calls Tryz.prog 214 #[.agg #[.string ⟨f.1.toArray⟩,.string ⟨f.2.toArray⟩],.pointer (some ⟨B,0,none⟩)] w fun e w'=>e= .returned (.bool (decide (f.1=x.data.toList)))∧Below w.heap.size w w':=by
 have hc:∀ o,(w.alloc o).cell? ⟨B,0,none⟩=some (.string x):=fun o=>Lib.cell?_alloc_some _ hB
 obtain ⟨y,hy,hy2⟩:=as_text f.1
 obtain ⟨z,hz⟩:∃ z,z=decide (f.1=x.data.toList):=⟨_,rfl⟩
 rw [← hz,← hy]
 rw [← hy2] at hz
 have HB:Hid (∀ o,Below w.heap.size w (w.alloc o)):=Lib.hid fun o=>(Below.refl _ _).alloc (Nat.le_refl _) o
 clear hB hy hy2
 by_cases he:y.data.toList=x.data.toList
 ·have t1:=same_true he
  rw [he] at hz
  have hzt:z=true:=by rw [hz];exact decide_eq_true rfl
  subst hzt
  clear he hz
  go_enter Tryz.func214,Tryz.ntmps214
  go_wp2
  go_ret
  exact ⟨rfl,HB.out _⟩
 ·have t1:=same_false he
  have hzf:z=false:=by rw [hz];exact decide_eq_false he
  subst hzf
  clear he hz
  go_enter Tryz.func214,Tryz.ntmps214
  go_wp2
  go_ret
  exact ⟨rfl,HB.out _⟩
theorem doc_has_name (B:Nat) (x:ByteArray) (b o k c:Nat) (zs:List Fd) (w:World) (hB:w.cell? ⟨B,0,none⟩=some (.string x)) (hBl:B<w.heap.size) (hk:zs.length=k) (hb:b<w.heap.size) (hr:FRow w w.heap.size (some ⟨b,o,none⟩) zs) (hkn:k≤1073741824):
  Calls Tryz.prog 213 #[.slice (some ⟨b,o,none⟩) k c,.func (.func 214) #[] #[.pointer (some ⟨B,0,none⟩)]] w fun e w'=>e= .returned (.bool (decide (x.data.toList∈zs.map (·.1))))∧Below w.heap.size w w':=by
 have e:(zs.take k).any (fun f=>decide (f.1=x.data.toList))=decide (x.data.toList∈zs.map (·.1)):=by
  rw [List.take_of_length_le (by omega),Bool.eq_iff_iff,List.any_eq_true,decide_eq_true_iff,List.mem_map]
  constructor
  ·rintro ⟨f,hf,h⟩;exact ⟨f,hf,of_decide_eq_true h⟩
  ·rintro ⟨f,hf,h⟩;exact ⟨f,hf,decide_eq_true h⟩
 rw [← e]
 exact AnyQ.slices_ContainsFunc layHasFd 2 Tryz.isAgg77 Tryz.sizeOf77 encF (fun _=>rfl) (fun f=>decide (f.1=x.data.toList)) 214 #[.pointer (some ⟨B,0,none⟩)] (enters_of Tryz.func214 (by kernel_rfl) rfl) b o k c zs w
  (fun W f hW=>(doc_named B x f W ((hW.cell (p:=⟨B,0,none⟩) hBl).trans hB)).mono fun e w' ⟨h1,h2⟩=>⟨h1,hW.trans (h2.mono hW.size)⟩) (by omega) (by omega) hb (encF_row hr)
set_option maxHeartbeats 2000000 in
set_option maxRecDepth 100000 in
theorem doc_mayField (x y:ByteArray) (b o k c:Nat) (zs:List Fd) (w:World) (hk:zs.length=k) (hb:b<w.heap.size) (hr:FRow w w.heap.size (some ⟨b,o,none⟩) zs) (hkn:k≤1073741824) (hx:x.size≤9223372036854775807) (hy:y.size≤268435456):
    Calls Tryz.prog 162 #[.agg #[.string x,.string y],.slice (some ⟨b,o,none⟩) k c] w fun e w'=>
      e= .returned (.tuple #[.int .i64 ((mayOne (zs.map (·.1)) (x.data.toList,y.data.toList)).1:Int),.int .i64 (mayOne (zs.map (·.1)) (x.data.toList,y.data.toList)).2])∧Below w.heap.size w w':=by
  obtain ⟨w1,hw1⟩:∃ w1,w1=w.alloc (.cells #[.string x,.string y] 77):=⟨_,rfl⟩
  have hblk:w1.heap[w.heap.size]?=some (.cells #[.string x,.string y] 77 (0,0)):=by rw [hw1];exact heap_alloc_new _ _
  have hb1:Below w.heap.size w w1:=by rw [hw1];exact (Below.refl _ _).alloc (Nat.le_refl _) _
  have hs1:w1.heap.size=w.heap.size+1:=by rw [hw1];simp
  have HC:Hid (∀ w',Below w1.heap.size w1 w'→Below w.heap.size w w'∧w'.cell? ⟨w.heap.size,0,none⟩=some (.string x)∧w'.cell? ⟨w.heap.size,1,none⟩=some (.string y)∧w.heap.size<w'.heap.size∧b<w'.heap.size∧FRow w' w'.heap.size (some ⟨b,o,none⟩) zs):=Lib.hid fun w' h=>by
    have h0:=hb1.trans (h.mono hb1.size)
    have hk:w'.heap[w.heap.size]?=some (.cells #[.string x,.string y] 77 (0,0)):=(h.block _ (by omega)).trans hblk
    exact ⟨h0,by simp [World.cell?,hk],by simp [World.cell?,hk],lt_of_block hk,by have :=h0.size;omega,hr.later h0⟩
  have HW1:=Lib.hid hw1
  have N1:Hid (∀ w',Calls Tryz.prog 125 #[.string x] w' fun e w''=>e= .returned (.bool (nameB x.data.toList))∧Below w'.heap.size w' w''):=Lib.hid fun w'=>doc_Name x w' hx
  have H1:Hid (∀ w',Below w1.heap.size w1 w'→Calls Tryz.prog 213 #[.slice (some ⟨b,o,none⟩) k c,.func (.func 214) #[] #[.pointer (some ⟨w.heap.size,0,none⟩)]] w' fun e w''=>e= .returned (.bool (decide (x.data.toList∈zs.map (·.1))))∧Below w'.heap.size w' w''):=Lib.hid fun w' h=>by
    obtain ⟨_,h1,_,h2,h3,h4⟩:=HC.out w' h
    exact doc_has_name w.heap.size x b o k c zs w' h1 h2 hk h3 h4 hkn
  have T1:Hid (∀ w',Calls Tryz.prog 215 #[.string y] w' (GaveToks (words y.data.toList) w')):=Lib.hid fun w'=>word_Tokens y w' hy
  obtain ⟨r,hrr⟩:∃ r,r=mayOne (zs.map (·.1)) (x.data.toList,y.data.toList):=⟨_,rfl⟩
  rw [← hrr]
  unfold mayOne at hrr
  simp only at hrr
  obtain ⟨z1,hz1⟩:∃ z1,z1=nameB x.data.toList:=⟨_,rfl⟩
  obtain ⟨z2,hz2⟩:∃ z2,z2=decide (x.data.toList∈zs.map (·.1)):=⟨_,rfl⟩
  rw [← hz1] at N1 hrr
  rw [← hz2] at H1
  have hz3:x.data.toList∈zs.map (·.1)↔z2=true:=by rw [hz2,decide_eq_true_iff]
  simp only [hz3] at hrr
  obtain ⟨ws,hws⟩:∃ ws,ws=words y.data.toList:=⟨_,rfl⟩
  rw [← hws] at T1 hrr
  clear hw1 hblk hb1 hs1 hz1 hz2 hz3 hws hb hr hk
  cases z1 with
  |false=>
    rw [if_pos rfl] at hrr
    subst hrr
    go_enter Tryz.func162,Tryz.ntmps162
    go_wp2_with (go_at_call 125;rw [show w.alloc _=w1 from HW1.out.symm];(with_reducible refine (N1.out _).mono ?_);rintro e w2 ⟨rfl,hb2⟩)
    go_ret2
    exact ⟨rfl,(HC.out _ hb2).1⟩
  |true=>
    rw [if_neg (by decide)] at hrr
    cases z2 with
    |true=>
      rw [if_pos rfl] at hrr
      subst hrr
      go_enter Tryz.func162,Tryz.ntmps162
      go_wp2_with (first
        | (go_at_call 125; rw [show w.alloc _ = w1 from HW1.out.symm]; (with_reducible refine (N1.out _).mono ?_); rintro e w2 ⟨rfl, hb2⟩
           have HB2:=Lib.hid hb2
           clear hb2)
        | (go_at_call 213; (with_reducible refine (H1.out _ HB2.out).mono ?_); rintro e w3 ⟨rfl, hb3⟩
           have HB3:=Lib.hid (HB2.out.trans (hb3.mono HB2.out.size))
           clear hb3))
      go_ret2
      exact ⟨rfl,(HC.out _ HB3.out).1⟩
    |false=>
      rw [if_neg (by decide)] at hrr
      have HRR:=Lib.hid hrr
      clear hrr
      go_enter Tryz.func162,Tryz.ntmps162
      go_wp2_with (first
        | (go_at_call 125; rw [show w.alloc _ = w1 from HW1.out.symm]; (with_reducible refine (N1.out _).mono ?_); rintro e w2 ⟨rfl, hb2⟩
           have HB2:=Lib.hid hb2
           clear hb2)
        | (go_at_call 213; (with_reducible refine (H1.out _ HB2.out).mono ?_); rintro e w3 ⟨rfl, hb3⟩
           have HB3:=Lib.hid (HB2.out.trans (hb3.mono HB2.out.size))
           have a1:=(HC.out _ HB3.out).2.2.1
           clear hb3)
        | (go_at_call 215; (with_reducible refine (T1.out _).mono ?_); rintro e w4 ⟨v, rfl, h1, h2, hb4⟩
           have HB4:=Lib.hid (HB3.out.trans (hb4.mono HB3.out.size))
           obtain ⟨A3,n3,c3,rfl,hn3⟩:∃ A3 n3 c3,v= .slice A3 n3 c3∧r=(n3,errFrom 0 ws):=by
             by_cases hz:errFrom 0 ws=0
             · rcases (h1 hz).2 with ⟨hv,hn⟩|⟨g,cap,cur,hv,_⟩
               · exact ⟨none,0,0,hv,by rw [HRR.out,if_neg (by rw [hz];decide),hz,hn]⟩
               · exact ⟨_,_,_,hv,by rw [HRR.out,if_neg (by rw [hz];decide),hz]⟩
             · exact ⟨none,0,0,h2 hz,by rw [HRR.out,if_pos hz]⟩
           obtain ⟨E,hE⟩:∃ E,E=errFrom 0 ws:=⟨_,rfl⟩
           rw [← hE] at hn3 ⊢
           clear h1 h2 hb4 hE))
      go_ret2
      rw [hn3]
      exact ⟨rfl,(HC.out _ HB4.out).1⟩
set_option maxHeartbeats 4000000 in
set_option maxRecDepth 100000 in
theorem doc_May (id:Int) (A:Option Addr) (n c:Nat) (l:List Fd) (w:World) (hl:l.length=n) (hr:FRow w w.heap.size A l) (hn:n≤1073741824) (hnc:n≤c) (ht:∀ f∈l,f.1.length≤1073741824∧f.2.length≤268435456):
    Calls Tryz.prog 92 #[docV id A n c] w fun e w'=>e= .returned (.int .i64 (mayD l))∧Below w.heap.size w w':=by
  obtain ⟨R,hR⟩:∃ R,R=mayD l:=⟨_,rfl⟩
  rw [← hR]
  have HRR:=Lib.hid hR
  have HR:=Lib.hid hr
  have HT:=Lib.hid ht
  have HB1:Hid (∀ w1,w1=boxD w id A n c→∀ wr,Below w1.heap.size w1 wr→Below w.heap.size w wr∧wr.cell? ⟨w.heap.size,0,none⟩=some (.int .i64 id)∧wr.cell? ⟨w.heap.size,1,none⟩=some (.slice A n c)):=Lib.hid fun w1 e wr h=>by subst e;exact ⟨boxD_out h,boxD_cells h⟩
  clear hR hr ht
  by_cases h8:8<n
  · have hR7:R=7:=by rw [HRR.out,mayD,if_pos (by omega)]
    subst hR7
    have HB0:=Lib.hid (HB1.out _ rfl _ (Below.refl _ _)).1
    go_enter Tryz.func92,Tryz.ntmps92
    go_wp2
    go_ret
    exact ⟨rfl,HB0.out⟩
  · have hn8:n≤8:=by omega
    have HE:Hid (mayF (seenUp l 0) 0 (l.drop 0)=R):=Lib.hid (by rw [HRR.out,mayD,if_neg (by omega)];rfl)
    clear h8
    subst hl
    go_enter Tryz.func92,Tryz.ntmps92
    go_wp2
    obtain ⟨w1,hw1⟩:∃ w1,w1=boxD w id A l.length c:=⟨_,rfl⟩
    have HB2:=Lib.hid (HB1.out w1 hw1)
    rw [show w.alloc _=w1 from hw1.symm]
    clear hw1 HB1
    go_loopw [2,3,15] (fun r a i wr=>MayRel8 l R w1 r a i wr) (fun _ _ i _=>l.length-(intOf i).toNat)
    case atStart=>exact ⟨rfl,0,0,by omega,by omega,rfl,rfl,Below.refl _ _,HE.out⟩
    case round=>
      obtain ⟨rfl,k,m,hk,hm,rfl,rfl,hbw,hgo⟩:=hrel
      obtain ⟨hb0,a0,a1⟩:=HB2.out _ hbw
      by_cases hlt:k<l.length
      · obtain ⟨b1,o1,e1,hb1,hc1,hc2⟩:=(HR.out.below hb0).at_ hlt
        subst e1
        rw [mayF_one hlt] at hgo
        have ht8:=HT.out _ (List.getElem_mem hlt)
        obtain ⟨x,hx,hx2⟩:=as_text l[k].1
        obtain ⟨y,hy,hy2⟩:=as_text l[k].2
        rw [← hx] at hc1
        rw [← hy] at hc2
        have i0:(0:Int)≤k:=by omega
        have i1:(k:Int)<l.length:=by omega
        have i2:(k:Int)≤c:=by omega
        obtain ⟨w2,hw2⟩:∃ w2,w2=wr.alloc (.cells #[.string x,.string y] 77):=⟨_,rfl⟩
        have hblk:w2.heap[wr.heap.size]?=some (.cells #[.string x,.string y] 77 (0,0)):=by rw [hw2];exact heap_alloc_new _ _
        have hb2:Below wr.heap.size wr w2:=by rw [hw2];exact (Below.refl _ _).alloc (Nat.le_refl _) _
        have hbr:=hbw.size
        have hr1:FRow w2 w2.heap.size (some ⟨b1,o1,none⟩) (l.take k):=((HR.out.later hb0).later hb2).cut k
        obtain ⟨r,hrr⟩:∃ r,r=mayOne (seenUp l k) l[k]:=⟨_,rfl⟩
        have hr5:r.1≤500:=by rw [hrr];exact mayOne_le
        have HMF:Hid (∀ w',Below w2.heap.size w2 w'→Calls Tryz.prog 162 #[.agg #[.string x,.string y],.slice (some ⟨b1,o1,none⟩) k c] w' fun e w''=>e= .returned (.tuple #[.int .i64 (r.1:Int),.int .i64 r.2])∧Below w'.heap.size w' w''):=Lib.hid fun w' h=>by
          have hs0:=hb0.size
          have hs2:=hb2.size
          have hs3:=h.size
          have :=doc_mayField x y b1 o1 k c (l.take k) w' (by rw [List.length_take];omega) (by omega) (hr1.later h) (by omega) (by rw [hx,size_nm];have :=ht8.1;omega) (by rw [hy,size_nm];exact ht8.2)
          rw [hx2,hy2] at this
          rw [hrr]
          exact this
        rw [← hrr] at hgo
        have HS:Hid (∀ w',Below w2.heap.size w2 w'→Below w1.heap.size w1 w'∧w'.cell? ⟨wr.heap.size,0,none⟩=some (.string x)∧w'.cell? ⟨wr.heap.size,1,none⟩=some (.string y)∧w'.cell? ⟨w.heap.size,1,none⟩=some (.slice (some ⟨b1,o1,none⟩) l.length c)):=Lib.hid fun w' h=>by
          have h1:=hbw.trans ((hb2.trans (h.mono hb2.size)).mono hbw.size)
          have hk:w'.heap[wr.heap.size]?=some (.cells #[.string x,.string y] 77 (0,0)):=(h.block _ (lt_of_block hblk)).trans hblk
          exact ⟨h1,by simp [World.cell?,hk],by simp [World.cell?,hk],(HB2.out _ h1).2.2⟩
        have HW2:=Lib.hid hw2
        have HGO:=Lib.hid hgo
        have HB0:=Lib.hid hb0
        clear hx hx2 hy hy2 ht8 hw2 hblk hb2 hr1 hrr hgo hb0 hb1 hbw
        obtain ⟨q,E⟩:=r
        simp only at hr5 HMF HGO
        go_upto_region 7 with fail
        rw [show wr.alloc _=w2 from HW2.out.symm]
        go_region_held3 (fun w'=>w'.cell? ⟨wr.heap.size,0,none⟩=some (.string x)∧w'.cell? ⟨wr.heap.size,1,none⟩=some (.string y)∧w'.cell? ⟨w.heap.size,1,none⟩=some (.slice (some ⟨b1,o1,none⟩) l.length c))
          (first|exact (HS.out _ (Below.refl _ _).drew).2|exact (HS.out _ HB3.out).2)
          (first
            | (go_at_call 162; (with_reducible refine (HMF.out _ (Below.refl _ w2).drew).mono ?_); rintro e w3 ⟨rfl, hb3⟩
               have HB3:Hid (Below w2.heap.size w2 w3):=Lib.hid ((Below.refl _ w2).drew.trans hb3)
               clear hb3))
        by_cases hE:E=0
        · subst hE
          have hgo:=HGO.out
          rw [if_neg (by decide),← seenUp_succ hlt] at hgo
          have HGO2:=Lib.hid hgo
          have hm5:m≤4000:=by omega
          clear hgo
          go_wp2
          refine ⟨⟨rfl,k+1,m+q,by omega,by omega,?_,by go_num,(HS.out _ HB3.out).1,HGO2.out⟩,by simp [intOf];omega⟩
          push_cast
          rfl
        · have hgo:=HGO.out
          rw [if_pos hE] at hgo
          subst hgo
          go_wp2
          go_ret
          exact ⟨rfl,(HB2.out _ (HS.out _ HB3.out).1).1⟩
      · have hkl:k=l.length:=by omega
        subst hkl
        rw [List.drop_length,mayF] at hgo
        have HB0:=Lib.hid hb0
        clear hb0
        by_cases h5:500<m
        · rw [if_pos h5] at hgo
          subst hgo
          go_wp2
          go_ret
          exact ⟨rfl,HB0.out⟩
        · rw [if_neg h5] at hgo
          subst hgo
          have h5':m≤500:=by omega
          clear h5
          go_wp2
          go_ret
          exact ⟨rfl,HB0.out⟩
end Go.Proofs.YtldcadpemnpbmaaGreatDoor
namespace Go.Proofs.YtldcadpemnpbmaaGreatDoor
open Go Go.RowKit
set_option linter.unusedVariables false
theorem postIn_length (i:Nat) (d:List Fd) (ts:List Tm) (key:Nm):(postIn i d ts key).length≤ts.length:=by
 unfold postIn
 rw [List.length_map]
 exact List.length_filter_le _ _
theorem postsE_length {M:Nat}:∀ {l:List En} {i:Nat} {key:Nm},(∀ q∈l,(termsD q.2.1).length≤M)→(postsE i l key).length≤l.length*M
 |[],i,key,_=>by simp [postsE]
 |q::l,i,key,h=>by
  have h1:=postsE_length (l:=l) (i:=i+1) (key:=key) fun x hx=>h x (List.mem_cons_of_mem _ hx)
  have h2:=postIn_length i q.2.1 (termsD q.2.1) key
  have h3:=h q (List.mem_cons_self ..)
  rw [postsE,List.length_append,List.length_cons,Nat.add_mul,Nat.one_mul]
  omega
end Go.Proofs.YtldcadpemnpbmaaGreatDoor
