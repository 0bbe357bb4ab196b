import Derived.Shelf.SlicesE.Clone
import Derived.Shelf.SlicesQ.IndexFunc
import Derived.Test.YtmoomnpbiifedaaGreatProg
import Derived.Test.YtmoomnpbiifedaaGreatMSQ14
import Derived.Test.YtmoomnpbiifedaaGreatMSQ16
import Derived.Deep.RegionHeld3
import Derived.Test.YtmoomnpbiifedaaGreatMSQ20
import Derived.Test.YtmoomnpbiifedaaGreatMSQ05
import Derived.Test.YtmoomnpbiifedaaGreatMSQ19
import Derived.Deep.DeepCutAuto
import Derived.Test.YtmoomnpbiifedaaGreatMSQ17
import Derived.Deep.AppendLies
set_option linter.unusedVariables false
namespace Go.Proofs.YtmoomnpbiifedaaGreat
open Go.Shelf Go.RowKit
def layCloneFd_ren:Go.Shelf.Ren:=⟨fun |41=>140|n=>n,fun |4=>4|22=>51|23=>99|n=>n,fun |n=>n⟩
theorem layCloneFd:SlLaysE0.n41 Tryz.prog layCloneFd_ren:={
 mixed:=by kernel_rfl
 f41:=⟨Tryz.f140.name,by kernel_rfl,Tryz.func140.trans (congrArg some (by kernel_rfl))⟩
 t4:=Tryz.underlying4
 a4:=Tryz.isAgg4
 z4:=Tryz.sizeOf4
 v4:=Tryz.zeroValue4
 t22:=Tryz.underlying51
 a22:=Tryz.isAgg51
 z22:=Tryz.sizeOf51
 v22:=Tryz.zeroValue51}
def layHasFd_ren:Go.Shelf.Ren:=⟨fun |6=>152|8=>132|n=>n,fun |0=>0|3=>3|4=>4|22=>51|23=>99|25=>191|n=>n,fun |n=>n⟩
theorem layHasFd:SlLaysH0.n8 Tryz.prog layHasFd_ren:={
 mixed:=by kernel_rfl
 f6:=⟨Tryz.f152.name,by kernel_rfl,Tryz.func152.trans (congrArg some (by kernel_rfl))⟩
 f8:=⟨Tryz.f132.name,by kernel_rfl,Tryz.func132.trans (congrArg some (by kernel_rfl))⟩
 t0:=Tryz.underlying0
 a0:=Tryz.isAgg0
 z0:=Tryz.sizeOf0
 v0:=Tryz.zeroValue0
 t3:=Tryz.underlying3
 a3:=Tryz.isAgg3
 z3:=Tryz.sizeOf3
 v3:=Tryz.zeroValue3
 t4:=Tryz.underlying4
 a4:=Tryz.isAgg4
 z4:=Tryz.sizeOf4
 v4:=Tryz.zeroValue4
 t22:=Tryz.underlying51
 a22:=Tryz.isAgg51
 z22:=Tryz.sizeOf51
 v22:=Tryz.zeroValue51
 t25:=Tryz.underlying191
 a25:=Tryz.isAgg191
 z25:=Tryz.sizeOf191
 v25:=Tryz.zeroValue191}
end Go.Proofs.YtmoomnpbiifedaaGreat
namespace Go.Proofs.YtmoomnpbiifedaaGreat
open Go Go.RowKit
set_option linter.unusedVariables false
theorem clone_fd (A:Option Addr) (n c:Nat) (l:List Fd) (w:World) (hl:l.length=n) (hr:FRow w w.heap.size A l) (hA:A=none∨∃ b o,A=some ⟨b,o,none⟩) (hn:n≤1048576):
  Calls Tryz.prog 140 #[.slice A n c] w fun e w'=>∃ v,e= .returned v∧OwnFd w.heap.size w' v l∧Below w.heap.size w w':=by
 obtain ⟨i0,hi0,hz0,hz1,hz2⟩:=info_parts info_field
 rcases hA with rfl|⟨b,o,rfl⟩
 ·have hl0:l=[]:=by
   cases l with
   |nil=>rfl
   |cons f l=>obtain ⟨_,_,e,_⟩:=hr.at_ (k:=0) (by simp);cases e
  subst hl0
  refine (AnyE.slices_Clone_nil layCloneFd n c w).mono ?_
  rintro e w' ⟨rfl,rfl⟩
  exact ⟨_,rfl,OwnFd.nil,Below.refl _ _⟩
 ·have hc:∀ j u,(flds l)[j]?=some u→w.cell? ⟨b,o+j,none⟩=some u:=fun j u hu=>by
   rcases hr with h|⟨b',o',e,_,hc⟩
   ·rw [h] at hu;simp at hu
   ·cases e
    exact hc j u hu
  refine (AnyE.slices_Clone layCloneFd i0 _ 2 32 hi0 hz0 hz1 hz2 rfl (by decide) Tryz.sizeOf99 b o n c (flds l) w (by rw [flds_length,hl]) (by unfold maxLen;omega) (by omega) hc (flds_oneCell l)).mono ?_
  rintro e w' ⟨v,rfl,hown,_,hb⟩
  refine ⟨v,rfl,?_,hb⟩
  unfold OwnFd
  rw [hl]
  exact hown
set_option maxHeartbeats 2000000 in
set_option maxRecDepth 100000 in
theorem doc_Clone (id:Int) (A:Option Addr) (n c:Nat) (l:List Fd) (w:World) (hl:l.length=n) (hr:FRow w w.heap.size A l) (hA:A=none∨∃ b o,A=some ⟨b,o,none⟩) (hn:n≤1048576):
    Calls Tryz.prog 115 #[docV id A n c] w fun e w'=>∃ v,e= .returned (.agg #[.int .i64 id,v])∧OwnFd w.heap.size w' v l∧Below w.heap.size w w':=by
  obtain ⟨w1,hw1⟩:∃ w1,w1=(w.alloc (.cells #[.int .i64 id,.slice A n c] 53)).alloc (.cells #[.int .i64 0,.slice none 0 0] 53):=⟨_,rfl⟩
  have hb1:Below w.heap.size w w1:=by rw [hw1];exact ((Below.refl _ w).alloc (Nat.le_refl _) _).alloc (by simp) _
  have hs1:w1.heap.size=w.heap.size+2:=by rw [hw1];simp
  have hk0:w1.heap[w.heap.size]?=some (.cells #[.int .i64 id,.slice A n c] 53 (0,0)):=by
    rw [hw1,Below.heap_alloc _ _ _ (by simp)]
    exact heap_alloc_new w _
  have hk1:w1.heap[w.heap.size+1]?=some (.cells #[.int .i64 0,.slice none 0 0] 53 (0,0)):=by
    rw [hw1]
    simpa using heap_alloc_new (w.alloc (.cells #[.int .i64 id,.slice A n c] 53)) (.cells #[.int .i64 0,.slice none 0 0] 53)
  have HS:Hid (∀ w',Below w1.heap.size w1 w'→w'.cell? ⟨w.heap.size,0,none⟩=some (.int .i64 id)∧w'.cell? ⟨w.heap.size,1,none⟩=some (.slice A n c)):=Lib.hid fun w' h=>by
    have :=(h.block w.heap.size (by omega)).trans hk0
    exact ⟨(two_cells this).1,(two_cells this).2.1⟩
  have HK1:Hid (∀ w',Below w1.heap.size w1 w'→w'.heap[w.heap.size+1]?=some (.cells #[.int .i64 0,.slice none 0 0] 53 (0,0))):=Lib.hid fun w' h=>(h.block _ (by omega)).trans hk1
  have HC:Hid (∀ w',Below w1.heap.size w1 w'→Calls Tryz.prog 140 #[.slice A n c] w' fun e w''=>∃ v,e= .returned v∧OwnFd w'.heap.size w'' v l∧Below w'.heap.size w' w''):=Lib.hid fun w' h=>clone_fd A n c l w' hl (hr.later (hb1.trans (h.mono hb1.size))) hA hn
  have HW1:=Lib.hid hw1
  have HB1:=Lib.hid hb1
  have HS1:=Lib.hid hs1
  clear hw1 hb1 hs1 hk0 hk1 hr hA hl
  go_enter Tryz.func115,Tryz.ntmps115
  go_wp2
  rw [show (w.alloc _).alloc _=w1 from HW1.out.symm]
  go_region_held3 (fun w'=>w'.cell? ⟨w.heap.size,0,none⟩=some (.int .i64 id)∧w'.cell? ⟨w.heap.size,1,none⟩=some (.slice A n c))
    (first|exact HS.out _ (Below.refl _ _).drew|exact HS.out _ HB4.out|exact HSE.out)
    (first
      | (go_at_call 140; (with_reducible refine (HC.out _ (Below.refl _ w1).drew).mono ?_); rintro e w4 ⟨v, rfl, ho4, hb4⟩
         obtain ⟨A4,c4,rfl,_,_⟩:=ho4.row
         have HB4:Hid (Below w1.heap.size w1 w4):=Lib.hid ((Below.refl _ w1).drew.trans hb4)
         have HO4:Hid (OwnFd w1.heap.size w4 (.slice A4 l.length c4) l):=Lib.hid ho4
         have hz:=two_cells (HK1.out _ HB4.out)
         have r0:=hz.1
         have r1:=hz.2.1
         have r2:=hz.2.2.1
         have r3:=hz.2.2.2
         have HSE:Hid (((w4.setCell ⟨w.heap.size+1,0,none⟩ (.int .i64 id)).setCell ⟨w.heap.size+1,1,none⟩ (.slice A4 l.length c4)).cell? ⟨w.heap.size,0,none⟩=some (.int .i64 id)∧((w4.setCell ⟨w.heap.size+1,0,none⟩ (.int .i64 id)).setCell ⟨w.heap.size+1,1,none⟩ (.slice A4 l.length c4)).cell? ⟨w.heap.size,1,none⟩=some (.slice A n c)):=Lib.hid (by
           have hq:=HS.out _ HB4.out
           have hne:∀ (u:World) (k:Nat) (v:Value) (o:Nat),(u.setCell ⟨w.heap.size+1,k,none⟩ v).cell? ⟨w.heap.size,o,none⟩=u.cell? ⟨w.heap.size,o,none⟩:=fun u k v o=>by
             simp only [World.cell?]
             rw [set_ne (by omega)]
           rw [hne,hne,hne,hne]
           exact hq)
         clear ho4 hb4 hz))
  all_goals
    go_wp2
    obtain ⟨we,hwe⟩:∃ we,we=(w4.setCell ⟨w.heap.size+1,0,none⟩ (.int .i64 id)).setCell ⟨w.heap.size+1,1,none⟩ (.slice A4 l.length c4):=⟨_,rfl⟩
    have h3:we.heap[w.heap.size+1]?=some (.cells #[.int .i64 id,.slice A4 l.length c4] 53 (0,0)):=by rw [hwe,set_at (set_at (HK1.out _ HB4.out))];rfl
    have hbe:Below w.heap.size w we:=by rw [hwe];exact ((HB1.out.trans (HB4.out.mono HB1.out.size)).setCell (by simp) _).setCell (by simp) _
    have hs1:=HS1.out
    have hoe:OwnFd w.heap.size we (.slice A4 l.length c4) l:=by
      rw [hwe]
      exact (show OwnFd w1.heap.size _ _ _ from ownsRow_setCell_below (ownsRow_setCell_below HO4.out (a:=⟨w.heap.size+1,0,none⟩) (by simp;omega) _) (a:=⟨w.heap.size+1,1,none⟩) (by simp;omega) _).low (by omega)
    rw [← hwe]
    obtain ⟨d0,d1,_,_⟩:=two_cells h3
    exact bodyPost_ret (v:= .agg #[.int .i64 id,.slice A4 l.length c4]) (by simp [results,Tryz.results115,go_sem,d0,d1]) rfl ⟨_,rfl,hoe,hbe⟩
end Go.Proofs.YtmoomnpbiifedaaGreat
namespace Go.Proofs.YtmoomnpbiifedaaGreat
open Go Go.RowKit
set_option linter.unusedVariables false
theorem three_more {w:World} {b:Nat} {x y z:Value} {t:TypeId} (h:w.heap[b]?=some (.cells #[x,y,z] t (0,0))):w.frozen? ⟨b,0,none⟩=false∧w.frozen? ⟨b,1,none⟩=false∧w.frozen? ⟨b,2,none⟩=false:=by
 simp [World.frozen?,h]
def GotEn (id:Int) (l:List Fd) (seq:Int) (w:World) (e:Ending) (w':World):Prop:=
 ∃ A c,e= .returned (.agg #[.int .i64 id,.slice A l.length c,.int .i64 seq])∧(l.length≤c∧c≤maxLen)∧OwnFd w.heap.size w' (.slice A l.length c) l∧Below w.heap.size w w'
set_option maxHeartbeats 2000000 in
set_option maxRecDepth 100000 in
theorem buf_clone (id:Int) (A:Option Addr) (n c:Nat) (l:List Fd) (seq:Int) (w:World) (hl:l.length=n) (hr:FRow w w.heap.size A l) (hA:A=none∨∃ b o,A=some ⟨b,o,none⟩) (hn:n≤1048576):
    Calls Tryz.prog 87 #[.agg #[.int .i64 id,.slice A n c,.int .i64 seq]] w (GotEn id l seq w):=by
  obtain ⟨w1,hw1⟩:∃ w1,w1=(w.alloc (.cells #[.int .i64 id,.slice A n c,.int .i64 seq] 55)).alloc (.cells #[.int .i64 0,.slice none 0 0,.int .i64 0] 55):=⟨_,rfl⟩
  have hb1:Below w.heap.size w w1:=by rw [hw1];exact ((Below.refl _ w).alloc (Nat.le_refl _) _).alloc (by simp) _
  have hs1:w1.heap.size=w.heap.size+2:=by rw [hw1];simp
  have hk0:w1.heap[w.heap.size]?=some (.cells #[.int .i64 id,.slice A n c,.int .i64 seq] 55 (0,0)):=by
    rw [hw1,Below.heap_alloc _ _ _ (by simp)]
    exact heap_alloc_new w _
  have hk1:w1.heap[w.heap.size+1]?=some (.cells #[.int .i64 0,.slice none 0 0,.int .i64 0] 55 (0,0)):=by
    rw [hw1]
    simpa using heap_alloc_new (w.alloc (.cells #[.int .i64 id,.slice A n c,.int .i64 seq] 55)) (.cells #[.int .i64 0,.slice none 0 0,.int .i64 0] 55)
  have HS:Hid (∀ w',Below w1.heap.size w1 w'→w'.cell? ⟨w.heap.size,0,none⟩=some (.int .i64 id)∧w'.cell? ⟨w.heap.size,1,none⟩=some (.slice A n c)∧w'.cell? ⟨w.heap.size,2,none⟩=some (.int .i64 seq)):=Lib.hid fun w' h=>three_cells ((h.block w.heap.size (by omega)).trans hk0)
  have HK1:Hid (∀ w',Below w1.heap.size w1 w'→w'.heap[w.heap.size+1]?=some (.cells #[.int .i64 0,.slice none 0 0,.int .i64 0] 55 (0,0))):=Lib.hid fun w' h=>(h.block _ (by omega)).trans hk1
  have HC:Hid (∀ w',Below w1.heap.size w1 w'→Calls Tryz.prog 115 #[docV id A n c] w' fun e w''=>∃ v,e= .returned (.agg #[.int .i64 id,v])∧OwnFd w'.heap.size w'' v l∧Below w'.heap.size w' w''):=Lib.hid fun w' h=>doc_Clone id A n c l w' hl (hr.later (hb1.trans (h.mono hb1.size))) hA hn
  have HW1:=Lib.hid hw1
  have HB1:=Lib.hid hb1
  have HS1:=Lib.hid hs1
  clear hw1 hb1 hs1 hk0 hk1 hr hA hl
  go_enter Tryz.func87,Tryz.ntmps87
  go_wp2
  rw [show (w.alloc _).alloc _=w1 from HW1.out.symm]
  go_region_held3 (fun w'=>w'.cell? ⟨w.heap.size,0,none⟩=some (.int .i64 id)∧w'.cell? ⟨w.heap.size,1,none⟩=some (.slice A n c)∧w'.cell? ⟨w.heap.size,2,none⟩=some (.int .i64 seq))
    (first|exact HS.out _ (Below.refl _ _).drew|exact HS.out _ HB4.out|exact HSE.out)
    (first
      | (go_at_call 115; (with_reducible refine (HC.out _ (Below.refl _ w1).drew).mono ?_); rintro e w4 ⟨v, rfl, ho4, hb4⟩
         obtain ⟨A4,c4,rfl,hc4,_⟩:=owned_roomed ho4
         have HB4:Hid (Below w1.heap.size w1 w4):=Lib.hid ((Below.refl _ w1).drew.trans hb4)
         have HO4:Hid (OwnFd w1.heap.size w4 (.slice A4 l.length c4) l):=Lib.hid ho4
         have hz:=three_cells (HK1.out _ HB4.out)
         have hf:=three_more (HK1.out _ HB4.out)
         have r0:=hz.1
         have r1:=hz.2.1
         have r2:=hz.2.2
         have r3:=hf.1
         have r4:=hf.2.1
         have r5:=hf.2.2
         have HSE:Hid ((((w4.setCell ⟨w.heap.size+1,0,none⟩ (.int .i64 id)).setCell ⟨w.heap.size+1,1,none⟩ (.slice A4 l.length c4)).setCell ⟨w.heap.size+1,2,none⟩ (.int .i64 seq)).cell? ⟨w.heap.size,0,none⟩=some (.int .i64 id)∧(((w4.setCell ⟨w.heap.size+1,0,none⟩ (.int .i64 id)).setCell ⟨w.heap.size+1,1,none⟩ (.slice A4 l.length c4)).setCell ⟨w.heap.size+1,2,none⟩ (.int .i64 seq)).cell? ⟨w.heap.size,1,none⟩=some (.slice A n c)∧
             (((w4.setCell ⟨w.heap.size+1,0,none⟩ (.int .i64 id)).setCell ⟨w.heap.size+1,1,none⟩ (.slice A4 l.length c4)).setCell ⟨w.heap.size+1,2,none⟩ (.int .i64 seq)).cell? ⟨w.heap.size,2,none⟩=some (.int .i64 seq)):=Lib.hid (by
           have hq:=HS.out _ HB4.out
           have hne:∀ (u:World) (k:Nat) (v:Value) (o:Nat),(u.setCell ⟨w.heap.size+1,k,none⟩ v).cell? ⟨w.heap.size,o,none⟩=u.cell? ⟨w.heap.size,o,none⟩:=fun u k v o=>by
             simp only [World.cell?]
             rw [set_ne (by omega)]
           simp only [hne]
           exact hq)
         clear ho4 hb4 hz hf))
  all_goals
    go_wp2
    obtain ⟨we,hwe⟩:∃ we,we=((w4.setCell ⟨w.heap.size+1,0,none⟩ (.int .i64 id)).setCell ⟨w.heap.size+1,1,none⟩ (.slice A4 l.length c4)).setCell ⟨w.heap.size+1,2,none⟩ (.int .i64 seq):=⟨_,rfl⟩
    have h3:we.heap[w.heap.size+1]?=some (.cells #[.int .i64 id,.slice A4 l.length c4,.int .i64 seq] 55 (0,0)):=by rw [hwe,set_at (set_at (set_at (HK1.out _ HB4.out)))];rfl
    have hbe:Below w.heap.size w we:=by rw [hwe];exact (((HB1.out.trans (HB4.out.mono HB1.out.size)).setCell (by simp) _).setCell (by simp) _).setCell (by simp) _
    have hs1:=HS1.out
    have hoe:OwnFd w.heap.size we (.slice A4 l.length c4) l:=by
      rw [hwe]
      exact (show OwnFd w1.heap.size _ _ _ from ownsRow_setCell_below (ownsRow_setCell_below (ownsRow_setCell_below HO4.out (a:=⟨w.heap.size+1,0,none⟩) (by simp;omega) _) (a:=⟨w.heap.size+1,1,none⟩) (by simp;omega) _) (a:=⟨w.heap.size+1,2,none⟩) (by simp;omega) _).low (by omega)
    rw [← hwe]
    obtain ⟨d0,d1,d2⟩:=three_cells h3
    exact bodyPost_ret (v:= .agg #[.int .i64 id,.slice A4 l.length c4,.int .i64 seq]) (by simp [results,Tryz.results87,go_sem,d0,d1,d2]) rfl ⟨_,_,rfl,hc4,hoe,hbe⟩
end Go.Proofs.YtmoomnpbiifedaaGreat
namespace Go.Proofs.YtmoomnpbiifedaaGreat
open Go Go.RowKit
set_option linter.unusedVariables false
set_option maxHeartbeats 1000000 in
set_option maxRecDepth 100000 in
theorem doc_Name (s:ByteArray) (w:World) (hs:s.size≤9223372036854775807):
  Calls Tryz.prog 131 #[.string s] w fun e w'=>e= .returned (.bool (nameB s.data.toList))∧Below w.heap.size w w':=by
 have hsz:s.data.toList.length=s.size:=Array.length_toList
 by_cases h0:s.size=0
 ·have he:s=ByteArray.empty:=by
   have :s.data.toList=[]:=List.eq_nil_of_length_eq_zero (by omega)
   cases s with|mk d=>cases d with|mk l=>simp at this;subst this;rfl
  have hm:nameB s.data.toList=false:=by rw [he];rfl
  rw [hm]
  subst he
  clear hm hsz h0
  go_enter Tryz.func131,Tryz.ntmps131
  go_wp2
  go_ret
  exact ⟨rfl,Below.refl _ _⟩
 ·have hne:s.data.toList≠[]:=fun h=>h0 (by rw [← hsz,h];rfl)
  have hs0:(s.toList==[])=false:=by
   rw [Lib.toList_data]
   simpa using hne
  obtain ⟨z,hz⟩:∃ z,z=nameB s.data.toList:=⟨_,rfl⟩
  rw [← hz]
  have HZ:=Lib.hid hz
  clear hz hne
  by_cases h12:12<s.size
  ·have hzf:z=false:=by
    rw [HZ.out,nameB,hsz]
    have d:decide (s.size≤12)=false:=decide_eq_false (by omega)
    rw [d]
    simp
   subst hzf
   clear hsz h0
   go_enter Tryz.func131,Tryz.ntmps131
   go_wp2
   go_ret
   exact ⟨rfl,Below.refl _ _⟩
  ·have hs12:s.size≤12:=by omega
   have h1:1≤s.size:=by omega
   have HSZ:=Lib.hid hsz
   clear hsz h0 h12
   go_enter Tryz.func131,Tryz.ntmps131
   go_wp2
   go_loopw [2,13] (fun r i wr=>r= .bool false∧NameRel s.data.toList w i wr) (fun _ i _=>s.size-(intOf i).toNat)
   case atStart=>exact ⟨rfl,0,by omega,rfl,Below.refl _ _,fun j _ hj=>by omega⟩
   case round=>
    obtain ⟨rfl,k,hk,rfl,hbw,hall⟩:=hrel
    rw [HSZ.out] at hk
    by_cases hlt:k<s.size
    ·have hkl:k<s.data.toList.length:=by rw [HSZ.out];exact hlt
     have i0:(0:Int)≤k:=by omega
     have i1:(k:Int)<s.size:=by omega
     have hb:s[k]=s.data.toList[k]:=rfl
     cases hsm:smallB s.data.toList[k] with
     |true=>
      have h2:=hsm
      rw [smallB,← hb,Bool.and_eq_true,decide_eq_true_iff,decide_eq_true_iff] at h2
      have j1:(97:Int)≤s[k].toNat:=by omega
      have j2:(s[k].toNat:Int)≤122:=by omega
      have HN:Hid (∀ j (hj:j<s.data.toList.length),j<k+1→smallB s.data.toList[j]=true):=Lib.hid fun j hj hjk=>by
       by_cases e:j=k
       ·subst e;exact hsm
       ·exact hall j hj (by omega)
      clear hall hsm h2 hb
      go_wp2
      go_roundw
      case rel=>exact ⟨rfl,k+1,by have :=HSZ.out;omega,by go_num,hbw,HN.out⟩
      case measure=>simp [intOf];omega
     |false=>
      have h2:=hsm
      rw [smallB,← hb,Bool.and_eq_false_iff,decide_eq_false_iff_not,decide_eq_false_iff_not] at h2
      have hbad:z=false:=by rw [HZ.out];exact nameB_bad hkl hsm
      subst hbad
      have j1:(s[k].toNat:Int)<97∨(97:Int)≤s[k].toNat∧(122:Int)<s[k].toNat:=by omega
      clear hall hsm h2 hb
      rcases j1 with j1|⟨j1,j2⟩
      all_goals
       go_wp2
       go_ret
       exact ⟨rfl,hbw⟩
    ·have e:=nameB_good (s:=s.data.toList) (fun j hj=>hall j hj (by rw [HSZ.out] at hj;omega))
     have d1:(decide (1≤s.size)&&decide (s.size≤12))=true:=by simp [h1,hs12]
     rw [HSZ.out,← HZ.out,d1] at e
     subst e
     clear hall d1
     go_wp2
     go_ret
     exact ⟨rfl,hbw⟩
end Go.Proofs.YtmoomnpbiifedaaGreat
namespace Go.Proofs.YtmoomnpbiifedaaGreat
open Go Go.RowKit
set_option linter.unusedVariables false
set_option maxHeartbeats 2000000 in
set_option maxRecDepth 100000 in
theorem word_Tokens (s:ByteArray) (w:World) (hs:s.size≤268435456):
  Calls Tryz.prog 134 #[.string s] w (GaveToks (words s.data.toList) w):=by
 obtain ⟨i0,hi0,hz0,hz1,hz2⟩:=info_parts info_token
 have hwl:=words_length s.data.toList
 have hsz:s.data.toList.length=s.size:=Array.length_toList
 rw [hsz] at hwl
 go_enter Tryz.func134,Tryz.ntmps134
 go_wp2_with (go_at_call 141;refine (word_Words s _ (by omega)).mono ?_)
 rintro e w1 ⟨v,rfl,hown,hb⟩
 obtain ⟨A,c,rfl,_,hrow⟩:=owned_row hown
 obtain ⟨ws,hl⟩:∃ ws,ws=words s.data.toList:=⟨_,rfl⟩
 rw [← hl] at hrow hwl
 rw [← hl]
 have FIN:Hid (∀ e w',GaveToks ws w e w'→GaveToks (words s.data.toList) w e w'):=by rw [← hl];exact fun _ _ h=>h
 have HB:=Lib.hid hb
 have HR:=Lib.hid hrow
 clear hl hb hown hrow
 go_wp2
 go_loopw [2,3,4,10] (fun a b o i wr=>ToksRel ws w1 a b o i wr) (fun _ _ _ i _=>ws.length-(intOf i).toNat)
 case atStart=>exact ⟨0,_,rfl,rfl,rfl,Nat.zero_le _,by omega,rfl,World.ownsRow_nil _ _ _ _,Below.refl _ _,rfl⟩
 case round=>
  obtain ⟨k,vo,rfl,rfl,rfl,hk,hk5,rfl,hown,hbw,her⟩:=hrel
  by_cases hlt:k<ws.length
  ·obtain ⟨b1,o1,e1,_,hc1⟩:=row_str (HR.out.below hbw) hlt
   subst e1
   have hat:=errFrom_at hlt
   have htk:=tokCells_take hlt
   obtain ⟨tx,htx⟩:∃ tx:ByteArray,tx=⟨ws[k].toArray⟩:=⟨_,rfl⟩
   have htl:ws[k].length=tx.size:=by rw [htx];simp [ByteArray.size]
   rw [← htx] at hc1 htk
   rw [htl,her] at hat
   clear htx htl her
   have HTK:=Lib.hid htk
   clear htk
   have hszj:=hbw.size
   by_cases h30:30<tx.size
   ·rw [if_pos h30] at hat
    have HAT:=Lib.hid hat
    clear hat
    go_wp2
    go_ret2
    exact FIN.out _ _ ⟨_,by rw [HAT.out];rfl,fun h=>by rw [HAT.out] at h;omega,fun _=>rfl,HB.out.trans (hbw.mono HB.out.size)⟩
   ·rw [if_neg h30] at hat
    by_cases h500:k=500
    ·rw [if_pos (by omega)] at hat
     have HAT:=Lib.hid hat
     subst h500
     clear hat
     go_wp2
     go_ret2
     exact FIN.out _ _ ⟨_,by rw [HAT.out];rfl,fun h=>by rw [HAT.out] at h;omega,fun _=>rfl,HB.out.trans (hbw.mono HB.out.size)⟩
    ·rw [if_neg (by omega)] at hat
     have HAT:=Lib.hid hat
     clear hat
     have h5:(k:Int)<500:=by omega
     go_wp2_with (at_builtin;refine wpList_append_own _ rfl (.tmp 20) (.tmp 24) 173 rfl w1.heap.size 189 i0 _ 2 24 Tryz.underlying173 hi0 hz0 hz1 hz2 rfl (by omega) _ k (tokCells 0 (ws.take k)) rfl (hown.alloc _) ⟨wr.heap.size,0,none⟩ 1 1 [.string tx,.int .i64 k] rfl rfl (news_at wr [.string tx,.int .i64 k] 189) (by intro u hu;simp at hu;rcases hu with hu|hu<;>(subst hu;rfl)) (by unfold maxLen;omega) (by omega) (by simp;omega) ?_)
     intro v' w5 hown5 hgrow5 _
     have hbw5:=(hbw.alloc (by omega) _).grown hgrow5 (by simp;omega) (fun j hj=>(hown.lt j hj).1)
     rw [← HTK.out] at hown5
     clear hgrow5
     go_wp2
     go_roundw
     case rel=>exact ⟨k+1,_,rfl,rfl,rfl,by omega,by omega,by go_num,hown5,hbw5,HAT.out.symm⟩
     case measure=>simp [intOf];omega
  ·have hkl:k=ws.length:=by omega
   have her0:errFrom 0 ws=0:=by rw [← her,List.drop_of_length_le (by omega)];rfl
   rw [hkl,List.take_length] at hown
   have HE:=Lib.hid her0
   clear her her0 hkl
   go_wp2
   go_ret2
   exact FIN.out _ _ ⟨_,by rw [HE.out];rfl,fun _=>owned_low hown HB.out.size,fun h=>absurd HE.out h,HB.out.trans (hbw.mono HB.out.size)⟩
end Go.Proofs.YtmoomnpbiifedaaGreat
namespace Go.Proofs.YtmoomnpbiifedaaGreat
open Go Go.RowKit
set_option linter.unusedVariables false
def encF (f:Fd):List Value:=[.string ⟨f.1.toArray⟩,.string ⟨f.2.toArray⟩]
theorem encF_row {w:World} {B b o:Nat} {zs:List Fd} (h:FRow w B (some ⟨b,o,none⟩) zs):∀ j,j<zs.length→∀ i v,(encF zs[j]!)[i]?=some v→w.cell? ⟨b,o+j*2+i,none⟩=some v:=fun j hj i v hv=>by
 obtain ⟨_,_,e,_,h1,h2⟩:=h.at_ hj
 cases e
 rw [getElem!_pos zs j hj] at hv
 match i,hv with
 |0,hv=>cases hv;exact h1
 |1,hv=>cases hv;exact h2
 |i+2,hv=>simp [encF] at hv
def mayOne (seen:List Nm) (f:Fd):Nat × Int:=if nameB f.1=false then (0,4) else if f.1∈seen then (0,5) else if errFrom 0 (words f.2)≠0 then (0,errFrom 0 (words f.2)) else ((words f.2).length,0)
theorem mayF_one {seen:List Nm} {n k:Nat} {l:List Fd} (hk:k<l.length):mayF seen n (l.drop k)=if (mayOne seen l[k]).2≠0 then (mayOne seen l[k]).2 else mayF (seen++[l[k].1]) (n+(mayOne seen l[k]).1) (l.drop (k+1)):=by
 rw [mayF_at hk,mayOne]
 by_cases h1:nameB l[k].1=false
 ·simp [h1]
 ·by_cases h2:l[k].1∈seen
  ·simp [h1,h2]
  ·by_cases h3:errFrom 0 (words l[k].2)=0
   ·simp [h1,h2,h3]
   ·simp [h1,h2,h3]
theorem mayOne_le {seen:List Nm} {f:Fd}:(mayOne seen f).1≤500:=by
 unfold mayOne
 split
 ·exact Nat.zero_le _
 ·split
  ·exact Nat.zero_le _
  ·split
   ·exact Nat.zero_le _
   ·rename_i h
    have :=errFrom_zero (Classical.not_not.1 h) (by omega)
    show (words f.2).length≤500
    omega
set_option maxHeartbeats 1000000 in
set_option maxRecDepth 100000 in
theorem doc_named (B:Nat) (x:ByteArray) (f:Fd) (w:World) (hB:w.cell? ⟨B,0,none⟩=some (.string x)):
  Calls Tryz.prog 133 #[.agg #[.string ⟨f.1.toArray⟩,.string ⟨f.2.toArray⟩],.pointer (some ⟨B,0,none⟩)] w fun e w'=>e= .returned (.bool (decide (f.1=x.data.toList)))∧Below w.heap.size w w':=by
 have hc:∀ o,(w.alloc o).cell? ⟨B,0,none⟩=some (.string x):=fun o=>Lib.cell?_alloc_some _ hB
 obtain ⟨y,hy,hy2⟩:=as_text f.1
 obtain ⟨z,hz⟩:∃ z,z=decide (f.1=x.data.toList):=⟨_,rfl⟩
 rw [← hz,← hy]
 rw [← hy2] at hz
 have HB:Hid (∀ o,Below w.heap.size w (w.alloc o)):=Lib.hid fun o=>(Below.refl _ _).alloc (Nat.le_refl _) o
 clear hB hy hy2
 by_cases he:y.data.toList=x.data.toList
 ·have t1:=same_true he
  rw [he] at hz
  have hzt:z=true:=by rw [hz];exact decide_eq_true rfl
  subst hzt
  clear he hz
  go_enter Tryz.func133,Tryz.ntmps133
  go_wp2
  go_ret
  exact ⟨rfl,HB.out _⟩
 ·have t1:=same_false he
  have hzf:z=false:=by rw [hz];exact decide_eq_false he
  subst hzf
  clear he hz
  go_enter Tryz.func133,Tryz.ntmps133
  go_wp2
  go_ret
  exact ⟨rfl,HB.out _⟩
theorem doc_has_name (B:Nat) (x:ByteArray) (b o k c:Nat) (zs:List Fd) (w:World) (hB:w.cell? ⟨B,0,none⟩=some (.string x)) (hBl:B<w.heap.size) (hk:zs.length=k) (hb:b<w.heap.size) (hr:FRow w w.heap.size (some ⟨b,o,none⟩) zs) (hkn:k≤1073741824):
  Calls Tryz.prog 132 #[.slice (some ⟨b,o,none⟩) k c,.func (.func 133) #[] #[.pointer (some ⟨B,0,none⟩)]] w fun e w'=>e= .returned (.bool (decide (x.data.toList∈zs.map (·.1))))∧Below w.heap.size w w':=by
 have e:(zs.take k).any (fun f=>decide (f.1=x.data.toList))=decide (x.data.toList∈zs.map (·.1)):=by
  rw [List.take_of_length_le (by omega),Bool.eq_iff_iff,List.any_eq_true,decide_eq_true_iff,List.mem_map]
  constructor
  ·rintro ⟨f,hf,h⟩;exact ⟨f,hf,of_decide_eq_true h⟩
  ·rintro ⟨f,hf,h⟩;exact ⟨f,hf,decide_eq_true h⟩
 rw [← e]
 exact AnyQ.slices_ContainsFunc layHasFd 2 Tryz.isAgg99 Tryz.sizeOf99 encF (fun _=>rfl) (fun f=>decide (f.1=x.data.toList)) 133 #[.pointer (some ⟨B,0,none⟩)] (enters_of Tryz.func133 (by kernel_rfl) rfl) b o k c zs w
  (fun W f hW=>(doc_named B x f W ((hW.cell (p:=⟨B,0,none⟩) hBl).trans hB)).mono fun e w' ⟨h1,h2⟩=>⟨h1,hW.trans (h2.mono hW.size)⟩) (by omega) (by omega) hb (encF_row hr)
set_option maxHeartbeats 2000000 in
set_option maxRecDepth 100000 in
theorem doc_mayField (x y:ByteArray) (b o k c:Nat) (zs:List Fd) (w:World) (hk:zs.length=k) (hb:b<w.heap.size) (hr:FRow w w.heap.size (some ⟨b,o,none⟩) zs) (hkn:k≤1073741824) (hx:x.size≤9223372036854775807) (hy:y.size≤268435456):
    Calls Tryz.prog 113 #[.agg #[.string x,.string y],.slice (some ⟨b,o,none⟩) k c] w fun e w'=>
      e= .returned (.tuple #[.int .i64 ((mayOne (zs.map (·.1)) (x.data.toList,y.data.toList)).1:Int),.int .i64 (mayOne (zs.map (·.1)) (x.data.toList,y.data.toList)).2])∧Below w.heap.size w w':=by
  obtain ⟨w1,hw1⟩:∃ w1,w1=w.alloc (.cells #[.string x,.string y] 99):=⟨_,rfl⟩
  have hblk:w1.heap[w.heap.size]?=some (.cells #[.string x,.string y] 99 (0,0)):=by rw [hw1];exact heap_alloc_new _ _
  have hb1:Below w.heap.size w w1:=by rw [hw1];exact (Below.refl _ _).alloc (Nat.le_refl _) _
  have hs1:w1.heap.size=w.heap.size+1:=by rw [hw1];simp
  have HC:Hid (∀ w',Below w1.heap.size w1 w'→Below w.heap.size w w'∧w'.cell? ⟨w.heap.size,0,none⟩=some (.string x)∧w'.cell? ⟨w.heap.size,1,none⟩=some (.string y)∧w.heap.size<w'.heap.size∧b<w'.heap.size∧FRow w' w'.heap.size (some ⟨b,o,none⟩) zs):=Lib.hid fun w' h=>by
    have h0:=hb1.trans (h.mono hb1.size)
    have hk:w'.heap[w.heap.size]?=some (.cells #[.string x,.string y] 99 (0,0)):=(h.block _ (by omega)).trans hblk
    exact ⟨h0,by simp [World.cell?,hk],by simp [World.cell?,hk],lt_of_block hk,by have :=h0.size;omega,hr.later h0⟩
  have HW1:=Lib.hid hw1
  have N1:Hid (∀ w',Calls Tryz.prog 131 #[.string x] w' fun e w''=>e= .returned (.bool (nameB x.data.toList))∧Below w'.heap.size w' w''):=Lib.hid fun w'=>doc_Name x w' hx
  have H1:Hid (∀ w',Below w1.heap.size w1 w'→Calls Tryz.prog 132 #[.slice (some ⟨b,o,none⟩) k c,.func (.func 133) #[] #[.pointer (some ⟨w.heap.size,0,none⟩)]] w' fun e w''=>e= .returned (.bool (decide (x.data.toList∈zs.map (·.1))))∧Below w'.heap.size w' w''):=Lib.hid fun w' h=>by
    obtain ⟨_,h1,_,h2,h3,h4⟩:=HC.out w' h
    exact doc_has_name w.heap.size x b o k c zs w' h1 h2 hk h3 h4 hkn
  have T1:Hid (∀ w',Calls Tryz.prog 134 #[.string y] w' (GaveToks (words y.data.toList) w')):=Lib.hid fun w'=>word_Tokens y w' hy
  obtain ⟨r,hrr⟩:∃ r,r=mayOne (zs.map (·.1)) (x.data.toList,y.data.toList):=⟨_,rfl⟩
  rw [← hrr]
  unfold mayOne at hrr
  simp only at hrr
  obtain ⟨z1,hz1⟩:∃ z1,z1=nameB x.data.toList:=⟨_,rfl⟩
  obtain ⟨z2,hz2⟩:∃ z2,z2=decide (x.data.toList∈zs.map (·.1)):=⟨_,rfl⟩
  rw [← hz1] at N1 hrr
  rw [← hz2] at H1
  have hz3:x.data.toList∈zs.map (·.1)↔z2=true:=by rw [hz2,decide_eq_true_iff]
  simp only [hz3] at hrr
  obtain ⟨ws,hws⟩:∃ ws,ws=words y.data.toList:=⟨_,rfl⟩
  rw [← hws] at T1 hrr
  clear hw1 hblk hb1 hs1 hz1 hz2 hz3 hws hb hr hk
  cases z1 with
  |false=>
    rw [if_pos rfl] at hrr
    subst hrr
    go_enter Tryz.func113,Tryz.ntmps113
    go_wp2_with (go_at_call 131;rw [show w.alloc _=w1 from HW1.out.symm];(with_reducible refine (N1.out _).mono ?_);rintro e w2 ⟨rfl,hb2⟩)
    go_ret2
    exact ⟨rfl,(HC.out _ hb2).1⟩
  |true=>
    rw [if_neg (by decide)] at hrr
    cases z2 with
    |true=>
      rw [if_pos rfl] at hrr
      subst hrr
      go_enter Tryz.func113,Tryz.ntmps113
      go_wp2_with (first
        | (go_at_call 131; rw [show w.alloc _ = w1 from HW1.out.symm]; (with_reducible refine (N1.out _).mono ?_); rintro e w2 ⟨rfl, hb2⟩
           have HB2:=Lib.hid hb2
           clear hb2)
        | (go_at_call 132; (with_reducible refine (H1.out _ HB2.out).mono ?_); rintro e w3 ⟨rfl, hb3⟩
           have HB3:=Lib.hid (HB2.out.trans (hb3.mono HB2.out.size))
           clear hb3))
      go_ret2
      exact ⟨rfl,(HC.out _ HB3.out).1⟩
    |false=>
      rw [if_neg (by decide)] at hrr
      have HRR:=Lib.hid hrr
      clear hrr
      go_enter Tryz.func113,Tryz.ntmps113
      go_wp2_with (first
        | (go_at_call 131; rw [show w.alloc _ = w1 from HW1.out.symm]; (with_reducible refine (N1.out _).mono ?_); rintro e w2 ⟨rfl, hb2⟩
           have HB2:=Lib.hid hb2
           clear hb2)
        | (go_at_call 132; (with_reducible refine (H1.out _ HB2.out).mono ?_); rintro e w3 ⟨rfl, hb3⟩
           have HB3:=Lib.hid (HB2.out.trans (hb3.mono HB2.out.size))
           have a1:=(HC.out _ HB3.out).2.2.1
           clear hb3)
        | (go_at_call 134; (with_reducible refine (T1.out _).mono ?_); rintro e w4 ⟨v, rfl, h1, h2, hb4⟩
           have HB4:=Lib.hid (HB3.out.trans (hb4.mono HB3.out.size))
           obtain ⟨A3,n3,c3,rfl,hn3⟩:∃ A3 n3 c3,v= .slice A3 n3 c3∧r=(n3,errFrom 0 ws):=by
             by_cases hz:errFrom 0 ws=0
             · rcases (h1 hz).2 with ⟨hv,hn⟩|⟨g,cap,cur,hv,_⟩
               · exact ⟨none,0,0,hv,by rw [HRR.out,if_neg (by rw [hz];decide),hz,hn]⟩
               · exact ⟨_,_,_,hv,by rw [HRR.out,if_neg (by rw [hz];decide),hz]⟩
             · exact ⟨none,0,0,h2 hz,by rw [HRR.out,if_pos hz]⟩
           obtain ⟨E,hE⟩:∃ E,E=errFrom 0 ws:=⟨_,rfl⟩
           rw [← hE] at hn3 ⊢
           clear h1 h2 hb4 hE))
      go_ret2
      rw [hn3]
      exact ⟨rfl,(HC.out _ HB4.out).1⟩
set_option maxHeartbeats 4000000 in
set_option maxRecDepth 100000 in
theorem doc_May (id:Int) (A:Option Addr) (n c:Nat) (l:List Fd) (w:World) (hl:l.length=n) (hr:FRow w w.heap.size A l) (hn:n≤1073741824) (hnc:n≤c) (ht:∀ f∈l,f.1.length≤1073741824∧f.2.length≤268435456):
    Calls Tryz.prog 85 #[docV id A n c] w fun e w'=>e= .returned (.int .i64 (mayD l))∧Below w.heap.size w w':=by
  obtain ⟨R,hR⟩:∃ R,R=mayD l:=⟨_,rfl⟩
  rw [← hR]
  have HRR:=Lib.hid hR
  have HR:=Lib.hid hr
  have HT:=Lib.hid ht
  have HB1:Hid (∀ w1,w1=boxD w id A n c→∀ wr,Below w1.heap.size w1 wr→Below w.heap.size w wr∧wr.cell? ⟨w.heap.size,0,none⟩=some (.int .i64 id)∧wr.cell? ⟨w.heap.size,1,none⟩=some (.slice A n c)):=Lib.hid fun w1 e wr h=>by subst e;exact ⟨boxD_out h,boxD_cells h⟩
  clear hR hr ht
  by_cases h8:8<n
  · have hR7:R=7:=by rw [HRR.out,mayD,if_pos (by omega)]
    subst hR7
    have HB0:=Lib.hid (HB1.out _ rfl _ (Below.refl _ _)).1
    go_enter Tryz.func85,Tryz.ntmps85
    go_wp2
    go_ret
    exact ⟨rfl,HB0.out⟩
  · have hn8:n≤8:=by omega
    have HE:Hid (mayF (seenUp l 0) 0 (l.drop 0)=R):=Lib.hid (by rw [HRR.out,mayD,if_neg (by omega)];rfl)
    clear h8
    subst hl
    go_enter Tryz.func85,Tryz.ntmps85
    go_wp2
    obtain ⟨w1,hw1⟩:∃ w1,w1=boxD w id A l.length c:=⟨_,rfl⟩
    have HB2:=Lib.hid (HB1.out w1 hw1)
    rw [show w.alloc _=w1 from hw1.symm]
    clear hw1 HB1
    go_loopw [2,3,15] (fun r a i wr=>MayRel8 l R w1 r a i wr) (fun _ _ i _=>l.length-(intOf i).toNat)
    case atStart=>exact ⟨rfl,0,0,by omega,by omega,rfl,rfl,Below.refl _ _,HE.out⟩
    case round=>
      obtain ⟨rfl,k,m,hk,hm,rfl,rfl,hbw,hgo⟩:=hrel
      obtain ⟨hb0,a0,a1⟩:=HB2.out _ hbw
      by_cases hlt:k<l.length
      · obtain ⟨b1,o1,e1,hb1,hc1,hc2⟩:=(HR.out.below hb0).at_ hlt
        subst e1
        rw [mayF_one hlt] at hgo
        have ht8:=HT.out _ (List.getElem_mem hlt)
        obtain ⟨x,hx,hx2⟩:=as_text l[k].1
        obtain ⟨y,hy,hy2⟩:=as_text l[k].2
        rw [← hx] at hc1
        rw [← hy] at hc2
        have i0:(0:Int)≤k:=by omega
        have i1:(k:Int)<l.length:=by omega
        have i2:(k:Int)≤c:=by omega
        obtain ⟨w2,hw2⟩:∃ w2,w2=wr.alloc (.cells #[.string x,.string y] 99):=⟨_,rfl⟩
        have hblk:w2.heap[wr.heap.size]?=some (.cells #[.string x,.string y] 99 (0,0)):=by rw [hw2];exact heap_alloc_new _ _
        have hb2:Below wr.heap.size wr w2:=by rw [hw2];exact (Below.refl _ _).alloc (Nat.le_refl _) _
        have hbr:=hbw.size
        have hr1:FRow w2 w2.heap.size (some ⟨b1,o1,none⟩) (l.take k):=((HR.out.later hb0).later hb2).cut k
        obtain ⟨r,hrr⟩:∃ r,r=mayOne (seenUp l k) l[k]:=⟨_,rfl⟩
        have hr5:r.1≤500:=by rw [hrr];exact mayOne_le
        have HMF:Hid (∀ w',Below w2.heap.size w2 w'→Calls Tryz.prog 113 #[.agg #[.string x,.string y],.slice (some ⟨b1,o1,none⟩) k c] w' fun e w''=>e= .returned (.tuple #[.int .i64 (r.1:Int),.int .i64 r.2])∧Below w'.heap.size w' w''):=Lib.hid fun w' h=>by
          have hs0:=hb0.size
          have hs2:=hb2.size
          have hs3:=h.size
          have :=doc_mayField x y b1 o1 k c (l.take k) w' (by rw [List.length_take];omega) (by omega) (hr1.later h) (by omega) (by rw [hx,size_nm];have :=ht8.1;omega) (by rw [hy,size_nm];exact ht8.2)
          rw [hx2,hy2] at this
          rw [hrr]
          exact this
        rw [← hrr] at hgo
        have HS:Hid (∀ w',Below w2.heap.size w2 w'→Below w1.heap.size w1 w'∧w'.cell? ⟨wr.heap.size,0,none⟩=some (.string x)∧w'.cell? ⟨wr.heap.size,1,none⟩=some (.string y)∧w'.cell? ⟨w.heap.size,1,none⟩=some (.slice (some ⟨b1,o1,none⟩) l.length c)):=Lib.hid fun w' h=>by
          have h1:=hbw.trans ((hb2.trans (h.mono hb2.size)).mono hbw.size)
          have hk:w'.heap[wr.heap.size]?=some (.cells #[.string x,.string y] 99 (0,0)):=(h.block _ (lt_of_block hblk)).trans hblk
          exact ⟨h1,by simp [World.cell?,hk],by simp [World.cell?,hk],(HB2.out _ h1).2.2⟩
        have HW2:=Lib.hid hw2
        have HGO:=Lib.hid hgo
        have HB0:=Lib.hid hb0
        clear hx hx2 hy hy2 ht8 hw2 hblk hb2 hr1 hrr hgo hb0 hb1 hbw
        obtain ⟨q,E⟩:=r
        simp only at hr5 HMF HGO
        go_upto_region 7 with fail
        rw [show wr.alloc _=w2 from HW2.out.symm]
        go_region_held3 (fun w'=>w'.cell? ⟨wr.heap.size,0,none⟩=some (.string x)∧w'.cell? ⟨wr.heap.size,1,none⟩=some (.string y)∧w'.cell? ⟨w.heap.size,1,none⟩=some (.slice (some ⟨b1,o1,none⟩) l.length c))
          (first|exact (HS.out _ (Below.refl _ _).drew).2|exact (HS.out _ HB3.out).2)
          (first
            | (go_at_call 113; (with_reducible refine (HMF.out _ (Below.refl _ w2).drew).mono ?_); rintro e w3 ⟨rfl, hb3⟩
               have HB3:Hid (Below w2.heap.size w2 w3):=Lib.hid ((Below.refl _ w2).drew.trans hb3)
               clear hb3))
        by_cases hE:E=0
        · subst hE
          have hgo:=HGO.out
          rw [if_neg (by decide),← seenUp_succ hlt] at hgo
          have HGO2:=Lib.hid hgo
          have hm5:m≤4000:=by omega
          clear hgo
          go_wp2
          refine ⟨⟨rfl,k+1,m+q,by omega,by omega,?_,by go_num,(HS.out _ HB3.out).1,HGO2.out⟩,by simp [intOf];omega⟩
          push_cast
          rfl
        · have hgo:=HGO.out
          rw [if_pos hE] at hgo
          subst hgo
          go_wp2
          go_ret
          exact ⟨rfl,(HB2.out _ (HS.out _ HB3.out).1).1⟩
      · have hkl:k=l.length:=by omega
        subst hkl
        rw [List.drop_length,mayF] at hgo
        have HB0:=Lib.hid hb0
        clear hb0
        by_cases h5:500<m
        · rw [if_pos h5] at hgo
          subst hgo
          go_wp2
          go_ret
          exact ⟨rfl,HB0.out⟩
        · rw [if_neg h5] at hgo
          subst hgo
          have h5':m≤500:=by omega
          clear h5
          go_wp2
          go_ret
          exact ⟨rfl,HB0.out⟩
end Go.Proofs.YtmoomnpbiifedaaGreat
namespace Go.Proofs.YtmoomnpbiifedaaGreat
open Go Go.RowKit
set_option linter.unusedVariables false
def OwnP0 (base:Nat) (w:World) (v:Value) (l:List Po):Prop:=∃ cs,w.ownsRow base 63 2 v l.length cs∧PoCells (RowS 0 w) l cs
theorem OwnP0.nil {base:Nat} {w:World}:OwnP0 base w (.slice none 0 0) []:=⟨[],World.ownsRow_nil _ _ _ _,rfl⟩
theorem OwnP0.below {base:Nat} {w w':World} {v:Value} {l:List Po} (h:OwnP0 base w v l) (hb:Below w.heap.size w w'):OwnP0 base w' v l:=by
 obtain ⟨cs,h1,h2⟩:=h
 exact ⟨cs,owned_below h1 hb,h2.imp fun _ _ h=>h.below hb⟩
theorem OwnP0.push {base:Nat} {w w':World} {v v':Value} {l:List Po} {cs:List Value} (h1:w.ownsRow base 63 2 v l.length cs) (h2:PoCells (RowS 0 w) l cs) {A:Option Addr} {c:Nat} {d:Int} {ps:List Int} (hc:ps.length≤c) (hcx:c≤maxLen) (hr:RowS 0 w A (ints ps))
  (hown:w'.ownsRow base 63 2 v' (l.length+1) (cs++[.int .i64 d,.slice A ps.length c])) (hg:w.grownBy w' v.ownBlock):OwnP0 base w' v' (l++[(d,ps)]):=by
 have h0:=owned_low h1 (Nat.zero_le base)
 refine ⟨_,?_,(h2.imp fun _ _ h=>h.grown h0 (by decide) hg).snoc hc hcx (hr.grown h0 (by decide) hg)⟩
 rw [List.length_append,List.length_singleton]
 exact hown
def GaveP0 (l:List Po) (w:World) (e:Ending) (w':World):Prop:=∃ v,e= .returned v∧OwnP0 w.heap.size w' v l∧Below w.heap.size w w'
theorem key_iff {z key:ByteArray} {t:Tm} (h:z.data.toList=keyT t):(z.toList==key.toList)=decide (keyT t=key.data.toList):=by
 rw [Lib.toList_data,Lib.toList_data,h,Bool.eq_iff_iff,beq_iff_eq,decide_eq_true_iff]
theorem postIn_length (i:Nat) (d:List Fd) (ts:List Tm) (key:Nm):(postIn i d ts key).length≤ts.length:=by
 unfold postIn
 rw [List.length_map]
 exact List.length_filter_le _ _
theorem postsE_length {M:Nat}:∀ {l:List En} {i:Nat} {key:Nm},(∀ q∈l,(termsD q.2.1).length≤M)→(postsE i l key).length≤l.length*M
 |[],i,key,_=>by simp [postsE]
 |q::l,i,key,h=>by
  have h1:=postsE_length (l:=l) (i:=i+1) (key:=key) fun x hx=>h x (List.mem_cons_of_mem _ hx)
  have h2:=postIn_length i q.2.1 (termsD q.2.1) key
  have h3:=h q (List.mem_cons_self ..)
  rw [postsE,List.length_append,List.length_cons,Nat.add_mul,Nat.one_mul]
  omega
def PostsRel09 (l:List En) (key:Nm) (w:World) (o i:Value) (wr:World):Prop:=∃ (k:Nat) (vo:Value),vo=o∧k≤l.length∧i= .int .i64 (k:Int)∧OwnP0 w.heap.size wr vo (postsE 0 (l.take k) key)∧Below w.heap.size w wr
def PostsRel9 (a:List Pn) (i0:Nat) (d:List Fd) (ts:List Tm) (key:Nm) (b b2:Nat) (w2:World) (V:Value) (o i:Value) (wi:World):Prop:=∃ (j:Nat) (vo:Value),vo=o∧j≤ts.length∧i= .int .i64 (j:Int)∧OwnP0 b wi vo (a++postIn i0 d (ts.take j) key)∧OwnTm b2 wi V ts∧Below b w2 wi
set_option maxHeartbeats 4000000 in
set_option maxRecDepth 100000 in
theorem ref09_Postings0 (A:Option Addr) (n c:Nat) (l:List En) (key:ByteArray) (w:World) (hl:l.length=n) (hr:Nest enS w w.heap.size A l) (hg:GoodE l) (hn:n≤100):
    Calls Tryz.prog 47 #[.slice A n c,.string key] w (GaveP0 (postsE 0 l key.data.toList) w):=by
  obtain ⟨i0,hi0,hz0,hz1,hz2⟩:=info_parts info_posting
  have HR:=Lib.hid hr
  have HG:=Lib.hid hg
  have HL:=Lib.hid hl
  clear hr hg hl
  go_enter Tryz.func47,Tryz.ntmps47
  go_wp2
  go_loopw [5,6,7,8] (fun o i t j wr=>PostsRel09 l key.data.toList w o i wr) (fun _ i _ _ _=>n-(intOf i).toNat)
  case atStart=>exact ⟨0,_,rfl,Nat.zero_le _,rfl,OwnP0.nil,Below.refl _ _⟩
  case round=>
    obtain ⟨k,vo,rfl,hk,rfl,hown,hbw⟩:=hrel
    obtain ⟨wo,rfl⟩:∃ wo,wo=wr:=⟨_,rfl⟩
    by_cases hlt:k<n
    · have hkl:k<l.length:=by rw [HL.out];exact hlt
      have hnr:=Nest.below HR.out hbw
      obtain ⟨b,off,A',c',e1,hb,g1,g2,_,_,_,hfr0⟩:=enS_at hnr hkl
      have hfr:FRow wo w.heap.size A' l[k].2.1:=hfr0
      subst e1
      have hkt:=postsE_take (key:=key.data.toList) hkl
      have hgk:=HG.out _ (List.getElem_mem hkl)
      have HC:=Lib.hid (good_terms (id:=l[k].1) (c:=c') hgk rfl (hfr.more hbw.size))
      have hbnd:(postsE 0 (l.take k) key.data.toList).length≤400000:=by
        have h1:=postsE_length (l:=l.take k) (i:=0) (key:=key.data.toList) (M:=4000) fun q hq=>terms_len9 (HG.out q (List.mem_of_mem_take hq))
        rw [List.length_take] at h1
        have h2:min k l.length*4000≤100*4000:=Nat.mul_le_mul_right _ (by omega)
        omega
      obtain ⟨m,hm⟩:∃ m,m=l[k].2.1.length:=⟨_,rfl⟩
      obtain ⟨q,hq⟩:∃ q,q=l[k].1:=⟨_,rfl⟩
      obtain ⟨d,hd⟩:∃ d,d=l[k].2.1:=⟨_,rfl⟩
      rw [← hd] at hgk hm hkt HC hfr g2
      have hfits:∀ t∈termsD d,t.1.length≤12∧t.2.length≤4096:=fun t ht=>term_fits9 hgk ht
      have htl:=terms_len9 hgk
      obtain ⟨ts,hts⟩:∃ ts,ts=termsD d:=⟨_,rfl⟩
      obtain ⟨a,ha⟩:∃ a,a=postsE 0 (l.take k) key.data.toList:=⟨_,rfl⟩
      rw [← hm,← hq,← hts] at HC
      rw [← hm] at g2
      rw [← hq] at g1
      rw [← ha] at hown hbnd
      rw [← ha,← hts] at hkt
      rw [← hts] at hfits htl
      have HFT:=Lib.hid hfits
      have HKT:=Lib.hid hkt
      have HOW:=Lib.hid hown
      have HGK:=Lib.hid hgk
      have HM:=Lib.hid hm
      have HFR:=Lib.hid hfr
      have HBB:=Lib.hid hb
      have p0:(0:Int)≤k:=by omega
      have p1:(k:Int)<n:=by omega
      clear hnr hfr hfr0 hm hts ha hq hkt hfits hown hgk hd hb
      go_wp2_with (go_at_call 80;(with_reducible refine HC.out.mono ?_);rintro e w2 ⟨v2,rfl,ho2,hb2⟩)
      obtain ⟨A2,c2,rfl,_,hr2⟩:=ho2.row
      obtain ⟨N,hN⟩:∃ N,N=ts.length:=⟨_,rfl⟩
      rw [← hN] at htl ho2 ⊢
      have HN:=Lib.hid hN
      have HB2:=Lib.hid (hbw.trans (hb2.mono hbw.size))
      have HOW2:=Lib.hid (HOW.out.below hb2)
      have HOT:=Lib.hid ho2
      have HS2:Hid (∀ wi,Below w.heap.size w2 wi→wi.cell? ⟨b,off+k*3,none⟩=some (.int .i64 q)∧wi.cell? ⟨b,off+k*3+1,none⟩=some (.slice A' m c')∧FRow wi w.heap.size A' d):=Lib.hid fun wi h=>by
        have h2:=(hb2.mono hbw.size).trans h
        exact ⟨(h2.cell (p:=⟨b,_,none⟩) HBB.out).trans g1,(h2.cell (p:=⟨b,_,none⟩) HBB.out).trans g2,HFR.out.below h2⟩
      have hs2:=HB2.out.size
      clear ho2 hr2 hb2 hN
      go_wp2
      go_loopw [5,8] (fun o i wi=>PostsRel9 a k d ts key.data.toList w.heap.size wo.heap.size w2 (.slice A2 N c2) o i wi) (fun _ i _=>N-(intOf i).toNat)
      case atStart=>exact ⟨0,_,rfl,Nat.zero_le _,rfl,by simpa [postIn] using HOW2.out,HOT.out,Below.refl _ _⟩
      case round=>
        obtain ⟨j,vi,rfl,hj,rfl,howi,hoti,hbi⟩:=hrel
        obtain ⟨wi,rfl⟩:∃ wi,wi=wr:=⟨_,rfl⟩
        have hsi:w.heap.size≤wi.heap.size:=Nat.le_trans hs2 hbi.size
        by_cases hjt:j<N
        · have hjl:j<ts.length:=by rw [← HN.out];exact hjt
          obtain ⟨b4,hA2⟩:∃ b4,A2=some ⟨b4,0,none⟩:=by
            rcases hoti.2 with ⟨hv,h5⟩|⟨g',cap,cur,hv,_⟩
            · omega
            · injection hv with e
              exact ⟨g',e⟩
          subst hA2
          obtain ⟨A9,c9,e4,_,hr4⟩:=OwnTm.row hoti
          have hA9:A9=some ⟨b4,0,none⟩:=by injection e4 with e _ _;exact e.symm
          clear e4
          subst hA9
          obtain ⟨_,_,e5,_,hx4,hy4⟩:=hr4.at_ hjl
          cases e5
          rw [Nat.zero_add] at hx4 hy4
          obtain ⟨x,hx,hx2⟩:=as_text ts[j].1
          obtain ⟨y,hy,hy2⟩:=as_text ts[j].2
          rw [← hx] at hx4
          rw [← hy] at hy4
          have hf:=HFT.out _ (List.getElem_mem hjl)
          have hkj:=postIn_take (i:=k) (d:=d) (key:=key.data.toList) hjl
          have hpl:=postIn_length k d (ts.take j) key.data.toList
          rw [List.length_take] at hpl
          have CK:=Lib.hid (fun w'=>ref_Key x y w' (by rw [hx,size_nm];omega) (by rw [hy,size_nm];omega))
          have hkey:(keyB x y).data.toList=keyT ts[j]:=by rw [keyB_list,hx2,hy2];rfl
          have htx:(x.data.toList,y.data.toList)=ts[j]:=Prod.ext hx2 hy2
          obtain ⟨z,hz⟩:∃ z,z=keyB x y:=⟨_,rfl⟩
          rw [← hz] at CK hkey
          have ht1:=key_iff (key:=key) hkey
          obtain ⟨F,hF⟩:∃ F,F=postIn k d (ts.take j) key.data.toList:=⟨_,rfl⟩
          rw [← hF] at hkj hpl howi
          obtain ⟨t1,t2,t3⟩:=HS2.out _ hbi
          have HPL:Hid (∀ w',Below wi.heap.size wi w'→Calls Tryz.prog 82 #[docV q A' m c',.agg #[.string x,.string y]] w' (GaveInts (placesD d ts[j]) w')):=Lib.hid fun w' h=>by
            have :=good_rplaces (id:=q) (c:=c') HGK.out HM.out.symm ((FRow.later (FRow.more t3 hsi) h)) x y
            rwa [htx] at this
          have HOI:=Lib.hid howi
          have HTI:=Lib.hid hoti
          have HKJ:=Lib.hid hkj
          have HBI:=Lib.hid hbi
          have j0:(0:Int)≤j:=by omega
          have j1:(j:Int)<N:=by omega
          have hjn:j≤4000:=by omega
          clear hx hx2 hy hy2 hf hkj hkey hz howi hoti hbi hF htx hr4
          by_cases hk9:keyT ts[j]=key.data.toList
          · rw [decide_eq_true hk9] at ht1
            have hkj:=HKJ.out
            rw [if_pos hk9] at hkj
            have HKJ2:=Lib.hid hkj
            clear hk9 hkj HKJ
            have hpd:(placesD d ts[j]).length≤500:=Nat.le_trans (placesW_length _ _ _) (HGK.out.wordsS _)
            obtain ⟨pl,hpl2⟩:∃ pl,pl=placesD d ts[j]:=⟨_,rfl⟩
            rw [← hpl2] at hpd HPL HKJ2
            obtain ⟨cs,hcs1,hcs2⟩:=HOI.out
            have HC1:=Lib.hid hcs1
            have HC2:=Lib.hid hcs2
            obtain ⟨M,hM⟩:∃ M,M=(a++F).length:=⟨_,rfl⟩
            rw [← hM] at HC1
            have hM4:M≤404000:=by rw [hM,List.length_append];omega
            have HMM:=Lib.hid hM
            have HS:Hid (∀ w',Below wi.heap.size wi w'→w'.cell? ⟨b,off+k*3,none⟩=some (.int .i64 q)∧w'.cell? ⟨b,off+k*3+1,none⟩=some (.slice A' m c')∧w'.cell? ⟨b4,j*2,none⟩=some (.string x)∧w'.cell? ⟨b4,j*2+1,none⟩=some (.string y)):=Lib.hid fun w' h=>by
              have hbl:b<wi.heap.size:=Nat.lt_of_lt_of_le HBB.out hsi
              have hbl4:=(HTI.out.lt b4 rfl).2
              exact ⟨(h.cell (p:=⟨b,_,none⟩) hbl).trans t1,(h.cell (p:=⟨b,_,none⟩) hbl).trans t2,(h.cell (p:=⟨b4,_,none⟩) hbl4).trans hx4,(h.cell (p:=⟨b4,_,none⟩) hbl4).trans hy4⟩
            clear hcs1 hcs2 hpl2 hM
            have HAPP:Hid (∀ (w4:World) (A4:Option Addr) (c4:Nat),Below wi.heap.size wi w4→(∃ b3,w4.ownsRow b3 3 1 (.slice A4 pl.length c4) pl.length (ints pl))→pl.length≤c4→c4≤maxLen→∀ (gg cap:Nat) (w5:World),w5.ownsRow w.heap.size 63 2 (.slice (some ⟨gg,0,none⟩) (M+1) cap) (M+1) (cs++[.int .i64 k,.slice A4 pl.length c4])→(w4.alloc (.cells #[.int .i64 k,.slice A4 pl.length c4] 63)).grownBy w5 vi.ownBlock→
                (w5.cell? ⟨b,off+k*3,none⟩=some (.int .i64 q)∧w5.cell? ⟨b,off+k*3+1,none⟩=some (.slice A' m c')∧w5.cell? ⟨b4,j*2,none⟩=some (.string x)∧w5.cell? ⟨b4,j*2+1,none⟩=some (.string y))∧
                OwnP0 w.heap.size w5 (.slice (some ⟨gg,0,none⟩) (M+1) cap) (a++F++[((k:Int),pl)])∧OwnTm wo.heap.size w5 (.slice (some ⟨b4,0,none⟩) N c2) ts∧Below w.heap.size w2 w5):=Lib.hid fun w4 A4 c4 hb4 ⟨b3,ho4⟩ hc1 hc2 gg cap w5 hown5 hg5=>by
              have hal:Below wi.heap.size wi (w4.alloc (.cells #[.int .i64 k,.slice A4 pl.length c4] 63)):=hb4.alloc hb4.size _
              have h1:=hal.size
              have hoA:=(owned_below HC1.out hb4).alloc (.cells #[.int .i64 k,.slice A4 pl.length c4] 63)
              have htA:=owned_below HTI.out hal
              have hb5:Below w.heap.size (w4.alloc (.cells #[.int .i64 k,.slice A4 pl.length c4] 63)) w5:=(Below.refl _ _).grown hg5 (by omega) fun g hg=>(HC1.out.lt g hg).1
              have hk4:∀ g,(Value.slice (some ⟨b4,0,none⟩) N c2).ownBlock=some g→w5.heap[g]?=(w4.alloc (.cells #[.int .i64 k,.slice A4 pl.length c4] 63)).heap[g]?:=fun g hg=>hg5.block g (htA.lt g hg).2 fun e=>owned_apart2 hoA htA (by decide) hg e.symm
              have ht5:OwnTm wo.heap.size w5 (.slice (some ⟨b4,0,none⟩) N c2) ts:=owned_keep htA hk4
              have hS4:=HS.out _ hal
              have hk40:=hk4 b4 rfl
              have hpush:=OwnP0.push (base:=w.heap.size) (l:=a++F) (c:=c4) (A:=A4) (cs:=cs) (d:=(k:Int)) (ps:=pl) (by rw [← HMM.out];exact hoA) (HC2.out.imp fun _ _ h=>h.below hal) hc1 hc2 ((RowS.of_own ho4).below ((Below.refl _ _).alloc (Nat.le_refl _) _)) (by rw [← HMM.out];exact hown5) hg5
              exact ⟨⟨(hb5.cell (p:=⟨b,_,none⟩) HBB.out).trans hS4.1,(hb5.cell (p:=⟨b,_,none⟩) HBB.out).trans hS4.2.1,(World.cell?_of_block (a:=⟨b4,_,none⟩) hk40).trans hS4.2.2.1,(World.cell?_of_block (a:=⟨b4,_,none⟩) hk40).trans hS4.2.2.2⟩,hpush,ht5,HBI.out.trans ((hal.mono hsi).trans hb5)⟩
            go_upto_region 10 with (first
              | (go_at_call 41; (with_reducible refine (CK.out _).mono ?_); rintro e w3 ⟨rfl, hb3⟩
                 have HB3:=Lib.hid hb3
                 clear hb3))
            go_region_held3 (fun w'=>w'.cell? ⟨b,off+k*3,none⟩=some (.int .i64 q)∧w'.cell? ⟨b,off+k*3+1,none⟩=some (.slice A' m c')∧w'.cell? ⟨b4,j*2,none⟩=some (.string x)∧w'.cell? ⟨b4,j*2+1,none⟩=some (.string y))
              (first|exact HS.out _ HB3.out.drew|exact HS.out _ HB4.out|exact HS.out _ (HB4.out.alloc HB4.out.size _)|exact HS5.out)
              (first
                | (go_at_call 82; (with_reducible refine (HPL.out _ HB3.out.drew).mono ?_); rintro e w4 ⟨v4, rfl, ho4, hb4⟩
                   obtain ⟨A4,c4,rfl,hc4,hr4⟩:=owned_roomed ho4
                   have HO4:Hid (∃ b3,w4.ownsRow b3 3 1 (.slice A4 pl.length c4) pl.length (ints pl)):=Lib.hid ⟨_,ho4⟩
                   have HB4:Hid (Below wi.heap.size wi w4):=Lib.hid (HB3.out.drew.trans (hb4.mono HB3.out.size))
                   clear hb4 ho4 hr4)
                | (refine step_append_lies _ (by rfl) _ _ _ (by rfl) w.heap.size 63 i0 _ 2 32 Tryz.underlying58 hi0 hz0 hz1 hz2 rfl (by omega) vi M cs (by rfl) ((owned_below HC1.out HB4.out).alloc _)
                    ⟨w4.heap.size,0,none⟩ 1 1 [.int .i64 k,.slice A4 pl.length c4] (by rfl) (by rfl) (World.news_of_block (cs:=#[.int .i64 k,.slice A4 pl.length c4]) (t:=63) (fr:=(0,0)) (heap_alloc_new w4 _)) (by intro u hu;simp at hu;rcases hu with hu|hu<;>(subst hu;rfl))
                    (by omega) (by unfold maxLen;omega) (by omega) (by have :=HB4.out.size;simp;omega) (w4.heap.size+1) (by simp) ?_
                   intro gg cap w5 hown5 hg5 hat hlt5
                   obtain ⟨HS5',HPU',HT5',HB5'⟩:=HAPP.out w4 A4 c4 HB4.out HO4.out hc4.1 hc4.2 gg cap w5 hown5 hg5
                   have HS5:=Lib.hid HS5'
                   have HPU:=Lib.hid HPU'
                   have HT5:=Lib.hid HT5'
                   have HB5:=Lib.hid HB5'
                   clear HS5' HPU' HT5' HB5' hown5 hg5 hat))
            all_goals
              go_wp2
              refine ⟨⟨j+1,_,rfl,hjl,by go_num,?_,HT5.out,HB5.out⟩,by simp [intOf];omega⟩
              rw [HKJ2.out,← List.append_assoc]
              exact HPU.out
          · rw [decide_eq_false hk9] at ht1
            have hkj:=HKJ.out
            rw [if_neg hk9] at hkj
            have HKJ2:=Lib.hid hkj
            clear hk9 hkj HKJ
            go_wp2_with (go_at_call 41;(with_reducible refine (CK.out _).mono ?_);rintro e w3 ⟨rfl,hb3⟩)
            refine ⟨⟨j+1,_,rfl,hjl,by go_num,?_,?_,HBI.out.trans (hb3.mono hsi)⟩,by simp [intOf];omega⟩
            · rw [HKJ2.out]
              exact HOI.out.below hb3
            · exact HTI.out.below hb3
        · have hjt2:j=ts.length:=by have :=HN.out;omega
          subst hjt2
          rw [List.take_length,← HKT.out] at howi
          have HOI:=Lib.hid howi
          have HBI:=Lib.hid (HB2.out.trans hbi)
          clear howi hoti
          go_wp2
          exact ⟨⟨k+1,_,rfl,hkl,by go_num,HOI.out,HBI.out⟩,by simp [intOf];omega⟩
    · have hkn:k=l.length:=by have :=HL.out;omega
      subst hkn
      rw [List.take_length] at hown
      go_wp2
      go_ret
      exact ⟨_,rfl,hown,hbw⟩
end Go.Proofs.YtmoomnpbiifedaaGreat
