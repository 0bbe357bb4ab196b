import Derived.Test.YtmoomnpbiifedaaGreatMBQ08
import Derived.Test.YtmoomnpbiifedaaGreatMBQ03
import Derived.BigCall
import Derived.BigQuiet
import Derived.Deep.QuietTactic
import Derived.Test.YtmoomnpbiifedaaGreatMBQ07
import Derived.Deep.RegionHeld3
import Derived.Deep.AppendLies
import Derived.Shelf.SlSorted.Search
import Derived.Test.YtmoomnpbiifedaaGreatMBQ05
namespace Go.Proofs.YtmoomnpbiifedaaGreat
open Go Go.RowKit
set_option linter.unusedVariables false
def WordsRel8 (l:List Fd) (s:Nm) (w1:World) (a i:Value) (wr:World):Prop:=
 a= .slice none 0 0∧∃ k:Nat,k≤l.length∧i= .int .i64 (k:Int)∧Below w1.heap.size w1 wr∧∀ j (hj:j<l.length),j<k→l[j].1≠s
set_option maxHeartbeats 1000000 in
set_option maxRecDepth 100000 in
theorem ref08_Words (id:Int) (A:Option Addr) (n c:Nat) (l:List Fd) (s:ByteArray) (w:World) (hl:l.length=n) (hr:FRow w w.heap.size A l) (hn:n≤1073741824) (ht:∀ f∈l,f.2.length≤268435456):
  Calls Tryz.prog 109 #[docV id A n c,.string s] w (GaveStrs (wordsD l s.data.toList) w):=by
 subst hl
 have HR:=Lib.hid hr
 have HT:=Lib.hid ht
 obtain ⟨ws,hws⟩:∃ ws,ws=wordsD l s.data.toList:=⟨_,rfl⟩
 rw [← hws]
 have HW:=Lib.hid hws
 clear hws hr ht
 go_enter Tryz.func109,Tryz.ntmps109
 go_wp2
 obtain ⟨w1,hw1⟩:∃ w1,w1=boxD w id A l.length c:=⟨_,rfl⟩
 have hb1:∀ wr,Below w1.heap.size w1 wr→Below w.heap.size w wr∧wr.cell? ⟨w.heap.size,0,none⟩=some (.int .i64 id)∧wr.cell? ⟨w.heap.size,1,none⟩=some (.slice A l.length c):=fun wr h=>by
  subst hw1
  exact ⟨boxD_out h,boxD_cells h⟩
 have HB1:=Lib.hid hb1
 clear hb1
 rw [show w.alloc _=w1 from hw1.symm]
 clear hw1
 go_loopw [4,5] (fun a i wr=>WordsRel8 l s.data.toList w1 a i wr) (fun _ i _=>l.length-(intOf i).toNat)
 case atStart=>exact ⟨rfl,0,by omega,rfl,Below.refl _ _,fun j _ hj=>by omega⟩
 case round=>
  obtain ⟨rfl,k,hk,rfl,hbw,hall⟩:=hrel
  obtain ⟨hb0,hc0,hc1⟩:=HB1.out _ hbw
  by_cases hlt:k<l.length
  ·obtain ⟨b1,o1,e1,_,hf1,hf2⟩:=(HR.out.below hb0).at_ hlt
   subst e1
   have ht8:=HT.out _ (List.getElem_mem hlt)
   obtain ⟨x,hx,hx2⟩:=as_text l[k].1
   obtain ⟨y,hy,hy2⟩:=as_text l[k].2
   rw [← hx] at hf1
   rw [← hy] at hf2
   have i0:(0:Int)≤k:=by omega
   have i1:(k:Int)<l.length:=by omega
   by_cases he:l[k].1=s.data.toList
   ·have t1:=same_true (s:=x) (t:=s) (by rw [hx2];exact he)
    have hys:y.size≤268435456:=by rw [hy,size_nm];omega
    have C1:=Lib.hid fun w=>ref_Words y w hys
    have hww:words y.data.toList=ws:=by rw [hy2,HW.out];exact (wordsD_at hlt hall he).symm
    rw [hww] at C1
    have HB0:=Lib.hid hb0
    clear hall he hx hx2 hy hy2 hww ht8 hb0
    go_wp2_with (go_at_call 130;refine (C1.out _).mono ?_)
    rintro e w2 ⟨v,rfl,hown,hb2⟩
    have HO:=Lib.hid hown
    have HB2:=Lib.hid hb2
    clear hown hb2
    go_wp2
    go_ret
    exact ⟨_,rfl,owned_low HO.out HB0.out.size,HB0.out.trans (HB2.out.mono HB0.out.size)⟩
   ·have t1:=same_false (s:=x) (t:=s) (by rw [hx2];exact he)
    have HN:Hid (∀ j (hj:j<l.length),j<k+1→l[j].1≠s.data.toList):=Lib.hid fun j hj hjk=>by
     by_cases e:j=k
     ·subst e;exact he
     ·exact hall j hj (by omega)
    clear hall he hx hx2 hy hy2 ht8 hb0
    go_wp2
    go_roundw
    case rel=>exact ⟨rfl,k+1,by omega,by go_num,hbw,HN.out⟩
    case measure=>simp [intOf];omega
  ·have hn0:ws=[]:=by rw [HW.out];exact wordsD_none fun j hj=>hall j hj (by omega)
   subst hn0
   have HB0:=Lib.hid hb0
   clear hall hb0
   go_wp2
   go_ret
   exact ⟨_,rfl,World.ownsRow_nil _ _ _ _,HB0.out⟩
end Go.Proofs.YtmoomnpbiifedaaGreat
namespace Go.Proofs.YtmoomnpbiifedaaGreat
open Go Go.RowKit
set_option linter.unusedVariables false
def boxT (w:World) (f x:ByteArray):World:=w.alloc (.cells #[.string f,.string x] 39)
theorem boxT_of {w wr:World} {f x:ByteArray} (h:Below (boxT w f x).heap.size (boxT w f x) wr):Below w.heap.size w wr∧wr.cell? ⟨w.heap.size,0,none⟩=some (.string f)∧wr.cell? ⟨w.heap.size,1,none⟩=some (.string x):=by
 have hb:wr.heap[w.heap.size]?=some (.cells #[.string f,.string x] 39 (0,0)):=(h.block w.heap.size (by simp [boxT])).trans (heap_alloc_new w _)
 exact ⟨((Below.refl _ w).alloc (Nat.le_refl _) _).trans (h.mono (by simp [boxT])),by simp [World.cell?,hb],by simp [World.cell?,hb]⟩
def PutGotT (base:Nat) (l:List Tm) (w:World) (e:Ending) (w':World):Prop:=∃ v,e= .returned v∧OwnTm base w' v l∧Below w.heap.size w w'
def FitsT (l:List Tm):Prop:=∀ t∈l,t.1.length≤536870912∧t.2.length≤536870912
def BackRel (l:List Tm) (t:Tm) (w1:World) (i:Value) (wr:World):Prop:=∃ k:Nat,k≤l.length∧i= .int .i64 (k:Int)∧Below w1.heap.size w1 wr∧backT l t k=backT l t l.length
set_option maxHeartbeats 4000000 in
set_option maxRecDepth 100000 in
theorem ref08_PutTerm (base:Nat) (v:Value) (l:List Tm) (f x:ByteArray) (w:World) (ho:OwnTm base w v l) (hb:base≤w.heap.size) (hl:l.length≤1048576) (hfit:FitsT l) (hf:f.size≤536870912) (hx:x.size≤536870912):
    Calls Tryz.prog 110 #[v,.agg #[.string f,.string x]] w (PutGotT base (putT l (f.data.toList,x.data.toList)) w):=by
  obtain ⟨A,c,rfl,hnc,hrow⟩:=ho.row
  have HO:=Lib.hid ho
  have HR:=Lib.hid hrow
  have HF:=Lib.hid hfit
  obtain ⟨n,hn⟩:∃ n,n=l.length:=⟨_,rfl⟩
  obtain ⟨t,ht⟩:∃ t:Tm,t=(f.data.toList,x.data.toList):=⟨_,rfl⟩
  rw [← ht]
  have HNEW:Hid (∀ w':World,FRow (w'.alloc (.cells #[.string f,.string x] 39)) (w'.alloc (.cells #[.string f,.string x] 39)).heap.size (some ⟨w'.heap.size,0,none⟩) [t]):=Lib.hid fun w'=>by rw [ht];exact frow_new w' (f.data.toList,x.data.toList) 39
  have HB1:Hid (∀ w1,w1=boxT w f x→∀ wr,Below w1.heap.size w1 wr→Below w.heap.size w wr∧wr.cell? ⟨w.heap.size,0,none⟩=some (.string f)∧wr.cell? ⟨w.heap.size,1,none⟩=some (.string x)):=Lib.hid fun w1 e wr h=>by subst e;exact boxT_of h
  have HT:=Lib.hid ht
  have HN:=Lib.hid hn
  rw [← hn] at hnc hl
  rw [← hn]
  clear ho hrow hfit ht hn
  go_enter Tryz.func110,Tryz.ntmps110
  go_wp2
  obtain ⟨w1,hw1⟩:∃ w1,w1=boxT w f x:=⟨_,rfl⟩
  have HB2:=Lib.hid (HB1.out w1 hw1)
  rw [show w.alloc _=w1 from hw1.symm]
  clear hw1 HB1
  go_loopw [5] (fun i wr=>BackRel l t w1 i wr) (fun i _=>(intOf i).toNat)
  case atStart=>exact ⟨n,by rw [HN.out];omega,rfl,Below.refl _ _,by rw [HN.out]⟩
  case round=>
    obtain ⟨k,hk,rfl,hbw,hback⟩:=hrel
    rw [← HN.out] at hk
    obtain ⟨hb0,a0,a1⟩:=HB2.out _ hbw
    by_cases hk0:k=0
    · subst hk0
      have HB0:=Lib.hid hb0
      have HBK:Hid (backT l t l.length=0):=Lib.hid (by rw [← hback];rfl)
      have HE:Hid (putT l t=l.take 0++t::l.drop 0):=Lib.hid (by rw [putT,HBK.out];simp [hereT])
      have HTL:Hid ((l.take 0).length=0):=Lib.hid (by simp)
      have HDL:Hid ((l.drop 0).length=n):=Lib.hid (by rw [HN.out];simp)
      have HLE2:Hid (([]++l.take 0).length+1≤1073741824):=Lib.hid (by simp)
      have HLE3:Hid (([]++l.take 0++[t]).length+n≤1073741824):=Lib.hid (by simp;omega)
      have HRT:Hid (FRow w w.heap.size A (l.take 0)):=Lib.hid (HR.out.cut 0)
      have HRD:Hid (FRow w w.heap.size A (l.drop 0)):=Lib.hid (by simpa using HR.out)
      clear hback hb0
      rcases HO.out.2 with ⟨h0,hn0⟩|⟨g,cap,cur,hv,_⟩
      · injection h0 with hA h0 hc
        have hn0':n=0:=by rw [HN.out];exact hn0
        clear hn0 h0
        subst hA hc hn0'
        go_wp2
        go_quiet (fail)
        obtain ⟨wq,hwq,hb0,a0,a1⟩:∃ wq,wq=wr.drewN nq∧Below w.heap.size w wq∧wq.cell? ⟨w.heap.size,0,none⟩=some (.string f)∧wq.cell? ⟨w.heap.size,1,none⟩=some (.string x):=⟨_,rfl,HB0.out.trans ((drewN_below _ _).mono HB0.out.size),a0,a1⟩
        rw [← hwq]
        have HBQ:=Lib.hid hb0
        clear hwq hb0 hbw
        go_wp2
        go_quiet (fail)
        obtain ⟨wt,hwt,hbx,a0,a1⟩:∃ wt,wt=wq.drewN nq∧Below w.heap.size w wt∧wt.cell? ⟨w.heap.size,0,none⟩=some (.string f)∧wt.cell? ⟨w.heap.size,1,none⟩=some (.string x):=⟨_,rfl,HBQ.out.trans ((drewN_below _ _).mono HBQ.out.size),a0,a1⟩
        rw [← hwt]
        have HBX:=Lib.hid hbx
        have HLTB:Hid (w.heap.size<wt.heap.size):=Lib.hid (World.block_lt_of_cell? wt _ a0)
        clear hwt hbx
        go_wp2_with (first
          | (at_builtin; refine wpList_append_tm _ rfl (.tmp 36) (.tmp 39) rfl wt.heap.size _ [] rfl OwnTm.nil _ 0 _ (l.take 0) rfl HTL.out ((HRT.out).later HBX.out) (by simp <;> omega) (Nat.le_refl _) ?_
             intro v1 w2 ho2 hb2
             have HO2:=Lib.hid ho2
             have HB2':=Lib.hid hb2
             have a0:=(hb2.cell (p:=⟨w.heap.size,0,none⟩) HLTB.out).trans a0
             have a1:=(hb2.cell (p:=⟨w.heap.size,1,none⟩) HLTB.out).trans a1
             clear ho2 hb2)
          | (at_builtin; refine wpList_append_tm _ rfl (.tmp 41) (.tmp 43) rfl wt.heap.size _ ([] ++ l.take 0) rfl (HO2.out.below ((Below.refl _ _).alloc (Nat.le_refl _) _)) _ 1 1 [t] rfl rfl (HNEW.out _) HLE2.out (by have := HB2'.out.size; simp; omega) ?_
             intro v2 w3 ho3 hb3
             have HO3:=Lib.hid ho3
             have HB3:=Lib.hid (HB2'.out.trans (((Below.refl _ _).alloc (Nat.le_refl _) _).mono HB2'.out.size |>.trans hb3))
             clear ho3 hb3)
          | (at_builtin; refine wpList_append_tm _ rfl (.tmp 45) (.tmp 48) rfl wt.heap.size _ ([] ++ l.take 0 ++ [t]) rfl HO3.out _ _ _ (l.drop 0) rfl (by have := HDL.out; omega) ((HRD.out).later (HBX.out.trans (HB3.out.mono HBX.out.size))) (by have := HLE3.out; omega) HB3.out.size ?_
             intro v3 w4 ho4 hb4
             have HO4:=Lib.hid ho4
             have HB4:=Lib.hid (HB3.out.trans hb4)
             clear ho4 hb4))
        go_ret
        refine ⟨_,rfl,?_,HBX.out.trans (HB4.out.mono HBX.out.size)⟩
        rw [HE.out]
        exact (by simpa using HO4.out:OwnTm wt.heap.size w4 v3 _).low (Nat.le_trans hb HBX.out.size)
      · injection hv with hA h0 hc
        subst hA
        clear h0 hc
        by_cases hc0:c=0
        · have hn0':n=0:=by omega
          subst hc0 hn0'
          go_wp2
          go_quiet (fail)
          obtain ⟨wq,hwq,hb0,a0,a1⟩:∃ wq,wq=wr.drewN nq∧Below w.heap.size w wq∧wq.cell? ⟨w.heap.size,0,none⟩=some (.string f)∧wq.cell? ⟨w.heap.size,1,none⟩=some (.string x):=⟨_,rfl,HB0.out.trans ((drewN_below _ _).mono HB0.out.size),a0,a1⟩
          rw [← hwq]
          have HBQ:=Lib.hid hb0
          clear hwq hb0 hbw
          go_wp2
          go_quiet (fail)
          obtain ⟨wt,hwt,hbx,a0,a1⟩:∃ wt,wt=wq.drewN nq∧Below w.heap.size w wt∧wt.cell? ⟨w.heap.size,0,none⟩=some (.string f)∧wt.cell? ⟨w.heap.size,1,none⟩=some (.string x):=⟨_,rfl,HBQ.out.trans ((drewN_below _ _).mono HBQ.out.size),a0,a1⟩
          rw [← hwt]
          have HBX:=Lib.hid hbx
          have HLTB:Hid (w.heap.size<wt.heap.size):=Lib.hid (World.block_lt_of_cell? wt _ a0)
          clear hwt hbx
          go_wp2_with (first
            | (at_builtin; refine wpList_append_tm _ rfl (.tmp 36) (.tmp 39) rfl wt.heap.size _ [] rfl OwnTm.nil _ 0 _ (l.take 0) rfl HTL.out ((HRT.out).later HBX.out) (by simp <;> omega) (Nat.le_refl _) ?_
               intro v1 w2 ho2 hb2
               have HO2:=Lib.hid ho2
               have HB2':=Lib.hid hb2
               have a0:=(hb2.cell (p:=⟨w.heap.size,0,none⟩) HLTB.out).trans a0
               have a1:=(hb2.cell (p:=⟨w.heap.size,1,none⟩) HLTB.out).trans a1
               clear ho2 hb2)
            | (at_builtin; refine wpList_append_tm _ rfl (.tmp 41) (.tmp 43) rfl wt.heap.size _ ([] ++ l.take 0) rfl (HO2.out.below ((Below.refl _ _).alloc (Nat.le_refl _) _)) _ 1 1 [t] rfl rfl (HNEW.out _) HLE2.out (by have := HB2'.out.size; simp; omega) ?_
               intro v2 w3 ho3 hb3
               have HO3:=Lib.hid ho3
               have HB3:=Lib.hid (HB2'.out.trans (((Below.refl _ _).alloc (Nat.le_refl _) _).mono HB2'.out.size |>.trans hb3))
               clear ho3 hb3)
            | (at_builtin; refine wpList_append_tm _ rfl (.tmp 45) (.tmp 48) rfl wt.heap.size _ ([] ++ l.take 0 ++ [t]) rfl HO3.out _ _ _ (l.drop 0) rfl (by have := HDL.out; omega) ((HRD.out).later (HBX.out.trans (HB3.out.mono HBX.out.size))) (by have := HLE3.out; omega) HB3.out.size ?_
               intro v3 w4 ho4 hb4
               have HO4:=Lib.hid ho4
               have HB4:=Lib.hid (HB3.out.trans hb4)
               clear ho4 hb4))
          go_ret
          refine ⟨_,rfl,?_,HBX.out.trans (HB4.out.mono HBX.out.size)⟩
          rw [HE.out]
          exact (by simpa using HO4.out:OwnTm wt.heap.size w4 v3 _).low (Nat.le_trans hb HBX.out.size)
        · have hc1:0<c:=by omega
          go_wp2
          go_quiet (fail)
          obtain ⟨wq,hwq,hb0,a0,a1⟩:∃ wq,wq=wr.drewN nq∧Below w.heap.size w wq∧wq.cell? ⟨w.heap.size,0,none⟩=some (.string f)∧wq.cell? ⟨w.heap.size,1,none⟩=some (.string x):=⟨_,rfl,HB0.out.trans ((drewN_below _ _).mono HB0.out.size),a0,a1⟩
          rw [← hwq]
          have HBQ:=Lib.hid hb0
          clear hwq hb0 hbw
          go_wp2
          go_quiet (fail)
          obtain ⟨wt,hwt,hbx,a0,a1⟩:∃ wt,wt=wq.drewN nq∧Below w.heap.size w wt∧wt.cell? ⟨w.heap.size,0,none⟩=some (.string f)∧wt.cell? ⟨w.heap.size,1,none⟩=some (.string x):=⟨_,rfl,HBQ.out.trans ((drewN_below _ _).mono HBQ.out.size),a0,a1⟩
          rw [← hwt]
          have HBX:=Lib.hid hbx
          have HLTB:Hid (w.heap.size<wt.heap.size):=Lib.hid (World.block_lt_of_cell? wt _ a0)
          clear hwt hbx
          go_wp2_with (first
            | (at_builtin; refine wpList_append_tm _ rfl (.tmp 36) (.tmp 39) rfl wt.heap.size _ [] rfl OwnTm.nil _ 0 _ (l.take 0) rfl HTL.out ((HRT.out).later HBX.out) (by simp <;> omega) (Nat.le_refl _) ?_
               intro v1 w2 ho2 hb2
               have HO2:=Lib.hid ho2
               have HB2':=Lib.hid hb2
               have a0:=(hb2.cell (p:=⟨w.heap.size,0,none⟩) HLTB.out).trans a0
               have a1:=(hb2.cell (p:=⟨w.heap.size,1,none⟩) HLTB.out).trans a1
               clear ho2 hb2)
            | (at_builtin; refine wpList_append_tm _ rfl (.tmp 41) (.tmp 43) rfl wt.heap.size _ ([] ++ l.take 0) rfl (HO2.out.below ((Below.refl _ _).alloc (Nat.le_refl _) _)) _ 1 1 [t] rfl rfl (HNEW.out _) HLE2.out (by have := HB2'.out.size; simp; omega) ?_
               intro v2 w3 ho3 hb3
               have HO3:=Lib.hid ho3
               have HB3:=Lib.hid (HB2'.out.trans (((Below.refl _ _).alloc (Nat.le_refl _) _).mono HB2'.out.size |>.trans hb3))
               clear ho3 hb3)
            | (at_builtin; refine wpList_append_tm _ rfl (.tmp 45) (.tmp 48) rfl wt.heap.size _ ([] ++ l.take 0 ++ [t]) rfl HO3.out _ _ _ (l.drop 0) rfl (by have := HDL.out; omega) ((HRD.out).later (HBX.out.trans (HB3.out.mono HBX.out.size))) (by have := HLE3.out; omega) HB3.out.size ?_
               intro v3 w4 ho4 hb4
               have HO4:=Lib.hid ho4
               have HB4:=Lib.hid (HB3.out.trans hb4)
               clear ho4 hb4))
          go_ret
          refine ⟨_,rfl,?_,HBX.out.trans (HB4.out.mono HBX.out.size)⟩
          rw [HE.out]
          exact (by simpa using HO4.out:OwnTm wt.heap.size w4 v3 _).low (Nat.le_trans hb HBX.out.size)
    · obtain ⟨j,rfl⟩:∃ j,k=j+1:=⟨k-1,by omega⟩
      have hjl:j<l.length:=by have :=HN.out;omega
      obtain ⟨b1,o1,e1,hb1,hc1,hc2⟩:=HR.out.at_ hjl
      subst e1
      have hfj:=HF.out _ (List.getElem_mem hjl)
      obtain ⟨y,hy,hy2⟩:=as_text l[j].1
      obtain ⟨z,hz,hz2⟩:=as_text l[j].2
      rw [← hy] at hc1
      rw [← hz] at hc2
      have hsy:y.size≤1073741824:=by rw [hy,size_nm];omega
      have hsz:z.size≤1073741824:=by rw [hz,size_nm];omega
      have C1:Hid (∀ w',Calls Tryz.prog 41 #[.agg #[.string f,.string x]] w' fun e w''=>e= .returned (.string (keyB f x))∧Below w'.heap.size w' w''):=Lib.hid fun w'=>ref_Key f x w' (by omega) (by omega)
      have C2:Hid (∀ w',Calls Tryz.prog 41 #[.agg #[.string y,.string z]] w' fun e w''=>e= .returned (.string (keyB y z))∧Below w'.heap.size w' w''):=Lib.hid fun w'=>ref_Key y z w' (by omega) (by omega)
      have HK1:Hid ((keyB f x).data.toList=keyT t):=Lib.hid (by rw [keyB_list,HT.out];rfl)
      have HK2:Hid ((keyB y z).data.toList=keyT (atT l j)):=Lib.hid (by rw [keyB_list,hy2,hz2,atT_lt hjl];rfl)
      obtain ⟨K1,hK1⟩:∃ K1,K1=keyB f x:=⟨_,rfl⟩
      obtain ⟨K2,hK2⟩:∃ K2,K2=keyB y z:=⟨_,rfl⟩
      rw [← hK1] at C1 HK1
      rw [← hK2] at C2 HK2
      have HYZ:Hid (l[j]=(y.data.toList,z.data.toList)):=Lib.hid (by rw [hy2,hz2])
      have i0:(0:Int)<((j+1:Nat):Int):=by omega
      have d0:decide ((0:Int)<((j+1:Nat):Int))=true:=decide_eq_true (by omega)
      have d1:decide (0<j+1)=true:=decide_eq_true (by omega)
      have i1:IntKind.i64.wrap (((j+1:Nat):Int)-1)=(j:Int):=by rw [IntWalk.i64_in _ (by omega)];omega
      have i2:(0:Int)≤j:=by omega
      have i3:(j:Int)<n:=by omega
      have HSS:Hid (∀ w',Below w1.heap.size wr w'→Below w.heap.size w w'∧w'.cell? ⟨w.heap.size,0,none⟩=some (.string f)∧w'.cell? ⟨w.heap.size,1,none⟩=some (.string x)∧w'.cell? ⟨b1,o1+j*2,none⟩=some (.string y)∧w'.cell? ⟨b1,o1+j*2+1,none⟩=some (.string z)):=Lib.hid fun w' h=>by
        have h2:=HB2.out _ (hbw.trans h)
        exact ⟨h2.1,h2.2.1,h2.2.2,(h2.1.cell (p:=⟨b1,o1+j*2,none⟩) hb1).trans hc1,(h2.1.cell (p:=⟨b1,o1+j*2+1,none⟩) hb1).trans hc2⟩
      obtain ⟨hb0,a0,a1,hc1,hc2⟩:=HSS.out _ (Below.refl _ _)
      have hszr:=hbw.size
      have HBW:=Lib.hid hbw
      have HBA:=Lib.hid hback
      obtain ⟨k1,hk1⟩:∃ k1,k1=j+1:=⟨_,rfl⟩
      rw [← hk1] at i0 i1 hk d0 d1
      rw [← hk1]
      have HKJ:=Lib.hid hk1
      clear hfj hy hz hy2 hz2 hK1 hK2 hsy hsz hb0 hbw hback hk1 hk0
      by_cases hless:keyT t<keyT (atT l j)
      · have t1:=less_true (s:=K1) (t:=K2) (by rw [HK1.out,HK2.out];exact hless)
        have HBK:Hid (backT l t j=backT l t l.length):=Lib.hid (by rw [← HBA.out,backT,if_pos hless])
        clear hless
        go_wp2
        go_region_held3 (fun w'=>w'.cell? ⟨w.heap.size,0,none⟩=some (.string f)∧w'.cell? ⟨w.heap.size,1,none⟩=some (.string x)∧w'.cell? ⟨b1,o1+j*2,none⟩=some (.string y)∧w'.cell? ⟨b1,o1+j*2+1,none⟩=some (.string z))
          (first|exact (HSS.out _ (Below.refl _ _).drew).2|exact (HSS.out _ HBA1.out).2|exact (HSS.out _ HBA2.out).2)
          (first
            | (go_at_call 41; (with_reducible refine (C1.out _).mono ?_); rintro e w4 ⟨rfl, hb4⟩
               have HBA1:Hid (Below w1.heap.size wr w4):=Lib.hid (((Below.refl _ wr).drew.trans hb4).mono hszr)
               clear hb4)
            | (go_at_call 41; (with_reducible refine (C2.out _).mono ?_); rintro e w5 ⟨rfl, hb5⟩
               have HBA2:Hid (Below w1.heap.size wr w5):=Lib.hid (HBA1.out.trans (hb5.mono (Nat.le_trans hszr HBA1.out.size)))
               clear hb5))
        all_goals
          go_wp2
          exact ⟨⟨j,by omega,rfl,HBW.out.trans HBA2.out,HBK.out⟩,by have :=HKJ.out;simp [intOf];omega⟩
      · have t1:=less_false (s:=K1) (t:=K2) (by rw [HK1.out,HK2.out];exact hless)
        have HBK:Hid (backT l t l.length=k1):=Lib.hid (by rw [← HBA.out,HKJ.out,backT,if_neg hless])
        clear hless
        by_cases he:atT l j=t
        · have hel:(y.data.toList,z.data.toList)=(f.data.toList,x.data.toList):=by rw [← HYZ.out,← atT_lt hjl,he,HT.out]
          have t2:=same_true (s:=y) (t:=f) (congrArg Prod.fst hel)
          have t3:=same_true (s:=z) (t:=x) (congrArg Prod.snd hel)
          have HE:Hid (putT l t=l):=Lib.hid (by
            rw [putT,HBK.out,hereT,show k1-1=j by have :=HKJ.out;omega,decide_eq_true he,decide_eq_true (show 0<k1 by omega)]
            rfl)
          clear he hel
          go_wp2
          go_region_held3 (fun w'=>w'.cell? ⟨w.heap.size,0,none⟩=some (.string f)∧w'.cell? ⟨w.heap.size,1,none⟩=some (.string x)∧w'.cell? ⟨b1,o1+j*2,none⟩=some (.string y)∧w'.cell? ⟨b1,o1+j*2+1,none⟩=some (.string z))
            (first|exact (HSS.out _ (Below.refl _ _).drew).2|exact (HSS.out _ HBA1.out).2|exact (HSS.out _ HBA2.out).2)
            (first
              | (go_at_call 41; (with_reducible refine (C1.out _).mono ?_); rintro e w4 ⟨rfl, hb4⟩
                 have HBA1:Hid (Below w1.heap.size wr w4):=Lib.hid (((Below.refl _ wr).drew.trans hb4).mono hszr)
                 clear hb4)
              | (go_at_call 41; (with_reducible refine (C2.out _).mono ?_); rintro e w5 ⟨rfl, hb5⟩
                 have HBA2:Hid (Below w1.heap.size wr w5):=Lib.hid (HBA1.out.trans (hb5.mono (Nat.le_trans hszr HBA1.out.size)))
                 clear hb5))
          all_goals
            go_wp2
            have HBQ:Hid (Below w.heap.size w w5):=Lib.hid (HSS.out _ HBA2.out).1
            obtain ⟨_,a0,a1,c1,c2⟩:=HSS.out _ HBA2.out
            go_quiet (fail)
            obtain ⟨wt,hwt,hbx,a0,a1⟩:∃ wt,wt=w5.drewN nq∧Below w.heap.size w wt∧wt.cell? ⟨w.heap.size,0,none⟩=some (.string f)∧wt.cell? ⟨w.heap.size,1,none⟩=some (.string x):=⟨_,rfl,HBQ.out.trans ((drewN_below _ _).mono HBQ.out.size),a0,a1⟩
            rw [← hwt]
            have HBX:=Lib.hid hbx
            have HLTB:Hid (w.heap.size<wt.heap.size):=Lib.hid (World.block_lt_of_cell? wt _ a0)
            clear hwt hbx
            go_wp2
            go_ret
            refine ⟨_,rfl,?_,HBX.out⟩
            rw [HE.out,HN.out]
            exact HO.out.below HBX.out
        · have hel:¬ ((y.data.toList,z.data.toList)=(f.data.toList,x.data.toList)):=fun h=>he (by rw [atT_lt hjl,HYZ.out,h,HT.out])
          have ht:(y.toList==f.toList)=false∨(y.toList==f.toList)=true∧(z.toList==x.toList)=false:=by
            by_cases h1:y.data.toList=f.data.toList
            · exact .inr ⟨same_true h1,same_false fun h2=>hel (Prod.ext h1 h2)⟩
            · exact .inl (same_false h1)
          have HE:Hid (putT l t=l.take k1++t::l.drop k1):=Lib.hid (by
            rw [putT,HBK.out,hereT,show k1-1=j by have :=HKJ.out;omega,decide_eq_false he,Bool.and_false]
            rfl)
          have HTL:Hid ((l.take k1).length=k1):=Lib.hid (by rw [List.length_take,← HN.out];omega)
          have HDL:Hid ((l.drop k1).length=n-k1):=Lib.hid (by rw [List.length_drop,← HN.out])
          have HLE2:Hid (([]++l.take k1).length+1≤1073741824):=Lib.hid (by have :=HTL.out;simp only [List.nil_append];omega)
          have HLE3:Hid (([]++l.take k1++[t]).length+(n-k1)≤1073741824):=Lib.hid (by have :=HTL.out;simp only [List.nil_append,List.length_append,List.length_singleton];omega)
          have HRT:Hid (FRow w w.heap.size (some ⟨b1,o1,none⟩) (l.take k1)):=Lib.hid (HR.out.cut k1)
          clear he hel
          by_cases hck:c=k1
          · have hnk:n=k1:=by omega
            have HRD:Hid (∀ A,FRow w w.heap.size A (l.drop k1)):=Lib.hid fun A=> .inl (by rw [List.drop_of_length_le (by rw [← HN.out];omega)];rfl)
            subst hck
            subst hnk
            rcases ht with t2|⟨t2,t3⟩
            all_goals
              go_wp2
              go_region_held3 (fun w'=>w'.cell? ⟨w.heap.size,0,none⟩=some (.string f)∧w'.cell? ⟨w.heap.size,1,none⟩=some (.string x)∧w'.cell? ⟨b1,o1+j*2,none⟩=some (.string y)∧w'.cell? ⟨b1,o1+j*2+1,none⟩=some (.string z))
                (first|exact (HSS.out _ (Below.refl _ _).drew).2|exact (HSS.out _ HBA1.out).2|exact (HSS.out _ HBA2.out).2)
                (first
                  | (go_at_call 41; (with_reducible refine (C1.out _).mono ?_); rintro e w4 ⟨rfl, hb4⟩
                     have HBA1:Hid (Below w1.heap.size wr w4):=Lib.hid (((Below.refl _ wr).drew.trans hb4).mono hszr)
                     clear hb4)
                  | (go_at_call 41; (with_reducible refine (C2.out _).mono ?_); rintro e w5 ⟨rfl, hb5⟩
                     have HBA2:Hid (Below w1.heap.size wr w5):=Lib.hid (HBA1.out.trans (hb5.mono (Nat.le_trans hszr HBA1.out.size)))
                     clear hb5))
              all_goals
                go_wp2
                have HBQ:Hid (Below w.heap.size w w5):=Lib.hid (HSS.out _ HBA2.out).1
                obtain ⟨_,a0,a1,c1,c2⟩:=HSS.out _ HBA2.out
                go_quiet (fail)
                obtain ⟨wt,hwt,hbx,a0,a1⟩:∃ wt,wt=w5.drewN nq∧Below w.heap.size w wt∧wt.cell? ⟨w.heap.size,0,none⟩=some (.string f)∧wt.cell? ⟨w.heap.size,1,none⟩=some (.string x):=⟨_,rfl,HBQ.out.trans ((drewN_below _ _).mono HBQ.out.size),a0,a1⟩
                rw [← hwt]
                have HBX:=Lib.hid hbx
                have HLTB:Hid (w.heap.size<wt.heap.size):=Lib.hid (World.block_lt_of_cell? wt _ a0)
                clear hwt hbx
                go_wp2_with (first
                  | (at_builtin; refine wpList_append_tm _ rfl (.tmp 36) (.tmp 39) rfl wt.heap.size _ [] rfl OwnTm.nil _ n _ (l.take n) rfl HTL.out ((HRT.out).later HBX.out) (by simp <;> omega) (Nat.le_refl _) ?_
                     intro v1 w2 ho2 hb2
                     have HO2:=Lib.hid ho2
                     have HB2':=Lib.hid hb2
                     have a0:=(hb2.cell (p:=⟨w.heap.size,0,none⟩) HLTB.out).trans a0
                     have a1:=(hb2.cell (p:=⟨w.heap.size,1,none⟩) HLTB.out).trans a1
                     clear ho2 hb2)
                  | (at_builtin; refine wpList_append_tm _ rfl (.tmp 41) (.tmp 43) rfl wt.heap.size _ ([] ++ l.take n) rfl (HO2.out.below ((Below.refl _ _).alloc (Nat.le_refl _) _)) _ 1 1 [t] rfl rfl (HNEW.out _) HLE2.out (by have := HB2'.out.size; simp; omega) ?_
                     intro v2 w3 ho3 hb3
                     have HO3:=Lib.hid ho3
                     have HB3:=Lib.hid (HB2'.out.trans (((Below.refl _ _).alloc (Nat.le_refl _) _).mono HB2'.out.size |>.trans hb3))
                     clear ho3 hb3)
                  | (at_builtin; refine wpList_append_tm _ rfl (.tmp 45) (.tmp 48) rfl wt.heap.size _ ([] ++ l.take n ++ [t]) rfl HO3.out _ _ _ (l.drop n) rfl (by have := HDL.out; omega) (((HRD.out _)).later (HBX.out.trans (HB3.out.mono HBX.out.size))) (by have := HLE3.out; omega) HB3.out.size ?_
                     intro v3 w4 ho4 hb4
                     have HO4:=Lib.hid ho4
                     have HB4:=Lib.hid (HB3.out.trans hb4)
                     clear ho4 hb4))
                go_ret
                refine ⟨_,rfl,?_,HBX.out.trans (HB4.out.mono HBX.out.size)⟩
                rw [HE.out]
                exact (by simpa using HO4.out:OwnTm wt.heap.size w4 v3 _).low (Nat.le_trans hb HBX.out.size)
          · have HRD:Hid (FRow w w.heap.size (some ⟨b1,o1+k1*2,none⟩) (l.drop k1)):=Lib.hid (HR.out.dropped k1)
            have hck1:k1<c:=by omega
            rcases ht with t2|⟨t2,t3⟩
            all_goals
              go_wp2
              go_region_held3 (fun w'=>w'.cell? ⟨w.heap.size,0,none⟩=some (.string f)∧w'.cell? ⟨w.heap.size,1,none⟩=some (.string x)∧w'.cell? ⟨b1,o1+j*2,none⟩=some (.string y)∧w'.cell? ⟨b1,o1+j*2+1,none⟩=some (.string z))
                (first|exact (HSS.out _ (Below.refl _ _).drew).2|exact (HSS.out _ HBA1.out).2|exact (HSS.out _ HBA2.out).2)
                (first
                  | (go_at_call 41; (with_reducible refine (C1.out _).mono ?_); rintro e w4 ⟨rfl, hb4⟩
                     have HBA1:Hid (Below w1.heap.size wr w4):=Lib.hid (((Below.refl _ wr).drew.trans hb4).mono hszr)
                     clear hb4)
                  | (go_at_call 41; (with_reducible refine (C2.out _).mono ?_); rintro e w5 ⟨rfl, hb5⟩
                     have HBA2:Hid (Below w1.heap.size wr w5):=Lib.hid (HBA1.out.trans (hb5.mono (Nat.le_trans hszr HBA1.out.size)))
                     clear hb5))
              all_goals
                go_wp2
                have HBQ:Hid (Below w.heap.size w w5):=Lib.hid (HSS.out _ HBA2.out).1
                obtain ⟨_,a0,a1,c1,c2⟩:=HSS.out _ HBA2.out
                go_quiet (fail)
                obtain ⟨wt,hwt,hbx,a0,a1⟩:∃ wt,wt=w5.drewN nq∧Below w.heap.size w wt∧wt.cell? ⟨w.heap.size,0,none⟩=some (.string f)∧wt.cell? ⟨w.heap.size,1,none⟩=some (.string x):=⟨_,rfl,HBQ.out.trans ((drewN_below _ _).mono HBQ.out.size),a0,a1⟩
                rw [← hwt]
                have HBX:=Lib.hid hbx
                have HLTB:Hid (w.heap.size<wt.heap.size):=Lib.hid (World.block_lt_of_cell? wt _ a0)
                clear hwt hbx
                go_wp2_with (first
                  | (at_builtin; refine wpList_append_tm _ rfl (.tmp 36) (.tmp 39) rfl wt.heap.size _ [] rfl OwnTm.nil _ k1 _ (l.take k1) rfl HTL.out ((HRT.out).later HBX.out) (by simp <;> omega) (Nat.le_refl _) ?_
                     intro v1 w2 ho2 hb2
                     have HO2:=Lib.hid ho2
                     have HB2':=Lib.hid hb2
                     have a0:=(hb2.cell (p:=⟨w.heap.size,0,none⟩) HLTB.out).trans a0
                     have a1:=(hb2.cell (p:=⟨w.heap.size,1,none⟩) HLTB.out).trans a1
                     clear ho2 hb2)
                  | (at_builtin; refine wpList_append_tm _ rfl (.tmp 41) (.tmp 43) rfl wt.heap.size _ ([] ++ l.take k1) rfl (HO2.out.below ((Below.refl _ _).alloc (Nat.le_refl _) _)) _ 1 1 [t] rfl rfl (HNEW.out _) HLE2.out (by have := HB2'.out.size; simp; omega) ?_
                     intro v2 w3 ho3 hb3
                     have HO3:=Lib.hid ho3
                     have HB3:=Lib.hid (HB2'.out.trans (((Below.refl _ _).alloc (Nat.le_refl _) _).mono HB2'.out.size |>.trans hb3))
                     clear ho3 hb3)
                  | (at_builtin; refine wpList_append_tm _ rfl (.tmp 45) (.tmp 48) rfl wt.heap.size _ ([] ++ l.take k1 ++ [t]) rfl HO3.out _ _ _ (l.drop k1) rfl (by have := HDL.out; omega) ((HRD.out).later (HBX.out.trans (HB3.out.mono HBX.out.size))) (by have := HLE3.out; omega) HB3.out.size ?_
                     intro v3 w4 ho4 hb4
                     have HO4:=Lib.hid ho4
                     have HB4:=Lib.hid (HB3.out.trans hb4)
                     clear ho4 hb4))
                go_ret
                refine ⟨_,rfl,?_,HBX.out.trans (HB4.out.mono HBX.out.size)⟩
                rw [HE.out]
                exact (by simpa using HO4.out:OwnTm wt.heap.size w4 v3 _).low (Nat.le_trans hb HBX.out.size)
end Go.Proofs.YtmoomnpbiifedaaGreat
namespace Go.Proofs.YtmoomnpbiifedaaGreat
open Go Go.RowKit
set_option linter.unusedVariables false
def boxDT (w:World) (id:Int) (A:Option Addr) (n c:Nat) (f x:ByteArray):World:=(boxD w id A n c).alloc (.cells #[.string f,.string x] 39)
theorem boxDT_size (w:World) (id:Int) (A:Option Addr) (n c:Nat) (f x:ByteArray):(boxDT w id A n c f x).heap.size=w.heap.size+2:=by simp [boxDT,boxD]
theorem boxDT_of {w wr:World} {id:Int} {A:Option Addr} {n c:Nat} {f x:ByteArray} (h:Below (boxDT w id A n c f x).heap.size (boxDT w id A n c f x) wr):
  Below w.heap.size w wr∧wr.cell? ⟨w.heap.size,0,none⟩=some (.int .i64 id)∧wr.cell? ⟨w.heap.size,1,none⟩=some (.slice A n c)∧wr.cell? ⟨w.heap.size+1,0,none⟩=some (.string f)∧wr.cell? ⟨w.heap.size+1,1,none⟩=some (.string x):=by
 have hs:=boxDT_size w id A n c f x
 have h0:Below (boxD w id A n c).heap.size (boxD w id A n c) (boxDT w id A n c f x):=(Below.refl _ _).alloc (Nat.le_refl _) _
 have h1:Below (boxD w id A n c).heap.size (boxD w id A n c) wr:=h0.trans (h.mono (by rw [hs,boxD_size];omega))
 have hb:wr.heap[w.heap.size+1]?=some (.cells #[.string f,.string x] 39 (0,0)):=(h.block (w.heap.size+1) (by omega)).trans (by have :=heap_alloc_new (boxD w id A n c) (.cells #[.string f,.string x] 39);rwa [boxD_size] at this)
 obtain ⟨c0,c1⟩:=boxD_cells h1
 exact ⟨boxD_out h1,c0,c1,by simp [World.cell?,hb],by simp [World.cell?,hb]⟩
theorem boxDT_below (w:World) (id:Int) (A:Option Addr) (n c:Nat) (f x:ByteArray):Below w.heap.size w (boxDT w id A n c f x):=(boxD_below w id A n c).alloc (by simp [boxD]) _
end Go.Proofs.YtmoomnpbiifedaaGreat
namespace Go.Proofs.YtmoomnpbiifedaaGreat
open Go Go.RowKit
set_option linter.unusedVariables false
def PlacesRel8 (l:List Nm) (x:Nm) (all:List Int) (w1:World) (o i:Value) (wr:World):Prop:=
 ∃ (k:Nat) (out:List Int) (vo:Value),vo=o∧k≤l.length∧i= .int .i64 (k:Int)∧out.length≤k∧wr.ownsRow w1.heap.size 3 1 o out.length (ints out)∧Below w1.heap.size w1 wr∧out++placesW k (l.drop k) x=all
set_option maxHeartbeats 2000000 in
set_option maxRecDepth 100000 in
theorem ref08_Places (id:Int) (A:Option Addr) (n c:Nat) (l:List Fd) (f x:ByteArray) (w:World) (hl:l.length=n) (hr:FRow w w.heap.size A l) (hn:n≤1073741824) (ht:∀ f∈l,f.2.length≤268435456) (hw:∀ s,(wordsD l s).length≤1073741824):
  Calls Tryz.prog 82 #[docV id A n c,.agg #[.string f,.string x]] w (GaveInts (placesD l (f.data.toList,x.data.toList)) w):=by
 obtain ⟨i0,hi0,hz0,hz1,hz2⟩:=info_parts info_int
 have c1:=fun w' (h:Below w.heap.size w w')=>ref08_Words id A n c l f w' hl (hr.later h) hn ht
 obtain ⟨ws,hws⟩:∃ ws,ws=wordsD l f.data.toList:=⟨_,rfl⟩
 have hwl:=hw f.data.toList
 rw [← hws] at c1 hwl
 obtain ⟨all,hall⟩:∃ all,all=placesD l (f.data.toList,x.data.toList):=⟨_,rfl⟩
 rw [← hall]
 have HALL:Hid ([]++placesW 0 (ws.drop 0) x.data.toList=all):=Lib.hid (by rw [hall,hws];rfl)
 have C1:=Lib.hid c1
 clear c1 hws hall hw ht hr hl
 go_enter Tryz.func82,Tryz.ntmps82
 go_wp2_with (go_at_call 109;refine (C1.out _ (boxDT_below w id A n c f x)).mono ?_)
 rintro e w2 ⟨v,rfl,hown,hb2⟩
 obtain ⟨A2,c2,rfl,_,hrow⟩:=owned_row hown
 have HB2:Hid (∀ wr,Below w2.heap.size w2 wr→Below w.heap.size w wr∧wr.cell? ⟨w.heap.size+1,1,none⟩=some (.string x)):=Lib.hid fun wr h=>by
  have :=boxDT_of (hb2.trans (h.mono hb2.size))
  exact ⟨this.1,this.2.2.2.2⟩
 have HR:=Lib.hid hrow
 clear hb2 hown hrow
 go_wp2
 go_loopw [5,7] (fun o i wr=>PlacesRel8 ws x.data.toList all w2 o i wr) (fun _ i _=>ws.length-(intOf i).toNat)
 case atStart=>exact ⟨0,[],_,rfl,by omega,rfl,by simp,World.ownsRow_nil _ _ _ _,Below.refl _ _,HALL.out⟩
 case round=>
  obtain ⟨k,out,vo,rfl,hk,rfl,hok,hout,hbw,hgo⟩:=hrel
  obtain ⟨hb0,hcx⟩:=HB2.out _ hbw
  by_cases hlt:k<ws.length
  ·obtain ⟨b1,o1,e1,_,hc1⟩:=row_nm (HR.out.below hbw) hlt
   subst e1
   rw [placesW_at hlt] at hgo
   obtain ⟨y,hy,hy2⟩:=as_text ws[k]
   rw [← hy] at hc1
   have j0:(0:Int)≤k:=by omega
   have j1:(k:Int)<ws.length:=by omega
   by_cases he:ws[k]=x.data.toList
   ·have t1:=same_true (s:=y) (t:=x) (by rw [hy2];exact he)
    rw [if_pos he] at hgo
    have HGO:Hid ((out++[(k:Int)])++placesW (k+1) (ws.drop (k+1)) x.data.toList=all):=Lib.hid (by rw [← hgo];simp)
    clear he hy hy2 hgo hb0
    go_wp2
    go_quiet (fail)
    go_wp2_with (at_builtin;refine wpList_append_own _ rfl (.tmp 25) (.tmp 27) 22 rfl w2.heap.size 3 i0 _ 1 8 Tryz.underlying22 hi0 hz0 hz1 hz2 rfl (by omega) _ out.length (ints out) rfl ((owned_below hout (drewN_below _ _)).alloc _) ⟨_,0,none⟩ 1 1 [.int .i64 k] rfl rfl (news_at _ [.int .i64 k] 3) (by intro u hu;simp at hu;subst hu;rfl) (by unfold maxLen;omega) (by omega) (by have :=hbw.size;simp;omega) ?_)
    intro v' w5 hown5 hgrow5 _
    have hbw5:=((hbw.trans ((drewN_below wr nq).mono hbw.size)).alloc (by have :=hbw.size;simp;omega) _).grown hgrow5 (by have :=hbw.size;simp;omega) (fun j hj=>(hout.lt j hj).1)
    clear hgrow5
    go_wp2
    go_roundw
    case rel=>exact ⟨k+1,out++[(k:Int)],_,rfl,by omega,by go_num,by simp;omega,by simpa [ints] using hown5,hbw5,HGO.out⟩
    case measure=>simp [intOf];omega
   ·have t1:=same_false (s:=y) (t:=x) (by rw [hy2];exact he)
    rw [if_neg he] at hgo
    have HGO:=Lib.hid hgo
    clear he hy hy2 hgo hb0
    go_wp2
    go_quiet (fail)
    go_wp2
    go_roundw
    case rel=>exact ⟨k+1,out,_,rfl,by omega,by go_num,by omega,owned_below hout (drewN_below _ _),hbw.trans ⟨rfl,rfl,rfl,Nat.le_refl _,fun _ _=>rfl⟩,HGO.out⟩
    case measure=>simp [intOf];omega
  ·have hkl:k=ws.length:=by omega
   subst hkl
   rw [List.drop_length] at hgo
   have hal:out=all:=by rw [← hgo];simp [placesW]
   subst hal
   have HB0:=Lib.hid hb0
   clear hgo hb0
   go_wp2
   go_ret
   exact ⟨_,rfl,owned_low hout (by have :=(HB2.out _ (Below.refl _ _)).1.size;omega),HB0.out⟩
end Go.Proofs.YtmoomnpbiifedaaGreat
namespace Go.Proofs.YtmoomnpbiifedaaGreat
open Go Go.RowKit
set_option linter.unusedVariables false
def putAll (a:List Tm) (s:Nm) (ws:List Nm):List Tm:=ws.foldl (fun b x=>putT b (s,x)) a
def termsUp (l:List Fd) (k:Nat):List Tm:=(l.take k).foldl (fun a f=>putAll a f.1 (wordsD l f.1)) []
theorem termsUp_succ {l:List Fd} {k:Nat} (hk:k<l.length):termsUp l (k+1)=putAll (termsUp l k) l[k].1 (wordsD l l[k].1):=by
 unfold termsUp
 rw [List.take_succ_eq_append_getElem hk,List.foldl_append]
 rfl
theorem termsUp_all (l:List Fd):termsUp l l.length=termsD l:=by rw [termsUp,List.take_length];rfl
theorem putAll_succ {a:List Tm} {s:Nm} {ws:List Nm} {m:Nat} (hm:m<ws.length):putAll a s (ws.take (m+1))=putT (putAll a s (ws.take m)) (s,ws[m]):=by
 unfold putAll
 rw [List.take_succ_eq_append_getElem hm,List.foldl_append]
 rfl
theorem putT_length (l:List Tm) (t:Tm):(putT l t).length≤l.length+1:=by
 have :=backT_le l t l.length
 unfold putT
 split
 ·omega
 ·simp only [List.length_append,List.length_take,List.length_cons,List.length_drop]
  omega
theorem putAll_length (s:Nm):∀ (ws:List Nm) (a:List Tm),(putAll a s ws).length≤a.length+ws.length
 |[],a=>Nat.le_refl _
 |x::ws,a=>by
  have h1:=putT_length a (s,x)
  have h2:=putAll_length s ws (putT a (s,x))
  simp only [List.length_cons]
  show (putAll (putT a (s,x)) s ws).length≤_
  omega
theorem termsUp_length {l:List Fd} {M:Nat} (hw:∀ s,(wordsD l s).length≤M):∀ k,k≤l.length→(termsUp l k).length≤k*M
 |0,_=>by simp [termsUp]
 |k+1,hk=>by
  have h1:=termsUp_length hw k (by omega)
  have h2:=putAll_length (l[k]'(by omega)).1 (wordsD l (l[k]'(by omega)).1) (termsUp l k)
  have h3:=hw (l[k]'(by omega)).1
  rw [termsUp_succ (by omega),Nat.succ_mul]
  omega
theorem FitsT.put {l:List Tm} {t:Tm} (h:FitsT l) (h1:t.1.length≤536870912) (h2:t.2.length≤536870912):FitsT (putT l t):=fun s hs=>by
 rcases mem_putT.1 hs with hs|rfl
 ·exact h s hs
 ·exact ⟨h1,h2⟩
theorem FitsT.all {s:Nm} (h1:s.length≤536870912):∀ {ws:List Nm} {a:List Tm},FitsT a→(∀ x∈ws,x.length≤536870912)→FitsT (putAll a s ws)
 |[],a,h,_=>h
 |x::ws,a,h,h2=>FitsT.all h1 (ws:=ws) (h.put h1 (h2 x (List.mem_cons_self ..))) fun y hy=>h2 y (List.mem_cons_of_mem _ hy)
theorem wordsD_short {l:List Fd} (ht:∀ f∈l,f.2.length≤134217728) (s:Nm):∀ x∈wordsD l s,x.length≤536870912:=by
 induction l with
 |nil=>intro x hx;cases hx
 |cons f fs ih=>
  intro x hx
  rw [wordsD] at hx
  split at hx
  ·have :=words_size hx
   have :=ht f (List.mem_cons_self ..)
   omega
  ·exact ih (fun g hg=>ht g (List.mem_cons_of_mem _ hg)) x hx
theorem termsUp_fits {l:List Fd} (ht:∀ f∈l,f.1.length≤536870912∧f.2.length≤134217728):∀ k,k≤l.length→FitsT (termsUp l k)
 |0,_=>fun t h=>by simp [termsUp] at h
 |k+1,hk=>by
  rw [termsUp_succ (by omega)]
  exact (termsUp_fits ht k (by omega)).all (ht _ (List.getElem_mem _)).1 (wordsD_short (fun f hf=>(ht f hf).2) _)
def TermsRel (l:List Fd) (w1:World) (o i:Value) (wr:World):Prop:=∃ k:Nat,k≤l.length∧i= .int .i64 (k:Int)∧OwnTm w1.heap.size wr o (termsUp l k)∧Below w1.heap.size w1 wr
def PutAllRel (a:List Tm) (s:Nm) (ws:List Nm) (base:Nat) (w2:World) (o i:Value) (wr:World):Prop:=∃ (m:Nat) (vo:Value),vo=o∧m≤ws.length∧i= .int .i64 (m:Int)∧OwnTm base wr o (putAll a s (ws.take m))∧Below w2.heap.size w2 wr
def GaveTms (l:List Tm) (w:World) (e:Ending) (w':World):Prop:=∃ v,e= .returned v∧OwnTm w.heap.size w' v l∧Below w.heap.size w w'
set_option maxHeartbeats 4000000 in
set_option maxRecDepth 100000 in
theorem ref08_Terms (id:Int) (A:Option Addr) (n c:Nat) (l:List Fd) (w:World) (hl:l.length=n) (hr:FRow w w.heap.size A l) (hn:n≤100) (ht:∀ f∈l,f.1.length≤536870912∧f.2.length≤134217728) (hw:∀ s,(wordsD l s).length≤1000):
    Calls Tryz.prog 80 #[docV id A n c] w (GaveTms (termsD l) w):=by
  have HC:Hid (∀ w' (x:ByteArray),Below w.heap.size w w'→Calls Tryz.prog 109 #[docV id A n c,.string x] w' (GaveStrs (wordsD l x.data.toList) w')):=Lib.hid fun w' x h=>ref08_Words id A n c l x w' hl (hr.later h) (by omega) (fun f hf=>by have :=(ht f hf).2;omega)
  subst hl
  have HR:=Lib.hid hr
  have HW:=Lib.hid hw
  have HT:=Lib.hid ht
  clear hr ht hw
  obtain ⟨N,hN⟩:∃ N,N=termsD l:=⟨_,rfl⟩
  rw [← hN]
  have HN:=Lib.hid hN
  clear hN
  go_enter Tryz.func80,Tryz.ntmps80
  go_wp2
  obtain ⟨w1,hw1⟩:∃ w1,w1=boxD w id A l.length c:=⟨_,rfl⟩
  have hb1:∀ wr,Below w1.heap.size w1 wr→Below w.heap.size w wr∧wr.cell? ⟨w.heap.size,0,none⟩=some (.int .i64 id)∧wr.cell? ⟨w.heap.size,1,none⟩=some (.slice A l.length c):=fun wr h=>by
    subst hw1
    exact ⟨boxD_out h,boxD_cells h⟩
  have HB1:=Lib.hid hb1
  clear hb1
  rw [show w.alloc _=w1 from hw1.symm]
  clear hw1
  go_loopw [3,4,5,6] (fun o i x y wr=>TermsRel l w1 o i wr) (fun _ i _ _ _=>l.length-(intOf i).toNat)
  case atStart=>exact ⟨0,by omega,rfl,OwnTm.nil,Below.refl _ _⟩
  case round=>
    obtain ⟨k,hk,rfl,hown,hbw⟩:=hrel
    obtain ⟨hb0,hc0,hc1⟩:=HB1.out _ hbw
    by_cases hlt:k<l.length
    · obtain ⟨b1,o1,e1,hb1,hf1,_⟩:=(HR.out.below hb0).at_ hlt
      subst e1
      obtain ⟨x,hx,hx2⟩:=as_text l[k].1
      rw [← hx] at hf1
      have C1:=Lib.hid fun w' h=>HC.out w' x h
      have i0:(0:Int)≤k:=by omega
      have i1:(k:Int)<l.length:=by omega
      have HSS:Hid (∀ w',Below w1.heap.size wr w'→w'.cell? ⟨w.heap.size,0,none⟩=some (.int .i64 id)∧w'.cell? ⟨w.heap.size,1,none⟩=some (.slice (some ⟨b1,o1,none⟩) l.length c)∧w'.cell? ⟨b1,o1+k*2,none⟩=some (.string x)):=Lib.hid fun w' h=>by
        have h2:=HB1.out _ (hbw.trans h)
        refine ⟨h2.2.1,h2.2.2,?_⟩
        have h3:=(h.mono (by have :=(HB1.out _ (Below.refl _ _)).1.size;omega:w.heap.size≤w1.heap.size)).cell (p:=⟨b1,o1+k*2,none⟩) hb1
        exact h3.trans hf1
      have hsx:x.size≤536870912:=by rw [hx,size_nm];exact (HT.out _ (List.getElem_mem hlt)).1
      have hsu:=termsUp_succ hlt
      have hfit:=termsUp_fits HT.out k (by omega)
      have hlen:=termsUp_length HW.out k (by omega)
      have hwl:=HW.out l[k].1
      have hwf:=wordsD_short (fun f hf=>(HT.out f hf).2) l[k].1
      rw [← hx2] at hsu hwl hwf
      obtain ⟨ws,hws⟩:∃ ws,ws=wordsD l x.data.toList:=⟨_,rfl⟩
      obtain ⟨a,ha⟩:∃ a,a=termsUp l k:=⟨_,rfl⟩
      rw [← hws] at C1 hsu hwl hwf
      rw [← ha] at hsu hfit hlen hown
      have hlen2:a.length≤100000:=Nat.le_trans hlen (Nat.le_trans (Nat.mul_le_mul_right _ (by omega:k≤100)) (by omega))
      have HSU:=Lib.hid hsu
      have HFIT:=Lib.hid hfit
      have HWF:=Lib.hid hwf
      have HB0:=Lib.hid hb0
      have HOWN:=Lib.hid hown
      have HBW:=Lib.hid hbw
      have hsz:=hbw.size
      clear hx hx2 hws ha hsu hfit hlen hwf hb0 hown hbw
      go_wp2
      go_region_held3 (fun w'=>w'.cell? ⟨w.heap.size,0,none⟩=some (.int .i64 id)∧w'.cell? ⟨w.heap.size,1,none⟩=some (.slice (some ⟨b1,o1,none⟩) l.length c)∧w'.cell? ⟨b1,o1+k*2,none⟩=some (.string x))
        (first|exact HSS.out _ (Below.refl _ _).drew|exact HSS.out _ HB4.out)
        (first
          | (go_at_call 109; (with_reducible refine (C1.out _ (HB0.out.trans ((Below.refl _ wr).drew.mono (HB0.out.size)))).mono ?_); rintro e w4 ⟨v4, rfl, ho4, hb4⟩
             obtain ⟨A4,c4,rfl,hlc4,hrow4⟩:=owned_row ho4
             have HR4:=Lib.hid hrow4
             have HB5:Hid (Below wr.heap.size wr w4):=Lib.hid ((Below.refl _ wr).drew.trans hb4)
             have HB4:Hid (Below w1.heap.size wr w4):=Lib.hid (((Below.refl _ wr).drew.trans hb4).mono hsz)
             clear ho4 hb4 hrow4))
      all_goals
        go_wp2
        go_loopw [3,6] (fun o i wr=>PutAllRel a x.data.toList ws w1.heap.size w4 o i wr) (fun _ i _=>ws.length-(intOf i).toNat)
        case atStart=>exact ⟨0,_,rfl,by omega,rfl,HOWN.out.below HB5.out,Below.refl _ _⟩
        case round=>
          obtain ⟨m,vo,rfl,hm,rfl,hown2,hbi⟩:=hrel
          by_cases hmt:m<ws.length
          · obtain ⟨b2,o2,e2,hb2,hg1⟩:=row_nm (HR4.out.below hbi) hmt
            subst e2
            have hfy:=HWF.out _ (List.getElem_mem hmt)
            have hsu2:=putAll_succ (a:=a) (s:=x.data.toList) hmt
            obtain ⟨y,hy,hy2⟩:=as_text ws[m]
            rw [← hy] at hg1
            rw [← hy2] at hsu2
            have hsy:y.size≤536870912:=by rw [hy,size_nm];exact hfy
            have hfit2:FitsT (putAll a x.data.toList (ws.take m)):=HFIT.out.all (by rw [show x.data.toList.length=x.size from Array.length_toList];exact hsx) fun z hz=>HWF.out z (List.mem_of_mem_take hz)
            have hlen3:(putAll a x.data.toList (ws.take m)).length≤1048576:=by
              have :=putAll_length x.data.toList (ws.take m) a
              rw [List.length_take] at this
              omega
            obtain ⟨a',ha'⟩:∃ a',a'=putAll a x.data.toList (ws.take m):=⟨_,rfl⟩
            rw [← ha'] at hsu2 hfit2 hlen3 hown2
            have PT:Hid (∀ w',Below wr.heap.size wr w'→Calls Tryz.prog 110 #[vo,.agg #[.string x,.string y]] w' (PutGotT w1.heap.size (putT a' (x.data.toList,y.data.toList)) w')):=Lib.hid fun w' h=>
              ref08_PutTerm _ _ _ _ _ _ (hown2.below h) (by have :=h.size;have :=hbi.size;have :=HB4.out.size;omega) hlen3 hfit2 hsx hsy
            have j0:(0:Int)≤m:=by omega
            have j1:(m:Int)<ws.length:=by omega
            have hs4:=hbi.size
            have HS9:Hid (∀ w',Below wr.heap.size wr w'→w'.cell? ⟨w.heap.size,0,none⟩=some (.int .i64 id)∧w'.cell? ⟨w.heap.size,1,none⟩=some (.slice (some ⟨b1,o1,none⟩) l.length c)∧w'.cell? ⟨b1,o1+k*2,none⟩=some (.string x)∧w'.cell? ⟨b2,o2+m,none⟩=some (.string y)):=Lib.hid fun w' h=>by
              have h2:=HSS.out w' (HB4.out.trans ((hbi.trans (h.mono hs4)).mono (by have :=HB4.out.size;omega)))
              exact ⟨h2.1,h2.2.1,h2.2.2,(h.cell (p:=⟨b2,o2+m,none⟩) (by show b2<wr.heap.size;omega)).trans hg1⟩
            obtain ⟨q0,q1,q2,q3⟩:=HS9.out _ (Below.refl _ _)
            have HSU2:=Lib.hid hsu2
            have HBI:=Lib.hid hbi
            clear hy hy2 ha' hsu2 hfit2 hlen3 hown2 hfy hsy hbi hc0 hc1 hf1
            go_wp2
            go_region_held3 (fun w'=>w'.cell? ⟨w.heap.size,0,none⟩=some (.int .i64 id)∧w'.cell? ⟨w.heap.size,1,none⟩=some (.slice (some ⟨b1,o1,none⟩) l.length c)∧w'.cell? ⟨b1,o1+k*2,none⟩=some (.string x)∧w'.cell? ⟨b2,o2+m,none⟩=some (.string y))
              (first|exact HS9.out _ (Below.refl _ _).drew|exact HS9.out _ HB6.out)
              (first
                | (go_at_call 110; (with_reducible refine (PT.out _ (Below.refl _ wr).drew).mono ?_); rintro e w6 ⟨v6, rfl, ho6, hb6⟩
                   have HO6:=Lib.hid ho6
                   have HB6:Hid (Below wr.heap.size wr w6):=Lib.hid ((Below.refl _ wr).drew.trans hb6)
                   clear ho6 hb6))
            all_goals
              go_wp2
              exact ⟨⟨m+1,_,rfl,by omega,by go_num,by rw [HSU2.out];exact HO6.out,HBI.out.trans (HB6.out.mono hs4)⟩,by simp [intOf];omega⟩
          · have hmk:m=ws.length:=by omega
            subst hmk
            rw [List.take_length,← HSU.out] at hown2
            go_wp2
            exact ⟨⟨k+1,by omega,by go_num,hown2,HBW.out.trans (HB4.out.trans (hbi.mono (by have :=HB4.out.size;omega)))⟩,by simp [intOf];omega⟩
    · have hkl:k=l.length:=by omega
      subst hkl
      rw [termsUp_all,← HN.out] at hown
      have HB0:=Lib.hid hb0
      have HS1:=Lib.hid (HB1.out _ (Below.refl _ _)).1.size
      clear hb0
      go_wp2
      go_ret
      exact ⟨_,rfl,hown.low HS1.out,HB0.out⟩
end Go.Proofs.YtmoomnpbiifedaaGreat
set_option linter.unusedVariables false
namespace Go.Proofs.YtmoomnpbiifedaaGreat
open Go Go.RowKit
section
variable {S:Nat→Prop} {w:World} {B:Nat} {l:List En} {up:Int}
theorem keysE_bound {l:List En} (hg:GoodE l) (hn:l.length≤1000):(keysE l).length≤4000000:=by
 have h1:=keysE_length (l:=l) (a:=[]) (M:=4000) fun q hq=>by
  have h:=hg q hq
  have h1:=termsUp_length (l:=q.2.1) (M:=500) h.wordsS q.2.1.length (Nat.le_refl _)
  rw [termsUp_all] at h1
  exact Nat.le_trans h1 (Nat.le_trans (Nat.mul_le_mul_right _ h.len) (by omega))
 have h2:l.length*4000≤1000*4000:=Nat.mul_le_mul_right _ hn
 have h3:(keysE l).length≤l.length*4000+([]:List Nm).length:=h1
 simp only [List.length_nil] at h3
 omega
theorem buf_Keys (h:BufAt S w B l up) (hn:l.length≤1000):Calls Tryz.prog 51 #[.pointer (some ⟨B,0,none⟩)] w (GaveNm (keysE l) w):=by
  obtain ⟨v,M,c,g,h⟩:=h
  obtain ⟨c0,c1,c2,c3,_⟩:=four_cells h.cells
  obtain ⟨m,hm,hk,hl⟩:=h.map.keys
  have hp:(m.map (·.1)).Perm (keysE l):=by rw [hk];exact h.stand.perm
  have hlen:m.length≤134217727:=by rw [hl,h.stand.length];have :=keysE_bound h.good hn;omega
  have HM:=Lib.hid hm
  have HP:=Lib.hid hp
  clear h hm hk hl hp
  go_enter Tryz.func51,Tryz.ntmps51
  go_wp2_with (first
    | (go_at_call 90; (with_reducible refine (maps_KeysP M w).mono ?_); rintro e w1 ⟨rfl, hw1⟩
       have hb1:Below w.heap.size w w1:=by rw [hw1];exact (Below.refl _ _).alloc (Nat.le_refl _) _
       have hc1:w1.cell? ⟨w.heap.size,0,none⟩=some (.map (some M)):=by rw [hw1];simp
       have hm1:MapK w1 M c m:=(hb1.block M (Array.getElem?_eq_some_iff.1 HM.out).1).trans HM.out
       have HS:=Lib.hid (keys_sortedS w.heap.size M c m l w1 hm1 hc1 hlen HP.out)
       have HB1:=Lib.hid hb1
       clear hw1 hb1 hc1 hm1)
    |(go_at_call 89;(with_reducible refine HS.out.mono ?_);rintro e w2 ⟨v2,rfl,ho2,hb2⟩))
  go_ret
  exact ⟨_,rfl,ho2.low HB1.out.size,HB1.out.trans (hb2.mono HB1.out.size)⟩
end
end Go.Proofs.YtmoomnpbiifedaaGreat
set_option linter.unusedVariables false
namespace Go.Proofs.YtmoomnpbiifedaaGreat
open Go Go.RowKit
section
variable {id:Int} {A:Option Addr} {n c:Nat} {l:List Fd} {w:World}
theorem good_words (hg:GoodF l) (hl:l.length=n) (hr:FRow w w.heap.size A l) (s:ByteArray):Calls Tryz.prog 109 #[docV id A n c,.string s] w (GaveStrs (wordsD l s.data.toList) w):=
 ref08_Words id A n c l s w hl hr (by have :=hg.len;omega) (fun f hf=>by have :=hg.texts f hf;omega)
theorem good_terms (hg:GoodF l) (hl:l.length=n) (hr:FRow w w.heap.size A l):Calls Tryz.prog 80 #[docV id A n c] w (GaveTms (termsD l) w):=
 ref08_Terms id A n c l w hl hr (by have :=hg.len;omega) (fun f hf=>by have :=hg.names f hf;have :=hg.texts f hf;omega) (fun s=>by have :=hg.wordsS s;omega)
theorem good_rplaces (hg:GoodF l) (hl:l.length=n) (hr:FRow w w.heap.size A l) (f x:ByteArray):Calls Tryz.prog 82 #[docV id A n c,.agg #[.string f,.string x]] w (GaveInts (placesD l (f.data.toList,x.data.toList)) w):=
 ref08_Places id A n c l f x w hl hr (by have :=hg.len;omega) (fun f hf=>by have :=hg.texts f hf;omega) (fun s=>by have :=hg.wordsS s;omega)
end
end Go.Proofs.YtmoomnpbiifedaaGreat
namespace Go.Proofs.YtmoomnpbiifedaaGreat
open Go Go.RowKit
set_option linter.unusedVariables false
def PlaceRel (l:List Nm) (s:Nm) (w:World) (a b i:Value) (wr:World):Prop:=a= .int .i64 0∧b= .bool false∧∃ k:Nat,k≤l.length∧i= .int .i64 (k:Int)∧Below w.heap.size w wr∧∀ j (hj:j<l.length),j<k→l[j]<s
set_option maxHeartbeats 1000000 in
set_option maxRecDepth 100000 in
theorem ref_Place07 (A:Option Addr) (m c:Nat) (l:List Nm) (s:ByteArray) (w:World) (hr:Row w w.heap.size A (strs l)) (hm:l.length=m) (hl:m≤1073741824):
  Calls Tryz.prog 111 #[.slice A m c,.string s] w fun e w'=>e= .returned (.tuple #[.int .i64 (placeN l s.data.toList),.bool (isN l s.data.toList)])∧Below w.heap.size w w':=by
 have HR:=Lib.hid hr
 clear hr
 subst hm
 obtain ⟨p,hp⟩:∃ p,p=placeN l s.data.toList:=⟨_,rfl⟩
 obtain ⟨z,hz⟩:∃ z,z=isN l s.data.toList:=⟨_,rfl⟩
 rw [← hp,← hz]
 have HP:=Lib.hid hp
 have HZ:=Lib.hid hz
 clear hp hz
 go_enter Tryz.func111,Tryz.ntmps111
 go_wp2
 go_loopw [4,5,6] (fun a b i wr=>PlaceRel l s.data.toList w a b i wr) (fun _ _ i _=>l.length-(intOf i).toNat)
 case atStart=>exact ⟨rfl,rfl,0,by omega,rfl,Below.refl _ _,fun j _ hj=>by omega⟩
 case round=>
  obtain ⟨rfl,rfl,k,hk,rfl,hbw,hall⟩:=hrel
  by_cases hlt:k<l.length
  ·obtain ⟨b1,o1,e1,_,hc1⟩:=row_nm (HR.out.below hbw) hlt
   subst e1
   obtain ⟨x,hx,hx2⟩:=as_text l[k]
   rw [← hx] at hc1
   by_cases hxs:l[k]<s.data.toList
   ·have t1:=less_true (s:=x) (t:=s) (by rw [hx2];exact hxs)
    have HN:Hid (∀ j (hj:j<l.length),j<k+1→l[j]<s.data.toList):=Lib.hid fun j hj hjk=>by
     by_cases e:j=k
     ·subst e;exact hxs
     ·exact hall j hj (by omega)
    clear hx hx2 hall hxs
    go_wp2
    go_roundw
    case rel=>exact ⟨rfl,rfl,k+1,by omega,by go_num,hbw,HN.out⟩
    case measure=>simp [intOf];omega
   ·have t1:=less_false (s:=x) (t:=s) (by rw [hx2];exact hxs)
    have hpk:p=k:=by rw [HP.out];exact place_of hk hall (fun _=>hxs)
    have hzk:z=(l[k]==s.data.toList):=by
     have e:=place_of hk hall (fun _=>hxs)
     rw [HZ.out,isN_at (by omega)]
     simp only [e]
    subst hpk
    by_cases hxe:l[p]=s.data.toList
    ·have t2:=same_true (s:=x) (t:=s) (by rw [hx2];exact hxe)
     have hz1:z=true:=by rw [hzk,hxe];exact beq_self_eq_true _
     subst hz1
     clear hx hx2 hall hxs hzk hxe
     go_wp2
     go_quiet (fail)
     go_wp2
     go_ret2
     exact ⟨rfl,hbw.trans ⟨rfl,rfl,rfl,Nat.le_refl _,fun _ _=>rfl⟩⟩
    ·have t2:=same_false (s:=x) (t:=s) (by rw [hx2];exact hxe)
     have hz1:z=false:=by rw [hzk];simpa using hxe
     subst hz1
     clear hx hx2 hall hxs hzk hxe
     go_wp2
     go_quiet (fail)
     go_wp2
     go_ret2
     exact ⟨rfl,hbw.trans ⟨rfl,rfl,rfl,Nat.le_refl _,fun _ _=>rfl⟩⟩
  ·have hkl:k=l.length:=by omega
   have e:=place_of (s:=s.data.toList) hk hall (fun h=>absurd h hlt)
   have hpk:p=l.length:=by rw [HP.out,e,hkl]
   have hz1:z=false:=by rw [HZ.out];exact isN_end (by rw [e,hkl])
   subst hpk hz1
   clear hall e hkl
   go_wp2
   go_ret2
   exact ⟨rfl,hbw⟩
end Go.Proofs.YtmoomnpbiifedaaGreat
