import Derived.Test.YtldcadpemnpbmaaGreatDoorMLQ05
import Derived.Test.YtldcadpemnpbmaaGreatDoorMLQ21
import Derived.Test.YtldcadpemnpbmaaGreatDoorMLQ04
import Derived.Deep.DeepCutAuto
import Derived.Deep.AppendLies
import Derived.Deep.Slices
import Derived.Test.YtldcadpemnpbmaaGreatDoorMLQ22
namespace Go.Proofs.YtldcadpemnpbmaaGreatDoor
open Go Go.RowKit
set_option linter.unusedVariables false
theorem errFrom_zero:∀ {ws:List Nm} {i:Nat},errFrom i ws=0→i≤500→i+ws.length≤500
 |[],i,_,h=>by simpa using h
 |w::ws,i,h,hi=>by
  rw [errFrom] at h
  split at h
  ·omega
  ·split at h
   ·omega
   ·have :=errFrom_zero h (by omega)
    simp only [List.length_cons]
    omega
def seenUp (l:List Fd) (k:Nat):List Nm:=(l.take k).map (·.1)
theorem seenUp_succ {l:List Fd} {k:Nat} (hk:k<l.length):seenUp l (k+1)=seenUp l k++[l[k].1]:=by
 unfold seenUp
 rw [List.take_succ_eq_append_getElem hk,List.map_append]
 rfl
theorem seenUp_in {l:List Fd} {k j:Nat} (hk:k≤l.length) (hj:j<k):(l[j]'(by omega)).1∈seenUp l k:=by
 refine List.mem_map.2 ⟨l[j]'(by omega),?_,rfl⟩
 have h:j<(l.take k).length:=by rw [List.length_take];omega
 have :=List.getElem_mem h
 rwa [List.getElem_take] at this
theorem seenUp_out {l:List Fd} {k:Nat} (hk:k≤l.length) {x:Nm} (h:∀ j (hj:j<l.length),j<k→l[j].1≠x):x∉seenUp l k:=fun hx=>by
 obtain ⟨f,hf,rfl⟩:=List.mem_map.1 hx
 obtain ⟨j,hj,rfl⟩:=List.getElem_of_mem hf
 rw [List.length_take] at hj
 rw [List.getElem_take] at h
 exact h j (by omega) (by omega) rfl
theorem mayF_at {seen:List Nm} {n k:Nat} {l:List Fd} (hk:k<l.length):mayF seen n (l.drop k)=
  if nameB l[k].1=false then 4 else if l[k].1∈seen then 5 else if errFrom 0 (words l[k].2)≠0 then errFrom 0 (words l[k].2) else mayF (seen++[l[k].1]) (n+(words l[k].2).length) (l.drop (k+1)):=by
 rw [List.drop_eq_getElem_cons hk,mayF]
def MayRel8 (l:List Fd) (E:Int) (w1:World) (r a i:Value) (wr:World):Prop:=
 r= .int .i64 0∧∃ k m:Nat,k≤l.length∧m≤k*500∧a= .int .i64 (m:Int)∧i= .int .i64 (k:Int)∧Below w1.heap.size w1 wr∧mayF (seenUp l k) m (l.drop k)=E
def TwiceRel (l:List Fd) (k:Nat) (wr:World) (r i:Value) (wi:World):Prop:=
 r= .int .i64 0∧∃ j:Nat,j≤k∧i= .int .i64 (j:Int)∧Below wr.heap.size wr wi∧∀ i (hi:i<l.length) (hk:k<l.length),i<j→l[i].1≠l[k].1
set_option maxHeartbeats 4000000 in
set_option maxRecDepth 100000 in
theorem ref08_May (id:Int) (A:Option Addr) (n c:Nat) (l:List Fd) (w:World) (hl:l.length=n) (hr:FRow w w.heap.size A l) (hn:n≤1073741824) (ht:∀ f∈l,f.1.length≤1073741824∧f.2.length≤268435456):
  Calls Tryz.prog 91 #[docV id A n c] w fun e w'=>e= .returned (.int .i64 (mayD l))∧Below w.heap.size w w':=by
 obtain ⟨R,hR⟩:∃ R,R=mayD l:=⟨_,rfl⟩
 rw [← hR]
 have HRR:=Lib.hid hR
 have HR:=Lib.hid hr
 have HT:=Lib.hid ht
 have HB1:Hid (∀ w1,w1=boxD w id A n c→∀ wr,Below w1.heap.size w1 wr→Below w.heap.size w wr∧wr.cell? ⟨w.heap.size,0,none⟩=some (.int .i64 id)∧wr.cell? ⟨w.heap.size,1,none⟩=some (.slice A n c)):=Lib.hid fun w1 e wr h=>by subst e;exact ⟨boxD_out h,boxD_cells h⟩
 clear hR hr ht
 by_cases h8:8<n
 ·have hR7:R=7:=by rw [HRR.out,mayD,if_pos (by omega)]
  subst hR7
  have HB0:=Lib.hid (HB1.out _ rfl _ (Below.refl _ _)).1
  go_enter Tryz.func91,Tryz.ntmps91
  go_wp2
  go_ret
  exact ⟨rfl,HB0.out⟩
 ·have hn8:n≤8:=by omega
  have HE:Hid (mayF (seenUp l 0) 0 (l.drop 0)=R):=Lib.hid (by rw [HRR.out,mayD,if_neg (by omega)];rfl)
  clear h8
  subst hl
  go_enter Tryz.func91,Tryz.ntmps91
  go_wp2
  obtain ⟨w1,hw1⟩:∃ w1,w1=boxD w id A l.length c:=⟨_,rfl⟩
  have HB2:=Lib.hid (HB1.out w1 hw1)
  rw [show w.alloc _=w1 from hw1.symm]
  clear hw1 HB1
  go_loopw [2,3,4,5,6,7,8] (fun r a i n j t e wr=>MayRel8 l R w1 r a i wr) (fun _ _ i _ _ _ _ _=>l.length-(intOf i).toNat)
  case atStart=>exact ⟨rfl,0,0,by omega,by omega,rfl,rfl,Below.refl _ _,HE.out⟩
  case round=>
   obtain ⟨rfl,k,m,hk,hm,rfl,rfl,hbw,hgo⟩:=hrel
   obtain ⟨hb0,a0,a1⟩:=HB2.out _ hbw
   by_cases hlt:k<l.length
   ·obtain ⟨b1,o1,e1,hb1,hc1,hc2⟩:=(HR.out.below hb0).at_ hlt
    subst e1
    rw [mayF_at hlt] at hgo
    have ht8:=HT.out _ (List.getElem_mem hlt)
    obtain ⟨x,hx,hx2⟩:=as_text l[k].1
    obtain ⟨y,hy,hy2⟩:=as_text l[k].2
    rw [← hx] at hc1
    rw [← hy] at hc2
    have i0:(0:Int)≤k:=by omega
    have i1:(k:Int)<l.length:=by omega
    have N1:=fun w'=>ref08_Name x w' (by rw [hx,size_nm];have :=ht8.1;omega)
    rw [hx2] at N1
    have T1:=fun w'=>ref_Tokens y w' (by rw [hy,size_nm];exact ht8.2)
    rw [hy2] at T1
    have HX:=Lib.hid (And.intro hx hx2)
    clear hx hx2 hy hy2 ht8
    have HB0:=Lib.hid hb0
    clear hb0
    cases hnm:nameB l[k].1 with
    |false=>
     rw [hnm] at N1 hgo
     rw [if_pos rfl] at hgo
     subst hgo
     have HN1:=Lib.hid N1
     clear N1 T1 hnm
     go_wp2_with (go_at_call 24;(with_reducible refine (HN1.out _).mono ?_);rintro e w2 ⟨rfl,hb2⟩)
     go_ret
     exact ⟨rfl,HB0.out.trans (hb2.mono HB0.out.size)⟩
    |true=>
     rw [hnm] at N1 hgo
     rw [if_neg (by decide)] at hgo
     have HN1:=Lib.hid N1
     have HT1:=Lib.hid T1
     have HGO:=Lib.hid hgo
     clear N1 T1 hnm hgo
     go_wp2_with (go_at_call 24;(with_reducible refine (HN1.out _).mono ?_);rintro e w2 ⟨rfl,hb2⟩)
     have hbw2:=hbw.trans (hb2.mono hbw.size)
     have HC:Hid (∀ wi,Below w2.heap.size w2 wi→Below w.heap.size w wi∧wi.cell? ⟨w.heap.size,1,none⟩=some (.slice (some ⟨b1,o1,none⟩) l.length c)∧wi.cell? ⟨b1,o1+k*2,none⟩=some (.string x)∧wi.cell? ⟨b1,o1+k*2+1,none⟩=some (.string y)∧∀ j (hj:j<l.length),wi.cell? ⟨b1,o1+j*2,none⟩=some (.string ⟨l[j].1.toArray⟩)):=Lib.hid fun wi h=>by
      have h2:=hbw2.trans (h.mono hbw2.size)
      have h3:=HB2.out _ h2
      have hs1:=(HB2.out _ (Below.refl _ _)).1.size
      have h4:=(hb2.mono (by have :=hbw.size;omega:w.heap.size≤wr.heap.size)).trans (h.mono (by have :=hbw2.size;omega))
      refine ⟨h3.1,h3.2.2,(h4.cell (p:=⟨b1,o1+k*2,none⟩) hb1).trans hc1,(h4.cell (p:=⟨b1,o1+k*2+1,none⟩) hb1).trans hc2,fun j hj=> ?_⟩
      obtain ⟨b',o',e',_,g,_⟩:=(HR.out.below h3.1).at_ hj
      injection e' with e'
      injection e' with e1 e2
      subst e1 e2
      exact g
     have HBW2:=Lib.hid hbw2
     clear hb2 hbw2 hc1 hc2 a0 a1 hbw
     go_wp2
     go_loopw [2,6] (fun r i wi=>TwiceRel l k w2 r i wi) (fun _ i _=>k-(intOf i).toNat)
     case atStart=>exact ⟨rfl,0,by omega,rfl,Below.refl _ _,fun _ _ _ h=>by omega⟩
     case round=>
      obtain ⟨rfl,j,hj,rfl,hbi,hne⟩:=hrel
      obtain ⟨hb0,a1,hc1,hc2,hcs⟩:=HC.out _ hbi
      by_cases hjk:j<k
      ·have hjl:j<l.length:=by omega
       have hcj:=hcs j hjl
       clear hcs
       obtain ⟨z,hz,hz2⟩:=as_text l[j].1
       rw [← hz] at hcj
       have j0:(0:Int)≤j:=by omega
       have j1:(j:Int)<l.length:=by omega
       have j2:(j:Int)<k:=by omega
       by_cases he:l[j].1=l[k].1
       ·have t1:=same_true (s:=z) (t:=x) (by rw [hz2,HX.out.2];exact he)
        have hR5:R=5:=by rw [← HGO.out,if_pos (by rw [← he];exact seenUp_in hk hjk)]
        subst hR5
        have HB0':=Lib.hid hb0
        clear he hz hz2 hne hb0
        go_wp2
        go_quiet (fail)
        go_wp2
        go_ret
        exact ⟨rfl,HB0'.out.trans ((drewN_below _ _).mono HB0'.out.size)⟩
       ·have t1:=same_false (s:=z) (t:=x) (by rw [hz2,HX.out.2];exact he)
        have HNE:Hid (∀ i (hi:i<l.length) (hk:k<l.length),i<j+1→l[i].1≠l[k].1):=Lib.hid fun i hi hk hij=>by
         by_cases e:i=j
         ·subst e;exact he
         ·exact hne i hi hk (by omega)
        clear he hz hz2 hne hb0
        go_wp2
        go_quiet (fail)
        go_wp2
        exact ⟨⟨rfl,j+1,by omega,by go_num,hbi.trans ((drewN_below _ _).mono hbi.size),HNE.out⟩,by simp [intOf];omega⟩
      ·have hjk':j=k:=by omega
       subst hjk'
       have hgo:=HGO.out
       rw [if_neg (seenUp_out hk fun i hi hij=>hne i hi hlt hij)] at hgo
       obtain ⟨ws,hws⟩:∃ ws,ws=words l[j].2:=⟨_,rfl⟩
       have HT2:Hid (∀ w',Calls Tryz.prog 161 #[.string y] w' (GaveToks ws w')):=Lib.hid (by rw [hws];exact HT1.out)
       rw [← hws] at hgo
       have HB0':=Lib.hid hb0
       clear hne hcs hb0 hws HGO HT1
       go_wp2_with (go_at_call 161;refine (HT2.out _).mono ?_)
       rintro e w3 ⟨v,rfl,h1,h2,hb3⟩
       have HBI:=Lib.hid (HB0'.out.trans (hb3.mono HB0'.out.size))
       have HBJ:=Lib.hid (hbi.trans (hb3.mono hbi.size))
       by_cases hz:errFrom 0 ws=0
       ·obtain ⟨A3,c3,rfl⟩:∃ A3 c3,v= .slice A3 ws.length c3:=by
         rcases (h1 hz).2 with ⟨hv,hn⟩|⟨g,cap,cur,hv,_⟩
         ·exact ⟨none,0,by rw [hn];exact hv⟩
         ·exact ⟨_,_,hv⟩
        have hw5:=errFrom_zero hz (by omega)
        rw [if_neg (by rw [hz];decide),← seenUp_succ hlt] at hgo
        have HGO2:=Lib.hid hgo
        rw [hz]
        have hm5:m≤4000:=by omega
        have hwn:ws.length≤500:=by omega
        clear h1 h2 hz hgo hb3
        go_wp2
        refine ⟨⟨rfl,j+1,m+ws.length,by omega,by omega,?_,by go_num,HBW2.out.trans (HBJ.out.mono HBW2.out.size),HGO2.out⟩,by simp [intOf];omega⟩
        push_cast
        rfl
       ·rw [if_pos hz] at hgo
        obtain ⟨E,hE⟩:∃ E,E=errFrom 0 ws:=⟨_,rfl⟩
        rw [← hE] at hgo hz
        rw [← hE]
        subst hgo
        have hv:=h2 (by rw [← hE];exact hz)
        subst hv
        clear h1 h2 hb3 hE
        go_wp2
        go_ret
        exact ⟨rfl,HBI.out⟩
   ·have hkl:k=l.length:=by omega
    subst hkl
    rw [List.drop_length,mayF] at hgo
    have HB0:=Lib.hid hb0
    clear hb0
    by_cases h5:500<m
    ·rw [if_pos h5] at hgo
     subst hgo
     go_wp2
     go_ret
     exact ⟨rfl,HB0.out⟩
    ·rw [if_neg h5] at hgo
     subst hgo
     have h5':m≤500:=by omega
     clear h5
     go_wp2
     go_ret
     exact ⟨rfl,HB0.out⟩
end Go.Proofs.YtldcadpemnpbmaaGreatDoor
namespace Go.Proofs.YtldcadpemnpbmaaGreatDoor
open Go Go.RowKit
set_option linter.unusedVariables false
def GoodW (w:World) (id:Int) (A:Option Addr) (n c:Nat) (v:Value) (wr:World):Prop:=
 Below w.heap.size w wr∧w.heap.size+4≤wr.heap.size∧wr.heap[w.heap.size]?=some (.cells #[.int .i64 id,.slice A n c] 80 (0,0))∧wr.heap[w.heap.size+1]?=some (.cells #[.int .i64 0,.slice none 0 0] 80 (0,0))∧
  wr.heap[w.heap.size+1+1]?=some (.cells #[.int .i64 id,v] 80 (0,0))∧wr.heap[w.heap.size+1+1+1]?=some (.cells #[.string ⟨#[116]⟩,.string ⟨#[117]⟩,.string ⟨#[118]⟩,.string ⟨#[119]⟩] 9 (0,0))
theorem GoodW.below {w wr w':World} {id:Int} {A:Option Addr} {n c:Nat} {v:Value} (h:GoodW w id A n c v wr) (hb:Below wr.heap.size wr w'):GoodW w id A n c v w':=by
 obtain ⟨h0,h1,h2,h3,h4,h5⟩:=h
 exact ⟨h0.trans (hb.mono (by omega)),by have :=hb.size;omega,(hb.block _ (by omega)).trans h2,(hb.block _ (by omega)).trans h3,(hb.block _ (by omega)).trans h4,(hb.block _ (by omega)).trans h5⟩
theorem GoodW.cells {w wr:World} {id:Int} {A:Option Addr} {n c:Nat} {v:Value} (h:GoodW w id A n c v wr):
  wr.cell? ⟨w.heap.size,0,none⟩=some (.int .i64 id)∧wr.cell? ⟨w.heap.size,1,none⟩=some (.slice A n c)∧wr.cell? ⟨w.heap.size+1+1,0,none⟩=some (.int .i64 id)∧wr.cell? ⟨w.heap.size+1+1,1,none⟩=some v:=by
 obtain ⟨_,_,h2,_,h4,_⟩:=h
 exact ⟨by simp [World.cell?,h2],by simp [World.cell?,h2],by simp [World.cell?,h4],by simp [World.cell?,h4]⟩
theorem GoodW.pool {w wr:World} {id:Int} {A:Option Addr} {n c:Nat} {v:Value} (h:GoodW w id A n c v wr) {k:Nat} (hk:k<4):wr.cell? ⟨w.heap.size+1+1+1,k,none⟩=some (.string ⟨(poolN k).toArray⟩):=by
 obtain ⟨_,_,_,_,_,h5⟩:=h
 have :k=0∨k=1∨k=2∨k=3:=by omega
 rcases this with rfl|rfl|rfl|rfl<;>simp [World.cell?,h5,poolN]
theorem goodW_start (w:World) (id:Int) (A:Option Addr) (n c:Nat):GoodW w id A n c (.slice none 0 0) ((((w.alloc (.cells #[.int .i64 id,.slice A n c] 80)).alloc (.cells #[.int .i64 0,.slice none 0 0] 80)).alloc (.cells #[.int .i64 id,.slice none 0 0] 80)).alloc (.cells #[.string ⟨#[116]⟩,.string ⟨#[117]⟩,.string ⟨#[118]⟩,.string ⟨#[119]⟩] 9)):=by
 refine ⟨((((Below.refl _ w).alloc (Nat.le_refl _) _).alloc (by simp) _).alloc (by simp;try omega) _).alloc (by simp;try omega) _,by simp,?_,?_,?_,?_⟩
 ·rw [Below.heap_alloc _ _ _ (by simp;try omega),Below.heap_alloc _ _ _ (by simp;try omega),Below.heap_alloc _ _ _ (by simp)]
  exact heap_alloc_new w _
 ·rw [Below.heap_alloc _ _ _ (by simp;try omega),Below.heap_alloc _ _ _ (by simp)]
  simpa using heap_alloc_new (w.alloc (.cells #[.int .i64 id,.slice A n c] 80)) (.cells #[.int .i64 0,.slice none 0 0] 80)
 ·rw [Below.heap_alloc _ _ _ (by simp)]
  simpa using heap_alloc_new ((w.alloc (.cells #[.int .i64 id,.slice A n c] 80)).alloc (.cells #[.int .i64 0,.slice none 0 0] 80)) (.cells #[.int .i64 id,.slice none 0 0] 80)
 ·simpa using heap_alloc_new (((w.alloc (.cells #[.int .i64 id,.slice A n c] 80)).alloc (.cells #[.int .i64 0,.slice none 0 0] 80)).alloc (.cells #[.int .i64 id,.slice none 0 0] 80)) (.cells #[.string ⟨#[116]⟩,.string ⟨#[117]⟩,.string ⟨#[118]⟩,.string ⟨#[119]⟩] 9)
theorem set_at {w:World} {b k:Nat} {cs:Array Value} {t:TypeId} {v:Value} (h:w.heap[b]?=some (.cells cs t (0,0))):(w.setCell ⟨b,k,none⟩ v).heap[b]?=some (.cells (cs.setIfInBounds k v) t (0,0)):=by
 have hlt:=lt_of_block h
 have h':w.heap[b]= .cells cs t (0,0):=by simpa [Array.getElem?_eq_getElem hlt] using h
 show (w.heap.modify b _)[b]?=_
 rw [Array.getElem?_eq_getElem (by simpa using hlt),Array.getElem_modify_self,h']
 rfl
theorem two_cells {w:World} {b:Nat} {x y:Value} {t:TypeId} (h:w.heap[b]?=some (.cells #[x,y] t (0,0))):
  w.cell? ⟨b,0,none⟩=some x∧w.cell? ⟨b,1,none⟩=some y∧w.frozen? ⟨b,0,none⟩=false∧w.frozen? ⟨b,1,none⟩=false:=by
 simp [World.cell?,World.frozen?,h]
theorem cut_text (y:ByteArray):y.extract 0 (min (y.size:Int) 40).toNat=⟨(y.data.toList.take 40).toArray⟩:=by
 have e2:y.data.toList.length=y.size:=Array.length_toList
 have e:(y.extract 0 (min (y.size:Int) 40).toNat).data=y.data.extract 0 (min (y.size:Int) 40).toNat:=ByteArray.data_extract
 apply ByteArray.ext
 apply Array.ext'
 rw [e,Array.toList_extract,List.extract_eq_take_drop,List.drop_zero,Nat.sub_zero]
 show List.take _ _=List.take 40 _
 by_cases h:y.size≤40
 ·rw [List.take_of_length_le (by omega),List.take_of_length_le (by omega)]
 ·rw [show (min (y.size:Int) 40).toNat=40 by omega]
theorem set_ne {w:World} {b k d:Nat} {v:Value} (h:b≠d):(w.setCell ⟨b,k,none⟩ v).heap[d]?=w.heap[d]?:=by
 show (w.heap.modify b _)[d]?=_
 rw [Array.getElem?_modify]
 simp [h]
theorem GoodW.put {w wr:World} {id:Int} {A:Option Addr} {n c:Nat} {v:Value} (h:GoodW w id A n c v wr) (v':Value):GoodW w id A n c v' ((wr.setCell ⟨w.heap.size+1+1,0,none⟩ (.int .i64 id)).setCell ⟨w.heap.size+1+1,1,none⟩ v'):=by
 obtain ⟨h0,h1,h2,h3,h4,h5⟩:=h
 refine ⟨(h0.setCell (by simp;omega) _).setCell (by simp;omega) _,by simpa using h1,?_,?_,?_,?_⟩
 ·rw [set_ne (by omega),set_ne (by omega)];exact h2
 ·rw [set_ne (by omega),set_ne (by omega)];exact h3
 ·rw [set_at (set_at h4)];rfl
 ·rw [set_ne (by omega),set_ne (by omega)];exact h5
theorem goodF_name (i:Nat) (f:Fd):(goodF i f).1.length≤12:=by
 unfold goodF
 by_cases h:nameB f.1=true
 ·rw [if_pos h]
  rw [nameB,Bool.and_eq_true,Bool.and_eq_true,decide_eq_true_iff,decide_eq_true_iff] at h
  exact h.2.2
 ·rw [if_neg h];simp [poolN]
theorem goodUp_name (l:List Fd):∀ k,∀ f∈goodUp l k,f.1.length≤12
 |0,f,h=>by cases h
 |k+1,f,h=>by
  rw [goodUp] at h
  split at h
  ·rcases List.mem_append.1 h with h|h
   ·exact goodUp_name l k f h
   ·rw [List.mem_singleton.1 h];exact goodF_name _ _
  ·exact goodUp_name l k f h
def GoodRel8 (l:List Fd) (w:World) (id:Int) (A:Option Addr) (n c:Nat) (i:Value) (wr:World):Prop:=
 ∃ (k:Nat) (v:Value),k≤n∧k≤4∧i= .int .i64 (k:Int)∧GoodW w id A n c v wr∧OwnFd (w.heap.size+4) wr v (goodUp l k)
set_option maxHeartbeats 4000000 in
set_option maxRecDepth 100000 in
theorem ref08_Good (id:Int) (A:Option Addr) (n c:Nat) (l:List Fd) (w:World) (hl:l.length=n) (hr:FRow w w.heap.size A l) (hn:n≤9223372036854775807) (ht:∀ f∈l,f.1.length≤9223372036854775807∧f.2.length≤9223372036854775807):
    Calls Tryz.prog 39 #[docV id A n c] w fun e w'=>∃ v,e= .returned (.agg #[.int .i64 id,v])∧OwnFd w.heap.size w' v (goodD l)∧Below w.heap.size w w':=by
  have HR:=Lib.hid hr
  have HT:=Lib.hid ht
  have HL:=Lib.hid hl
  clear hr ht hl
  go_enter Tryz.func39,Tryz.ntmps39
  go_wp2
  obtain ⟨w1,hw1⟩:∃ w1,w1=((((w.alloc (.cells #[.int .i64 id,.slice A n c] 80)).alloc (.cells #[.int .i64 0,.slice none 0 0] 80)).alloc (.cells #[.int .i64 id,.slice none 0 0] 80)).alloc (.cells #[.string ⟨#[116]⟩,.string ⟨#[117]⟩,.string ⟨#[118]⟩,.string ⟨#[119]⟩] 9)):=⟨_,rfl⟩
  have HG:Hid (GoodW w id A n c (.slice none 0 0) w1):=Lib.hid (by rw [hw1];exact goodW_start w id A n c)
  rw [← hw1]
  clear hw1
  go_loopw [5,6,7,8] (fun i a b d wr=>GoodRel8 l w id A n c i wr) (fun i _ _ _ _=>n-(intOf i).toNat)
  case atStart=>exact ⟨0,_,by omega,by omega,rfl,HG.out,OwnFd.nil⟩
  case round=>
    obtain ⟨k,v,hk,hk4,rfl,hgw,hown⟩:=hrel
    obtain ⟨Av,cv,rfl,hlv,hrv⟩:=hown.row
    have hgl:=goodUp_length l k
    obtain ⟨up,hup⟩:∃ up,up=goodUp l k:=⟨_,rfl⟩
    rw [← hup] at hown hlv hrv hgw hgl
    have HUP:=Lib.hid hup
    have HRV:=Lib.hid hrv
    clear hup hrv
    obtain ⟨m,hm⟩:∃ m,m=up.length:=⟨_,rfl⟩
    rw [← hm] at hlv hgw hgl hown
    have HM:=Lib.hid hm
    clear hm
    obtain ⟨q0,q1,q2,q3⟩:=hgw.cells
    by_cases hlt:k<n∧k<4
    · obtain ⟨hkn,hk5⟩:=hlt
      have hkl:k<l.length:=by rw [HL.out];exact hkn
      have hp:=hgw.pool hk5
      obtain ⟨b1,o1,e1,hb1,hc1,hc2⟩:=(HR.out.below hgw.1).at_ hkl
      subst e1
      have ht8:=HT.out _ (List.getElem_mem hkl)
      obtain ⟨x,hx,hx2⟩:=as_text l[k].1
      obtain ⟨y,hy,hy2⟩:=as_text l[k].2
      rw [← hx] at hc1
      rw [← hy] at hc2
      have i0:(0:Int)≤k:=by omega
      have i1:(k:Int)<n:=by omega
      have i2:(k:Int)<4:=by omega
      have N1:=fun w'=>ref08_Name x w' (by rw [hx,size_nm];exact ht8.1)
      rw [hx2] at N1
      have HN1:Hid (∀ w',Calls Tryz.prog 24 #[.string x] w' fun e w''=>e= .returned (.bool (nameB l[k].1))∧Below w'.heap.size w' w''):=Lib.hid N1
      have HGW:=Lib.hid hgw
      have HXY:=Lib.hid (And.intro hx2 hy2)
      have HOWN:=Lib.hid hown
      obtain ⟨z,hz⟩:∃ z,z=nameB l[k].1:=⟨_,rfl⟩
      rw [← hz] at HN1
      obtain ⟨g,hg⟩:∃ g,g=goodF k l[k]:=⟨_,rfl⟩
      have HGF:Hid (g=(if z=true then x.data.toList else poolN k,y.data.toList.take 40)):=Lib.hid (by rw [hg,goodF,hz,hx2,hy2])
      have HG:=Lib.hid hg
      clear N1 hgw hx hx2 hy hy2 hown hz ht8 hg
      go_upto_if 33 with (first
        | (go_at_call 24; (with_reducible refine (HN1.out _).mono ?_); rintro e w2 ⟨rfl, hb2⟩
           have hg2:GoodW w id (some ⟨b1,o1,none⟩) n c (.slice Av m cv) w2:=HGW.out.below (((Below.refl _ wr).alloc (Nat.le_refl _) _).trans (hb2.mono (by simp)))
           have hF:w2.heap[wr.heap.size]?=some (.cells #[.string x,.string y] 77 (0,0)):=(hb2.block wr.heap.size (by simp)).trans (heap_alloc_new wr _)
           have HOW2:Hid (OwnFd (w.heap.size+4) w2 (.slice Av m cv) up):=Lib.hid (HOWN.out.below (((Below.refl _ wr).alloc (Nat.le_refl _) _).trans (hb2.mono (by simp))))
           have HBW2:Hid (Below wr.heap.size wr w2):=Lib.hid (((Below.refl _ wr).alloc (Nat.le_refl _) _).trans (hb2.mono (by simp)))
           have hp:=hg2.pool hk5
           have hz:=two_cells hF
           have z0:=hz.1
           have z1:=hz.2.1
           have f0:=hz.2.2.1
           have f1:=hz.2.2.2
           have HG2:=Lib.hid hg2
           have HF:=Lib.hid hF
           clear hg2 hF hb2 hz))
      have HBX2:Hid (Below wr.heap.size wr w2):=Lib.hid HBW2.out
      go_cut [] from 32 to 38 (fun wx=>Below wr.heap.size wr wx∧wx.heap[wr.heap.size]?=some (.cells #[.string ⟨g.1.toArray⟩,.string y] 77 (0,0)))
      case first=>
        cases z with
        |true=>
          go_wp2_with fail
          go_meet
          exact ⟨HBX2.out,by rw [HGF.out];exact HF.out⟩
        |false=>
          go_wp2_with fail
          go_meet
          refine ⟨HBX2.out.setCell (Nat.le_refl _) _,?_⟩
          rw [set_at HF.out,HGF.out]
          rfl
      case rest=>
        obtain ⟨hbx,hfx⟩:=hcut
        have hz:=two_cells hfx
        have z0:=hz.1
        have z1:=hz.2.1
        have f0:=hz.2.2.1
        have f1:=hz.2.2.2
        have HBX:=Lib.hid hbx
        have HFX:=Lib.hid hfx
        clear hbx hfx hz
        go_upto_region 10 with fail
        go_cut [] from 39 to 46 (fun wx=>Below wr.heap.size wr wx∧wx.heap[wr.heap.size]?=some (.cells #[.string ⟨g.1.toArray⟩,.string ⟨g.2.toArray⟩] 77 (0,0)))
        case first=>
          go_wp2_with fail
          go_meet
          refine ⟨HBX.out.setCell (Nat.le_refl _) _,?_⟩
          rw [set_at HFX.out,HGF.out,cut_text]
          rfl
        case rest=>
          obtain ⟨hby,hfy⟩:=hcut
          obtain ⟨wy,rfl⟩:∃ wy,wy=wc:=⟨_,rfl⟩
          have hg3:=HGW.out.below hby
          have hq:=hg3.cells
          have q0:=hq.1
          have q1:=hq.2.1
          have q2:=hq.2.2.1
          have q3:=hq.2.2.2
          have hz:=two_cells hfy
          have z0:=hz.1
          have z1:=hz.2.1
          have HBY:=Lib.hid hby
          have HFY:=Lib.hid hfy
          have HG3:=Lib.hid hg3
          clear hby hfy hg3 hq hz
          have HFLT:Hid (wr.heap.size<wy.heap.size):=Lib.hid (lt_of_block HFY.out)
          have HM2:Hid (OwnFd (w.heap.size+4) wy (.slice Av m cv) up):=Lib.hid (HOWN.out.below HBY.out)
          have HRY:Hid (FRow wy wy.heap.size Av up):=Lib.hid (HRV.out.later HBY.out)
          go_upto_region 12 with fail
          go_cut [] from 50 to 55 (fun wx=>∃ v',Below wy.heap.size wy wx∧wx.heap[wy.heap.size]?=some (.cells #[.int .i64 id,v'] 80 (0,0))∧OwnFd (wy.heap.size+1) wx v' up)
          case first=>
            have HN4:Hid ((wy.alloc (.cells #[.int .i64 id,.slice none 0 0] 80)).heap[wy.heap.size]?=some (.cells #[.int .i64 id,.slice none 0 0] 80 (0,0))):=Lib.hid (heap_alloc_new wy _)
            have hq4:=(HG3.out.below ((Below.refl _ wy).alloc (Nat.le_refl _) (.cells #[.int .i64 id,.slice none 0 0] 80))).cells
            have q34:=hq4.2.2.2
            clear hq4
            go_wp2_with (first
              | (at_builtin; refine wpList_append_fd _ rfl (.tmp 51) (.tmp 53) rfl (wy.heap.size + 1) _ [] rfl OwnFd.nil Av m cv up rfl HM.out.symm ((HRY.out).later ((Below.refl _ wy).alloc (Nat.le_refl _) _)) (by simp; omega) (by simp) ?_
                 intro v5 w5 ho5 hb5 _
                 obtain ⟨A5,c5,rfl,_,_⟩:=ho5.row
                 have HB5:=Lib.hid (((Below.refl _ wy).alloc (Nat.le_refl _) (.cells #[.int .i64 id,.slice none 0 0] 80)).trans (hb5.mono (by omega)))
                 have HN5:Hid (w5.heap[wy.heap.size]?=some (.cells #[.int .i64 id,.slice none 0 0] 80 (0,0))):=Lib.hid ((hb5.block wy.heap.size (by omega)).trans HN4.out)
                 have HO5:Hid (OwnFd (wy.heap.size+1) w5 _ up):=Lib.hid ho5
                 have hz:=two_cells HN5.out
                 have n0:=hz.1
                 have n1:=hz.2.1
                 have m0:=hz.2.2.1
                 have m1:=hz.2.2.2
                 clear ho5 hb5 hz))
            go_meet
            refine ⟨_,HB5.out.setCell (Nat.le_refl _) _,by rw [set_at HN5.out];rfl,?_⟩
            exact ownsRow_setCell_below HO5.out (a:=⟨wy.heap.size,1,none⟩) (by simp) _
          case rest=>
            obtain ⟨wz,rfl⟩:∃ wz,wz=wc:=⟨_,rfl⟩
            obtain ⟨v6,hb6,hn6,ho6⟩:=hcut
            obtain ⟨A6,c6,rfl,_,_⟩:=ho6.row
            have hf6:wz.heap[wr.heap.size]?=some (.cells #[.string ⟨g.1.toArray⟩,.string ⟨g.2.toArray⟩] 77 (0,0)):=(hb6.block _ (by have :=HFLT.out;omega)).trans HFY.out
            have HB6:=Lib.hid hb6
            have HN6:=Lib.hid hn6
            have HO6:=Lib.hid ho6
            have hz:=two_cells hf6
            have z0:=hz.1
            have z1:=hz.2.1
            have hz:=two_cells hn6
            have n0:=hz.1
            have n1:=hz.2.1
            have hnlt:=lt_of_block hn6
            have HF6:=Lib.hid hf6
            clear hb6 hn6 ho6 hf6 hz
            go_upto_region 13 with fail
            go_cut [] from 56 to 61 (fun wx=>∃ v',Below wy.heap.size wy wx∧wx.heap[wy.heap.size]?=some (.cells #[.int .i64 id,v'] 80 (0,0))∧OwnFd (wy.heap.size+1) wx v' (up++[g]))
            case first=>
              go_wp2_with (first
                | (at_builtin; refine wpList_append_fd _ rfl (.tmp 57) (.tmp 59) rfl (wy.heap.size + 1) _ up rfl (HO6.out.below ((Below.refl _ _).alloc (Nat.le_refl _) _)) _ 1 1 [g] rfl rfl (frow_new _ g 77) (by have := HM.out; omega) (by simp; omega) ?_
                   intro v7 w7 ho7 hb7 _
                   obtain ⟨A7,c7,rfl,_,_⟩:=ho7.row
                   have HB7:Hid (Below wy.heap.size wy w7):=Lib.hid (HB6.out.trans ((((Below.refl _ wz).alloc (Nat.le_refl _) _).mono (by omega)).trans (hb7.mono (by omega))))
                   have HN7:Hid (w7.heap[wy.heap.size]?=some (.cells #[.int .i64 id,.slice A6 up.length c6] 80 (0,0))):=Lib.hid ((hb7.block wy.heap.size (by omega)).trans ((((Below.refl wz.heap.size wz).alloc (Nat.le_refl _) _).block wy.heap.size hnlt).trans HN6.out))
                   have HO7:Hid (OwnFd (wy.heap.size+1) w7 _ (up++[g])):=Lib.hid ho7
                   have hz:=two_cells HN7.out
                   have n0:=hz.1
                   have n1:=hz.2.1
                   have m0:=hz.2.2.1
                   have m1:=hz.2.2.2
                   clear ho7 hb7 hz))
              go_meet
              refine ⟨_,HB7.out.setCell (Nat.le_refl _) _,by rw [set_at HN7.out];rfl,?_⟩
              rw [show up.length+1=(up++[g]).length by simp]
              exact ownsRow_setCell_below HO7.out (a:=⟨wy.heap.size,1,none⟩) (by simp) _
            case rest=>
              obtain ⟨wu,rfl⟩:∃ wu,wu=wc:=⟨_,rfl⟩
              obtain ⟨v8,hb8,hn8,ho8⟩:=hcut
              obtain ⟨A8,c8,rfl,_,hr8⟩:=ho8.row
              obtain ⟨M8,hM8⟩:∃ M8,M8=(up++[g]).length:=⟨_,rfl⟩
              rw [← hM8] at hn8 ho8
              have HMAY:Hid (∀ w',Below wu.heap.size wu w'→Calls Tryz.prog 91 #[docV id A8 M8 c8] w' fun e w''=>e= .returned (.int .i64 (mayD (up++[g])))∧Below w'.heap.size w' w''):=Lib.hid fun w' h=>
                ref08_May id A8 _ c8 (up++[g]) w' hM8.symm (hr8.later h) (by rw [hM8];simp;have :=HM.out;omega) fun f hf=>by
                  rcases List.mem_append.1 hf with hf|hf
                  · have a1:=goodUp_name l k f (by rw [← HUP.out];exact hf)
                    have a2:=goodUp_text l k f (by rw [← HUP.out];exact hf)
                    omega
                  · rw [List.mem_singleton.1 hf,HG.out]
                    have a1:=goodF_name k l[k]
                    have a2:=goodF_text k l[k]
                    omega
              have hz:=two_cells hn8
              have n0:=hz.1
              have n1:=hz.2.1
              have HGS:Hid (goodUp l (k+1)=if mayD (up++[g])=0 then up++[g] else up):=Lib.hid (by
                rw [goodUp,← HUP.out,HG.out,List.getD_eq_getElem?_getD,List.getElem?_eq_getElem hkl]
                rfl)
              have HB8:=Lib.hid hb8
              have HO8:=Lib.hid ho8
              have hnlt8:=lt_of_block hn8
              have HN8:=Lib.hid hn8
              obtain ⟨e8,he8⟩:∃ e8,e8=mayD (up++[g]):=⟨_,rfl⟩
              rw [← he8] at HMAY HGS
              clear hb8 hn8 ho8 hr8 hz he8 hM8
              have hny:=HG3.out.2.1
              by_cases h8:e8=0
              · subst h8
                have HGT:Hid (goodUp l (k+1)=up++[g]):=Lib.hid (by rw [HGS.out,if_pos rfl])
                go_wp2_with (first
                | (go_at_call 91; (with_reducible refine (HMAY.out _ (Below.refl _ _)).mono ?_); rintro e w9 ⟨rfl, hb9⟩
                   have hg9:GoodW w id (some ⟨b1,o1,none⟩) n c (.slice Av m cv) w9:=HG3.out.below (HB8.out.trans (hb9.mono HB8.out.size))
                   have hn9:w9.heap[wy.heap.size]?=some (.cells #[.int .i64 id,.slice A8 M8 c8] 80 (0,0)):=(hb9.block _ hnlt8).trans HN8.out
                   have HO9:Hid (OwnFd (wy.heap.size+1) w9 (.slice A8 M8 c8) (up++[g])):=Lib.hid (HO8.out.below hb9)
                   have HU9:Hid (OwnFd (w.heap.size+4) w9 (.slice Av m cv) up):=Lib.hid (HM2.out.below (HB8.out.trans (hb9.mono HB8.out.size)))
                   have hz:=two_cells hn9
                   have n0:=hz.1
                   have n1:=hz.2.1
                   have hz:=two_cells hg9.2.2.2.2.1
                   have s0:=hz.1
                   have s1:=hz.2.1
                   have s2:=hz.2.2.1
                   have s3:=hz.2.2.2
                   have HG9:=Lib.hid hg9
                   clear hg9 hn9 hb9 hz))
                refine ⟨⟨k+1,_,by omega,by omega,by go_num,HG9.out.put _,?_⟩,by simp [intOf];omega⟩
                rw [HGT.out]
                exact (show OwnFd (wy.heap.size+1) _ _ _ from ownsRow_setCell_below (ownsRow_setCell_below HO9.out (a:=⟨w.heap.size+1+1,0,none⟩) (by simp;omega) _) (a:=⟨w.heap.size+1+1,1,none⟩) (by simp;omega) _).low (by omega)
              · have HGT:Hid (goodUp l (k+1)=up):=Lib.hid (by rw [HGS.out,if_neg h8])
                go_wp2_with (first
                | (go_at_call 91; (with_reducible refine (HMAY.out _ (Below.refl _ _)).mono ?_); rintro e w9 ⟨rfl, hb9⟩
                   have hg9:GoodW w id (some ⟨b1,o1,none⟩) n c (.slice Av m cv) w9:=HG3.out.below (HB8.out.trans (hb9.mono HB8.out.size))
                   have hn9:w9.heap[wy.heap.size]?=some (.cells #[.int .i64 id,.slice A8 M8 c8] 80 (0,0)):=(hb9.block _ hnlt8).trans HN8.out
                   have HO9:Hid (OwnFd (wy.heap.size+1) w9 (.slice A8 M8 c8) (up++[g])):=Lib.hid (HO8.out.below hb9)
                   have HU9:Hid (OwnFd (w.heap.size+4) w9 (.slice Av m cv) up):=Lib.hid (HM2.out.below (HB8.out.trans (hb9.mono HB8.out.size)))
                   have hz:=two_cells hn9
                   have n0:=hz.1
                   have n1:=hz.2.1
                   have hz:=two_cells hg9.2.2.2.2.1
                   have s0:=hz.1
                   have s1:=hz.2.1
                   have s2:=hz.2.2.1
                   have s3:=hz.2.2.2
                   have HG9:=Lib.hid hg9
                   clear hg9 hn9 hb9 hz))
                refine ⟨⟨k+1,_,by omega,by omega,by go_num,HG9.out,?_⟩,by simp [intOf];omega⟩
                rw [HGT.out]
                exact HU9.out
    · have hend:min l.length 4=k:=by rw [HL.out];omega
      have hup:goodD l=up:=by rw [goodD,hend,HUP.out]
      have HEND:=Lib.hid hup
      have hz:=two_cells hgw.2.2.2.2.1
      have s0:=hz.1
      have s1:=hz.2.1
      have hz:=two_cells hgw.2.2.2.1
      have r0:=hz.1
      have r1:=hz.2.1
      have r2:=hz.2.2.1
      have r3:=hz.2.2.2
      have h1:(n:Int)≤k∨(k:Int)<n∧(4:Int)≤k:=by omega
      clear hlt hz hend hup
      rcases h1 with h1|⟨h1,h2⟩
      all_goals
        go_wp2
        obtain ⟨we,hwe⟩:∃ we,we=(wr.setCell ⟨w.heap.size+1,0,none⟩ (.int .i64 id)).setCell ⟨w.heap.size+1,1,none⟩ (.slice Av m cv):=⟨_,rfl⟩
        have h3:we.heap[w.heap.size+1]?=some (.cells #[.int .i64 id,.slice Av m cv] 80 (0,0)):=by rw [hwe,set_at (set_at hgw.2.2.2.1)];rfl
        have hbe:Below w.heap.size w we:=by rw [hwe];exact (hgw.1.setCell (by simp) _).setCell (by simp) _
        have hoe:OwnFd w.heap.size we (.slice Av m cv) up:=by
          rw [hwe]
          exact (show OwnFd (w.heap.size+4) _ _ _ from ownsRow_setCell_below (ownsRow_setCell_below hown (a:=⟨w.heap.size+1,0,none⟩) (by simp) _) (a:=⟨w.heap.size+1,1,none⟩) (by simp) _).low (by omega)
        rw [← hwe]
        obtain ⟨d0,d1,_,_⟩:=two_cells h3
        exact bodyPost_ret (v:= .agg #[.int .i64 id,.slice Av m cv]) (by simp [results,Tryz.results39,go_sem,d0,d1]) rfl ⟨_,rfl,by rw [HEND.out];exact hoe,hbe⟩
end Go.Proofs.YtldcadpemnpbmaaGreatDoor
namespace Go.Proofs.YtldcadpemnpbmaaGreatDoor
open Go Go.RowKit
set_option linter.unusedVariables false
theorem info_query:(Tryz.prog.info? 27).map (fun i=>(i.zero,i.size,i.bytes))=some (some (.agg #[.int .i64 0,.string ByteArray.empty,.string ByteArray.empty,.slice none 0 0,.slice none 0 0]),5,88):=by kernel_rfl
def GaveQ (q:Qy) (w:World) (e:Ending) (w':World):Prop:=∃ v,e= .returned v∧QV (fun b=>w.heap.size≤b∧b<w'.heap.size) w' q v∧Below w.heap.size w w'
def OwnQs (base:Nat) (w:World) (v:Value) (l:List Qy):Prop:=∃ cs,w.ownsRow base 27 5 v l.length cs∧QsAt (fun b=>base≤b∧b<w.heap.size∧v.ownBlock≠some b) w l cs
section
variable {base:Nat} {w w' w'':World} {v v':Value} {l:List Qy}
theorem OwnQs.nil:OwnQs base w (.slice none 0 0) []:=⟨[],World.ownsRow_nil _ _ _ _,QsAt.nil⟩
theorem OwnQs.below (h:OwnQs base w v l) (hb:Below w.heap.size w w'):OwnQs base w' v l:=by
 obtain ⟨cs,h1,h2⟩:=h
 exact ⟨cs,owned_below h1 hb,(h2.keep fun b hs=>hb.block b hs.2.1).imp fun b hs=>⟨hs.1,Nat.lt_of_lt_of_le hs.2.1 hb.size,hs.2.2⟩⟩
theorem OwnQs.slice (h:OwnQs base w v l):∃ A c ds,v= .slice A l.length c∧l.length≤c∧RowP (fun b=>base≤b∧b<w.heap.size) w A ds∧QsAt (fun b=>base≤b∧b<w.heap.size) w l ds:=by
 obtain ⟨cs,h1,h2⟩:=h
 have h1':=h1
 obtain ⟨A,c,rfl,hc,hr⟩:=owned_row h1
 refine ⟨A,c,cs,rfl,hc,?_,h2.imp fun b hs=>⟨hs.1,hs.2.1⟩⟩
 rcases hr with hr|⟨b,off,rfl,hb,hcell⟩
 ·exact .inl hr
 ·refine .inr ⟨b,off,rfl,⟨?_,hb⟩,hcell⟩
  rcases h1'.2 with ⟨hv,hn⟩|⟨g,cap,cur,hv,hg,_⟩
  ·injection hv with hv;cases hv
  ·injection hv with hv
   injection hv with hv
   injection hv with hv
   subst hv
   exact hg
theorem OwnQs.push {w2:World} {cs kcs:List Value} {q:Qy} {g:Nat} (h1:w.ownsRow base 27 5 v l.length cs) (h2:QsAt (fun b=>base≤b∧b<w.heap.size∧v.ownBlock≠some b) w l cs) (hb:Below w.heap.size w w2)
  (hq:QAt (fun b=>w.heap.size≤b∧b<w2.heap.size) w2 q kcs) (hbase:base≤w.heap.size) (hb3:Below w2.heap.size w2 w') (hown:w''.ownsRow base 27 5 v' (l.length+1) (cs++kcs)) (hg:w'.grownBy w'' v.ownBlock) (hv':v'.ownBlock=some g) (hat:v.ownBlock=some g∨w2.heap.size≤g):OwnQs base w'' v' (l++[q]):=by
 have hlt:∀ k,v.ownBlock=some k→k<w.heap.size:=fun k hk=>(h1.lt k hk).2
 have hk1:∀ b,b<w2.heap.size→v.ownBlock≠some b→w''.heap[b]?=w2.heap[b]?:=fun b hb1 hb2=>(hg.block b (Nat.lt_of_lt_of_le hb1 hb3.size) (fun e=>hb2 e.symm)).trans (hb3.block b hb1)
 have hne:∀ b,b<w2.heap.size→v.ownBlock≠some b→v'.ownBlock≠some b:=fun b hb1 hb2 e=>by
  rw [hv'] at e
  injection e with e
  subst e
  rcases hat with h|h
  ·exact hb2 h
  ·omega
 have hsz:w2.heap.size≤w''.heap.size:=Nat.le_trans hb3.size hg.size
 refine ⟨cs++kcs,by rw [List.length_append,List.length_singleton];exact hown,QsAt.snoc ?_ ?_⟩
 ·refine ((h2.keep fun b hs=> ?_).imp fun b hs=>⟨hs.1,?_,hne b (Nat.lt_of_lt_of_le hs.2.1 hb.size) hs.2.2⟩)
  ·exact (hk1 b (Nat.lt_of_lt_of_le hs.2.1 hb.size) hs.2.2).trans (hb.block b hs.2.1)
  ·exact Nat.lt_of_lt_of_le hs.2.1 (Nat.le_trans hb.size hsz)
 ·refine ((hq.keep fun b hs=>hk1 b hs.2 fun e=> ?_).imp fun b hs=>⟨by omega,by omega,hne b hs.2 fun e=> ?_⟩)
  ·have :=hlt b e;omega
  ·have :=hlt b e;omega
end
theorem five_cells {w:World} {b:Nat} {x0 x1 x2 x3 x4:Value} {t:TypeId} (h:w.heap[b]?=some (.cells #[x0,x1,x2,x3,x4] t (0,0))):
  (w.cell? ⟨b,0,none⟩=some x0∧w.cell? ⟨b,1,none⟩=some x1∧w.cell? ⟨b,2,none⟩=some x2∧w.cell? ⟨b,3,none⟩=some x3∧w.cell? ⟨b,4,none⟩=some x4)∧
  (w.frozen? ⟨b,0,none⟩=false∧w.frozen? ⟨b,1,none⟩=false∧w.frozen? ⟨b,2,none⟩=false∧w.frozen? ⟨b,3,none⟩=false∧w.frozen? ⟨b,4,none⟩=false):=by
 simp [World.cell?,World.frozen?,h]
def set5 (w:World) (b:Nat) (y0 y1 y2 y3 y4:Value):World:=((((w.setCell ⟨b,0,none⟩ y0).setCell ⟨b,1,none⟩ y1).setCell ⟨b,2,none⟩ y2).setCell ⟨b,3,none⟩ y3).setCell ⟨b,4,none⟩ y4
theorem set5_at {w:World} {b:Nat} {x0 x1 x2 x3 x4 y0 y1 y2 y3 y4:Value} {t:TypeId} (h:w.heap[b]?=some (.cells #[x0,x1,x2,x3,x4] t (0,0))):(set5 w b y0 y1 y2 y3 y4).heap[b]?=some (.cells #[y0,y1,y2,y3,y4] t (0,0)):=by
 unfold set5
 rw [set_at (set_at (set_at (set_at (set_at h))))]
 rfl
theorem set5_ne {w:World} {b d:Nat} {y0 y1 y2 y3 y4:Value} (h:b≠d):(set5 w b y0 y1 y2 y3 y4).heap[d]?=w.heap[d]?:=by
 unfold set5
 rw [set_ne h,set_ne h,set_ne h,set_ne h,set_ne h]
theorem set5_size {w:World} {b:Nat} {y0 y1 y2 y3 y4:Value}:(set5 w b y0 y1 y2 y3 y4).heap.size=w.heap.size:=by simp [set5,World.setCell]
theorem set5_below {w wr:World} {b B:Nat} {y0 y1 y2 y3 y4:Value} (h:Below B w wr) (hb:B≤b):Below B w (set5 wr b y0 y1 y2 y3 y4):=by
 unfold set5
 exact ((((h.setCell hb _).setCell hb _).setCell hb _).setCell hb _).setCell hb _
end Go.Proofs.YtldcadpemnpbmaaGreatDoor
set_option linter.unusedVariables false
namespace Go.Proofs.YtldcadpemnpbmaaGreatDoor
open Go Go.RowKit
def VQ (w:World) (B:Nat) (q:Qy) (k:Int) (f x:ByteArray) (A:Option Addr) (n c:Nat) (K:Option Addr) (m d:Nat):Prop:=
 w.heap[B]?=some (.cells #[.int .i64 k,.string f,.string x,.slice A n c,.slice K m d] 27 (0,0))∧QIn w q (qV k f x A n c K m d)
section
variable {w w':World} {B g:Nat} {q a b:Qy} {k k1 k2:Int} {f f2 x x2:ByteArray} {A A2:Option Addr} {n n2 c c2:Nat} {K K2:Option Addr} {m m2 d d2:Nat}
theorem VQ.later (h:VQ w B q k f x A n c K m d) (hb:Below w.heap.size w w'):VQ w' B q k f x A n c K m d:=⟨(hb.block B (Array.getElem?_eq_some_iff.1 h.1).1).trans h.1,h.2.later hb⟩
theorem VQ.cells (h:VQ w B q k f x A n c K m d):w.cell? ⟨B,0,none⟩=some (.int .i64 k)∧w.cell? ⟨B,1,none⟩=some (.string f)∧w.cell? ⟨B,2,none⟩=some (.string x)∧w.cell? ⟨B,3,none⟩=some (.slice A n c)∧w.cell? ⟨B,4,none⟩=some (.slice K m d):=(five_cells h.1).1
theorem VQ.made (h:QIn w q (qV k f x A n c K m d)):VQ (boxQ w k f x A n c K m d) w.heap.size q k f x A n c K m d:=⟨heap_alloc_new _ _,h.later boxQ_below⟩
theorem VQ.in_ (h:VQ w B q k f x A n c K m d):QIn w q (qV k f x A n c K m d):=h.2
end
end Go.Proofs.YtldcadpemnpbmaaGreatDoor
set_option linter.unusedVariables false
namespace Go.Proofs.YtldcadpemnpbmaaGreatDoor
open Go Go.RowKit
def GoodAt (w2:World) (z B:Nat) (k:Int) (f x:ByteArray) (a:Value) (l:List Qy) (v:Value) (w:World):Prop:=
 w.heap[B]?=some (.cells #[.int .i64 k,.string f,.string x,a,v] 27 (0,0))∧OwnQs (B+1) w v l∧Below z w2 w∧z≤B
section
variable {w2 w w6 w8:World} {z B g:Nat} {k:Int} {f x:ByteArray} {a v v':Value} {l:List Qy} {q:Qy}
theorem GoodAt.lt (h:GoodAt w2 z B k f x a l v w):B<w.heap.size:=(Array.getElem?_eq_some_iff.1 h.1).1
theorem GoodAt.later (h:GoodAt w2 z B k f x a l v w) (hb:Below w.heap.size w w6):GoodAt w2 z B k f x a l v w6:=
 ⟨(hb.block B h.lt).trans h.1,h.2.1.below hb,h.2.2.1.trans (hb.mono (by have :=h.lt;have :=h.2.2.2;omega)),h.2.2.2⟩
theorem OwnQs.set {base C i:Nat} (h:OwnQs base w v l) (hC:C<base) (u:Value):OwnQs base (w.setCell ⟨C,i,none⟩ u) v l:=by
 obtain ⟨cs,h1,h2⟩:=h
 have hs:(w.setCell ⟨C,i,none⟩ u).heap.size=w.heap.size:=by simp [World.setCell]
 exact ⟨cs,ownsRow_setCell_below h1 (a:=⟨C,i,none⟩) hC u,(h2.keep fun b hb=>set_ne (by omega)).imp fun b hb=>by rw [hs];exact hb⟩
theorem GoodAt.push {cs kcs:List Value} {o:Obj} (h:GoodAt w2 z B k f x a l v w) (h1:w.ownsRow (B+1) 27 5 v l.length cs) (h2:QsAt (fun b=>B+1≤b∧b<w.heap.size∧v.ownBlock≠some b) w l cs) (hb:Below w.heap.size w w6)
  (hq:QAt (fun b=>w.heap.size≤b∧b<w6.heap.size) w6 q kcs) (hown:w8.ownsRow (B+1) 27 5 v' (l.length+1) (cs++kcs)) (hg:(w6.alloc o).grownBy w8 v.ownBlock) (hv':v'.ownBlock=some g) (hat:v.ownBlock=some g∨w6.heap.size≤g):
  (w8.cell? ⟨B,4,none⟩=some v∧w8.frozen? ⟨B,4,none⟩=false)∧GoodAt w2 z B k f x a (l++[q]) v' (w8.setCell ⟨B,4,none⟩ v'):=by
 have hB:=h.lt
 have hal:Below w6.heap.size w6 (w6.alloc o):=(Below.refl _ _).alloc (Nat.le_refl _) _
 have hne:v.ownBlock≠some B:=fun e=>by have :=(h1.lt B e).1;omega
 have hblk:w8.heap[B]?=some (.cells #[.int .i64 k,.string f,.string x,a,v] 27 (0,0)):=by
  rw [hg.block B (by have :=hb.size;have :=hal.size;omega) (fun e=>hne e.symm),hal.block B (by have :=hb.size;omega),hb.block B hB]
  exact h.1
 obtain ⟨⟨_,_,_,_,c4⟩,_,_,_,_,f4⟩:=five_cells hblk
 have hp:=OwnQs.push h1 h2 hb hq (by omega) hal hown hg hv' hat
 have hz0:Below z w2 (w6.alloc o):=(h.2.2.1.trans (hb.mono (by have :=h.2.2.2;omega))).trans (hal.mono (by have :=h.2.2.2;have :=hb.size;omega))
 have hz:Below z w2 w8:=hz0.grown hg (by have :=h.2.2.2;have :=hb.size;have :=hal.size;omega) (fun k hk=>by have :=(h1.lt k hk).1;have :=h.2.2.2;omega)
 refine ⟨⟨c4,f4⟩,?_,?_,hz.setCell (p:=⟨B,4,none⟩) h.2.2.2 _,h.2.2.2⟩
 ·rw [set_at hblk];rfl
 ·exact hp.set (by omega) _
theorem GoodAt.done {C n:Nat} {y0 y1 y2 y3 y4:Value} (h:GoodAt w2 z B k ⟨#[]⟩ ⟨#[]⟩ (.slice none 0 0) l v w) (hC:C<B) (hn:l.length=n):∃ A c,v= .slice A n c∧
  QV (fun b=>z≤b∧b<(set5 w C y0 y1 y2 y3 y4).heap.size) (set5 w C y0 y1 y2 y3 y4) (.mk k ([],[]) [] l) (qV k ⟨#[]⟩ ⟨#[]⟩ none 0 0 A n c):=by
 subst hn
 obtain ⟨A,c,ds,rfl,hc,hr,hq⟩:=h.2.1.slice
 have hz:=h.2.2.2
 refine ⟨A,c,rfl,QV.mk (ds:=ds) rfl rfl rfl rfl (Nat.le_refl _) hc (.inl rfl) ?_ ?_⟩
 ·exact (hr.keep fun b hb=>set5_ne (by omega)).imp fun b hb=>⟨by omega,by rw [set5_size];exact hb.2⟩
 ·exact (hq.keep fun b hb=>set5_ne (by omega)).imp fun b hb=>⟨by omega,by rw [set5_size];exact hb.2⟩
def WordsAt (w2:World) (z B:Nat) (k:Int) (f x:ByteArray) (a:Value) (l:List Nm) (v:Value) (w:World):Prop:=
 w.heap[B]?=some (.cells #[.int .i64 k,.string f,.string x,v,a] 27 (0,0))∧OwnNm (B+1) w v l∧Below z w2 w∧z≤B
theorem WordsAt.lt {l:List Nm} (h:WordsAt w2 z B k f x a l v w):B<w.heap.size:=(Array.getElem?_eq_some_iff.1 h.1).1
theorem WordsAt.later {l:List Nm} (h:WordsAt w2 z B k f x a l v w) (hb:Below w.heap.size w w6):WordsAt w2 z B k f x a l v w6:=
 ⟨(hb.block B h.lt).trans h.1,h.2.1.below hb,h.2.2.1.trans (hb.mono (by have :=h.lt;have :=h.2.2.2;omega)),h.2.2.2⟩
theorem WordsAt.push {W:World} {l:List Nm} {s:Nm} (h:WordsAt w2 z B k f x a l v w) (hown:w8.ownsRow (B+1) 9 1 v' (l.length+1) (strs l++[.string ⟨s.toArray⟩])) (hal:Below w.heap.size w W) (hg:W.grownBy w8 v.ownBlock):
  (w8.cell? ⟨B,3,none⟩=some v∧w8.frozen? ⟨B,3,none⟩=false)∧WordsAt w2 z B k f x a (l++[s]) v' (w8.setCell ⟨B,3,none⟩ v'):=by
 have hB:=h.lt
 have h1:w.ownsRow (B+1) 9 1 v l.length (strs l):=h.2.1
 have hne:v.ownBlock≠some B:=fun e=>by have :=(h1.lt B e).1;omega
 have hblk:w8.heap[B]?=some (.cells #[.int .i64 k,.string f,.string x,v,a] 27 (0,0)):=by
  rw [hg.block B (by have :=hal.size;omega) (fun e=>hne e.symm),hal.block B hB]
  exact h.1
 obtain ⟨⟨_,_,_,c3,_⟩,_,_,_,f3,_⟩:=five_cells hblk
 have hz0:Below z w2 W:=h.2.2.1.trans (hal.mono (by have :=h.2.2.2;omega))
 have hz:Below z w2 w8:=hz0.grown hg (by have :=h.2.2.2;have :=hal.size;omega) (fun k hk=>by have :=(h1.lt k hk).1;have :=h.2.2.2;omega)
 refine ⟨⟨c3,f3⟩,?_,?_,hz.setCell (p:=⟨B,3,none⟩) h.2.2.2 _,h.2.2.2⟩
 ·rw [set_at hblk];rfl
 ·have :OwnNm (B+1) w8 v' (l++[s]):=by
   unfold OwnNm
   rw [List.length_append,List.length_singleton,show strs (l++[s])=strs l++[.string ⟨s.toArray⟩] by simp [strs]]
   exact hown
  exact ownsRow_setCell_below this (a:=⟨B,3,none⟩) (by show B<B+1;omega) _
theorem WordsAt.done {C n:Nat} {l:List Nm} {s:Nm} {y0 y1 y2 y3 y4:Value} (h:WordsAt w2 z B k f ⟨#[]⟩ (.slice none 0 0) l v w) (hC:C<B) (hn:l.length=n) (hf:f.data.toList=s):∃ A c,v= .slice A n c∧
  QV (fun b=>z≤b∧b<(set5 w C y0 y1 y2 y3 y4).heap.size) (set5 w C y0 y1 y2 y3 y4) (.mk k (s,[]) l []) (qV k f ⟨#[]⟩ A n c none 0 0):=by
 subst hn
 have h1:w.ownsRow (B+1) 9 1 v l.length (strs l):=h.2.1
 have h1':=h1
 obtain ⟨A,c,rfl,hc,hr⟩:=owned_row h1
 have hz:=h.2.2.2
 refine ⟨A,c,rfl,QV.mk rfl rfl hf rfl hc (Nat.le_refl _) ?_ (.inl rfl) QsAt.nil⟩
 rcases hr with hr|⟨b,off,rfl,hb,hcell⟩
 ·exact .inl hr
 ·have hBb:B+1≤b:=by
   rcases h1'.2 with ⟨hv,_⟩|⟨g,cap,cur,hv,hg,_⟩
   ·injection hv with hv;cases hv
   ·injection hv with hv
    injection hv with hv
    injection hv with hv
    subst hv
    exact hg
  have hrow:RowP (fun b'=>b'=b) w (some ⟨b,off,none⟩) (strs l):= .inr ⟨b,off,rfl,rfl,hcell⟩
  exact (hrow.keep fun b' hb'=>set5_ne (by omega)).imp fun b' hb'=>⟨by omega,by rw [set5_size];omega⟩
end
end Go.Proofs.YtldcadpemnpbmaaGreatDoor
