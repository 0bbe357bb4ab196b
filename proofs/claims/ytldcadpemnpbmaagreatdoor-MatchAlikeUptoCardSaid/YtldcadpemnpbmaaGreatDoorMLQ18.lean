import Derived.Test.YtldcadpemnpbmaaGreatDoorMLQ17
import Derived.Test.YtldcadpemnpbmaaGreatDoorMLQ06
import Derived.Test.YtldcadpemnpbmaaGreatDoorMLQ16
import Derived.Test.YtldcadpemnpbmaaGreatDoorMLQ01
import Derived.Deep.RegionLaw
import Derived.Deep.RegionHeld3
import Derived.Deep.AppendLies
import Derived.Test.YtldcadpemnpbmaaGreatDoorMLQ14
import Derived.Test.YtldcadpemnpbmaaGreatDoorMLQ07
import Derived.Test.YtldcadpemnpbmaaGreatDoorMLQ11
import Derived.RangeFuncNested
import Derived.RangeFuncCalls
import Derived.OrdersIn
import Derived.TacticsIn
import Derived.Lib.AppendZeros
set_option linter.unusedVariables false
namespace Go.Proofs.YtldcadpemnpbmaaGreatDoor
open Go Go.RowKit
def SegIdxRel (D many:Nat) (ls:List (List Pn)) (w:World) (r u i:Value) (wr:World):Prop:=r= .int .i64 0∧∃ k:Nat,k≤ls.length∧i= .int .i64 (k:Int)∧Below w.heap.size w wr∧∀ j (hj:j<ls.length),j<k→mayL many ls[j]=true
set_option maxHeartbeats 2000000 in
set_option maxRecDepth 100000 in
theorem seg_index (D many:Nat) (A:Option Addr) (n c:Nat) (ls:List (List Pn)) (w:World) (hD:w.heap[D]?=some (.cells #[.int .i64 (many:Int)] 3 (0,0))) (hn:ls.length=n) (hnx:n≤9223372036854775807) (hr:LPosts w w.heap.size A ls) (hf:∀ l∈ls,l.length≤9223372036854775807∧∀ p∈l,p.2.length≤9223372036854775807):
  Calls Tryz.prog 224 #[.slice A n c,.func (.func 225) #[] #[.pointer (some ⟨D,0,none⟩)]] w fun e w'=>(∃ r:Int,e= .returned (.int .i64 r)∧decide (0≤r)= !(ls.all (mayL many)))∧Below w.heap.size w w':=by
 have HR:=Lib.hid hr
 have HN:=Lib.hid hn
 have HF:=Lib.hid hf
 have HD:=Lib.hid hD
 clear hr hn hf hD
 go_enter Tryz.func224,Tryz.ntmps224
 go_wp2
 go_loopw [4,5,8] (fun r u i wr=>SegIdxRel D many ls w r u i wr) (fun _ _ i _=>n-(intOf i).toNat)
 case atStart=>exact ⟨rfl,0,Nat.zero_le _,rfl,Below.refl _ _,fun j _ hj=>by omega⟩
 case round=>
  obtain ⟨rfl,k,hk,rfl,hbw,hall⟩:=hrel
  rw [HN.out] at hk
  have HALL:=Lib.hid hall
  clear hall
  by_cases hkn:k<n
  ·have hlt:k<ls.length:=by rw [HN.out];exact hkn
   obtain ⟨b1,o1,A',c',rfl,hb1,hc1,hl1,hp1⟩:=(HR.out.below hbw).at_ hlt
   have f1:=HF.out _ (List.getElem_mem hlt)
   have hi0:(0:Int)≤k:=by omega
   have hi1:(k:Int)<n:=by omega
   obtain ⟨L,hL⟩:∃ L,L=ls[k]:=⟨_,rfl⟩
   rw [← hL] at hc1 hl1 hp1 f1
   obtain ⟨m,hm⟩:∃ m,m=L.length:=⟨_,rfl⟩
   rw [← hm] at hc1 hl1 f1
   have hsz:=hbw.size
   have HW:=Lib.hid (seg_wrong1 D many A' m c' L wr ((hbw.block D (lt_of_block HD.out)).trans HD.out) hm.symm f1.1 (hp1.more hsz) f1.2)
   have HL:=Lib.hid hL
   obtain ⟨z,hz⟩:∃ z,z=mayL many L:=⟨_,rfl⟩
   rw [← hz] at HW
   have HZ:=Lib.hid hz
   have HBW:=Lib.hid hbw
   clear hL hm hz f1 hp1 hl1 hbw
   cases z with
   |false=>
    have hbad:Hid (ls.all (mayL many)=false):=Lib.hid (by
     rw [List.all_eq_false]
     exact ⟨_,List.getElem_mem hlt,by rw [← HL.out,← HZ.out];decide⟩)
    go_wp2_with (go_at_call 225;(with_reducible refine HW.out.mono ?_);rintro e w5 ⟨rfl,hb5⟩)
    go_ret
    exact ⟨⟨_,rfl,by rw [hbad.out];exact decide_eq_true hi0⟩,HBW.out.trans (hb5.mono hsz)⟩
   |true=>
    have HOK:Hid (∀ j (hj:j<ls.length),j<k+1→mayL many ls[j]=true):=Lib.hid fun i hi hik=>by
     by_cases e:i=k
     ·subst e
      rw [← HL.out,← HZ.out]
     ·exact HALL.out i hi (by omega)
    go_wp2_with (go_at_call 225;(with_reducible refine HW.out.mono ?_);rintro e w5 ⟨rfl,hb5⟩)
    go_roundw
    case rel=>exact ⟨rfl,k+1,by rw [HN.out];omega,by go_num,HBW.out.trans (hb5.mono hsz),HOK.out⟩
    case measure=>simp [intOf];omega
  ·have hgood:Hid (ls.all (mayL many)=true):=Lib.hid (List.all_eq_true.2 fun l hl=>by
    obtain ⟨j,hj,rfl⟩:=List.mem_iff_getElem.1 hl
    exact HALL.out j hj (by have :=HN.out;omega))
   have HBW:=Lib.hid hbw
   clear hbw
   go_wp2
   go_ret
   exact ⟨⟨_,rfl,by rw [hgood.out];rfl⟩,HBW.out⟩
set_option maxHeartbeats 1000000 in
set_option maxRecDepth 100000 in
theorem seg_contains (D many:Nat) (A:Option Addr) (n c:Nat) (ls:List (List Pn)) (w:World) (hD:w.heap[D]?=some (.cells #[.int .i64 (many:Int)] 3 (0,0))) (hn:ls.length=n) (hnx:n≤9223372036854775807) (hr:LPosts w w.heap.size A ls) (hf:∀ l∈ls,l.length≤9223372036854775807∧∀ p∈l,p.2.length≤9223372036854775807):
  Calls Tryz.prog 172 #[.slice A n c,.func (.func 225) #[] #[.pointer (some ⟨D,0,none⟩)]] w fun e w'=>e= .returned (.bool (!(ls.all (mayL many))))∧Below w.heap.size w w':=by
 have C:=Lib.hid (seg_index D many A n c ls w hD hn hnx hr hf)
 clear hD hn hnx hr hf
 obtain ⟨z,hz⟩:∃ z,z= !(ls.all (mayL many)):=⟨_,rfl⟩
 rw [← hz] at C ⊢
 clear hz
 go_enter Tryz.func172,Tryz.ntmps172
 go_wp2_with (go_at_call 224;(with_reducible refine C.out.mono ?_);rintro e w1 ⟨⟨r,rfl,hr⟩,hb⟩)
 go_ret
 exact ⟨rfl,hb⟩
set_option maxHeartbeats 1000000 in
theorem seg_wrong (many:Nat) (w:World):Calls Tryz.prog 173 #[.int .i64 (many:Int)] w fun e w'=>e= .returned (.func (.func 225) #[] #[.pointer (some ⟨w.heap.size,0,none⟩)])∧w'=w.alloc (.cells #[.int .i64 (many:Int)] 3):=by
 go_enter Tryz.func173,Tryz.ntmps173
 go_wp2
 go_ret
 exact ⟨rfl,rfl⟩
theorem cells_sls:∀ {cs:List Value},(∀ i,i<cs.length→∃ A n c,cs[i]?=some (.slice A n c))→∃ vs,cs=sls vs
 |[],_=>⟨[],rfl⟩
 |u::cs,h=>by
  obtain ⟨A,n,c,h0⟩:=h 0 (by simp)
  obtain ⟨vs,h1⟩:=cells_sls (cs:=cs) fun i hi=>by
   obtain ⟨A,n,c,h2⟩:=h (i+1) (by simpa using hi)
   exact ⟨A,n,c,by simpa using h2⟩
  refine ⟨(A,n,c)::vs,?_⟩
  simp at h0
  rw [h0,h1]
  rfl
theorem LPosts.sls {w:World} {B:Nat} {A:Option Addr} {ls:List (List Pn)} (h:LPosts w B A ls):∃ vs,vs.length=ls.length∧Row w B A (Go.Proofs.YtldcadpemnpbmaaGreatDoor.sls vs):=by
 obtain ⟨cs,h1,h2⟩:=h
 obtain ⟨vs,rfl⟩:=cells_sls (cs:=cs) fun i hi=>by
  obtain ⟨A,c,h3,_⟩:=h1.2 i (by rw [← h1.1];exact hi)
  exact ⟨A,_,c,h3⟩
 exact ⟨vs,by have :=h1.1;simpa [Go.Proofs.YtldcadpemnpbmaaGreatDoor.sls] using this,h2⟩
def SBox (w:World) (B:Nat) (V:Array Value) (wr:World):Prop:=Below w.heap.size w wr∧w.heap.size≤B∧wr.heap[B]?=some (.cells V 91 (0,0))
theorem SBox.below {w wr w':World} {B:Nat} {V:Array Value} (h:SBox w B V wr) (hb:Below wr.heap.size wr w'):SBox w B V w':=by
 obtain ⟨h0,h1,h2⟩:=h
 exact ⟨h0.trans (hb.mono h0.size),h1,(hb.block _ (Array.getElem?_eq_some_iff.1 h2).1).trans h2⟩
theorem sBox_start (w:World) (V:Array Value):SBox w w.heap.size V (w.alloc (.cells V 91)):=
 ⟨(Below.refl _ w).alloc (Nat.le_refl _) _,Nat.le_refl _,heap_alloc_new w _⟩
set_option maxHeartbeats 4000000 in
set_option maxRecDepth 100000 in
theorem seg_May (A1 A2 A3 A4:Option Addr) (n1 c1 n2 c2 n3 c3 n4 c4:Nat) (x:PartsP) (w:World)
    (hx1:x.ids.length=n1) (hx2:x.seqs.length=n2) (hx3:x.keys.length=n3) (hx4:x.lists.length=n4) (hx:PAt w w.heap.size A1 A2 A3 A4 x) (fx:PFew x) (hk:n3≤1048576):
    Calls Tryz.prog 100 #[.agg #[.slice A1 n1 c1,.slice A2 n2 c2,.slice A3 n3 c3,.slice A4 n4 c4]] w fun e w'=>e= .returned (.bool (mayPs x))∧Below w.heap.size w w':=by
  obtain ⟨V,hV⟩:∃ V:Array Value,V=#[.slice A1 n1 c1,.slice A2 n2 c2,.slice A3 n3 c3,.slice A4 n4 c4]:=⟨_,rfl⟩
  obtain ⟨z,hz⟩:∃ z,z=mayPs x:=⟨_,rfl⟩
  obtain ⟨z2,hz2⟩:∃ z,z=risesZ (-1) x.seqs:=⟨_,rfl⟩
  obtain ⟨z3,hz3⟩:∃ z,z=risesN x.keys:=⟨_,rfl⟩
  obtain ⟨z4,hz4⟩:∃ z,z=x.lists.all (mayL n1):=⟨_,rfl⟩
  have hE:mayPs x=(decide (n1=n2)&&(decide (n3=n4)&&(z2&&(z3&&z4)))):=by rw [hz2,hz3,hz4,← hx1,← hx2,← hx3,← hx4];rfl
  have S2:Hid (∀ w1,Below w.heap.size w w1→Calls Tryz.prog 170 #[.slice A2 n2 c2] w1 fun e w'=>e= .returned (.bool z2)∧Below w1.heap.size w1 w'):=Lib.hid fun w1 h=>by
    rw [hz2]
    exact seg_rise A2 n2 c2 x.seqs w1 (hx.later h).seqs hx2 (hx2▸fx.2.1)
  have S3:Hid (∀ w1,Below w.heap.size w w1→Calls Tryz.prog 171 #[.slice A3 n3 c3,.slice A4 n4 c4] w1 fun e w'=>(∃ p,e= .returned (.tuple #[.pointer p,.int .i64 (if n3=n4∧z3=true then 0 else 1)]))∧Below w1.heap.size w1 w'):=Lib.hid fun w1 h=>by
    by_cases hg:n3=n4∧z3=true
    · rw [if_pos hg]
      obtain ⟨hg1,hg2⟩:=hg
      obtain ⟨vs,hv1,hv2⟩:=(hx.later h).lists.sls
      subst hg1
      exact (dictQ_Make A3 A4 n3 c3 c4 x.keys vs w1 (hx.later h).keys hx3 hk hv2 (by rw [hv1,hx4]) (by rw [← hz3];exact hg2)).mono fun e w' ⟨B,h1,_,h2⟩=>⟨⟨_,h1⟩,h2⟩
    · rw [if_neg hg]
      refine (dictQ_Make_no A3 A4 n3 c3 n4 c4 x.keys w1 (hx.later h).keys hx3 (by omega) ?_).mono fun e w' ⟨h1,h2⟩=>⟨⟨_,h1⟩,h2⟩
      by_cases h1:n3=n4
      · exact .inr (by rw [← hz3];exact Bool.eq_false_iff.2 fun e=>hg ⟨h1,e⟩)
      · exact .inl h1
  have S4:Hid (∀ w1 D,Below w.heap.size w w1→w1.heap[D]?=some (.cells #[.int .i64 (n1:Int)] 3 (0,0))→Calls Tryz.prog 172 #[.slice A4 n4 c4,.func (.func 225) #[] #[.pointer (some ⟨D,0,none⟩)]] w1 fun e w'=>e= .returned (.bool (!z4))∧Below w1.heap.size w1 w'):=Lib.hid fun w1 D h hD=>by
    rw [hz4]
    exact seg_contains D n1 A4 n4 c4 x.lists w1 hD hx4 (hx4▸fx.2.2.2.1) (hx.later h).lists fx.2.2.2.2
  have HV:=Lib.hid hV
  rw [← hz]
  rw [hE] at hz
  have HZ:=Lib.hid hz
  clear hz hz2 hz3 hz4 hE hx fx hx1 hx2 hx3 hx4 hk
  have QS:Hid (∀ wr,SBox w w.heap.size V wr→wr.cell? ⟨w.heap.size,0,none⟩=some (.slice A1 n1 c1)∧wr.cell? ⟨w.heap.size,1,none⟩=some (.slice A2 n2 c2)∧wr.cell? ⟨w.heap.size,2,none⟩=some (.slice A3 n3 c3)∧wr.cell? ⟨w.heap.size,3,none⟩=some (.slice A4 n4 c4)):=Lib.hid fun wr h=>by
    obtain ⟨_,_,h2⟩:=h
    rw [HV.out] at h2
    exact cells4 h2
  obtain ⟨w1,hw1⟩:∃ w1,w1=w.alloc (.cells #[.slice A1 n1 c1,.slice A2 n2 c2,.slice A3 n3 c3,.slice A4 n4 c4] 91):=⟨_,rfl⟩
  have HB1:Hid (SBox w w.heap.size V w1):=Lib.hid (by rw [hw1,hV];exact sBox_start w _)
  have HW1:=Lib.hid hw1
  clear hw1 hV
  by_cases h12:n1=n2
  · subst h12
    obtain ⟨q0,q1,q2,q3⟩:=QS.out _ HB1.out
    rcases hz2:z2 with _|_
    · have hzf:z=false:=by rw [HZ.out,hz2];simp
      subst hz2 hzf
      go_enter Tryz.func100,Tryz.ntmps100
      go_wp2_with (go_at_call 170;rw [show w.alloc _=w1 from HW1.out.symm];refine (S2.out _ HB1.out.1).mono ?_;rintro e w2 ⟨rfl,hb2⟩)
      go_ret
      exact ⟨rfl,(HB1.out.below hb2).1⟩
    subst hz2
    have HARM:Hid (∀ w',Below w1.heap.size w1 w'→SBox w w.heap.size V w'):=Lib.hid fun w' h=>HB1.out.below h
    by_cases hg:n3=n4∧z3=true
    · have S3':=fun w1 h=>S3.out w1 h
      simp only [if_pos hg] at S3'
      have S3B:=Lib.hid S3'
      have hzz:Hid (z=z4):=Lib.hid (by rw [HZ.out,hg.2,decide_eq_true hg.1];simp)
      clear S3' hg
      go_enter Tryz.func100,Tryz.ntmps100
      go_wp2_with (first
        | (go_at_call 170; rw [show w.alloc _ = w1 from HW1.out.symm]; refine (S2.out _ HB1.out.1).mono ?_; rintro e w2 ⟨rfl, hb2⟩
           have HB2:Hid (SBox w w.heap.size V w2):=Lib.hid (HB1.out.below hb2)
           clear hb2 q0 q1 q2 q3
           obtain ⟨q0,q1,q2,q3⟩:=QS.out _ HB2.out)
        | (go_at_call 171; refine (S3B.out _ HB2.out.1).mono ?_; rintro e w3 ⟨⟨p, rfl⟩, hb3⟩
           have HB3:Hid (SBox w w.heap.size V w3):=Lib.hid (HB2.out.below hb3)
           clear hb3 q0 q1 q2 q3
           obtain ⟨q0,q1,q2,q3⟩:=QS.out _ HB3.out))
      obtain ⟨w4,hw4⟩:∃ w4,w4=(w3.drew).alloc (.cells #[.int .i64 (n1:Int)] 3):=⟨_,rfl⟩
      have hb4:Below w3.heap.size w3 w4:=by rw [hw4];exact (Below.refl w3.heap.size w3).drew.alloc (Nat.le_refl _) _
      have HW4:=Lib.hid hw4
      have hD4:w4.heap[w3.heap.size]?=some (.cells #[.int .i64 (n1:Int)] 3 (0,0)):=by rw [hw4];exact heap_alloc_new w3.drew _
      have HC:=Lib.hid (S4.out w4 w3.heap.size (HB3.out.1.trans (hb4.mono HB3.out.1.size)) hD4)
      have HB4:Hid (SBox w w.heap.size V w4):=Lib.hid (HB3.out.below hb4)
      have HB3d:Hid (SBox w w.heap.size V w3.drew):=Lib.hid (HB3.out.below (Below.refl _ w3).drew)
      clear hw4 hb4 hD4
      go_region_held3 (fun w'=>(w'.cell? ⟨w.heap.size,0,none⟩=some (.slice A1 n1 c1)∧w'.cell? ⟨w.heap.size,1,none⟩=some (.slice A2 n1 c2)∧w'.cell? ⟨w.heap.size,2,none⟩=some (.slice A3 n3 c3)∧w'.cell? ⟨w.heap.size,3,none⟩=some (.slice A4 n4 c4)))
        (first|exact QS.out _ HB3d.out|exact QS.out _ HB4.out|exact QS.out _ HB5.out)
        (first
          | (go_at_call 173; refine (seg_wrong _ _).mono ?_; rintro e w' ⟨rfl, rfl⟩
             rw [← HW4.out])
          | (go_at_call 172; refine HC.out.mono ?_; rintro e w5 ⟨rfl, hb5⟩
             have HB5:Hid (SBox w w.heap.size V w5):=Lib.hid (HB4.out.below hb5)))
      go_wp2
      go_ret
      refine ⟨?_,HB5.out.1⟩
      rw [hzz.out]
      cases z4<;>rfl
    · have S3':=fun w1 h=>S3.out w1 h
      simp only [if_neg hg] at S3'
      have S3B:=Lib.hid S3'
      have hzf:z=false:=by
        rw [HZ.out]
        by_cases h34:n3=n4
        · rw [show z3=false from Bool.eq_false_iff.2 fun e=>hg ⟨h34,e⟩];simp
        · rw [decide_eq_false h34];simp
      subst hzf
      clear S3' hg
      go_enter Tryz.func100,Tryz.ntmps100
      go_wp2_with (first
        | (go_at_call 170; rw [show w.alloc _ = w1 from HW1.out.symm]; refine (S2.out _ HB1.out.1).mono ?_; rintro e w2 ⟨rfl, hb2⟩
           have HB2:Hid (SBox w w.heap.size V w2):=Lib.hid (HB1.out.below hb2)
           clear hb2 q0 q1 q2 q3
           obtain ⟨q0,q1,q2,q3⟩:=QS.out _ HB2.out)
        | (go_at_call 171; refine (S3B.out _ HB2.out.1).mono ?_; rintro e w3 ⟨⟨p, rfl⟩, hb3⟩
           have HB3:Hid (SBox w w.heap.size V w3):=Lib.hid (HB2.out.below hb3)
           clear hb3 q0 q1 q2 q3))
      go_ret
      exact ⟨rfl,HB3.out.1⟩
  · have hzf:z=false:=by rw [HZ.out,decide_eq_false h12];simp
    subst hzf
    have hne:((n1:Int) != (n2:Int))=true:=by simp;omega
    obtain ⟨q0,q1,q2,q3⟩:=QS.out _ HB1.out
    clear h12
    go_enter Tryz.func100,Tryz.ntmps100
    clear q0 q1 q2 q3
    go_wp2
    go_ret
    exact ⟨rfl,by rw [← HW1.out];exact HB1.out.1⟩
end Go.Proofs.YtldcadpemnpbmaaGreatDoor
set_option linter.unusedVariables false
namespace Go.Proofs.YtldcadpemnpbmaaGreatDoor
open Go Go.RowKit
def ptrs (vs:List Nat):List Value:=vs.map fun v=> .pointer (some ⟨v,0,none⟩)
theorem row_ptr {w:World} {B:Nat} {A:Option Addr} {l:List Nat} {k:Nat} (h:Row w B A (ptrs l)) (hk:k<l.length):∃ b off,A=some ⟨b,off,none⟩∧b<B∧w.cell? ⟨b,off+k,none⟩=some (.pointer (some ⟨l[k],0,none⟩)):=by
 obtain ⟨b,off,rfl,hb,hc⟩:=Row.at_ h (by simp [ptrs];omega)
 exact ⟨b,off,rfl,hb,hc _ _ (by simp [ptrs,hk])⟩
def DictAtP (w:World) (base B:Nat) (l:List Nm) (vs:List Nat):Prop:=
 base≤B∧vs.length=l.length∧∃ v,w.heap[B]?=some (.cells #[v] 165 (0,0))∧w.ownsRow base 245 2 v l.length (entP l vs)
theorem DictAtP.read {w:World} {base B:Nat} {l:List Nm} {vs:List Nat} (h:DictAtP w base B l vs):
  ∃ A c,w.cell? ⟨B,0,none⟩=some (.slice A l.length c)∧l.length≤c∧c≤maxLen∧Row w w.heap.size A (entP l vs)∧(A=none∧l=[]∧c=0∨∃ g,A=some ⟨g,0,none⟩):=by
 obtain ⟨h1,h2,v,h3,h4⟩:=h
 have hc:=cell_of_one h3
 obtain ⟨A,c,rfl,hn,hr⟩:=owned_row h4
 refine ⟨A,c,hc,hn,?_,hr,?_⟩
 ·rcases h4.2 with ⟨h0,_⟩|⟨g,cap,cur,hv,_,_,_,h5,_⟩
  ·injection h0 with _ _ h0;omega
  ·injection hv with _ _ hv;omega
 ·rcases h4.2 with ⟨h0,h5⟩|⟨g,cap,cur,hv,_⟩
  ·injection h0 with a1 _ a3
   exact .inl ⟨a1,List.eq_nil_of_length_eq_zero h5,a3⟩
  ·injection hv with a1
   exact .inr ⟨g,a1⟩
def MadeDP (l:List Nm) (vs:List Nat) (w:World) (e:Ending) (w':World):Prop:=∃ B,e= .returned (.tuple #[.pointer (some ⟨B,0,none⟩),.int .i64 0])∧DictAtP w' w.heap.size B l vs∧Below w.heap.size w w'
def MakeRelP (B:Nat) (l:List Nm) (vs:List Nat) (w:World) (i:Value) (wr:World):Prop:=
 ∃ (k:Nat) (v:Value),k≤l.length∧i= .int .i64 (k:Int)∧wr.heap[B]?=some (.cells #[v] 165 (0,0))∧wr.ownsRow w.heap.size 245 2 v k (entP (l.take k) (vs.take k))∧Below w.heap.size w wr
theorem owned_setP {w:World} {base B:Nat} {e:TypeId} {size:Nat} {v:Value} {n:Nat} {xs:List Value} {cs:Array Value} {t:TypeId} {fr:Nat × Nat} (h:w.ownsRow base e size v n xs) (hB:w.heap[B]?=some (.cells cs t fr)) (ht:t≠e) (o:Nat) (u:Value):(w.setCell ⟨B,o,none⟩ u).ownsRow base e size v n xs:=
 owned_keep h fun g hg=>Below.heap_setCell _ _ _ _ (fun e1=>owned_apart h hB ht (by rw [hg,e1]))
theorem enteredP {w0 w1:World} {base B n:Nat} {v v':Value} {xs ys:List Value} (hv:w0.heap[B]?=some (.cells #[v] 165 (0,0))) (hown:w0.ownsRow base 245 2 v n xs) (hg:w0.grownBy w1 v.ownBlock) (hown1:w1.ownsRow base 245 2 v' (n+1) ys) (hbase:base≤w0.heap.size) (hB:base≤B):
  w1.heap[B]?=some (.cells #[v] 165 (0,0))∧(w1.setCell ⟨B,0,none⟩ v').heap[B]?=some (.cells #[v'] 165 (0,0))∧(w1.setCell ⟨B,0,none⟩ v').ownsRow base 245 2 v' (n+1) ys∧Below base w0 (w1.setCell ⟨B,0,none⟩ v'):=by
 have h1:w1.heap[B]?=some (.cells #[v] 165 (0,0)):=(hg.block B (lt_of_block hv) (fun e=>owned_apart hown hv (by decide) e.symm)).trans hv
 refine ⟨h1,by simpa using one_setCell h1,owned_setP hown1 h1 (by decide) _ _,?_⟩
 exact (((Below.refl base w0).grown hg hbase fun k hk=>(hown.lt k hk).1)).setCell hB _
set_option maxHeartbeats 4000000 in
set_option maxRecDepth 100000 in
theorem dictP_Make (A A2:Option Addr) (n c c2:Nat) (l:List Nm) (vs:List Nat) (w:World) (hr:Row w w.heap.size A (strs l)) (hn:l.length=n) (hl:n≤1048576) (hv:Row w w.heap.size A2 (ptrs vs)) (hvn:vs.length=n) (hg:risesN l=true):
    Calls Tryz.prog 102 #[.slice A n c,.slice A2 n c2] w (MadeDP l vs w):=by
  obtain ⟨i0,hi0,hz0,hz1,hz2⟩:=info_parts info_entryP
  have c1:=dict_rise A n c l w hr hn (by omega)
  rw [hg] at c1
  have C1:=Lib.hid c1
  have HR:=Lib.hid hr
  have HV:=Lib.hid hv
  have HN:=Lib.hid hn
  have HVN:=Lib.hid hvn
  clear c1 hr hv hn hvn hg
  go_enter Tryz.func102,Tryz.ntmps102
  go_wp2_with (go_at_call 179;refine (C1.out).mono ?_)
  rintro e w1 ⟨rfl,hb1⟩
  obtain ⟨w2,hrun,hown2,hgrow2⟩:=run_make_own (P:=Tryz.prog) w1 w.heap.size 163 245 i0 _ 2 Tryz.underlying163 hi0 hz0 hz1 .i64 .i64 n (by rw [hz2];omega) (by unfold maxLen;omega) hb1.size
  have hb2:Below w.heap.size w w2:=hb1.grown hgrow2 hb1.size (fun k hk=>by cases hk)
  obtain ⟨B,hB⟩:∃ B,B=w2.heap.size:=⟨_,rfl⟩
  obtain ⟨w3,hw3⟩:∃ w3,w3=w2.alloc (.cells #[.slice (some ⟨w1.heap.size,0,none⟩) 0 n] 165):=⟨_,rfl⟩
  have hrel:MakeRelP B l vs w (.int .i64 ((0:Nat):Int)) w3:=by
    refine ⟨0,.slice (some ⟨w1.heap.size,0,none⟩) 0 n,Nat.zero_le _,rfl,?_,?_,?_⟩
    · rw [hw3,hB];exact heap_alloc_new w2 _
    · rw [hw3];simpa [entP_nil] using hown2.alloc _
    · rw [hw3];exact hb2.alloc hb2.size _
  have HREL:=Lib.hid hrel
  have HW3:=Lib.hid hw3
  have HB:=Lib.hid hB
  have HBW:Hid (w.heap.size≤B):=Lib.hid (by rw [hB];exact hb2.size)
  clear hrel hown2 hgrow2 hb2 hb1 hw3 hB
  go_wp2
  rw [← HW3.out,← HB.out]
  clear hrun
  go_loopw [26] (MakeRelP B l vs w) (fun i _=>n-(intOf i).toNat)
  case atStart=>exact HREL.out
  case round=>
    obtain ⟨k,v,hk,rfl,hblk,hown,hbw⟩:=hrel
    rw [HN.out] at hk
    have hsz:=hbw.size
    by_cases hlt:k<n
    · have hkl:k<l.length:=by rw [HN.out];exact hlt
      have hkv:k<vs.length:=by rw [HVN.out];exact hlt
      obtain ⟨b1,o1,e1,hb1,hc1⟩:=row_nm (HR.out.below hbw) hkl
      obtain ⟨b2,o2,e2,hb2,hc2⟩:=row_ptr (HV.out.below hbw) hkv
      subst e1 e2
      obtain ⟨x,hx⟩:∃ x:ByteArray,x=⟨l[k].toArray⟩:=⟨_,rfl⟩
      obtain ⟨y,hy⟩:∃ y,y=vs[k]:=⟨_,rfl⟩
      rw [← hx] at hc1
      rw [← hy] at hc2
      have hsn:entP (l.take (k+1)) (vs.take (k+1))=entP (l.take k) (vs.take k)++[.string x,.pointer (some ⟨y,0,none⟩)]:=by
        rw [List.take_succ_eq_append_getElem hkl,List.take_succ_eq_append_getElem hkv,entP_snoc (by simp only [List.length_take];rw [HN.out,HVN.out]),← hx,← hy]
      obtain ⟨cs,hcs⟩:∃ cs,cs=entP (l.take k) (vs.take k):=⟨_,rfl⟩
      rw [← hcs] at hown hsn
      have cB:=cell_of_one hblk
      have fB:=free_of_one hblk
      have k2:(0:Int)≤(k:Int):=by omega
      have k3:(k:Int)<(n:Int):=by omega
      have hBlt:=lt_of_block hblk
      have hal:∀ o,((wr.alloc o).drew).cell? ⟨B,0,none⟩=some v:=fun o=>(((Below.refl _ wr).alloc (Nat.le_refl _) o).cell (p:=⟨B,0,none⟩) hBlt).trans cB
      have HOWN:=Lib.hid hown
      have HBLK:=Lib.hid hblk
      have HSN:=Lib.hid hsn
      clear hx hy hcs hown hblk hsn hkl hkv
      go_wp2
      go_region_law (first
        | (refine step_append_lies _ (by rfl) _ _ _ (by rfl) w.heap.size 245 i0 _ 2 24 Tryz.underlying163 hi0 hz0 hz1 hz2 rfl (by omega) v k cs (by rfl) ((HOWN.out.alloc _).drew)
            ⟨wr.heap.size,0,none⟩ 1 1 [.string x,.pointer (some ⟨y,0,none⟩)] (by rfl) (by rfl) (World.news_of_block (cs:=#[.string x,.pointer (some ⟨y,0,none⟩)]) (t:=245) (fr:=(0,0)) (heap_alloc_new wr.drew _)) (by intro u hu;simp at hu;rcases hu with hu|hu<;>(subst hu;rfl))
            (by omega) (by unfold maxLen;omega) (by omega) (by simp;omega) (wr.heap.size+1) (by simp) ?_
           intro gg cap w5 hown5 hg5 hat hlt5
           obtain ⟨hB5,hB6,hown6,hb6⟩:=enteredP (((Below.refl _ wr).alloc (Nat.le_refl _) _).drew.block B hBlt |>.trans HBLK.out) ((HOWN.out.alloc _).drew) hg5 hown5 (by simp;omega) HBW.out
           have cB5:=cell_of_one hB5
           have fB5:=free_of_one hB5))
      all_goals
        have hrel:MakeRelP B l vs w (.int .i64 ((k:Int)+1)) (w5.setCell ⟨B,0,none⟩ (.slice (some ⟨gg,0,none⟩) (k+1) cap)):=by
          refine ⟨k+1,_,by rw [HN.out];omega,by go_num,hB6,?_,?_⟩
          · rw [HSN.out];exact hown6
          · exact hbw.trans ((((Below.refl _ wr).alloc hsz _).drew).trans hb6)
        have HREL:=Lib.hid hrel
        clear hrel hB6 hown6 hb6 hB5
        go_wp2
        go_roundw
        case rel=>exact HREL.out
        case measure=>simp [intOf];omega
    · have hkn:k=n:=by omega
      have HFIN:Hid (MadeDP l vs w (.returned (.tuple #[.pointer (some ⟨B,0,none⟩),.int .i64 0])) wr):=Lib.hid ⟨B,rfl,⟨HBW.out,by rw [HN.out,HVN.out],v,hblk,by
        rw [hkn,List.take_of_length_le (by rw [HN.out];omega),List.take_of_length_le (by rw [HVN.out];omega)] at hown
        rw [HN.out]
        exact hown⟩,hbw⟩
      clear hown hblk hbw
      go_wp2
      go_ret2
      exact HFIN.out
end Go.Proofs.YtldcadpemnpbmaaGreatDoor
set_option linter.unusedVariables false
namespace Go.Proofs.YtldcadpemnpbmaaGreatDoor
open Go Go.RowKit
attribute [local go_sem] Oper.semAt_some
def KpTwo (D1 D2:Nat) (A B:World):Prop:=A.heap.size≤B.heap.size∧(D1<A.heap.size→B.heap[D1]?=A.heap[D1]?)∧(D2<A.heap.size→B.heap[D2]?=A.heap[D2]?)
theorem KpTwo.trans {D1 D2:Nat} {A B C:World} (h:KpTwo D1 D2 A B) (k:KpTwo D1 D2 B C):KpTwo D1 D2 A C:=
 ⟨Nat.le_trans h.1 k.1,fun e=>(k.2.1 (Nat.lt_of_lt_of_le e h.1)).trans (h.2.1 e),fun e=>(k.2.2 (Nat.lt_of_lt_of_le e h.1)).trans (h.2.2 e)⟩
theorem KpTwo.putObj {D1 D2:Nat} (W:World) (l:Nat) (o:Obj) (h1:D1≠l) (h2:D2≠l):KpTwo D1 D2 W (W.putObj l o):=
 ⟨by simp [World.putObj],fun _=>World.putObj_heap_other h1,fun _=>World.putObj_heap_other h2⟩
def chunkV (b off n k:Nat):Value:= .slice (some ⟨b,off+8*k*2,none⟩) (min 8 (n-8*k)) (min 8 (n-8*k))
def ChunkRel (D1 D2 n:Nat) (A:Option Addr) (c:Nat) (J:List Nat→World→Prop) (i:Value) (wr:World):Prop:=
 ∃ k a:Nat,a=8*k∧a<n+8∧i= .int .i64 (a:Int)∧J (List.range k) wr∧wr.heap[D1]?=some (.cells #[.slice A n c] 94 (0,0))∧wr.heap[D2]?=some (.cells #[.int .i64 8] 3 (0,0))
set_option maxHeartbeats 4000000 in
set_option maxRecDepth 100000 in
theorem chunk_told (m D1 D2 n c:Nat) (A:Option Addr) (b off:Nat) (hm:1≤m) (hA:0<n→A=some ⟨b,off,none⟩) (hc:n≤c) (hcx:c≤maxLen) (hn:n≤1000000) (w:World) (d1:w.heap[D1]?=some (.cells #[.slice A n c] 94 (0,0))) (d2:w.heap[D2]?=some (.cells #[.int .i64 8] 3 (0,0))):
  Told m Tryz.prog 227 #[.pointer (some ⟨D1,0,none⟩),.pointer (some ⟨D2,0,none⟩)] (fun k:Nat=>#[chunkV b off n k]) (KpTwo D1 D2) (fun pre k _=>k=pre.length∧k<blocksP n) (fun ys=>ys=List.range (blocksP n)) w:=by
 intro l J W hW hJ hY h0
 have e1:W.heap[D1]?=some (.cells #[.slice A n c] 94 (0,0)):=(hW.block D1 (lt_of_block d1)).trans d1
 have e2:W.heap[D2]?=some (.cells #[.int .i64 8] 3 (0,0)):=(hW.block D2 (lt_of_block d2)).trans d2
 refine callsIn_of_wp Tryz.func227 rfl trivial ?_ rfl
 simp only [Tryz.ntmps227,List.size_toArray,List.length_cons,List.length_nil,Nat.reduceAdd,Nat.reduceSub,Array.replicate_succ,Array.replicate_zero,List.push_toArray,List.append_toArray,List.nil_append,List.cons_append]
 have HY:=Lib.hid hY
 have HJ:=Lib.hid hJ
 have H0:=Lib.hid h0
 have HA:=Lib.hid hA
 have HE1:=Lib.hid e1
 have HE2:=Lib.hid e2
 clear hY hJ h0 hW d1 d2 e1 e2 hA
 unfold maxLen at hcx
 gi_wp2
 gi_loopw [4] (fun i wr=>ChunkRel D1 D2 n A c J i wr) (fun i _=>n+8-(intOf i).toNat)
 case atStart=>exact ⟨0,0,rfl,by omega,rfl,H0.out,HE1.out,HE2.out⟩
 case round=>
  obtain ⟨k,a,hak,han,rfl,hj,e1,e2⟩:=hrel
  have c1:=cell_of_one e1
  have c2:=cell_of_one e2
  have HJK:=Lib.hid hj
  have E1:=Lib.hid e1
  have E2:=Lib.hid e2
  have HAK:=Lib.hid hak
  clear hj e1 e2 hak
  by_cases hlt:a<n
  ·have hsome:=HA.out (by omega)
   subst hsome
   obtain ⟨q,hq⟩:∃ q,q=min 8 (n-a):=⟨_,rfl⟩
   have hq1:0<q∧q≤8∧a+q≤n:=by omega
   have hpre:chunkV b off n k= .slice (some ⟨b,off+a*2,none⟩) q q:=by unfold chunkV;rw [← HAK.out,← hq]
   obtain ⟨fn,tmps,assign,body,hy,hR⟩:=HY.out (List.range k) k (wr.drew) (HJ.out _ _ _ HJK.out (Below.refl _ _).drew) ⟨by simp,by have :=HAK.out;unfold blocksP;omega⟩
   rw [hpre] at hy
   clear hpre
   have hqm:(if ((n-a:Nat):Int)<8 then ((n-a:Nat):Int) else 8)=(q:Int):=by split<;>omega
   have hqm2:min (8:Int) ((n-a:Nat):Int)=(q:Int):=by omega
   have hj2:List.range (k+1)=List.range k++[k]:=List.range_succ
   have HJ2:=Lib.hid hj2
   have hq3:a+q≤c:=by omega
   have hqs:a+q-a=q:=by omega
   clear hq hj2
   gi_wp2
   gi_region
   gi_wp2
   refine hR.mono ?_
   rintro e W4 ⟨rfl,hJ4,hk4⟩
   have f1:W4.heap[D1]?=some (.cells #[.slice (some ⟨b,off,none⟩) n c] 94 (0,0)):=(hk4.2.1 (lt_of_block E1.out)).trans E1.out
   have f2:W4.heap[D2]?=some (.cells #[.int .i64 8] 3 (0,0)):=(hk4.2.2 (lt_of_block E2.out)).trans E2.out
   have c3:=cell_of_one f1
   have c4:=cell_of_one f2
   rw [← HJ2.out] at hJ4
   have HJ4:=Lib.hid hJ4
   have F1:=Lib.hid f1
   have F2:=Lib.hid f2
   clear hJ4 hk4 f1 f2 hy hR c1 c2
   gi_wp2
   go_roundw
   case rel=>exact ⟨k+1,a+8,by have :=HAK.out;omega,by omega,by go_num,HJ4.out,F1.out,F2.out⟩
   case measure=>simp [intOf];omega
  ·have hk:k=blocksP n:=by have :=HAK.out;unfold blocksP;omega
   have hfin:=HJK.out
   rw [hk] at hfin
   have HF:=Lib.hid hfin
   clear hk hfin
   gi_wp2
   go_end0
   exact ⟨⟨_,rfl⟩,_,rfl,HF.out⟩
theorem posting_Chunk (A:Option Addr) (n c:Nat) (w:World):
  Calls Tryz.prog 175 #[.slice A n c,.int .i64 8] w fun e w'=>e= .returned (.func (.func 227) #[] #[.pointer (some ⟨w.heap.size,0,none⟩),.pointer (some ⟨w.heap.size+1,0,none⟩)])∧
   w'.heap[w.heap.size]?=some (.cells #[.slice A n c] 94 (0,0))∧w'.heap[w.heap.size+1]?=some (.cells #[.int .i64 8] 3 (0,0))∧Below w.heap.size w w'∧w'.heap.size=w.heap.size+2:=by
 go_enter Tryz.func175,Tryz.ntmps175
 go_wp2
 go_ret
 have h1:=heap_alloc_new (w.alloc (.cells #[.slice A n c] 94)) (.cells #[.int .i64 8] 3)
 rw [World.size_alloc] at h1
 refine ⟨rfl,?_,h1,((Below.refl _ w).alloc (Nat.le_refl _) _).alloc (by simp) _,by simp⟩
 exact (Below.heap_alloc _ _ _ (by simp)).trans (heap_alloc_new w _)
end Go.Proofs.YtldcadpemnpbmaaGreatDoor
set_option linter.unusedVariables false
namespace Go.Proofs.YtldcadpemnpbmaaGreatDoor
open Go Go.RowKit
def Turning (t:TypeId):Prop:=t=234∨t=240∨t=5
structure Mild (base:Nat) (w w':World):Prop where
 below:Below base w w'
 keep:∀ (k:Nat) (o:Obj),w.heap[k]?=some o→(∀ cs t fr,o= .cells cs t fr→¬ Turning t)→w'.heap[k]?=some o
section
variable {base:Nat} {w w' w'':World}
theorem Mild.trans (h:Mild base w w') (k:Mild base w' w''):Mild base w w'':=⟨h.below.trans k.below,fun i o hi ho=>k.keep i o (h.keep i o hi ho) ho⟩
theorem Mild.of_below (h:Below w.heap.size w w') (hb:base≤w.heap.size):Mild base w w':=
 ⟨h.mono hb,fun k o hk _=>by rw [h.block k (Array.getElem?_eq_some_iff.1 hk).1,hk]⟩
theorem Mild.setCell {B i:Nat} {cs:Array Value} {t:TypeId} {fr:Nat × Nat} (h:w.heap[B]?=some (.cells cs t fr)) (ht:Turning t) (hb:base≤B) (v:Value):Mild base w (w.setCell ⟨B,i,none⟩ v):=
  ⟨(Below.refl base w).setCell (p := ⟨B, i, none⟩) hb v, fun k o hk ho => by
    by_cases e:k=B
    · subst e
      rw [h] at hk
      injection hk with hk
      exact absurd ht (ho _ _ _ hk.symm)
    · rw [Below.heap_setCell _ _ _ _ e,hk]⟩
theorem Mild.grown {row:Option Nat} (hg:w.grownBy w' row) (hr:∀ k,row=some k→base≤k∧∃ cs t fr,w.heap[k]?=some (.cells cs t fr)∧Turning t) (hb:base≤w.heap.size):Mild base w w':=
  ⟨(Below.refl base w).grown hg hb (fun k e => (hr k e).1), fun k o hk ho => by
    rw [hg.block k (Array.getElem?_eq_some_iff.1 hk).1 ?_,hk]
    intro e
    obtain ⟨_,cs,t,fr,h1,h2⟩:=hr k e.symm
    rw [h1] at hk
    injection hk with hk
    exact ho _ _ _ hk.symm h2⟩
theorem Mild.keepsOthers (h:Mild base w w'):KeepsOthers w w':=
 ⟨h.below.size,fun k o hk hc=>h.keep k o hk fun cs t fr e=>by subst e;cases hc⟩
theorem owned_type {b:Nat} {e:TypeId} {size n:Nat} {v:Value} {xs:List Value} (h:w.ownsRow b e size v n xs) {g:Nat} (hg:v.ownBlock=some g):∃ cs fr,w.heap[g]?=some (.cells cs e fr):=by
 rcases h.2 with ⟨rfl,_⟩|⟨g',cap,cur,rfl,_,hh,r⟩
 ·cases hg
 ·simp only [Value.ownBlock,Option.some.injEq] at hg
  subst hg
  exact ⟨_,_,hh⟩
theorem Mild.grownOwn {e:TypeId} {size n:Nat} {v:Value} {xs:List Value} (ho:w.ownsRow base e size v n xs) (he:Turning e) (hg:w.grownBy w' v.ownBlock) (hb:base≤w.heap.size):Mild base w w':=
 Mild.grown hg (fun k hk=>⟨(ho.lt k hk).1,by obtain ⟨cs,fr,h⟩:=owned_type ho hk;exact ⟨cs,e,fr,h,he⟩⟩) hb
def RowM (base:Nat) (w:World) (A:Option Addr) (xs:List Value):Prop:=
 xs=[]∨∃ b off,A=some ⟨b,off,none⟩∧b<w.heap.size∧(b<base∨∃ cs t fr,w.heap[b]?=some (.cells cs t fr)∧¬ Turning t)∧∀ j u,xs[j]?=some u→w.cell? ⟨b,off+j,none⟩=some u
theorem RowM.mild {A:Option Addr} {xs:List Value} (h:RowM base w A xs) (hm:Mild base w w'):RowM base w' A xs:=by
 rcases h with h|⟨b,off,e,hlt,hs,hc⟩
 ·exact .inl h
 ·have hblk:w'.heap[b]?=w.heap[b]?:=by
   rcases hs with hs|⟨cs,t,fr,h1,h2⟩
   ·exact hm.below.block b hs
   ·rw [hm.keep b _ h1 (fun cs' t' fr' e=>by cases e;exact h2),h1]
  refine .inr ⟨b,off,e,Nat.lt_of_lt_of_le hlt hm.below.size,hs.imp id (fun ⟨cs,t,fr,h1,h2⟩=>⟨cs,t,fr,hblk.trans h1,h2⟩),fun j u hu=> ?_⟩
  rw [World.cell?_of_block (a:=⟨b,off+j,none⟩) hblk]
  exact hc j u hu
theorem RowM.at_ {A:Option Addr} {xs:List Value} (h:RowM base w A xs) (hn:0<xs.length):∃ b off,A=some ⟨b,off,none⟩∧b<w.heap.size∧∀ j u,xs[j]?=some u→w.cell? ⟨b,off+j,none⟩=some u:=by
 rcases h with rfl|⟨b,off,e,h1,_,h2⟩
 ·simp at hn
 ·exact ⟨b,off,e,h1,h2⟩
theorem RowM.of_row {A:Option Addr} {xs:List Value} (h:Row w base A xs) (hb:base≤w.heap.size):RowM base w A xs:=by
 rcases h with h|⟨b,off,e,h1,h2⟩
 ·exact .inl h
 ·exact .inr ⟨b,off,e,by omega,.inl h1,h2⟩
end
def LMid (w:World) (base B:Nat) (bs:List UInt8) (es:List (Int × Nat)) (many total:Int):Prop:=
 base≤B∧∃ vb ve,w.heap[B]?=some (.cells #[vb,ve,.int .i64 many,.int .i64 total] 234 (0,0))∧
  w.ownsRow base 5 1 vb bs.length (Lib.byteCells bs)∧w.ownsRow base 240 2 ve es.length (endCells es)
theorem lat_mid {w:World} {base B:Nat} {bs:List UInt8} {l:List Po}:LAt w base B bs l↔LMid w base B bs (endsC l (blocksP l.length)) (l.length:Int) (totalP l:Int):=by
 unfold LAt LMid endsV
 rw [endsC_length]
section
variable {w w':World} {base B:Nat} {bs:List UInt8} {es:List (Int × Nat)} {many total:Int}
theorem LMid.lt (h:LMid w base B bs es many total):B<w.heap.size:=by
 obtain ⟨_,vb,ve,hv,_⟩:=h
 exact (Array.getElem?_eq_some_iff.1 hv).1
theorem LMid.below (h:LMid w base B bs es many total) (hb:Below w.heap.size w w'):LMid w' base B bs es many total:=by
 have hl:=h.lt
 obtain ⟨h1,vb,ve,hv,ho,he⟩:=h
 exact ⟨h1,vb,ve,(hb.block B hl).trans hv,owned_below ho hb,owned_below he hb⟩
theorem owned_setCell {b:Nat} {e:TypeId} {size n:Nat} {v:Value} {xs:List Value} (h:w.ownsRow b e size v n xs) {B i:Nat} (hB:v.ownBlock≠some B) (u:Value):(w.setCell ⟨B,i,none⟩ u).ownsRow b e size v n xs:=
 owned_keep h fun g hg=>Below.heap_setCell _ _ _ _ fun e=>hB (by rw [hg,e])
theorem LMid.setMany (h:LMid w base B bs es many total) (m:Int):LMid (w.setCell ⟨B,2,none⟩ (.int .i64 m)) base B bs es m total∧Mild base w (w.setCell ⟨B,2,none⟩ (.int .i64 m)):=by
 obtain ⟨h1,vb,ve,hv,ho,he⟩:=h
 exact ⟨⟨h1,vb,ve,heap_setCell_same w B 2 _ _ _ hv,owned_setCell ho (owned_apart ho hv (by decide)) _,owned_setCell he (owned_apart he hv (by decide)) _⟩,Mild.setCell hv (.inl rfl) h1 _⟩
theorem LMid.setTotal (h:LMid w base B bs es many total) (m:Int):LMid (w.setCell ⟨B,3,none⟩ (.int .i64 m)) base B bs es many m∧Mild base w (w.setCell ⟨B,3,none⟩ (.int .i64 m)):=by
 obtain ⟨h1,vb,ve,hv,ho,he⟩:=h
 exact ⟨⟨h1,vb,ve,heap_setCell_same w B 3 _ _ _ hv,owned_setCell ho (owned_apart ho hv (by decide)) _,owned_setCell he (owned_apart he hv (by decide)) _⟩,Mild.setCell hv (.inl rfl) h1 _⟩
theorem LMid.pushed {vb ve v':Value} {w0 w1:World} {x:Int} {z:Nat} (hB:base≤B) (hv:w.heap[B]?=some (.cells #[vb,ve,.int .i64 many,.int .i64 total] 234 (0,0))) (ho:w.ownsRow base 5 1 vb bs.length (Lib.byteCells bs)) (he:w.ownsRow base 240 2 ve es.length (endCells es))
  (hb:Below w.heap.size w w0) (hg:w0.grownBy w1 ve.ownBlock) (hown:w1.ownsRow base 240 2 v' (es.length+1) (endCells es++[.int .i64 x,.int .i64 (z:Int)])):
  w1.heap[B]?=some (.cells #[vb,ve,.int .i64 many,.int .i64 total] 234 (0,0))∧LMid (w1.setCell ⟨B,1,none⟩ v') base B bs (es++[(x,z)]) many total∧Mild base w (w1.setCell ⟨B,1,none⟩ v'):=by
 have hlt:B<w.heap.size:=(Array.getElem?_eq_some_iff.1 hv).1
 have hv0:=(hb.block B hlt).trans hv
 have he0:=owned_below he hb
 have ho0:=owned_below ho hb
 have hv1:w1.heap[B]?=some (.cells #[vb,ve,.int .i64 many,.int .i64 total] 234 (0,0)):=(hg.block B (by have :=hb.size;omega) (fun e=>owned_apart he0 hv0 (by decide) e.symm)).trans hv0
 have ho1:w1.ownsRow base 5 1 vb bs.length (Lib.byteCells bs):=owned_keep ho0 fun g hg'=>hg.block g (ho0.lt g hg').2 fun e=>owned_apart2 he0 ho0 (by decide) hg' e.symm
 refine ⟨hv1,⟨hB,vb,v',heap_setCell_same w1 B 1 _ _ _ hv1,owned_setCell ho1 (owned_apart ho1 hv1 (by decide)) _,?_⟩,?_⟩
 ·refine owned_setCell ?_ (owned_apart hown hv1 (by decide)) _
  rw [endCells_append,List.length_append,List.length_singleton]
  exact hown
 ·have hbw:base≤w.heap.size:=by omega
  exact (Mild.of_below hb hbw).trans ((Mild.grownOwn he0 (.inr (.inl rfl)) hg (by have :=hb.size;omega)).trans (Mild.setCell hv1 (.inl rfl) hB _))
end
end Go.Proofs.YtldcadpemnpbmaaGreatDoor
set_option linter.unusedVariables false
namespace Go.Proofs.YtldcadpemnpbmaaGreatDoor
open Go Go.RowKit
def CloseRel (base B:Nat) (bs:List UInt8) (es:List (Int × Nat)) (blk:List Po) (many total:Int) (w:World) (i:Value) (wr:World):Prop:=
 ∃ k:Nat,k≤blk.length∧i= .int .i64 (k:Int)∧LMid wr base B bs es many (total+(totalP (blk.take k):Int))∧Mild base w wr
set_option maxHeartbeats 4000000 in
set_option maxRecDepth 100000 in
theorem close_mid (base B:Nat) (bs:List UInt8) (es:List (Int × Nat)) (many total:Int) (A:Option Addr) (m c:Nat) (blk:List Po) (cs:List Value) (z:Nat) (w:World) (h:LMid w base B bs es many total) (hm:blk.length=m) (hc:m≤c) (hcx:c≤maxLen)
    (hpc:PoCells (fun _ _=>True) blk cs) (hr:RowM base w A cs) (h0:0<m) (hm8:m≤1000) (hes:es.length≤1000000) (hmany:0≤many∧many≤1000000000000) (htot:0≤total∧total+(totalP blk:Int)≤1000000000000) (hz:z≤1000000000000):
    Calls Tryz.prog 178 #[.pointer (some ⟨B,0,none⟩),.slice A m c,.int .i64 (z:Int)] w fun e w'=>(∃ v,e= .returned v)∧
      LMid w' base B bs (es++[((blk.getD (m-1) (0,[])).1,z)]) (many+(m:Int)) (total+(totalP blk:Int))∧Mild base w w':=by
  obtain ⟨i0,hi0,hz0,hz1,hz2⟩:=info_parts info_end
  subst hm
  have hbase:base≤w.heap.size:=by have :=h.lt;have :=h.1;omega
  obtain ⟨j,hj⟩:∃ j,j=blk.length-1:=⟨_,rfl⟩
  have hjm:j<blk.length:=by omega
  obtain ⟨p0,p1⟩:=hpc.at_ hjm
  obtain ⟨b1,o1,e1,hb1,hcc⟩:=hr.at_ (by rw [hpc.len];omega)
  have hcd:=hcc _ _ p0
  obtain ⟨x,hx⟩:∃ x,x=(blk.getD j (0,[])).1:=⟨_,rfl⟩
  rw [← hx] at hcd
  rw [← hj,← hx]
  have hkj:IntKind.i64.wrap ((blk.length:Int)-1)=(j:Int):=by rw [IntWalk.i64_in _ (by omega)];omega
  have hwj:IntKind.i64.wrap (j:Int)=(j:Int):=IntWalk.i64_in _ (by omega)
  have hkj2:(blk.length:Int)-1=(j:Int):=by omega
  obtain ⟨hB,vb,ve,hv,ho,he⟩:=h
  obtain ⟨⟨c0,c1,c2,c3⟩,f0,f1,f2,f3⟩:=cell_four hv
  obtain ⟨M,hM⟩:∃ M,M=blk.length:=⟨_,rfl⟩
  have HPC:=Lib.hid hpc
  have HR:=Lib.hid hr
  have HML:=Lib.hid hM
  have hblt:B<w.heap.size:=(Array.getElem?_eq_some_iff.1 hv).1
  have HV:=Lib.hid hv
  have HO:=Lib.hid ho
  have HE:=Lib.hid he
  have HX:=Lib.hid hx
  have hc1a:∀ o,(w.alloc o).cell? ⟨B,1,none⟩=some ve:=fun o=>(((Below.refl w.heap.size w).alloc (Nat.le_refl _) o).cell (p:=⟨B,1,none⟩) hblt).trans c1
  have hcda:∀ o,(w.alloc o).cell? ⟨b1,o1+j*2,none⟩=some (.int .i64 x):=fun o=>(((Below.refl w.heap.size w).alloc (Nat.le_refl _) o).cell (p:=⟨b1,o1+j*2,none⟩) hb1).trans hcd
  subst e1
  rw [← hM] at hjm hc h0 hm8 hkj hkj2
  rw [← hM]
  clear hpc hr hM hv ho he hx p0 p1 hcc hj
  go_enter Tryz.func178,Tryz.ntmps178
  go_upto_region 0 with fail
  go_cut [] from 8 to 26 (fun wx=>LMid wx base B bs (es++[(x,z)]) many total∧Mild base w wx)
  case first=>
    go_region_law (first
      | (refine step_append_lies _ (by rfl) _ _ _ (by rfl) base 240 i0 _ 2 16 Tryz.underlying232 hi0 hz0 hz1 hz2 rfl (by omega) ve es.length (endCells es) (by rfl) ((HE.out.alloc _).drew)
          ⟨w.heap.size,0,none⟩ 1 1 [.int .i64 x,.int .i64 (z:Int)] (by rfl) (by rfl) (World.news_of_block (cs:=#[.int .i64 x,.int .i64 (z:Int)]) (t:=240) (fr:=(0,0)) (heap_alloc_new w _)) (by intro u hu;simp at hu;rcases hu with hu|hu<;>(subst hu;rfl))
          (by omega) (by unfold maxLen;omega) (by omega) (by simp;omega) (w.heap.size+1) (by simp) ?_
         intro gg cap w1 hown1 hgrow hat hlt
         obtain ⟨hv1,hmid,hmild⟩:=LMid.pushed hB HV.out HO.out HE.out (((Below.refl _ w).alloc (Nat.le_refl _) _).drew) hgrow hown1
         obtain ⟨⟨cB0,cB1,cB2,cB3⟩,fB0,fB1,fB2,fB3⟩:=cell_four hv1))
    all_goals
      go_wp2_with fail
      go_meet
      exact ⟨hmid,hmild⟩
  case rest=>
    clear hc1a hcda hcd c0 c1 c2 c3 f0 f1 f2 f3 hwj hkj hkj2 hjm HV HO HE hb1
    obtain ⟨hmid,hmild⟩:=hcut
    have hRM:=HR.out.mild hmild
    obtain ⟨hn1,hn2⟩:=hmid.setMany (many+(M:Int))
    have HN1:=Lib.hid hn1
    have HN2:=Lib.hid (hmild.trans hn2)
    obtain ⟨_,vb',ve',hv',_,_⟩:=hmid
    obtain ⟨⟨c0,c1,c2,c3⟩,f0,f1,f2,f3⟩:=cell_four hv'
    clear hv' hn1 hn2 hmild hRM
    go_wp2
    go_loopw [37] (fun i wr=>CloseRel base B bs (es++[(x,z)]) blk (many+(M:Int)) total w i wr) (fun i _=>M-(intOf i).toNat)
    case atStart=>exact ⟨0,by omega,rfl,by simpa [totalP] using HN1.out,HN2.out⟩
    case round=>
      obtain ⟨k,hk,rfl,hmid,hmild⟩:=hrel
      by_cases hlt:k<M
      · have hrm:=HR.out.mild hmild
        obtain ⟨q0,A2,c2,q1,hlc,hcx2,_⟩:=HPC.out.at_ (k:=k) (by rw [← HML.out];exact hlt)
        obtain ⟨b2,o2,e2,hb2,hcc⟩:=hrm.at_ (by rw [HPC.out.len,← HML.out];omega)
        have hq0:=hcc _ _ q0
        have hq1:=hcc _ _ q1
        rw [← Nat.add_assoc] at hq1
        injection e2 with e2
        injection e2 with e3 e4
        subst e3 e4
        have htk:=totalP_take (l:=blk) (k:=k) (by rw [← HML.out];exact hlt)
        have htl:=totalP_le_take (l:=blk) (k+1)
        obtain ⟨q,hq⟩:∃ q,q=blk.getD k (0,[]):=⟨_,rfl⟩
        rw [← hq] at hq0 hq1 htk hlc
        obtain ⟨y,ps⟩:=q
        simp only at hq0 hq1 htk hlc
        obtain ⟨P,hP⟩:∃ P,P=ps.length:=⟨_,rfl⟩
        rw [← hP] at hq1 htk hlc
        obtain ⟨T,hT⟩:∃ T:Int,T=total+(totalP (blk.take k):Int):=⟨_,rfl⟩
        rw [← hT] at hmid
        have hT2:T+(P:Int)=total+(totalP (blk.take (k+1)):Int):=by omega
        have hbr:base≤wr.heap.size:=by have :=hmild.below.size;omega
        have hal:=(Below.refl wr.heap.size wr).alloc (Nat.le_refl _) (.cells #[.int .i64 y,.slice A2 P c2] 153)
        have hma:=hmid.below hal
        have hmd:=hma.below (Below.refl _ (wr.alloc (.cells #[.int .i64 y,.slice A2 P c2] 153))).drew
        obtain ⟨hn1,hn2⟩:=hmd.setTotal (T+(P:Int))
        have HN1:=Lib.hid hn1
        have HN2:=Lib.hid ((hmild.trans (Mild.of_below hal hbr)).trans ((Mild.of_below (Below.refl _ _).drew (by have :=hal.size;omega)).trans hn2))
        have hT0:0≤T:=by omega
        have hTP:T+(P:Int)≤1000000000000:=by omega
        obtain ⟨_,vb',ve',hv',_,_⟩:=hma
        obtain ⟨⟨d0,d1,d2,d3⟩,g0,g1,g2,g3⟩:=cell_four hv'
        have HT2:=Lib.hid hT2
        clear hv' hn1 hn2 hmild hmid hmd hal hrm q0 q1 hcc hT hT2 htk htl hq hP
        have h8:=HN1.out
        rw [HT2.out] at h8
        have H8:=Lib.hid h8
        clear h8
        go_wp2
        go_region_law (fail)
        all_goals
          go_wp2
          go_roundw
          case rel=>exact ⟨k+1,by have :=HML.out;omega,by simp,by first|exact H8.out|(have h8:=H8.out;rw [← HT2.out] at h8 ⊢;exact h8),HN2.out⟩
          case measure=>simp [intOf];omega
      · obtain rfl:k=M:=by have :=HML.out;omega
        rw [List.take_of_length_le (by have :=HML.out;omega)] at hmid
        have H8:=Lib.hid hmid
        have H9:=Lib.hid hmild
        clear hmid hmild
        go_wp2
        go_end0
        exact ⟨⟨_,rfl⟩,H8.out,H9.out⟩
theorem list_close (base B:Nat) (bs:List UInt8) (l blk:List Po) (n:Nat) (A:Option Addr) (m c:Nat) (cs:List Value) (z:Nat) (w:World) (h:LAt w base B bs l) (hl:l.length=8*n) (hm:blk.length=m) (hc:m≤c) (hcx:c≤maxLen)
  (hpc:PoCells (fun _ _=>True) blk cs) (hr:RowM base w A cs) (h0:0<m) (hm8:m≤8) (hll:l.length≤1000000) (htot:totalP (l++blk)≤1000000000000) (hz:z=(bytesP (-1) (l++blk)).length) (hzb:z≤1000000000000):
  Calls Tryz.prog 178 #[.pointer (some ⟨B,0,none⟩),.slice A m c,.int .i64 (z:Int)] w fun e w'=>(∃ v,e= .returned v)∧LAt w' base B bs (l++blk)∧Mild base w w':=by
 have hb:=blocksP_push hl (b:=blk) (by omega) (by omega)
 have hmid:=lat_mid.1 h
 rw [totalP_append] at htot
 refine (close_mid base B bs _ _ _ A m c blk cs z w hmid hm hc hcx hpc hr h0 (by omega) (by rw [endsC_length];unfold blocksP;omega) (by omega) (by omega) hzb).mono ?_
 rintro e w' ⟨h1,h2,h3⟩
 refine ⟨h1,lat_mid.2 ?_,h3⟩
 rw [hb.2,endsC_push hl (by omega) (by omega),totalP_append,List.length_append,hm,docOf_append,docOf_getD (by omega),hm,← hz]
 rw [hb.1] at h2
 have e1:((l.length+m:Nat):Int)=(l.length:Int)+(m:Int):=by omega
 have e2:((totalP l+totalP blk:Nat):Int)=(totalP l:Int)+(totalP blk:Int):=by omega
 rw [e1,e2]
 exact h2
end Go.Proofs.YtldcadpemnpbmaaGreatDoor
namespace Go.Proofs.YtldcadpemnpbmaaGreatDoor
open Go Go.RowKit
theorem fld_doc (x a:Int) (w:World):Sem.run Tryz.prog (Instr.field 240 (.agg #[.int .i64 x,.int .i64 a]) 0) w= .ok (.int .i64 x) w:=by
 simp [Instr.field,go_sem,part,asAgg]
end Go.Proofs.YtldcadpemnpbmaaGreatDoor
set_option linter.unusedVariables false
namespace Go.Proofs.YtldcadpemnpbmaaGreatDoor
open Go Go.RowKit
theorem Firm.lat (N base B:Nat) (bs:List UInt8) (l:List Po):Firm N (fun W=>LAt W base B bs l):=fun W k o o' hk ho hc h=>h.cellsKept fun j u hj hu=>by
 by_cases e:j=k
 ·subst e
  rw [ho] at hj
  injection hj with hj
  subst hj
  rw [hc] at hu
  cases hu
 ·exact (World.putObj_heap_other e).trans hj
end Go.Proofs.YtldcadpemnpbmaaGreatDoor
set_option linter.unusedVariables false
namespace Go.Proofs.YtldcadpemnpbmaaGreatDoor
open Go
section
variable {P:Program} {ops:Array Oper} {Q:Exit→Act→World→Prop} {md:Region.Mode} {n l:Nat}
def AtEnd (Q:Exit→Act→World→Prop):Exit→Act→World→Prop
 |.normal,a,w=>Q .normal a w
 |_,_,_=>False
theorem AtEnd.imp:∀ e a w,AtEnd Q e a w→Q e a w:=fun e a w h=>by
 cases e<;>first|exact h|exact (h:False).elim
theorem AtEnd.fin {a:Act} {w:World} (h:Q .normal a w):AtEnd Q .normal a w:=h
theorem AtEnd.no_out:¬ LetsOut (AtEnd Q):=fun ⟨_,_,h⟩=>h
theorem step_in_round {o:Oper} {a:Act} {w:World} {K:Act→World→Prop} (hd:∀ c,o.op≠ .defer c) (h:o.wp P a w K Q):o.wpIn (Fence.wide.inRound l) n P a w K Q:=by
 refine ⟨fun _ _=>trivial,?_⟩
 have e:o.semAt (Fence.wide.inRound l).round a.eval=execOp a.eval o:=Oper.semAt_some l _ _ hd
 rw [e]
 unfold Oper.wp at h
 generalize (execOp a.eval o).run P w=r at*
 cases r with
 |ok x w'=>
  cases x<;>first
   |exact h
   |exact (h:False).elim
   |exact ⟨fun e=>(by cases e),CallsIn.inRound l (callsIn_wide.2 h)⟩
   |exact ⟨fun e=>(by cases e),fun c cs _=>let ⟨v,w2,h1,h2⟩:=h c cs;⟨v,w2,h1,stepsIn_wide.2 h2⟩⟩
 |halt x w'=>cases x<;>exact h
theorem op_in_round {i:Nat} {a:Act} {w:World} {K K':Act→World→Prop} (hd:∀ (i:Nat) (o:Oper),ops[i]?=some o→∀ c,o.op≠ .defer c) (hk:∀ a w,K a w→K' a w) (h:wpOp P ops (AtEnd Q) i K a w):wpOpIn (Fence.wide.inRound l) n P ops (AtEnd Q) i K' a w:=by
 unfold wpOp at h
 unfold wpOpIn
 cases ho:ops[i]? with
 |none=>rw [ho] at h;exact hk _ _ h
 |some o=>
  rw [ho] at h
  simp only at h ⊢
  split
  ·rename_i hw
   rw [if_pos hw] at h
   rcases h with h|⟨_,h⟩
   ·exact Oper.wpIn_mono hk (step_in_round (hd i o ho) h)
   ·exact (AtEnd.no_out h).elim
  ·rename_i hw
   rw [if_neg hw] at h
   exact ⟨fun _ _=>trivial,hk _ _ h⟩
theorem any_in_round (hd:∀ (i:Nat) (o:Oper),ops[i]?=some o→∀ c,o.op≠ .defer c):∀ (fuel:Nat) (listed:Array Bool) (a:Act) (w:World),wpAny P md ops (AtEnd Q) fuel listed a w→wpAnyIn (Fence.wide.inRound l) n P md ops (AtEnd Q) fuel listed a w
 |0,_,_,_,h=>h
 |fuel+1,listed,a,w,h=>⟨h.1,fun i hi=>op_in_round hd (fun a' w' h'=>any_in_round hd fuel _ a' w' h') (h.2 i hi)⟩
def notDefer (o:Oper):Bool:=match o.op with| .defer _=>false|_=>true
theorem no_defer (h:ops.toList.all notDefer=true):∀ (i:Nat) (o:Oper),ops[i]?=some o→∀ c,o.op≠ .defer c:=fun i o hi c e=>by
 have h1:=List.all_eq_true.1 h o (by rw [Array.mem_toList_iff];exact Array.mem_of_getElem? hi)
 unfold notDefer at h1
 rw [e] at h1
 cases h1
theorem step_append_known {o:Oper} {a:Act} {w:World} {K:Act→World→Prop} {E:Prop} (hg:o.guard=none) (s x:Operand) (t:TypeId)
  (hop:o.op=Op.call {callee:=Callee.builtin Builtin.append,args:=#[s,x],argTypes:=#[t,t]}) (vs vx:Value) (hs:a.eval s=vs) (hx:a.eval x=vx) (v':Value) (w':World)
  (hr:(Builtin.append_ #[t,t] o.type #[vs,vx]).run P w= .ok v' w') (hK:K (a.put o.dst v') w'):if Region.wanted o (yielded ops a.tmps)=true then Oper.wp P o a w K Q else E:=by
 have hw:Region.wanted o (yielded ops a.tmps)=true:=by simp [Region.wanted,hg]
 rw [if_pos hw]
 exact Lib.wp_append_run w s x t t hop vs vx hs hx v' w' hr hK
theorem region_in_round {S:World→Prop} {id:Nat} {a:Act} {w:World} (hm:P.follows .mixedOrders=true) (hd:ops.toList.all notDefer=true) (hS:S w.drew)
  (h:S w.drew→wpAnyH P .any ops (AtEnd Q) S ops.size (Array.replicate ops.size false) a w.drew):(Code.region id ops true).wpIn (Fence.wide.inRound l) n P Q a w:=
 wpIn_mono (wpIn_region_any hm (any_in_round (no_defer hd) _ _ _ _ (wpAny_of_held _ _ _ _ (h hS)))) AtEnd.imp
end
end Go.Proofs.YtldcadpemnpbmaaGreatDoor
