import Derived.Test.YtmoomnpbiifedaaGreatMAQ07
import Derived.Deep.RegionHeld3
import Derived.Test.YtmoomnpbiifedaaGreatMAQ06
import Derived.BigQuiet
import Derived.Test.YtmoomnpbiifedaaGreatMAQ01
import Derived.Deep.RegionLaw
import Derived.Deep.CutRange
import Derived.Laws.Rows
import Derived.RangeFuncOwn
namespace Go.Proofs.YtmoomnpbiifedaaGreat
open Go Go.RowKit
set_option linter.unusedVariables false
def PFew (x:PartsP):Prop:=x.ids.length≤9223372036854775807∧x.seqs.length≤9223372036854775807∧x.keys.length≤9223372036854775807∧x.lists.length≤9223372036854775807∧∀ l∈x.lists,l.length≤9223372036854775807∧∀ p∈l,p.2.length≤9223372036854775807
structure PAt (w:World) (B:Nat) (A1 A2 A3 A4:Option Addr) (x:PartsP):Prop where
 ids:Row w B A1 (ints x.ids)
 seqs:Row w B A2 (ints x.seqs)
 keys:Row w B A3 (strs x.keys)
 lists:LPosts w B A4 x.lists
theorem PAt.later {w w':World} {A1 A2 A3 A4:Option Addr} {x:PartsP} (h:PAt w w.heap.size A1 A2 A3 A4 x) (hb:Below w.heap.size w w'):PAt w' w'.heap.size A1 A2 A3 A4 x:=
 ⟨Row.later h.ids hb,Row.later h.seqs hb,Row.later h.keys hb,h.lists.later hb⟩
def PBox2 (w:World) (V U:Array Value) (wr:World):Prop:=Below w.heap.size w wr∧w.heap.size+1+1≤wr.heap.size∧wr.heap[w.heap.size]?=some (.cells V 26 (0,0))∧wr.heap[w.heap.size+1]?=some (.cells U 26 (0,0))
theorem PBox2.below {w wr w':World} {V U:Array Value} (h:PBox2 w V U wr) (hb:Below wr.heap.size wr w'):PBox2 w V U w':=by
 obtain ⟨h0,h1,h2,h3⟩:=h
 exact ⟨h0.trans (hb.mono (by omega)),by have :=hb.size;omega,(hb.block _ (by omega)).trans h2,(hb.block _ (by omega)).trans h3⟩
theorem pBox2_start (w:World) (V U:Array Value):PBox2 w V U ((w.alloc (.cells V 26)).alloc (.cells U 26)):=by
 refine ⟨((Below.refl _ w).alloc (Nat.le_refl _) _).alloc (by simp) _,by simp,?_,?_⟩
 ·rw [Below.heap_alloc _ _ _ (by simp)]
  exact heap_alloc_new w _
 ·simpa using heap_alloc_new (w.alloc (.cells V 26)) (.cells U 26)
def PSameRel (w:World) (V U:Array Value) (ls ms:List (List Pn)) (r i:Value) (wr:World):Prop:=
 r= .bool false∧∃ k:Nat,k≤ls.length∧i= .int .i64 (k:Int)∧PBox2 w V U wr∧∀ j (hj:j<ls.length) (hj':j<ms.length),j<k→ls[j]=ms[j]
theorem parts_ext {x y:PartsP} (h1:x.ids=y.ids) (h2:x.seqs=y.seqs) (h3:x.keys=y.keys) (h4:x.lists=y.lists):x=y:=by
 cases x
 cases y
 simp only at h1 h2 h3 h4
 subst h1 h2 h3 h4
 rfl
set_option maxHeartbeats 4000000 in
set_option maxRecDepth 100000 in
theorem ref10_Same (A1 A2 A3 A4 B1 B2 B3 B4:Option Addr) (n1 c1 n2 c2 n3 c3 n4 c4 m1 d1 m2 d2 m3 d3 m4 d4:Nat) (x y:PartsP) (w:World)
    (hx1:x.ids.length=n1) (hx2:x.seqs.length=n2) (hx3:x.keys.length=n3) (hx4:x.lists.length=n4) (hy1:y.ids.length=m1) (hy2:y.seqs.length=m2) (hy3:y.keys.length=m3) (hy4:y.lists.length=m4)
    (hx:PAt w w.heap.size A1 A2 A3 A4 x) (hy:PAt w w.heap.size B1 B2 B3 B4 y) (fx:PFew x) (fy:PFew y):
    Calls Tryz.prog 19 #[.agg #[.slice A1 n1 c1,.slice A2 n2 c2,.slice A3 n3 c3,.slice A4 n4 c4],.agg #[.slice B1 m1 d1,.slice B2 m2 d2,.slice B3 m3 d3,.slice B4 m4 d4]] w fun e w'=>e= .returned (.bool (decide (x=y)))∧Below w.heap.size w w':=by
  obtain ⟨V,hV⟩:∃ V:Array Value,V=#[.slice A1 n1 c1,.slice A2 n2 c2,.slice A3 n3 c3,.slice A4 n4 c4]:=⟨_,rfl⟩
  obtain ⟨U,hU⟩:∃ U:Array Value,U=#[.slice B1 m1 d1,.slice B2 m2 d2,.slice B3 m3 d3,.slice B4 m4 d4]:=⟨_,rfl⟩
  obtain ⟨z,hz⟩:∃ z,z=decide (x=y):=⟨_,rfl⟩
  obtain ⟨z1,hz1⟩:∃ z,z=decide (x.ids=y.ids):=⟨_,rfl⟩
  obtain ⟨z2,hz2⟩:∃ z,z=decide (x.seqs=y.seqs):=⟨_,rfl⟩
  obtain ⟨z3,hz3⟩:∃ z,z=decide (x.keys=y.keys):=⟨_,rfl⟩
  have S1:Hid (∀ w1,Below w.heap.size w w1→Calls Tryz.prog 59 #[.slice A1 n1 c1,.slice B1 m1 d1] w1 fun e w'=>e= .returned (.bool z1)∧Below w1.heap.size w1 w'):=Lib.hid fun w1 h=>by
    rw [hz1]
    exact ref01_Same_any A1 B1 n1 m1 c1 d1 x.ids y.ids w1 hx1 hy1 (hx.later h).ids (hy.later h).ids (hx1▸fx.1) (hy1▸fy.1)
  have S2:Hid (∀ w1,Below w.heap.size w w1→Calls Tryz.prog 59 #[.slice A2 n2 c2,.slice B2 m2 d2] w1 fun e w'=>e= .returned (.bool z2)∧Below w1.heap.size w1 w'):=Lib.hid fun w1 h=>by
    rw [hz2]
    exact ref01_Same_any A2 B2 n2 m2 c2 d2 x.seqs y.seqs w1 hx2 hy2 (hx.later h).seqs (hy.later h).seqs (hx2▸fx.2.1) (hy2▸fy.2.1)
  have S3:Hid (∀ w1,Below w.heap.size w w1→Calls Tryz.prog 32 #[.slice A3 n3 c3,.slice B3 m3 d3] w1 fun e w'=>e= .returned (.bool z3)∧Below w1.heap.size w1 w'):=Lib.hid fun w1 h=>by
    rw [hz3]
    exact ref02_Same_all A3 B3 n3 m3 c3 d3 x.keys y.keys w1 hx3 hy3 (hx.later h).keys (hy.later h).keys (hx3▸fx.2.2.1) (hy3▸fy.2.2.1)
  have HX4:=Lib.hid hx.lists
  have HY4:=Lib.hid hy.lists
  have H4:=Lib.hid hx4
  have G4:=Lib.hid hy4
  have HFX:=Lib.hid fx.2.2.2.2
  have HFY:=Lib.hid fy.2.2.2.2
  have hn4:n4≤9223372036854775807:=hx4▸fx.2.2.2.1
  have hm4:m4≤9223372036854775807:=hy4▸fy.2.2.2.1
  have HV:=Lib.hid hV
  have HU:=Lib.hid hU
  have HZ:=Lib.hid hz
  have N1:Hid (z1=false→z=false):=Lib.hid fun h=>by rw [hz];exact decide_eq_false fun e=>of_decide_eq_false (hz1.symm.trans h) (by rw [e])
  have N2:Hid (z2=false→z=false):=Lib.hid fun h=>by rw [hz];exact decide_eq_false fun e=>of_decide_eq_false (hz2.symm.trans h) (by rw [e])
  have N3:Hid (z3=false→z=false):=Lib.hid fun h=>by rw [hz];exact decide_eq_false fun e=>of_decide_eq_false (hz3.symm.trans h) (by rw [e])
  have N4:Hid (n4≠m4→z=false):=Lib.hid fun h=>by rw [hz];exact decide_eq_false fun e=>h (by rw [← hx4,← hy4,e])
  have T4:Hid (z1=true→z2=true→z3=true→x.lists=y.lists→z=true):=Lib.hid fun h1 h2 h3 h4=>by
    rw [hz]
    exact decide_eq_true (parts_ext (of_decide_eq_true (hz1.symm.trans h1)) (of_decide_eq_true (hz2.symm.trans h2)) (of_decide_eq_true (hz3.symm.trans h3)) h4)
  rw [← hz]
  clear hV hU hz hz1 hz2 hz3 hx hy fx fy hx1 hx2 hx3 hx4 hy1 hy2 hy3 hy4
  obtain ⟨w1,hw1⟩:∃ w1,w1=(w.alloc (.cells #[.slice A1 n1 c1,.slice A2 n2 c2,.slice A3 n3 c3,.slice A4 n4 c4] 26)).alloc (.cells #[.slice B1 m1 d1,.slice B2 m2 d2,.slice B3 m3 d3,.slice B4 m4 d4] 26):=⟨_,rfl⟩
  have hb1:PBox2 w V U w1:=by rw [hw1,HV.out,HU.out];exact pBox2_start w _ _
  have HW1:=Lib.hid hw1
  have HB1:=Lib.hid hb1
  clear hw1 hb1
  have QS:Hid (∀ wr,PBox2 w V U wr→(wr.cell? ⟨w.heap.size,0,none⟩=some (.slice A1 n1 c1)∧wr.cell? ⟨w.heap.size,1,none⟩=some (.slice A2 n2 c2)∧wr.cell? ⟨w.heap.size,2,none⟩=some (.slice A3 n3 c3)∧wr.cell? ⟨w.heap.size,3,none⟩=some (.slice A4 n4 c4))∧
      wr.cell? ⟨w.heap.size+1,0,none⟩=some (.slice B1 m1 d1)∧wr.cell? ⟨w.heap.size+1,1,none⟩=some (.slice B2 m2 d2)∧wr.cell? ⟨w.heap.size+1,2,none⟩=some (.slice B3 m3 d3)∧wr.cell? ⟨w.heap.size+1,3,none⟩=some (.slice B4 m4 d4)):=Lib.hid fun wr h=>by
    obtain ⟨_,_,h2,h3⟩:=h
    rw [HV.out] at h2
    rw [HU.out] at h3
    exact ⟨cells4 h2,cells4 h3⟩
  go_enter Tryz.func19,Tryz.ntmps19
  go_wp2_with (go_at_call 59;rw [show (w.alloc _).alloc _=w1 from HW1.out.symm];refine (S1.out _ HB1.out.1).mono ?_)
  rintro e w2 ⟨rfl,hb2⟩
  have HB2:Hid (PBox2 w V U w2):=Lib.hid (HB1.out.below hb2)
  clear hb2 S1
  obtain ⟨⟨q0,q1,q2,q3⟩,r0,r1,r2,r3⟩:=QS.out _ HB2.out
  go_wp2_with (go_at_call 59;refine (S2.out _ HB2.out.1).mono ?_)
  rintro e w3 ⟨rfl,hb3⟩
  have HB3:Hid (PBox2 w V U w3):=Lib.hid (HB2.out.below hb3)
  clear hb3 S2 q0 q1 q2 q3 r0 r1 r2 r3
  obtain ⟨⟨q0,q1,q2,q3⟩,r0,r1,r2,r3⟩:=QS.out _ HB3.out
  go_wp2_with (go_at_call 32;refine (S3.out _ HB3.out.1).mono ?_)
  rintro e w4 ⟨rfl,hb4⟩
  have HB4:Hid (PBox2 w V U w4):=Lib.hid (HB3.out.below hb4)
  clear hb4 S3 q0 q1 q2 q3 r0 r1 r2 r3
  obtain ⟨⟨q0,q1,q2,q3⟩,r0,r1,r2,r3⟩:=QS.out _ HB4.out
  rcases hz1:z1 with _|_
  · have hzf:=N1.out hz1
    subst hz1 hzf
    go_wp2
    go_ret
    exact ⟨rfl,HB4.out.1⟩
  rcases hz2:z2 with _|_
  · have hzf:=N2.out hz2
    subst hz1 hz2 hzf
    go_wp2
    go_ret
    exact ⟨rfl,HB4.out.1⟩
  rcases hz3:z3 with _|_
  · have hzf:=N3.out hz3
    subst hz1 hz2 hz3 hzf
    go_wp2
    go_ret
    exact ⟨rfl,HB4.out.1⟩
  subst hz1 hz2 hz3
  by_cases hnm:m4=n4
  · subst hnm
    go_wp2
    clear q0 q1 q2 q3 r0 r1 r2 r3
    go_loopw [4,8,9] (fun r i s wr=>PSameRel w V U x.lists y.lists r i wr) (fun _ i _ _=>m4-(intOf i).toNat)
    case atStart=>exact ⟨rfl,0,Nat.zero_le _,rfl,HB4.out,fun j _ _ hj=>by omega⟩
    case round=>
      obtain ⟨rfl,k,hk,rfl,hbox,hall⟩:=hrel
      obtain ⟨⟨q0,q1,q2,q3⟩,r0,r1,r2,r3⟩:=QS.out _ hbox
      have hsz:=hbox.2.1
      have HALL:=Lib.hid hall
      clear hall q0 q1 q2 r0 r1 r2
      by_cases hkm:k<m4
      · have hlt:k<x.lists.length:=by rw [H4.out];exact hkm
        have hlt2:k<y.lists.length:=by rw [G4.out];exact hkm
        obtain ⟨b1,o1,A',c',e1,hb1,hc1,hl1,hp1⟩:=(HX4.out.below hbox.1).at_ hlt
        obtain ⟨b2,o2,B',d',e2,hb2,hc2,hl2,hp2⟩:=(HY4.out.below hbox.1).at_ hlt2
        subst e1 e2
        have hi0:(0:Int)≤k:=by omega
        have hi1:(k:Int)<m4:=by omega
        obtain ⟨N,hN⟩:∃ N,N=x.lists[k].length:=⟨_,rfl⟩
        obtain ⟨M,hM⟩:∃ M,M=y.lists[k].length:=⟨_,rfl⟩
        rw [← hN] at hc1
        rw [← hM] at hc2
        obtain ⟨zk,hzk⟩:∃ z,z=decide (x.lists[k]=y.lists[k]):=⟨_,rfl⟩
        have f1:=HFX.out _ (List.getElem_mem hlt)
        have f2:=HFY.out _ (List.getElem_mem hlt2)
        have SM:Hid (∀ w1,Below wr.heap.size wr w1→Calls Tryz.prog 38 #[.slice A' N c',.slice B' M d'] w1 fun e w'=>e= .returned (.bool zk)∧Below w1.heap.size w1 w'):=Lib.hid fun w1 h1=>by
          rw [hzk]
          exact ref05_Same_any A' B' N M c' d' _ _ w1 hN.symm hM.symm (Posts.later (hp1.more (by omega)) h1) (Posts.later (hp2.more (by omega)) h1) (hN▸f1.1) (hM▸f2.1) f1.2 f2.2
        have HZK:=Lib.hid hzk
        have HBOX:=Lib.hid hbox
        clear hN hM hzk f1 f2 hp1 hp2 hl1 hl2 hbox
        go_wp2
        go_region_held3 (fun w'=>w'.cell? ⟨w.heap.size,3,none⟩=some (.slice (some ⟨b1,o1,none⟩) m4 c4)∧w'.cell? ⟨w.heap.size+1,3,none⟩=some (.slice (some ⟨b2,o2,none⟩) m4 d4)∧w'.cell? ⟨b1,o1+k,none⟩=some (.slice A' N c')∧w'.cell? ⟨b2,o2+k,none⟩=some (.slice B' M d'))
          (first|exact ⟨q3,r3,hc1,hc2⟩|exact ⟨q5,r5,hc5,hc6⟩)
          (first
            | (go_at_call 38; refine (SM.out _ (Below.refl _ _).drew).mono ?_; rintro e w5 ⟨rfl, hb5⟩
               have hb6:Below wr.heap.size wr w5:=(Below.refl wr.heap.size wr).drew.trans hb5
               have q5:=(hb6.cell (p:=⟨w.heap.size,3,none⟩) (by show w.heap.size<_;omega)).trans q3
               have r5:=(hb6.cell (p:=⟨w.heap.size+1,3,none⟩) (by show w.heap.size+1<_;omega)).trans r3
               have hc5:=(hb6.cell (p:=⟨b1,o1+k,none⟩) (by show b1<_;omega)).trans hc1
               have hc6:=(hb6.cell (p:=⟨b2,o2+k,none⟩) (by show b2<_;omega)).trans hc2
               have HB6:=Lib.hid hb6
               clear hb5 hb6))
        have HBX:=Lib.hid (HBOX.out.below (HB6.out.trans ⟨rfl,rfl,rfl,Nat.le_refl _,fun _ _=>rfl⟩))
        clear hc1 hc2 q3 r3
        rcases hzkc:zk with _|_
        · have hzf:z=false:=by
            rw [HZ.out]
            exact decide_eq_false fun e=>of_decide_eq_false (HZK.out.symm.trans hzkc) (by subst e;rfl)
          subst hzkc hzf
          go_wp2
          go_ret
          exact ⟨rfl,HBX.out.1⟩
        · have HN:Hid (∀ j (hj:j<x.lists.length) (hj':j<y.lists.length),j<k+1→x.lists[j]=y.lists[j]):=Lib.hid fun j hj hj' hjk=>by
            by_cases e:j=k
            · subst e
              exact of_decide_eq_true (HZK.out.symm.trans hzkc)
            · exact HALL.out j hj hj' (by omega)
          subst hzkc
          go_wp2
          go_roundw
          case rel=>exact ⟨rfl,k+1,by omega,by go_num,HBX.out,HN.out⟩
          case measure=>simp [intOf];omega
      · have hzt:z=true:=T4.out (by trivial) (by trivial) (by trivial) (List.ext_getElem (H4.out.trans G4.out.symm) fun j h1 h2=>HALL.out j h1 h2 (by have :=H4.out;omega))
        subst hzt
        have HBOX:=Lib.hid hbox
        clear hbox
        go_wp2
        go_ret
        exact ⟨rfl,HBOX.out.1⟩
  · have hzf:z=false:=N4.out fun e=>hnm e.symm
    subst hzf
    have hne:((n4:Int) != (m4:Int))=true:=by simp;omega
    clear hnm
    go_wp2
    go_ret
    exact ⟨rfl,HB4.out.1⟩
end Go.Proofs.YtmoomnpbiifedaaGreat
namespace Go.Proofs.YtmoomnpbiifedaaGreat
open Go Go.RowKit
set_option linter.unusedVariables false
theorem worth_more {l:List UInt8} {k:Nat} (hk:k<9) (hl:k<l.length):∃ q p v:Nat,128^k=q∧valB (l.take k)=v∧valB (l.take (k+1))=v+p∧(((l.getD k 0).toNat:Int)%128)*(q:Int)=(p:Int)∧p≤9151314442816847872∧v+p<9223372036854775808∧q≤72057594037927936:=by
 have h1:=valB_take hl
 have h2:=valB_take_lt l (k+1)
 have h3:=pow_bd hk
 have h4:(128:Nat)^(k+1)≤128^9:=Nat.pow_le_pow_right (by omega) (by omega)
 have h5:(128:Nat)^9=9223372036854775808:=by decide
 refine ⟨_,(l.getD k 0).toNat%128*128^k,_,rfl,rfl,h1,by simp,?_,by omega,h3⟩
 have :(l.getD k 0).toNat%128*128^k≤127*72057594037927936:=Nat.mul_le_mul (by omega) h3
 omega
theorem pow_next {k q:Nat} (h:128^k=q) (hk:k<8):128^(k+1)=q*128∧q*128≤72057594037927936:=by
 have h1:=pow_bd (i:=k+1) (by omega)
 rw [Nat.pow_succ,h] at h1 ⊢
 exact ⟨rfl,h1⟩
theorem row_drop {w:World} {B b off m c a:Nat} {l:List UInt8} (h:Row w B (some ⟨b,off,none⟩) (Lib.byteCells l)) (hm:l.length=m) (hc:m≤c) (ha:a≤m) (A:Option Addr) (hA:A=some ⟨b,off,none⟩∧c=a∨A=some ⟨b,off+a,none⟩):Row w B A (Lib.byteCells (l.drop a)):=by
 by_cases h0:a=m
 ·refine .inl ?_
  rw [List.drop_eq_nil_of_le (by omega)]
  rfl
 ·rcases hA with ⟨_,hA⟩|hA
  ·omega
  ·obtain ⟨b',o',h1,h2,h3⟩:=h.at_ (by rw [Lib.byteCells_length];omega)
   injection h1 with h1
   injection h1 with h1 h4
   subst h1 h4 hA
   refine .inr ⟨b,off+a,rfl,h2,fun j u hu=> ?_⟩
   have :=h3 (a+j) u (by rw [← hu];simp [Lib.byteCells])
   rwa [← Nat.add_assoc] at this
def GaveZ (z:Int × Int × Int) (w:World) (e:Ending) (w':World):Prop:=e= .returned (.tuple #[.int .i64 z.1,.int .i64 z.2.1,.int .i64 z.2.2])∧Below w.heap.size w w'
theorem getZ_split (l:List UInt8) (a:Int):(∃ e:Int,getZ l a=(0,0,e)∧(e=1∨e=2))∨∃ n b:Nat,getZ l a=((n:Int),(b:Int),0)∧b≤l.length∧n<9223372036854775808:=by
 by_cases h0:a<0∨(l.length:Int)<a
 ·exact .inl ⟨1,getZ_out h0,.inl rfl⟩
 ·obtain ⟨k,rfl⟩:∃ k:Nat,a=k:=⟨a.toNat,by omega⟩
  have hbd:=getF_bd (l.drop k)
  rw [List.length_drop] at hbd
  by_cases h2:(getF (l.drop k)).2=0
  ·exact .inl ⟨2,getZ_form (by omega) h2,.inr rfl⟩
  ·obtain ⟨j,hj⟩:∃ j,(getF (l.drop k)).2=j+1:=⟨(getF (l.drop k)).2-1,by omega⟩
   refine .inr ⟨(getF (l.drop k)).1,k+(j+1),?_,by omega,hbd.1⟩
   rw [getZ_ok (n:=(getF (l.drop k)).1) (k:=j) (by omega) (by rw [← hj])]
   simp
def outR:Option (List Int × Nat)→List Int × Int × Int
 |none=>([],0,2)
 |some p=>(p.1,(p.2:Int),0)
theorem risZ_err {l:List UInt8} {a e:Int} (hz:getZ l a=(0,0,e)) (he:e≠0):risZ l a=([],0,e):=by
 unfold risZ
 rw [hz,if_neg (by simpa using he)]
theorem risZ_ok {l:List UInt8} {a:Int} {n b:Nat} (hz:getZ l a=((n:Int),(b:Int),0)):risZ l a=outR (takeR l n (-1) b []):=by
 unfold risZ
 rw [hz]
 simp only [if_true,Int.toNat_natCast]
 rcases takeR l n (-1) b [] with _|⟨xs,q⟩<;>rfl
def GaveR (r:List Int × Int × Int) (w:World) (e:Ending) (w':World):Prop:=
 ∃ v,e= .returned (.tuple #[v,.int .i64 r.2.1,.int .i64 r.2.2])∧w'.ownsRow w.heap.size 3 1 v r.1.length (ints r.1)∧Below w.heap.size w w'
theorem takeR_length:∀ (many:Nat) (l:List UInt8) (x:Int) (a:Nat) (acc xs:List Int) (b:Nat),takeR l many x a acc=some (xs,b)→a≤l.length→xs.length+a≤acc.length+b∧b≤l.length
 |0,l,x,a,acc,xs,b,h,ha=>by
  simp only [takeR,Option.some.injEq,Prod.mk.injEq] at h
  obtain ⟨rfl,rfl⟩:=h
  exact ⟨Nat.le_refl _,ha⟩
 |m+1,l,x,a,acc,xs,b,h,ha=>by
  have hbd:=getF_bd (l.drop a)
  rw [List.length_drop] at hbd
  rw [takeR] at h
  split at h
  ·cases h
  ·have :=takeR_length m l _ _ _ xs b h (by omega)
   simp only [List.length_append,List.length_singleton] at this
   omega
theorem risZ_length (l:List UInt8) (a:Int):(risZ l a).1.length≤l.length:=by
 rcases getZ_split l a with ⟨e,hz,he⟩|⟨many,b,hz,hb,_⟩
 ·rw [risZ_err hz (by omega)];simp
 ·rw [risZ_ok hz]
  rcases h:takeR l many (-1) b [] with _|⟨xs,q⟩
  ·simp [outR]
  ·have :=takeR_length many l _ _ _ xs q h hb
   simp only [outR,List.length_nil] at this ⊢
   omega
end Go.Proofs.YtmoomnpbiifedaaGreat
set_option linter.unusedVariables false
namespace Go.Proofs.YtmoomnpbiifedaaGreat
open Go Go.RowKit
theorem own_more {base:Nat} {w':World} {v':Value} {a b:List UInt8} {m:Nat} (hm:b.length=m) (hown:w'.ownsRow base 5 1 v' (a.length+m) (Lib.byteCells a++Lib.byteCells b)):Own base w' v' (a++b):=by
 unfold Own
 rw [Lib.byteCells_append,List.length_append,hm]
 exact hown
theorem drop_po {l:List Po} {k:Nat} (hk:k<l.length):l.drop k=l.getD k (0,[])::l.drop (k+1):=by
 rw [List.drop_eq_getElem_cons hk,List.getD_eq_getElem?_getD,List.getElem?_eq_getElem hk]
 rfl
theorem quiet_below {w:World} {n:Nat} (B:Nat):Below B w (w.drewN n):=⟨rfl,rfl,rfl,Nat.le_refl _,fun _ _=>rfl⟩
theorem docOf_getD:∀ {l:List Po} {x:Int},0<l.length→docOf x l=(l.getD (l.length-1) (0,[])).1
 |[],_,h=>by simp at h
 |[p],x,_=>rfl
 |p::q::r,x,_=>by
  have ih:=docOf_getD (l:=q::r) (x:=p.1) (by simp)
  rw [docOf,ih]
  simp
theorem risZ_split (l:List UInt8) (a:Int):(∃ e:Int,risZ l a=([],0,e)∧e≠0)∨∃ (ps:List Int) (q:Nat),risZ l a=(ps,(q:Int),0)∧q≤l.length∧ps.length≤l.length:=by
 have hlen:=risZ_length l a
 rcases getZ_split l a with ⟨e,hz,he⟩|⟨n,b,hz,hb,_⟩
 ·exact .inl ⟨e,risZ_err hz (by omega),by omega⟩
 ·rw [risZ_ok hz] at hlen ⊢
  rcases h:takeR l n (-1) b [] with _|⟨xs,q⟩
  ·exact .inl ⟨2,rfl,by omega⟩
  ·rw [h] at hlen
   have :=takeR_length n l _ _ _ xs q h hb
   exact .inr ⟨xs,q,rfl,this.2,hlen⟩
theorem totalP_le:∀ {l:List Po} {n:Nat},(∀ p∈l,p.2.length≤n)→totalP l≤l.length*n
 |[],_,_=>by simp [totalP]
 |p::r,n,h=>by
  have h1:=h p (by simp)
  have h2:=totalP_le (l:=r) fun q hq=>h q (by simp [hq])
  rw [totalP,List.length_cons,Nat.add_mul,Nat.one_mul]
  omega
theorem totalP_take {l:List Po} {k:Nat} (hk:k<l.length):totalP (l.take (k+1))=totalP (l.take k)+(l.getD k (0,[])).2.length:=by
 have e:∀ (a b:List Po),totalP (a++b)=totalP a+totalP b:=by
  intro a
  induction a with
  |nil=>intro b;simp [totalP]
  |cons p r ih=>intro b;simp [totalP,ih,Nat.add_assoc]
 rw [List.take_succ_eq_append_getElem hk,e,List.getD_eq_getElem?_getD,List.getElem?_eq_getElem hk]
 simp [totalP]
theorem totalP_le_take {l:List Po} (k:Nat):totalP (l.take k)≤totalP l:=by
 have e:∀ (a b:List Po),totalP (a++b)=totalP a+totalP b:=by
  intro a
  induction a with
  |nil=>intro b;simp [totalP]
  |cons p r ih=>intro b;simp [totalP,ih,Nat.add_assoc]
 have h:=e (l.take k) (l.drop k)
 rw [List.take_append_drop] at h
 omega
end Go.Proofs.YtmoomnpbiifedaaGreat
set_option linter.unusedVariables false
namespace Go.Proofs.YtmoomnpbiifedaaGreat
open Go Go.RowKit
def RowL (base:Nat) (w:World) (A:Option Addr) (xs:List Value):Prop:=RowS 0 w A xs∧(xs=[]∨∃ b off,A=some ⟨b,off,none⟩∧base≤b)
theorem RowL.of_own {base base':Nat} {w:World} {A:Option Addr} {n c:Nat} {xs:List Value} (h:w.ownsRow base' 3 1 (.slice A n c) n xs) (hb:base≤base'):RowL base w A xs:=by
 refine ⟨RowS.of_own h,?_⟩
 rcases h.2 with ⟨hv,hn⟩|⟨g,cap,cur,hv,hg,_⟩
 ·exact .inl (List.eq_nil_of_length_eq_zero (by rw [h.1,hn]))
 ·injection hv with h1 h2 h3
  exact .inr ⟨g,0,h1,by omega⟩
def NewPo (base:Nat) (w:World) (v:Value) (l:List Po):Prop:=∃ cs,w.ownsRow base 63 2 v l.length cs∧PoCells (RowL base w) l cs
section
variable {base:Nat} {w w':World} {v v':Value} {l:List Po}
theorem NewPo.nil:NewPo base w (.slice none 0 0) []:=⟨[],World.ownsRow_nil _ _ _ _,rfl⟩
theorem NewPo.below (h:NewPo base w v l) (hb:Below w.heap.size w w'):NewPo base w' v l:=by
 obtain ⟨cs,h1,h2⟩:=h
 exact ⟨cs,owned_below h1 hb,h2.imp fun _ _ h=>⟨h.1.below hb,h.2⟩⟩
theorem NewPo.room (h:NewPo base w v l):∃ A c,v= .slice A l.length c∧l.length≤c∧c≤maxLen∧Posts w w.heap.size A l:=by
 obtain ⟨cs,h1,h2⟩:=h
 obtain ⟨A,c,rfl,hc,hr⟩:=owned_row h1
 refine ⟨A,c,rfl,hc,?_,cs,h2.imp fun _ _ h=>h.1.row,hr⟩
 rcases h1.2 with ⟨h4,_⟩|⟨g,cap,cur,h4,_,_,_,h5,_⟩
 ·injection h4 with _ _ h4;omega
 ·injection h4 with _ _ h4;rw [h4];exact h5
theorem NewPo.push {cs:List Value} (h1:w.ownsRow base 63 2 v l.length cs) (h2:PoCells (RowL base w) l cs) {A:Option Addr} {c:Nat} {d:Int} {ps:List Int} (hc:ps.length≤c) (hcx:c≤maxLen) (hr:RowL base w A (ints ps))
  (hown:w'.ownsRow base 63 2 v' (l.length+1) (cs++[.int .i64 d,.slice A ps.length c])) (hg:w.grownBy w' v.ownBlock):NewPo base w' v' (l++[(d,ps)]):=by
 have h0:=owned_low h1 (Nat.zero_le base)
 refine ⟨_,?_,(h2.imp fun _ _ h=>⟨h.1.grown h0 (by decide) hg,h.2⟩).snoc hc hcx ⟨hr.1.grown h0 (by decide) hg,hr.2⟩⟩
 rw [List.length_append,List.length_singleton]
 exact hown
end
theorem NewPo.low {base base':Nat} {w:World} {v:Value} {l:List Po} (h:NewPo base w v l) (hb:base'≤base):NewPo base' w v l:=by
 obtain ⟨cs,h1,h2⟩:=h
 exact ⟨cs,owned_low h1 hb,h2.imp fun _ _ h=>⟨h.1,h.2.imp id fun ⟨b,off,e,hl⟩=>⟨b,off,e,by omega⟩⟩⟩
def GaveNew (l:List Po) (w:World) (e:Ending) (w':World):Prop:=∃ v,e= .returned v∧NewPo w.heap.size w' v l∧Below w.heap.size w w'
end Go.Proofs.YtmoomnpbiifedaaGreat
set_option linter.unusedVariables false
namespace Go.Proofs.YtmoomnpbiifedaaGreat
theorem getF_exact (l:List UInt8):(getF l).2=0∨putB (getF l).1=l.take (getF l).2:=by
 have key:∀ (f:Nat) (l:List UInt8) (k:Nat),scan f l=some k→k<l.length∧High l k∧(l.getD k 0).toNat<128:=by
  intro f
  induction f with
  |zero=>intro l k h;cases h
  |succ f ih=>
   intro l k h
   cases l with
   |nil=>cases h
   |cons c r=>
    rw [scan] at h
    split at h
    ·rename_i hc
     simp at h
     subst h
     exact ⟨by simp,High.zero _,by simpa using hc⟩
    ·rename_i hc
     rw [Option.map_eq_some_iff] at h
     obtain ⟨j,hj,rfl⟩:=h
     obtain ⟨h1,h2,h3⟩:=ih r j hj
     refine ⟨by simp;omega,fun i hi=> ?_,by simpa using h3⟩
     cases i with
     |zero=>simp;omega
     |succ i=>simpa using h2 i (by omega)
 unfold getF
 rcases hs:scan 9 l with _|k
 ·exact .inl rfl
 ·obtain ⟨h1,h2,h3⟩:=key 9 l k hs
  have hd:∀ j,j<k+1→(l.take (k+1)).getD j 0=l.getD j 0:=fun j hj=>by
   rw [List.getD_eq_getElem?_getD,List.getElem?_take_of_lt hj,← List.getD_eq_getElem?_getD]
  simp only
  split
  ·exact .inl rfl
  ·rename_i hne
   refine .inr ?_
   simp only
   refine (putB_valB (k:=k) (l:=l.take (k+1)) (by rw [List.length_take];omega) (fun j hj=> ?_) ?_ ?_).1
   ·rw [hd j (by omega)]
    exact h2 j hj
   ·rw [hd k (by omega)]
    exact h3
   ·rw [hd k (by omega)]
    omega
theorem getZ_exact {b:List UInt8} {a:Nat} {d q:Int} (h:getZ b (a:Int)=(d,q,0)):
  ∃ n k:Nat,d=(n:Int)∧q=(k:Int)∧a≤k∧k≤b.length∧b.take k=b.take a++putB n:=by
 unfold getZ at h
 split at h
 ·simp at h
 ·rename_i h0
  rw [Int.toNat_natCast] at h
  split at h
  ·simp at h
  ·rename_i h1
   simp only [Prod.mk.injEq,and_true] at h
   obtain ⟨hd,hq⟩:=h
   have hbd:=(getF_bd (b.drop a)).2.1
   rw [List.length_drop] at hbd
   refine ⟨_,a+(getF (b.drop a)).2,hd.symm,by rw [← hq];simp,by omega,by omega,?_⟩
   rcases getF_exact (b.drop a) with h2|h2
   ·exact absurd h2 h1
   ·rw [h2,List.take_add]
theorem takeR_exact {b:List UInt8}:∀ (m:Nat) (last:Int) (a:Nat) (acc xs:List Int) (q:Nat),takeR b m last a acc=some (xs,q)→a≤b.length→
  ∃ ys,xs=acc++ys∧ys.length=m∧risesZ last ys=true∧a≤q∧q≤b.length∧b.take q=b.take a++dB last ys
 |0,last,a,acc,xs,q,h,ha=>by
  simp only [takeR,Option.some.injEq,Prod.mk.injEq] at h
  obtain ⟨rfl,rfl⟩:=h
  exact ⟨[],by simp,rfl,rfl,Nat.le_refl _,ha,by simp [dB]⟩
 |m+1,last,a,acc,xs,q,h,ha=>by
  rw [takeR] at h
  split at h
  ·cases h
  ·rename_i h0
   have hbd:=(getF_bd (b.drop a)).2.1
   rw [List.length_drop] at hbd
   obtain ⟨ys,h1,h2,h3,h4,h5,h6⟩:=takeR_exact m _ _ _ _ _ h (by omega)
   have hx:putB (getF (b.drop a)).1=(b.drop a).take (getF (b.drop a)).2:=by
    rcases getF_exact (b.drop a) with h2|h2
    ·exact absurd (.inl h2) h0
    ·exact h2
   refine ⟨(last+(((getF (b.drop a)).1:Int)+1))::ys,by rw [h1];simp,by simp [h2],?_,by omega,h5,?_⟩
   ·rw [risesZ,h3,Bool.and_true,decide_eq_true_iff]
    omega
   ·rw [h6,List.take_add,dB,show (last+(((getF (b.drop a)).1:Int)+1)-(last+1)).toNat=(getF (b.drop a)).1 by omega,hx,List.append_assoc]
theorem risZ_exact {b:List UInt8} {a:Nat} {ps:List Int} {q:Int} (h:risZ b (a:Int)=(ps,q,0)):
  ∃ k:Nat,q=(k:Int)∧a≤k∧k≤b.length∧risesZ (-1) ps=true∧b.take k=b.take a++putR ps:=by
 unfold risZ at h
 split at h
 ·rename_i h0
  obtain ⟨d,q2,e,hz⟩:∃ d q2 e,getZ b (a:Int)=(d,q2,e):=⟨_,_,_,rfl⟩
  rw [hz] at h h0
  simp only at h h0
  subst h0
  obtain ⟨n,k,rfl,rfl,hak,hkb,hk⟩:=getZ_exact hz
  rw [Int.toNat_natCast,Int.toNat_natCast] at h
  rcases ht:takeR b n (-1) k [] with _|⟨xs,q'⟩
  ·rw [ht] at h;simp at h
  ·rw [ht] at h
   simp only [Prod.mk.injEq,and_true] at h
   obtain ⟨rfl,rfl⟩:=h
   obtain ⟨ys,h1,h2,h3,h4,h5,h6⟩:=takeR_exact _ _ _ _ _ _ ht hkb
   rw [List.nil_append] at h1
   subst h1
   exact ⟨q',rfl,by omega,h5,h3,by rw [h6,hk,putR,h2,List.append_assoc]⟩
 ·rename_i h0
  simp only [Prod.mk.injEq] at h
  exact absurd h.2.2 h0
def Stands (b:List UInt8) (last:Int) (a:Nat) (g:List Po):Prop:=
 mayB' last g=true∧a+(bytesP last g).length≤b.length∧b.take (a+(bytesP last g).length)=b.take a++bytesP last g
theorem Stands.nil {b:List UInt8} {last:Int} {a:Nat} (h:a≤b.length):Stands b last a []:=⟨rfl,by simpa [bytesP] using h,by simp [bytesP]⟩
theorem Stands.split {b:List UInt8} {last:Int} {a:Nat} {g:List Po} (h:Stands b last a g):b=b.take a++(bytesP last g++b.drop (a+(bytesP last g).length)):=by
 have :=(List.take_append_drop (a+(bytesP last g).length) b).symm
 rw [h.2.2,List.append_assoc] at this
 exact this
theorem bytes_placesA:∀ (l:List Po) (last:Int) (p:Po),p∈l→p.2.length≤(bytesP last l).length
 |[],_,p,h=>by cases h
 |q::r,last,p,h=>by
  have hd:∀ (ps:List Int) (x:Int),ps.length≤(dB x ps).length:=by
   intro ps
   induction ps with
   |nil=>simp
   |cons a t ih=>
    intro x
    have :=ih a
    have :=putB_pos (a-(x+1)).toNat
    rw [dB,List.length_append,List.length_cons]
    omega
  rw [bytesP,List.length_append,List.length_append]
  rcases List.mem_cons.1 h with rfl|h
  ·have :=hd p.2 (-1)
   rw [putR,List.length_append]
   omega
  ·have :=bytes_placesA r q.1 p h
   omega
theorem drop_poA {l:List Po} {k:Nat} (hk:k<l.length):l.drop k=l.getD k (0,[])::l.drop (k+1):=by
 rw [List.drop_eq_getElem_cons hk,List.getD_eq_getElem?_getD,List.getElem?_eq_getElem hk]
 rfl
theorem stands_next {b:List UInt8} {last:Int} {a:Nat} {g:List Po} (h:Stands b last a g) (h0: -1≤last) {k:Nat} (hk:k<g.length) (hb:b.length≤400000000000):
  ∃ a2:Nat,getZ b (((a+(bytesP last (g.take k)).length:Nat)):Int)=((g.getD k (0,[])).1-(docOf last (g.take k)+1),(a2:Int),0)∧
   risZ b (a2:Int)=((g.getD k (0,[])).2,(((a+(bytesP last (g.take (k+1))).length:Nat)):Int),0)∧ -1≤docOf last (g.take k)∧docOf last (g.take k)<(g.getD k (0,[])).1∧(g.getD k (0,[])).1<2147483648∧placesB (g.getD k (0,[])).2=true∧g.take (k+1)=g.take k++[((g.getD k (0,[])).1,(g.getD k (0,[])).2)]:=by
 have hspl:=h.split
 obtain ⟨h1,h2,h3⟩:=h
 have hsp:g=g.take k++(g.getD k (0,[])::g.drop (k+1)):=by rw [← drop_poA hk,List.take_append_drop]
 have hm:=h1
 rw [hsp,mayB'_append,Bool.and_eq_true] at hm
 obtain ⟨m1,m2⟩:=hm
 obtain ⟨m3,m4,m5,m6⟩:=mayB'_cons.1 m2
 have hge:=docOf_ge _ _ m1
 have hpl:=bytes_placesA g last (g.getD k (0,[])) (by rw [List.getD_eq_getElem?_getD,List.getElem?_eq_getElem hk];simp)
 have hts:g.take (k+1)=g.take k++[g.getD k (0,[])]:=by
  rw [List.take_succ_eq_append_getElem hk,List.getD_eq_getElem?_getD,List.getElem?_eq_getElem hk]
  rfl
 obtain ⟨q,hq⟩:∃ q,q=g.getD k (0,[]):=⟨_,rfl⟩
 rw [← hq] at m3 m4 m5 m6 hsp hts hpl
 rw [← hq]
 obtain ⟨d,ps⟩:=q
 have hta:(b.take a).length=a:=by rw [List.length_take];omega
 obtain ⟨g1,g2⟩:=get_posting (pre:=b.take a++bytesP last (g.take k)) (post:=b.drop (a+(bytesP last g).length)) (r:=g.drop (k+1)) (by omega) m3 m4 m5 (by have h9:ps.length≤(bytesP last g).length:=hpl;omega)
 have hbe:(b.take a++bytesP last (g.take k))++(bytesP (docOf last (g.take k)) ((d,ps)::g.drop (k+1))++b.drop (a+(bytesP last g).length))=b:=by
  have e1:bytesP last (g.take k)++bytesP (docOf last (g.take k)) ((d,ps)::g.drop (k+1))=bytesP last g:=by rw [← bytesP_append,← hsp]
  have e2:(b.take a++bytesP last (g.take k))++(bytesP (docOf last (g.take k)) ((d,ps)::g.drop (k+1))++b.drop (a+(bytesP last g).length))=b.take a++((bytesP last (g.take k)++bytesP (docOf last (g.take k)) ((d,ps)::g.drop (k+1)))++b.drop (a+(bytesP last g).length)):=by simp only [List.append_assoc]
  rw [e2,e1]
  exact hspl.symm
 rw [hbe,List.length_append,hta] at g1 g2
 refine ⟨_,g1,?_,by omega,m3,m4,m5,hts⟩
 rw [g2,hts,bytesP_append]
 simp [bytesP,Nat.add_assoc]
theorem stands_step {b:List UInt8} {last:Int} {a:Nat} {acc:List Po} (h:Stands b last a acc) (h0: -1≤docOf last acc) {d q2 q3:Int} {ps:List Int}
  (hz:getZ b (((a+(bytesP last acc).length:Nat)):Int)=(d,q2,0)) (hr:risZ b q2=(ps,q3,0)) (hd:d+(docOf last acc+1)<2147483648) (hp:placesB ps=true):
  Stands b last a (acc++[(d+(docOf last acc+1),ps)])∧q3=((a+(bytesP last (acc++[(d+(docOf last acc+1),ps)])).length:Nat):Int):=by
 obtain ⟨n,k,rfl,rfl,hak,hkb,hk⟩:=getZ_exact hz
 obtain ⟨k2,rfl,hkk,hkb2,hris,hk2⟩:=risZ_exact hr
 obtain ⟨h1,h2,h3⟩:=h
 obtain ⟨x,hx⟩:∃ x,x=docOf last acc:=⟨_,rfl⟩
 rw [← hx] at h0 hd
 rw [← hx]
 have hby:bytesP last (acc++[((n:Int)+(x+1),ps)])=bytesP last acc++(putB n++putR ps):=by
  rw [bytesP_append,← hx]
  simp only [bytesP,List.append_nil]
  rw [show ((n:Int)+(x+1)-(x+1)).toNat=n by omega]
 have hlen:k2=a+(bytesP last (acc++[((n:Int)+(x+1),ps)])).length:=by
  have e1:=congrArg List.length hk
  have e2:=congrArg List.length hk2
  rw [List.length_append,List.length_take,List.length_take] at e1 e2
  rw [hby,List.length_append,List.length_append]
  omega
 refine ⟨⟨?_,by omega,?_⟩,by rw [← hlen]⟩
 ·rw [mayB'_append,h1,Bool.true_and,← hx]
  exact mayB'_cons.2 ⟨by simp only;omega,by simp only;omega,hp,rfl⟩
 ·rw [← hlen,hk2,hk,h3,hby]
  simp only [List.append_assoc]
theorem docOf_step {last:Int} {acc:List Po} {y:Int} {ps:List Int}:docOf last (acc++[(y,ps)])=y:=by rw [docOf_append];rfl
def placesOn:Int→List Int→Bool
 |_,[]=>true
 |last,n::r=>decide (last<n)&&decide (n<2147483648)&&placesOn n r
theorem placesOn_eq:∀ (ps:List Int) (last:Int),ps≠[]→placesOn last ps=(risesZ last ps&&decide (ps.getLastD 0<2147483648))
 |[],_,h=>absurd rfl h
 |[n],last,_=>by simp [placesOn,risesZ]
 |n::m::r,last,_=>by
  have ih:=placesOn_eq (m::r) n (by simp)
  have e:(n::m::r).getLastD 0=(m::r).getLastD 0:=by simp [List.getLastD]
  rw [placesOn,risesZ,ih,e]
  rcases h1:risesZ n (m::r) with _|_
  ·simp
  ·by_cases h2:(m::r).getLastD 0<2147483648
   ·have :=(rises_le_last h1 ((m::r).getLastD 0) (lastD_mem (by simp))).1
    have h3:n<2147483648:=by omega
    simp [h3]
   ·rw [decide_eq_false h2]
    simp
theorem placesB_on (ps:List Int):placesB ps=(placesOn (-1) ps&&decide (0<ps.length)):=by
 by_cases h:ps=[]
 ·subst h;rfl
 ·unfold placesB
  rw [placesOn_eq ps (-1) h]
  have hl:0<ps.length:=List.length_pos_iff.2 h
  have he:ps.isEmpty=false:=by simpa using h
  rw [he]
  simp [hl]
theorem placesOn_cut {last:Int} {ps:List Int} {k:Nat} (hk:k<ps.length):placesOn last (ps.drop k)=(decide (last<ps.getD k 0)&&decide (ps.getD k 0<2147483648)&&placesOn (ps.getD k 0) (ps.drop (k+1))):=by
 rw [List.drop_eq_getElem_cons hk,placesOn,List.getD_eq_getElem?_getD,List.getElem?_eq_getElem hk]
 rfl
def endsC (l:List Po):Nat→List (Int × Nat)
 |0=>[]
 |k+1=>endsC l k++[(docOf (-1) (l.take (8*(k+1))),(bytesP (-1) (l.take (8*(k+1)))).length)]
theorem endsC_length (l:List Po):∀ n,(endsC l n).length=n
 |0=>rfl
 |k+1=>by rw [endsC,List.length_append,endsC_length l k];rfl
theorem endsC_at (l:List Po):∀ (n k:Nat),k<n→(endsC l n)[k]?=some (docOf (-1) (l.take (8*(k+1))),(bytesP (-1) (l.take (8*(k+1)))).length)
 |0,_,h=>by omega
 |n+1,k,h=>by
  rw [endsC]
  by_cases e:k=n
  ·subst e
   rw [List.getElem?_append_right (by rw [endsC_length];exact Nat.le_refl _),endsC_length,Nat.sub_self]
   rfl
  ·rw [List.getElem?_append_left (by rw [endsC_length];omega)]
   exact endsC_at l n k (by omega)
theorem endsC_append {l b:List Po}:∀ {n:Nat},8*n≤l.length→endsC (l++b) n=endsC l n
 |0,_=>rfl
 |k+1,h=>by
  rw [endsC,endsC,endsC_append (by omega),List.take_append_of_le_length h]
theorem blocksP_push {l b:List Po} {n:Nat} (hl:l.length=8*n) (h0:0<b.length) (h8:b.length≤8):blocksP l.length=n∧blocksP (l++b).length=n+1:=by
 unfold blocksP
 rw [List.length_append]
 omega
theorem endsC_push {l b:List Po} {n:Nat} (hl:l.length=8*n) (h0:0<b.length) (h8:b.length≤8):endsC (l++b) (n+1)=endsC l n++[(docOf (-1) (l++b),(bytesP (-1) (l++b)).length)]:=by
 rw [endsC,endsC_append (by omega),List.take_of_length_le (by rw [List.length_append];omega)]
theorem totalP_append:∀ (a b:List Po),totalP (a++b)=totalP a+totalP b
 |[],b=>by simp [totalP]
 |p::r,b=>by simp [totalP,totalP_append r b,Nat.add_assoc]
theorem docOf_some:∀ {b:List Po} {x y:Int},b≠[]→docOf x b=docOf y b
 |[],_,_,h=>absurd rfl h
 |p::r,_,_,_=>rfl
theorem lastP_end {l:List Po} {k:Nat} (hk:k<blocksP l.length):lastP l (k:Int)=docOf (-1) (l.take (8*(k+1))):=by
 have h:=blockP_some hk
 rw [blocks_all,docOf_append]
 exact docOf_some (List.length_pos_iff.1 h)
theorem block_stands {l:List Po} {k:Nat} (hk:k<blocksP l.length) (hm:mayB' (-1) l=true):Stands (bytesP (-1) l) (docOf (-1) (l.take (8*k))) (bytesP (-1) (l.take (8*k))).length (blockP l (k:Int)):=by
 have hsp:l=l.take (8*k)++(blockP l (k:Int)++l.drop (8*(k+1))):=by
  rw [← List.append_assoc,← blocks_all,List.take_append_drop]
 have hb:bytesP (-1) l=bytesP (-1) (l.take (8*k))++(bytesP (docOf (-1) (l.take (8*k))) (blockP l (k:Int))++bytesP (docOf (docOf (-1) (l.take (8*k))) (blockP l (k:Int))) (l.drop (8*(k+1)))):=by
  conv=>lhs;rw [hsp]
  rw [bytesP_append,bytesP_append]
 have hm2:=hm
 rw [hsp,mayB'_append,mayB'_append,Bool.and_eq_true,Bool.and_eq_true] at hm2
 obtain ⟨a,ha⟩:∃ a,a=bytesP (-1) (l.take (8*k)):=⟨_,rfl⟩
 obtain ⟨c,hc⟩:∃ c,c=bytesP (docOf (-1) (l.take (8*k))) (blockP l (k:Int)):=⟨_,rfl⟩
 rw [← ha,← hc] at hb
 refine ⟨hm2.2.1,?_,?_⟩
 ·rw [← ha,← hc,hb];simp
 ·rw [← ha,← hc,hb,List.take_left,← List.append_assoc,← List.length_append,List.take_left]
end Go.Proofs.YtmoomnpbiifedaaGreat
set_option linter.unusedVariables false
namespace Go.Proofs.YtmoomnpbiifedaaGreat
open Go Go.RowKit
def ahead (l:List Int) (k:Nat):Int:=if k=0 then-1 else l.getD (k-1) 0
theorem ahead_succ {l:List Int} {k:Nat}:ahead l (k+1)=l.getD k 0:=by simp [ahead]
theorem risesZ_drop {l:List Int} {k:Nat} (hk:k<l.length) (last:Int):risesZ last (l.drop k)=(decide (last<l.getD k 0)&&risesZ (l.getD k 0) (l.drop (k+1))):=by
 rw [List.drop_eq_getElem_cons hk,risesZ,List.getD_eq_getElem?_getD,List.getElem?_eq_getElem hk]
 rfl
theorem risesZ_end {l:List Int} {k:Nat} (hk:l.length≤k) (last:Int):risesZ last (l.drop k)=true:=by rw [List.drop_eq_nil_of_le hk];rfl
theorem row_int' {w:World} {B:Nat} {A:Option Addr} {xs:List Int} (h:Row w B A (ints xs)) {k:Nat} (hk:k<xs.length):
  ∃ b off,A=some ⟨b,off,none⟩∧b<B∧w.cell? ⟨b,off+k,none⟩=some (.int .i64 (xs.getD k 0)):=by
 obtain ⟨b,off,h1,h2,h3⟩:=row_int h hk
 refine ⟨b,off,h1,h2,?_⟩
 rw [h3,List.getD_eq_getElem?_getD,List.getElem?_eq_getElem hk]
 rfl
theorem dB_drop {l:List Int} {k:Nat} (hk:k<l.length) (last:Int):dB last (l.drop k)=putB (l.getD k 0-(last+1)).toNat++dB (l.getD k 0) (l.drop (k+1)):=by
 rw [List.drop_eq_getElem_cons hk,dB,List.getD_eq_getElem?_getD,List.getElem?_eq_getElem hk]
 rfl
theorem dB_end {l:List Int} {k:Nat} (hk:l.length≤k) (last:Int):dB last (l.drop k)=[]:=by rw [List.drop_eq_nil_of_le hk];rfl
end Go.Proofs.YtmoomnpbiifedaaGreat
namespace Go.Proofs.YtmoomnpbiifedaaGreat
open Go Go.RowKit
set_option linter.unusedVariables false
end Go.Proofs.YtmoomnpbiifedaaGreat
namespace Go.Proofs.YtmoomnpbiifedaaGreat
open Go Go.RowKit
set_option linter.unusedVariables false
end Go.Proofs.YtmoomnpbiifedaaGreat
set_option linter.unusedVariables false
namespace Go.Proofs.YtmoomnpbiifedaaGreat
open Go Go.RowKit
def endCells:List (Int × Nat)→List Value
 |[]=>[]
 |p::r=> .int .i64 p.1:: .int .i64 (p.2:Int)::endCells r
theorem endCells_length:∀ l:List (Int × Nat),(endCells l).length=l.length*2
 |[]=>rfl
 |p::r=>by simp only [endCells,List.length_cons,endCells_length r];omega
theorem endCells_append:∀ a b:List (Int × Nat),endCells (a++b)=endCells a++endCells b
 |[],b=>rfl
 |p::a,b=>by simp only [List.cons_append,endCells,endCells_append a b]
theorem endCells_at:∀ (l:List (Int × Nat)) (k:Nat) (p:Int × Nat),l[k]?=some p→(endCells l)[k*2]?=some (.int .i64 p.1)∧(endCells l)[k*2+1]?=some (.int .i64 (p.2:Int))
 |[],k,p,h=>by simp at h
 |q::l,0,p,h=>by
  simp only [List.getElem?_cons_zero,Option.some.injEq] at h
  subst h
  exact ⟨rfl,rfl⟩
 |q::l,k+1,p,h=>by
  rw [List.getElem?_cons_succ] at h
  have ih:=endCells_at l k p h
  rw [endCells,show (k+1)*2=k*2+1+1 by omega]
  exact ih
theorem info_end:(Tryz.prog.info? 119).map (fun i=>(i.zero,i.size,i.bytes))=some (some (.agg #[.int .i64 0,.int .i64 0]),2,16):=by kernel_rfl
def endsV (l:List Po):List Value:=endCells (endsC l (blocksP l.length))
theorem endsV_length (l:List Po):(endsV l).length=blocksP l.length*2:=by rw [endsV,endCells_length,endsC_length]
def LAt (w:World) (base B:Nat) (bs:List UInt8) (l:List Po):Prop:=
 base≤B∧∃ vb ve,w.heap[B]?=some (.cells #[vb,ve,.int .i64 (l.length:Int),.int .i64 (totalP l:Int)] 113 (0,0))∧
  w.ownsRow base 5 1 vb bs.length (Lib.byteCells bs)∧w.ownsRow base 119 2 ve (blocksP l.length) (endsV l)
theorem cell_four {w:World} {B:Nat} {a b c d:Value} {t:TypeId} (h:w.heap[B]?=some (.cells #[a,b,c,d] t (0,0))):
  (w.cell? ⟨B,0,none⟩=some a∧w.cell? ⟨B,1,none⟩=some b∧w.cell? ⟨B,2,none⟩=some c∧w.cell? ⟨B,3,none⟩=some d)∧
  w.frozen? ⟨B,0,none⟩=false∧w.frozen? ⟨B,1,none⟩=false∧w.frozen? ⟨B,2,none⟩=false∧w.frozen? ⟨B,3,none⟩=false:=by
 simp [World.cell?,World.frozen?,h]
section
variable {w w':World} {base B:Nat} {bs:List UInt8} {l:List Po}
theorem LAt.lt (h:LAt w base B bs l):B<w.heap.size:=by
 obtain ⟨_,vb,ve,hv,_⟩:=h
 exact (Array.getElem?_eq_some_iff.1 hv).1
theorem LAt.below (h:LAt w base B bs l) (hb:Below w.heap.size w w'):LAt w' base B bs l:=by
 have hl:=h.lt
 obtain ⟨h1,vb,ve,hv,ho,he⟩:=h
 exact ⟨h1,vb,ve,(hb.block B hl).trans hv,owned_below ho hb,owned_below he hb⟩
theorem LAt.cellsKept (h:LAt w base B bs l) (hk:∀ (k:Nat) (o:Obj),w.heap[k]?=some o→o.isCells=true→w'.heap[k]?=some o):LAt w' base B bs l:=by
 obtain ⟨h1,vb,ve,hv,ho,he⟩:=h
 have key:∀ {E:TypeId} {size:Nat} {v:Value} {n:Nat} {xs:List Value},w.ownsRow base E size v n xs→w'.ownsRow base E size v n xs:=fun ho=>by
  refine owned_keep ho fun g hg=> ?_
  rcases ho.2 with ⟨rfl,_⟩|⟨g',cap,cur,rfl,_,hh,_⟩
  ·cases hg
  ·simp only [Value.ownBlock,Option.some.injEq] at hg
   subst hg
   rw [hk _ _ hh rfl,hh]
 exact ⟨h1,vb,ve,hk B _ hv rfl,key ho,key he⟩
theorem LAt.read (h:LAt w base B bs l):∃ Ab cb Ae ce,(w.cell? ⟨B,0,none⟩=some (.slice Ab bs.length cb)∧w.cell? ⟨B,1,none⟩=some (.slice Ae (blocksP l.length) ce)∧w.cell? ⟨B,2,none⟩=some (.int .i64 (l.length:Int))∧w.cell? ⟨B,3,none⟩=some (.int .i64 (totalP l:Int)))∧
  bs.length≤cb∧cb≤maxLen∧blocksP l.length≤ce∧Row w w.heap.size Ab (Lib.byteCells bs)∧Row w w.heap.size Ae (endsV l)∧(Ab=none→bs.length=0∧cb=0):=by
 obtain ⟨_,vb,ve,hv,ho,he⟩:=h
 have hx:=(cell_four hv).1
 obtain ⟨Ae,ce,rfl,hce,hre⟩:=owned_row he
 rcases ho.2 with ⟨rfl,h0⟩|⟨g,c,cur,rfl,_,_,hnc,hcm,_,_⟩
 ·exact ⟨none,0,Ae,ce,by rw [h0];exact hx,by omega,by unfold maxLen;omega,hce,by rw [List.eq_nil_of_length_eq_zero h0];exact Row.nil,hre,fun _=>⟨h0,rfl⟩⟩
 ·exact ⟨_,c,Ae,ce,hx,hnc,hcm,hce,owned_row_of ho,hre,fun e=>by cases e⟩
end
def LIn (w:World) (B:Nat) (bs:List UInt8) (l:List Po):Prop:=
 B<w.heap.size∧∃ Ab cb Ae ce,(w.cell? ⟨B,0,none⟩=some (.slice Ab bs.length cb)∧w.cell? ⟨B,1,none⟩=some (.slice Ae (blocksP l.length) ce)∧w.cell? ⟨B,2,none⟩=some (.int .i64 (l.length:Int))∧w.cell? ⟨B,3,none⟩=some (.int .i64 (totalP l:Int)))∧
  bs.length≤cb∧cb≤maxLen∧blocksP l.length≤ce∧Row w w.heap.size Ab (Lib.byteCells bs)∧Row w w.heap.size Ae (endsV l)
theorem LAt.in_ {w:World} {base B:Nat} {bs:List UInt8} {l:List Po} (h:LAt w base B bs l):LIn w B bs l:=by
 obtain ⟨Ab,cb,Ae,ce,h1,h2,h3,h4,h5,h6,_⟩:=h.read
 exact ⟨h.lt,Ab,cb,Ae,ce,h1,h2,h3,h4,h5,h6⟩
theorem LIn.below {w w':World} {B:Nat} {bs:List UInt8} {l:List Po} (h:LIn w B bs l) (hb:Below w.heap.size w w'):LIn w' B bs l:=by
 obtain ⟨hl,Ab,cb,Ae,ce,⟨c0,c1,c2,c3⟩,h2,h3,h4,h5,h6⟩:=h
 have hs:=hb.size
 refine ⟨by omega,Ab,cb,Ae,ce,⟨(hb.cell (p:=⟨B,0,none⟩) hl).trans c0,(hb.cell (p:=⟨B,1,none⟩) hl).trans c1,(hb.cell (p:=⟨B,2,none⟩) hl).trans c2,(hb.cell (p:=⟨B,3,none⟩) hl).trans c3⟩,h2,h3,h4,(h5.below hb).more hs,(h6.below hb).more hs⟩
theorem row_end {w:World} {D:Nat} {A:Option Addr} {l:List Po} (h:Row w D A (endsV l)) {k:Nat} (hk:k<blocksP l.length):
  ∃ b off,A=some ⟨b,off,none⟩∧b<D∧w.cell? ⟨b,off+k*2,none⟩=some (.int .i64 (docOf (-1) (l.take (8*(k+1)))))∧w.cell? ⟨b,off+k*2+1,none⟩=some (.int .i64 ((bytesP (-1) (l.take (8*(k+1)))).length:Int)):=by
 obtain ⟨b,off,rfl,hb,hc⟩:=h.at_ (by rw [endsV_length];omega)
 have h2:=endCells_at _ _ _ (endsC_at l (blocksP l.length) k hk)
 exact ⟨b,off,rfl,hb,hc _ _ h2.1,by rw [Nat.add_assoc];exact hc _ _ h2.2⟩
section
variable (B:Nat) (bs:List UInt8) (l:List Po) (w:World) (h:LIn w B bs l)
include h
theorem in_Blocks:Calls Tryz.prog 104 #[.pointer (some ⟨B,0,none⟩)] w fun e w'=>e= .returned (.int .i64 (blocksP l.length:Int))∧w=w':=by
 obtain ⟨_,Ab,cb,Ae,ce,⟨c0,c1,c2,c3⟩,_⟩:=h
 go_enter Tryz.func104,Tryz.ntmps104
 go_wp2
 go_ret
 exact ⟨rfl,rfl⟩
theorem in_ahead (k:Nat) (hk:k≤blocksP l.length) (hl:l.length≤1073741824):Calls Tryz.prog 103 #[.pointer (some ⟨B,0,none⟩),.int .i64 (k:Int)] w fun e w'=>
  e= .returned (.agg #[.int .i64 (docOf (-1) (l.take (8*k))),.int .i64 ((bytesP (-1) (l.take (8*k))).length:Int)])∧Below w.heap.size w w':=by
 have hlt:=h.1
 obtain ⟨_,Ab,cb,Ae,ce,⟨c0,c1,c2,c3⟩,_,_,hce,_,hre⟩:=h
 have hbl:blocksP l.length≤1073741824:=by unfold blocksP;omega
 clear c0 c2 c3
 rcases Nat.eq_zero_or_pos k with rfl|hpos
 ·go_enter Tryz.func103,Tryz.ntmps103
  go_wp2
  refine bodyPost_ret (results_cell_row (P:=Tryz.prog) rfl _ _ w.heap.size 119 _ (0,0) _ rfl (by first|rfl|exact heap_alloc_new _ _) Tryz.underlying119 rfl (by kernel_rfl)) rfl ?_
  exact ⟨rfl,by repeat (first|exact (Below.refl _ _).alloc (Nat.le_refl _) _|refine Below.setCell ?_ (by simp) _)⟩
 ·obtain ⟨j,rfl⟩:∃ j,k=j+1:=⟨k-1,by omega⟩
  obtain ⟨b,o,rfl,hb,e0,e1⟩:=row_end hre (k:=j) (by omega)
  obtain ⟨n,hn⟩:∃ n,n=blocksP l.length:=⟨_,rfl⟩
  rw [← hn] at c1 hk hce hbl
  obtain ⟨x,hx⟩:∃ x,x=docOf (-1) (l.take (8*(j+1))):=⟨_,rfl⟩
  obtain ⟨y,hy⟩:∃ y,y=(bytesP (-1) (l.take (8*(j+1)))).length:=⟨_,rfl⟩
  rw [← hx] at e0 ⊢
  rw [← hy] at e1 ⊢
  have hj:((j+1:Nat):Int)=(j:Int)+1:=by omega
  have hz:((j:Int)+1==0)=false:=by rw [beq_eq_false_iff_ne];omega
  rw [hj]
  have hjn:j<n:=by omega
  clear hn hx hy hre hj hk hpos
  go_enter Tryz.func103,Tryz.ntmps103
  go_wp2
  refine bodyPost_ret (results_cell_row (P:=Tryz.prog) rfl _ _ w.heap.size 119 _ (0,0) _ rfl (by first|rfl|exact heap_alloc_new _ _) Tryz.underlying119 rfl (by kernel_rfl)) rfl ?_
  exact ⟨rfl,by repeat (first|exact (Below.refl _ _).alloc (Nat.le_refl _) _|refine Below.setCell ?_ (by simp) _)⟩
end
section
variable (base B:Nat) (bs:List UInt8) (l:List Po) (w:World) (h:LAt w base B bs l)
include h
theorem list_Blocks:Calls Tryz.prog 104 #[.pointer (some ⟨B,0,none⟩)] w fun e w'=>e= .returned (.int .i64 (blocksP l.length:Int))∧w=w':=in_Blocks B bs l w h.in_
theorem list_ahead (k:Nat) (hk:k≤blocksP l.length) (hl:l.length≤1073741824):Calls Tryz.prog 103 #[.pointer (some ⟨B,0,none⟩),.int .i64 (k:Int)] w fun e w'=>
  e= .returned (.agg #[.int .i64 (docOf (-1) (l.take (8*k))),.int .i64 ((bytesP (-1) (l.take (8*k))).length:Int)])∧Below w.heap.size w w':=in_ahead B bs l w h.in_ k hk hl
end
end Go.Proofs.YtmoomnpbiifedaaGreat
set_option linter.unusedVariables false
namespace Go.Proofs.YtmoomnpbiifedaaGreat
open Go Go.RowKit
theorem set_two {w:World} {B:Nat} {a b x y:Value} {t:TypeId} (h:w.heap[B]?=some (.cells #[a,b] t (0,0))):((w.setCell ⟨B,0,none⟩ x).setCell ⟨B,1,none⟩ y).heap[B]?=some (.cells #[x,y] t (0,0)):=
 heap_setCell_same _ B 1 #[x,b] t y (heap_setCell_same w B 0 #[a,b] t x h)
theorem cells_two {w:World} {B:Nat} {x y:Value} {t:TypeId} (h:w.heap[B]?=some (.cells #[x,y] t (0,0))):w.cell? ⟨B,0,none⟩=some x∧w.cell? ⟨B,1,none⟩=some y∧w.frozen? ⟨B,0,none⟩=false∧w.frozen? ⟨B,1,none⟩=false:=by
 simp [World.cell?,World.frozen?,h]
theorem take_blocks (l:List Po):l.take (8*blocksP l.length)=l:=List.take_of_length_le (by unfold blocksP;omega)
theorem list_last (base B:Nat) (bs:List UInt8) (l:List Po) (w:World) (h:LAt w base B bs l) (hl:l.length≤1073741824):
  Calls Tryz.prog 64 #[.pointer (some ⟨B,0,none⟩)] w fun e w'=>e= .returned (.agg #[.int .i64 (docOf (-1) l),.int .i64 ((bytesP (-1) l).length:Int)])∧Below w.heap.size w w':=by
 have hal:=(Below.refl w.heap.size w).alloc (Nat.le_refl _) (.cells #[.int .i64 0,.int .i64 0] 119)
 have h1:=h.below hal
 have hb:=list_Blocks base B bs l _ h1
 have ha:=list_ahead base B bs l _ h1 (blocksP l.length) (Nat.le_refl _) hl
 rw [take_blocks] at ha
 have HAL:=Lib.hid hal
 have HB:=Lib.hid hb
 have HA:=Lib.hid ha
 obtain ⟨n,hn⟩:∃ n,n=blocksP l.length:=⟨_,rfl⟩
 rw [← hn] at HA HB
 obtain ⟨x,hx⟩:∃ x,x=docOf (-1) l:=⟨_,rfl⟩
 obtain ⟨y,hy⟩:∃ y,y=(bytesP (-1) l).length:=⟨_,rfl⟩
 rw [← hx,← hy] at HA ⊢
 clear h h1 hal hb ha hn hx hy
 go_enter Tryz.func64,Tryz.ntmps64
 go_wp2_with (first
  |(go_at_call 104;refine HB.out.mono ?_;rintro e w' ⟨rfl,rfl⟩)
  |(go_at_call 103;refine HA.out.mono ?_))
 rintro e w3 ⟨rfl,hb3⟩
 have hres:w3.heap[w.heap.size]?=some (.cells #[.int .i64 0,.int .i64 0] 119 (0,0)):=(hb3.block w.heap.size (by simp)).trans (heap_alloc_new w _)
 obtain ⟨c0,c1,f0,f1⟩:=cells_two hres
 have hb4:=HAL.out.trans (hb3.mono (by simp))
 have HR:=Lib.hid hres
 have HB4:=Lib.hid hb4
 clear hres hb4 hb3
 go_wp2
 refine bodyPost_ret (results_cell_row (P:=Tryz.prog) rfl _ _ w.heap.size 119 _ (0,0) _ rfl (set_two HR.out) Tryz.underlying119 rfl (by kernel_rfl)) rfl ?_
 exact ⟨rfl,(HB4.out.setCell (Nat.le_refl _) _).setCell (Nat.le_refl _) _⟩
end Go.Proofs.YtmoomnpbiifedaaGreat
