import Derived.Test.YtmoomnpbiifedaaGreatMBZz
import Derived.Test.YtmoomnpbiifedaaGreatMBQ05
import Derived.BigCall
import Derived.BigQuiet
import Derived.Deep.QuietTactic
import Derived.Test.YtmoomnpbiifedaaGreatMBQ04
import Derived.Test.YtmoomnpbiifedaaGreatMBQ01
import Derived.Deep.RegionHeld3
import Derived.Test.YtmoomnpbiifedaaGreatMBQ03
import Derived.Maps.RangeRun
import Derived.MapKept
namespace Go.Proofs.YtmoomnpbiifedaaGreat
open Go Go.RowKit
set_option linter.unusedVariables false
theorem cells4 {w:World} {b:Nat} {x y z u:Value} {t:TypeId} (h:w.heap[b]?=some (.cells #[x,y,z,u] t (0,0))):w.cell? ⟨b,0,none⟩=some x∧w.cell? ⟨b,1,none⟩=some y∧w.cell? ⟨b,2,none⟩=some z∧w.cell? ⟨b,3,none⟩=some u:=by
 simp [World.cell?,h]
def PBox (w:World) (V:Array Value) (wr:World):Prop:=Below w.heap.size w wr∧w.heap.size+1≤wr.heap.size∧wr.heap[w.heap.size]?=some (.cells V 26 (0,0))
theorem pBox_start (w:World) (V:Array Value):PBox w V (w.alloc (.cells V 26)):=
 ⟨(Below.refl _ w).alloc (Nat.le_refl _) _,by simp,heap_alloc_new w _⟩
def FindRel (w:World) (V:Array Value) (ks:List Nm) (key:ByteArray) (r i:Value) (wr:World):Prop:=
 r= .slice none 0 0∧∃ k:Nat,k≤ks.length∧i= .int .i64 (k:Int)∧PBox w V wr∧∀ j (hj:j<ks.length),j<k→ks[j]≠key.data.toList
def FoundPo (l:List Po) (w:World) (e:Ending) (w':World):Prop:=∃ A c,e= .returned (.slice A l.length c)∧(l.length≤c∧c≤maxLen)∧Posts w' w'.heap.size A l∧Below w.heap.size w w'
set_option maxHeartbeats 2000000 in
set_option maxRecDepth 100000 in
theorem ref10_Postings (A1 A2 A3 A4:Option Addr) (n1 c1 n2 c2 n3 c3 n4 c4:Nat) (x:PartsP) (key:ByteArray) (w:World) (h3:x.keys.length=n3) (h4:x.lists.length=n4) (hr3:Row w w.heap.size A3 (strs x.keys)) (hr4:LPosts w w.heap.size A4 x.lists) (h34:n3≤n4) (hn:n3≤9223372036854775807):
  Calls Tryz.prog 40 #[.agg #[.slice A1 n1 c1,.slice A2 n2 c2,.slice A3 n3 c3,.slice A4 n4 c4],.string key] w (FoundPo (postsPs x key.data.toList) w):=by
 have HR3:=Lib.hid hr3
 have HR4:=Lib.hid hr4
 have H3:=Lib.hid h3
 have H4:=Lib.hid h4
 obtain ⟨V,hV⟩:∃ V:Array Value,V=#[.slice A1 n1 c1,.slice A2 n2 c2,.slice A3 n3 c3,.slice A4 n4 c4]:=⟨_,rfl⟩
 have HV:=Lib.hid hV
 clear hr3 hr4 h3 h4 hV
 go_enter Tryz.func40,Tryz.ntmps40
 go_wp2
 go_loopw [4,5] (fun r i wr=>FindRel w V x.keys key r i wr) (fun _ i _=>n3-(intOf i).toNat)
 case atStart=>
  refine ⟨rfl,0,Nat.zero_le _,rfl,?_,fun j _ hj=>by omega⟩
  rw [HV.out]
  exact pBox_start w _
 case round=>
  obtain ⟨rfl,k,hk,rfl,hbox,hall⟩:=hrel
  have hbw:=hbox.1
  have hsz:=hbox.2.1
  have HBOX:=Lib.hid hbox
  have HALL:=Lib.hid hall
  have q2:wr.cell? ⟨w.heap.size,2,none⟩=some (.slice A3 n3 c3):=by have :=hbox.2.2;rw [HV.out] at this;exact (cells4 this).2.2.1
  have q3:wr.cell? ⟨w.heap.size,3,none⟩=some (.slice A4 n4 c4):=by have :=hbox.2.2;rw [HV.out] at this;exact (cells4 this).2.2.2
  clear hall hbox
  by_cases hkn:k<n3
  ·have hlt:k<x.keys.length:=by rw [H3.out];exact hkn
   have hlt4:k<x.lists.length:=by rw [H4.out];omega
   obtain ⟨b3,o3,e3,hb3,hc3⟩:=row_nm (HR3.out.below hbw) hlt
   obtain ⟨b4,o4,A',c',e4,hb4,hc4,hl',hp'⟩:=(HR4.out.below hbw).at_ hlt4
   subst e3 e4
   have hi0:(0:Int)≤k:=by omega
   have hi1:(k:Int)<n3:=by omega
   have hi2:(k:Int)<n4:=by omega
   obtain ⟨s,hs,hs2⟩:=as_text x.keys[k]
   rw [← hs] at hc3
   have HPO:=Lib.hid hp'
   have HLE:=Lib.hid hl'
   obtain ⟨m,hm⟩:∃ m,m=x.lists[k].length:=⟨_,rfl⟩
   rw [← hm] at hc4
   have HM:=Lib.hid hm
   have HBW:=Lib.hid hbw
   clear hs hm hp' hl' hbw
   by_cases he:x.keys[k]=key.data.toList
   ·have t1:=same_true (s:=s) (t:=key) (by rw [hs2,he])
    have HP:Hid (postsPs x key.data.toList=x.lists[k]):=Lib.hid (atP_at hlt hlt4 he fun j hj hjk=>HALL.out j hj hjk)
    clear hs2 he
    go_wp2
    go_ret
    refine ⟨A',c',by rw [HP.out,HM.out];rfl,by rw [HP.out];exact HLE.out,?_,HBW.out⟩
    rw [HP.out]
    exact HPO.out.more (by omega)
   ·have t1:=same_false (s:=s) (t:=key) (by rw [hs2];exact he)
    have HN:Hid (∀ j (hj:j<x.keys.length),j<k+1→x.keys[j]≠key.data.toList):=Lib.hid fun j hj hjk=>by
     by_cases e:j=k
     ·subst e;exact he
     ·exact HALL.out j hj (by omega)
    clear hs2 he
    go_wp2
    go_roundw
    case rel=>exact ⟨rfl,k+1,by omega,by go_num,HBOX.out,HN.out⟩
    case measure=>simp [intOf];omega
  ·have HP:Hid (postsPs x key.data.toList=[]):=Lib.hid (atP_none fun kk hkk=>by
    obtain ⟨j,hj,rfl⟩:=List.mem_iff_getElem.1 hkk
    exact HALL.out j hj (by have :=H3.out;omega))
   have HBW:=Lib.hid hbw
   clear hbw
   go_wp2
   go_ret
   refine ⟨none,0,by rw [HP.out];rfl,by rw [HP.out];exact ⟨Nat.le_refl _,Nat.zero_le _⟩,?_,HBW.out⟩
   rw [HP.out]
   exact Posts.nil
end Go.Proofs.YtmoomnpbiifedaaGreat
namespace Go.Proofs.YtmoomnpbiifedaaGreat
open Go Go.RowKit
set_option linter.unusedVariables false
theorem ne_atI {α:Type} [DecidableEq α] {xs ys:List α} {k:Nat} (hx:k<xs.length) (hy:k<ys.length) (h:xs[k]≠ys[k]):decide (xs=ys)=false:=decide_eq_false fun e=>h (by subst e;rfl)
theorem eq_allI {α:Type} [DecidableEq α] {xs ys:List α} (hl:xs.length=ys.length) (h:∀ j (hj:j<xs.length),xs[j]=ys[j]'(by omega)):decide (xs=ys)=true:=decide_eq_true (List.ext_getElem hl fun j h1 _=>h j h1)
def SameRelI (xs ys:List Int) (w:World) (i:Value) (wr:World):Prop:=∃ k:Nat,k≤xs.length∧i= .int .i64 (k:Int)∧Below w.heap.size w wr∧∀ j (hj:j<xs.length) (hj':j<ys.length),j<k→xs[j]=ys[j]
set_option maxHeartbeats 1000000 in
set_option maxRecDepth 100000 in
theorem ref01_Same_any (A C:Option Addr) (n m c d:Nat) (xs ys:List Int) (w:World) (hn:xs.length=n) (hm:ys.length=m) (hx:Row w w.heap.size A (ints xs)) (hy:Row w w.heap.size C (ints ys)) (hxl:n≤9223372036854775807) (hyl:m≤9223372036854775807):
  Calls Tryz.prog 59 #[.slice A n c,.slice C m d] w fun e w'=>e= .returned (.bool (decide (xs=ys)))∧Below w.heap.size w w':=by
 subst hn hm
 have HX:=Lib.hid hx
 have HY:=Lib.hid hy
 obtain ⟨z,hz⟩:∃ z,z=decide (xs=ys):=⟨_,rfl⟩
 rw [← hz]
 have HZ:=Lib.hid hz
 clear hx hy hz
 by_cases hlen:xs.length=ys.length
 ·go_enter Tryz.func59,Tryz.ntmps59
  go_wp2
  go_loopw [4,5] (fun r i wr=>r= .bool false∧SameRelI xs ys w i wr) (fun _ i _=>xs.length-(intOf i).toNat)
  case atStart=>exact ⟨rfl,0,Nat.zero_le _,rfl,Below.refl _ _,fun j _ _ hj=>by omega⟩
  case round=>
   obtain ⟨rfl,k,hk,rfl,hbw,hall⟩:=hrel
   by_cases hlt:k<xs.length
   ·have hlt2:k<ys.length:=by omega
    obtain ⟨b1,o1,e1,_,hc1⟩:=row_int (HX.out.below hbw) hlt
    obtain ⟨b2,o2,e2,_,hc2⟩:=row_int (HY.out.below hbw) hlt2
    subst e1 e2
    have hi0:(0:Int)≤k:=by omega
    have hi1:(k:Int)<xs.length:=by omega
    have hi2:(k:Int)<ys.length:=by omega
    by_cases he:xs[k]=ys[k]
    ·have HN:Hid (∀ j (hj:j<xs.length) (hj':j<ys.length),j<k+1→xs[j]=ys[j]):=Lib.hid fun j hj hj' hjk=>by
      by_cases e:j=k
      ·subst e;exact he
      ·exact hall j hj hj' (by omega)
     rw [← he] at hc2
     obtain ⟨x,hx⟩:∃ x,x=xs[k]:=⟨_,rfl⟩
     rw [← hx] at hc1 hc2
     clear hall he hx
     go_wp2
     go_quiet (fail)
     go_wp2
     go_roundw
     case rel=>exact ⟨rfl,k+1,by omega,by go_num,hbw.trans ⟨rfl,rfl,rfl,Nat.le_refl _,fun _ _=>rfl⟩,HN.out⟩
     case measure=>simp [intOf];omega
    ·have hzf:z=false:=by rw [HZ.out];exact ne_atI hlt hlt2 he
     subst hzf
     have hne:(xs[k] != ys[k])=true:=by simpa using he
     obtain ⟨x,hx⟩:∃ x,x=xs[k]:=⟨_,rfl⟩
     obtain ⟨y,hy⟩:∃ y,y=ys[k]:=⟨_,rfl⟩
     rw [← hx] at hc1 hne
     rw [← hy] at hc2 hne
     clear hall he hx hy
     go_wp2
     go_quiet (fail)
     go_wp2
     go_ret
     exact ⟨rfl,hbw.trans ⟨rfl,rfl,rfl,Nat.le_refl _,fun _ _=>rfl⟩⟩
   ·have hzt:z=true:=by rw [HZ.out];exact eq_allI hlen fun j hj=>hall j hj (by omega) (by omega)
    subst hzt
    clear hall
    go_wp2
    go_ret
    exact ⟨rfl,hbw⟩
 ·have hzf:z=false:=by rw [HZ.out];exact decide_eq_false fun e=>hlen (by rw [e])
  subst hzf
  go_enter Tryz.func59,Tryz.ntmps59
  go_wp2
  go_ret
  exact ⟨rfl,Below.refl _ _⟩
end Go.Proofs.YtmoomnpbiifedaaGreat
namespace Go.Proofs.YtmoomnpbiifedaaGreat
open Go Go.RowKit
set_option linter.unusedVariables false
def SameRelP (l r:List Po) (w:World) (q i:Value) (wr:World):Prop:=q= .bool false∧∃ k:Nat,k≤l.length∧i= .int .i64 (k:Int)∧Below w.heap.size w wr∧∀ j (hj:j<l.length) (hj':j<r.length),j<k→l[j]=r[j]
set_option maxHeartbeats 2000000 in
set_option maxRecDepth 100000 in
theorem ref05_Same_any (A C:Option Addr) (n m c d:Nat) (l r:List Po) (w:World) (hn:l.length=n) (hm:r.length=m) (ha:Posts w w.heap.size A l) (hb:Posts w w.heap.size C r) (hnx:n≤9223372036854775807) (hmx:m≤9223372036854775807) (hpl:∀ p∈l,p.2.length≤9223372036854775807) (hpr:∀ p∈r,p.2.length≤9223372036854775807):
    Calls Tryz.prog 38 #[.slice A n c,.slice C m d] w fun e w'=>e= .returned (.bool (decide (l=r)))∧Below w.heap.size w w':=by
  have HL:=Lib.hid hn
  have HM:=Lib.hid hm
  have HA:=Lib.hid ha
  have HB:=Lib.hid hb
  have HPL:=Lib.hid hpl
  have HPR:=Lib.hid hpr
  obtain ⟨z,hz⟩:∃ z,z=decide (l=r):=⟨_,rfl⟩
  rw [← hz]
  have HZ:=Lib.hid hz
  clear ha hb hpl hpr hz hn hm
  by_cases hlen:m=n
  · subst hlen
    go_enter Tryz.func38,Tryz.ntmps38
    go_wp2
    go_loopw [4,5] (fun q i wr=>SameRelP l r w q i wr) (fun _ i _=>m-(intOf i).toNat)
    case atStart=>exact ⟨rfl,0,Nat.zero_le _,rfl,Below.refl _ _,fun j _ _ hj=>by omega⟩
    case round=>
      obtain ⟨rfl,k,hk,rfl,hbw,hall⟩:=hrel
      have hsz:=hbw.size
      by_cases hkm:k<m
      · have hlt:k<l.length:=by rw [HL.out];exact hkm
        have hlt2:k<r.length:=by rw [HM.out];exact hkm
        obtain ⟨b1,o1,e1,hb1,hc1,A1,c1,hd1,hl1,hx1,hr1⟩:=(HA.out.below hbw).at_ hlt
        obtain ⟨b2,o2,e2,hb2,hc2,A2,c2,hd2,hl2,hx2,hr2⟩:=(HB.out.below hbw).at_ hlt2
        subst e1 e2
        have g1:l.getD k (0,[])=l[k]:=by rw [List.getD_eq_getElem?_getD,List.getElem?_eq_getElem hlt];rfl
        have g2:r.getD k (0,[])=r[k]:=by rw [List.getD_eq_getElem?_getD,List.getElem?_eq_getElem hlt2];rfl
        rw [g1] at hc1 hd1 hl1 hr1
        rw [g2] at hc2 hd2 hl2 hr2
        clear g1 g2
        have hlp:=HPL.out l[k] (List.getElem_mem hlt)
        have hrp:=HPR.out r[k] (List.getElem_mem hlt2)
        have HALL:=Lib.hid hall
        clear hall
        obtain ⟨q1,hq1⟩:∃ q,q=l[k]:=⟨_,rfl⟩
        obtain ⟨q2,hq2⟩:∃ q,q=r[k]:=⟨_,rfl⟩
        rw [← hq1] at hc1 hd1 hl1 hr1 hlp
        rw [← hq2] at hc2 hd2 hl2 hr2 hrp
        have HQ1:=Lib.hid hq1
        have HQ2:=Lib.hid hq2
        clear hq1 hq2
        obtain ⟨y1,ps1⟩:=q1
        obtain ⟨y2,ps2⟩:=q2
        simp only at hc1 hd1 hl1 hr1 hc2 hd2 hl2 hr2 hlp hrp
        have hi0:(0:Int)≤k:=by omega
        have hi1:(k:Int)<m:=by omega
        have HR1:=Lib.hid hr1
        have HR2:=Lib.hid hr2
        clear hr1 hr2
        obtain ⟨P1,hP1⟩:∃ P,P=ps1.length:=⟨_,rfl⟩
        obtain ⟨P2,hP2⟩:∃ P,P=ps2.length:=⟨_,rfl⟩
        rw [← hP1] at hd1 hl1 hlp
        rw [← hP2] at hd2 hl2 hrp
        have HP1:=Lib.hid hP1
        have HP2:=Lib.hid hP2
        clear hP1 hP2
        obtain ⟨z1,hz1⟩:∃ z,z=decide (ps1=ps2):=⟨_,rfl⟩
        have HZ1:=Lib.hid hz1
        have SM:Hid (∀ w1,Below w.heap.size wr w1→Calls Tryz.prog 59 #[.slice A1 P1 c1,.slice A2 P2 c2] w1 fun e w'=>e= .returned (.bool z1)∧Below w1.heap.size w1 w'):=Lib.hid fun w1 h1=>by
          rw [HZ1.out]
          exact ref01_Same_any A1 A2 P1 P2 c1 c2 ps1 ps2 w1 HP1.out.symm HP2.out.symm ((HR1.out.below h1).more (by have :=h1.size;omega)) ((HR2.out.below h1).more (by have :=h1.size;omega)) hlp hrp
        clear hz1
        by_cases hy:y1=y2
        · subst hy
          by_cases hp:z1=true
          · subst hp
            have HN:Hid (∀ j (hj:j<l.length) (hj':j<r.length),j<k+1→l[j]=r[j]):=Lib.hid fun j hj hj' hjk=>by
              by_cases e:j=k
              · subst e
                have hpe:ps1=ps2:=of_decide_eq_true HZ1.out.symm
                rw [← HQ1.out,← HQ2.out,hpe]
              · exact HALL.out j hj hj' (by omega)
            go_wp2
            go_region_held3 (fun w'=>w'.cell? ⟨b1,o1+k*2+1,none⟩=some (.slice A1 P1 c1)∧w'.cell? ⟨b2,o2+k*2+1,none⟩=some (.slice A2 P2 c2))
              (first|exact ⟨hd1,hd2⟩|exact ⟨hd5,hd6⟩)
              (first
                | (go_at_call 59; refine (SM.out _ (Below.refl _ _).drew).mono ?_; rintro e w5 ⟨rfl, hb5⟩
                   have hb6:=(Below.refl w.heap.size wr).drew.trans (hb5.mono (by show w.heap.size≤wr.heap.size;omega))
                   have hd5:=(hb6.cell (p:=⟨b1,o1+k*2+1,none⟩) hb1).trans hd1
                   have hd6:=(hb6.cell (p:=⟨b2,o2+k*2+1,none⟩) hb2).trans hd2
                   have hc5:=(hb6.cell (p:=⟨b1,o1+k*2,none⟩) hb1).trans hc1
                   have hc6:=(hb6.cell (p:=⟨b2,o2+k*2,none⟩) hb2).trans hc2
                   have HB6:=Lib.hid hb6
                   clear hb5 hb6))
            have HBW6:=Lib.hid (hbw.trans HB6.out)
            clear hc1 hc2 hd1 hd2
            go_wp2
            go_quiet (fail)
            go_wp2
            go_roundw
            case rel=>exact ⟨rfl,k+1,by omega,by go_num,HBW6.out.trans ⟨rfl,rfl,rfl,Nat.le_refl _,fun _ _=>rfl⟩,HN.out⟩
            case measure=>simp [intOf];omega
          · have hpf:z1=false:=by simpa using hp
            subst hpf
            have hzf:z=false:=by
              rw [HZ.out]
              refine ne_atI hlt hlt2 fun e=>of_decide_eq_false HZ1.out.symm ?_
              rw [← HQ1.out,← HQ2.out] at e
              injection e
            subst hzf
            clear hp
            go_wp2
            go_region_held3 (fun w'=>w'.cell? ⟨b1,o1+k*2+1,none⟩=some (.slice A1 P1 c1)∧w'.cell? ⟨b2,o2+k*2+1,none⟩=some (.slice A2 P2 c2))
              (first|exact ⟨hd1,hd2⟩|exact ⟨hd5,hd6⟩)
              (first
                | (go_at_call 59; refine (SM.out _ (Below.refl _ _).drew).mono ?_; rintro e w5 ⟨rfl, hb5⟩
                   have hb6:=(Below.refl w.heap.size wr).drew.trans (hb5.mono (by show w.heap.size≤wr.heap.size;omega))
                   have hd5:=(hb6.cell (p:=⟨b1,o1+k*2+1,none⟩) hb1).trans hd1
                   have hd6:=(hb6.cell (p:=⟨b2,o2+k*2+1,none⟩) hb2).trans hd2
                   have hc5:=(hb6.cell (p:=⟨b1,o1+k*2,none⟩) hb1).trans hc1
                   have hc6:=(hb6.cell (p:=⟨b2,o2+k*2,none⟩) hb2).trans hc2
                   have HB6:=Lib.hid hb6
                   clear hb5 hb6))
            have HBW6:=Lib.hid (hbw.trans HB6.out)
            clear hc1 hc2 hd1 hd2
            go_wp2
            go_quiet (fail)
            go_wp2
            go_ret
            exact ⟨rfl,HBW6.out.trans ⟨rfl,rfl,rfl,Nat.le_refl _,fun _ _=>rfl⟩⟩
        · have hzf:z=false:=by
            rw [HZ.out]
            refine ne_atI hlt hlt2 fun e=>hy ?_
            rw [← HQ1.out,← HQ2.out] at e
            injection e
          subst hzf
          have hne:(y1 != y2)=true:=by simpa using hy
          clear hy
          go_wp2
          go_region_held3 (fun w'=>w'.cell? ⟨b1,o1+k*2+1,none⟩=some (.slice A1 P1 c1)∧w'.cell? ⟨b2,o2+k*2+1,none⟩=some (.slice A2 P2 c2))
            (first|exact ⟨hd1,hd2⟩|exact ⟨hd5,hd6⟩)
            (first
              | (go_at_call 59; refine (SM.out _ (Below.refl _ _).drew).mono ?_; rintro e w5 ⟨rfl, hb5⟩
                 have hb6:=(Below.refl w.heap.size wr).drew.trans (hb5.mono (by show w.heap.size≤wr.heap.size;omega))
                 have hd5:=(hb6.cell (p:=⟨b1,o1+k*2+1,none⟩) hb1).trans hd1
                 have hd6:=(hb6.cell (p:=⟨b2,o2+k*2+1,none⟩) hb2).trans hd2
                 have hc5:=(hb6.cell (p:=⟨b1,o1+k*2,none⟩) hb1).trans hc1
                 have hc6:=(hb6.cell (p:=⟨b2,o2+k*2,none⟩) hb2).trans hc2
                 have HB6:=Lib.hid hb6
                 clear hb5 hb6))
          have HBW6:=Lib.hid (hbw.trans HB6.out)
          clear hc1 hc2 hd1 hd2
          go_wp2
          go_quiet (fail)
          go_wp2
          go_ret
          exact ⟨rfl,HBW6.out.trans ⟨rfl,rfl,rfl,Nat.le_refl _,fun _ _=>rfl⟩⟩
      · have hzt:z=true:=by rw [HZ.out];exact eq_allI (HL.out.trans HM.out.symm) fun j hj=>hall j hj (by rw [HM.out,← HL.out];exact hj) (by have :=HL.out;omega)
        subst hzt
        clear hall
        go_wp2
        go_ret
        exact ⟨rfl,hbw⟩
  · have hzf:z=false:=by rw [HZ.out];exact decide_eq_false fun e=>hlen (by rw [← HL.out,← HM.out,e])
    subst hzf
    go_enter Tryz.func38,Tryz.ntmps38
    go_wp2
    go_ret
    exact ⟨rfl,Below.refl _ _⟩
end Go.Proofs.YtmoomnpbiifedaaGreat
namespace Go.Proofs.YtmoomnpbiifedaaGreat
open Go Go.RowKit
set_option linter.unusedVariables false
theorem ne_atT {xs ys:List Nm} {k:Nat} (hx:k<xs.length) (hy:k<ys.length) (h:xs[k]≠ys[k]):decide (xs=ys)=false:=decide_eq_false fun e=>h (by subst e;rfl)
theorem eq_allT {xs ys:List Nm} (hl:xs.length=ys.length) (h:∀ j (hj:j<xs.length),xs[j]=ys[j]'(by omega)):decide (xs=ys)=true:=decide_eq_true (List.ext_getElem hl fun j h1 _=>h j h1)
def SameRelT (xs ys:List Nm) (w:World) (r i:Value) (wr:World):Prop:=r= .bool false∧∃ k:Nat,k≤xs.length∧i= .int .i64 (k:Int)∧Below w.heap.size w wr∧∀ j (hj:j<xs.length) (hj':j<ys.length),j<k→xs[j]=ys[j]
set_option maxHeartbeats 1000000 in
set_option maxRecDepth 100000 in
theorem ref02_Same_all (A C:Option Addr) (n m c d:Nat) (xs ys:List Nm) (w:World) (hn:xs.length=n) (hm:ys.length=m) (hx:Row w w.heap.size A (strs xs)) (hy:Row w w.heap.size C (strs ys)) (hxl:n≤9223372036854775807) (hyl:m≤9223372036854775807):
  Calls Tryz.prog 32 #[.slice A n c,.slice C m d] w fun e w'=>e= .returned (.bool (decide (xs=ys)))∧Below w.heap.size w w':=by
 subst hn hm
 have HX:=Lib.hid hx
 have HY:=Lib.hid hy
 obtain ⟨z,hz⟩:∃ z,z=decide (xs=ys):=⟨_,rfl⟩
 rw [← hz]
 have HZ:=Lib.hid hz
 clear hx hy hz
 by_cases hlen:xs.length=ys.length
 ·go_enter Tryz.func32,Tryz.ntmps32
  go_wp2
  go_loopw [4,5] (fun r i wr=>SameRelT xs ys w r i wr) (fun _ i _=>xs.length-(intOf i).toNat)
  case atStart=>exact ⟨rfl,0,Nat.zero_le _,rfl,Below.refl _ _,fun j _ _ hj=>by omega⟩
  case round=>
   obtain ⟨rfl,k,hk,rfl,hbw,hall⟩:=hrel
   by_cases hlt:k<xs.length
   ·have hlt2:k<ys.length:=by omega
    obtain ⟨b1,o1,e1,_,hc1⟩:=row_nm (HX.out.below hbw) hlt
    obtain ⟨b2,o2,e2,_,hc2⟩:=row_nm (HY.out.below hbw) hlt2
    subst e1 e2
    obtain ⟨x,hx,hx2⟩:=as_text xs[k]
    obtain ⟨y,hy,hy2⟩:=as_text ys[k]
    rw [← hx] at hc1
    rw [← hy] at hc2
    have hi0:(0:Int)≤k:=by omega
    have hi1:(k:Int)<xs.length:=by omega
    have hi2:(k:Int)<ys.length:=by omega
    by_cases he:xs[k]=ys[k]
    ·have t1:=same_true (s:=x) (t:=y) (by rw [hx2,hy2];exact he)
     have HN:Hid (∀ j (hj:j<xs.length) (hj':j<ys.length),j<k+1→xs[j]=ys[j]):=Lib.hid fun j hj hj' hjk=>by
      by_cases e:j=k
      ·subst e;exact he
      ·exact hall j hj hj' (by omega)
     clear hall he hx hx2 hy hy2
     go_wp2
     go_quiet (fail)
     go_wp2
     go_roundw
     case rel=>exact ⟨rfl,k+1,by omega,by go_num,hbw.trans ⟨rfl,rfl,rfl,Nat.le_refl _,fun _ _=>rfl⟩,HN.out⟩
     case measure=>simp [intOf];omega
    ·have t1:=same_false (s:=x) (t:=y) (by rw [hx2,hy2];exact he)
     have hzf:z=false:=by rw [HZ.out];exact ne_atT hlt hlt2 he
     subst hzf
     clear hall he hx hx2 hy hy2
     go_wp2
     go_quiet (fail)
     go_wp2
     go_ret
     exact ⟨rfl,hbw.trans ⟨rfl,rfl,rfl,Nat.le_refl _,fun _ _=>rfl⟩⟩
   ·have hzt:z=true:=by rw [HZ.out];exact eq_allT hlen fun j hj=>hall j hj (by omega) (by omega)
    subst hzt
    clear hall
    go_wp2
    go_ret
    exact ⟨rfl,hbw⟩
 ·have hzf:z=false:=by rw [HZ.out];exact decide_eq_false fun e=>hlen (by rw [e])
  subst hzf
  go_enter Tryz.func32,Tryz.ntmps32
  go_wp2
  go_ret
  exact ⟨rfl,Below.refl _ _⟩
end Go.Proofs.YtmoomnpbiifedaaGreat
namespace Go.Proofs.YtmoomnpbiifedaaGreat
open Go Go.RowKit
set_option linter.unusedVariables false
def PFew (x:PartsP):Prop:=x.ids.length≤9223372036854775807∧x.seqs.length≤9223372036854775807∧x.keys.length≤9223372036854775807∧x.lists.length≤9223372036854775807∧∀ l∈x.lists,l.length≤9223372036854775807∧∀ p∈l,p.2.length≤9223372036854775807
structure PAt (w:World) (B:Nat) (A1 A2 A3 A4:Option Addr) (x:PartsP):Prop where
 ids:Row w B A1 (ints x.ids)
 seqs:Row w B A2 (ints x.seqs)
 keys:Row w B A3 (strs x.keys)
 lists:LPosts w B A4 x.lists
theorem PAt.later {w w':World} {A1 A2 A3 A4:Option Addr} {x:PartsP} (h:PAt w w.heap.size A1 A2 A3 A4 x) (hb:Below w.heap.size w w'):PAt w' w'.heap.size A1 A2 A3 A4 x:=
 ⟨Row.later h.ids hb,Row.later h.seqs hb,Row.later h.keys hb,h.lists.later hb⟩
def PBox2 (w:World) (V U:Array Value) (wr:World):Prop:=Below w.heap.size w wr∧w.heap.size+1+1≤wr.heap.size∧wr.heap[w.heap.size]?=some (.cells V 26 (0,0))∧wr.heap[w.heap.size+1]?=some (.cells U 26 (0,0))
theorem PBox2.below {w wr w':World} {V U:Array Value} (h:PBox2 w V U wr) (hb:Below wr.heap.size wr w'):PBox2 w V U w':=by
 obtain ⟨h0,h1,h2,h3⟩:=h
 exact ⟨h0.trans (hb.mono (by omega)),by have :=hb.size;omega,(hb.block _ (by omega)).trans h2,(hb.block _ (by omega)).trans h3⟩
theorem pBox2_start (w:World) (V U:Array Value):PBox2 w V U ((w.alloc (.cells V 26)).alloc (.cells U 26)):=by
 refine ⟨((Below.refl _ w).alloc (Nat.le_refl _) _).alloc (by simp) _,by simp,?_,?_⟩
 ·rw [Below.heap_alloc _ _ _ (by simp)]
  exact heap_alloc_new w _
 ·simpa using heap_alloc_new (w.alloc (.cells V 26)) (.cells U 26)
def PSameRel (w:World) (V U:Array Value) (ls ms:List (List Pn)) (r i:Value) (wr:World):Prop:=
 r= .bool false∧∃ k:Nat,k≤ls.length∧i= .int .i64 (k:Int)∧PBox2 w V U wr∧∀ j (hj:j<ls.length) (hj':j<ms.length),j<k→ls[j]=ms[j]
theorem parts_ext {x y:PartsP} (h1:x.ids=y.ids) (h2:x.seqs=y.seqs) (h3:x.keys=y.keys) (h4:x.lists=y.lists):x=y:=by
 cases x
 cases y
 simp only at h1 h2 h3 h4
 subst h1 h2 h3 h4
 rfl
set_option maxHeartbeats 4000000 in
set_option maxRecDepth 100000 in
theorem ref10_Same (A1 A2 A3 A4 B1 B2 B3 B4:Option Addr) (n1 c1 n2 c2 n3 c3 n4 c4 m1 d1 m2 d2 m3 d3 m4 d4:Nat) (x y:PartsP) (w:World)
    (hx1:x.ids.length=n1) (hx2:x.seqs.length=n2) (hx3:x.keys.length=n3) (hx4:x.lists.length=n4) (hy1:y.ids.length=m1) (hy2:y.seqs.length=m2) (hy3:y.keys.length=m3) (hy4:y.lists.length=m4)
    (hx:PAt w w.heap.size A1 A2 A3 A4 x) (hy:PAt w w.heap.size B1 B2 B3 B4 y) (fx:PFew x) (fy:PFew y):
    Calls Tryz.prog 19 #[.agg #[.slice A1 n1 c1,.slice A2 n2 c2,.slice A3 n3 c3,.slice A4 n4 c4],.agg #[.slice B1 m1 d1,.slice B2 m2 d2,.slice B3 m3 d3,.slice B4 m4 d4]] w fun e w'=>e= .returned (.bool (decide (x=y)))∧Below w.heap.size w w':=by
  obtain ⟨V,hV⟩:∃ V:Array Value,V=#[.slice A1 n1 c1,.slice A2 n2 c2,.slice A3 n3 c3,.slice A4 n4 c4]:=⟨_,rfl⟩
  obtain ⟨U,hU⟩:∃ U:Array Value,U=#[.slice B1 m1 d1,.slice B2 m2 d2,.slice B3 m3 d3,.slice B4 m4 d4]:=⟨_,rfl⟩
  obtain ⟨z,hz⟩:∃ z,z=decide (x=y):=⟨_,rfl⟩
  obtain ⟨z1,hz1⟩:∃ z,z=decide (x.ids=y.ids):=⟨_,rfl⟩
  obtain ⟨z2,hz2⟩:∃ z,z=decide (x.seqs=y.seqs):=⟨_,rfl⟩
  obtain ⟨z3,hz3⟩:∃ z,z=decide (x.keys=y.keys):=⟨_,rfl⟩
  have S1:Hid (∀ w1,Below w.heap.size w w1→Calls Tryz.prog 59 #[.slice A1 n1 c1,.slice B1 m1 d1] w1 fun e w'=>e= .returned (.bool z1)∧Below w1.heap.size w1 w'):=Lib.hid fun w1 h=>by
    rw [hz1]
    exact ref01_Same_any A1 B1 n1 m1 c1 d1 x.ids y.ids w1 hx1 hy1 (hx.later h).ids (hy.later h).ids (hx1▸fx.1) (hy1▸fy.1)
  have S2:Hid (∀ w1,Below w.heap.size w w1→Calls Tryz.prog 59 #[.slice A2 n2 c2,.slice B2 m2 d2] w1 fun e w'=>e= .returned (.bool z2)∧Below w1.heap.size w1 w'):=Lib.hid fun w1 h=>by
    rw [hz2]
    exact ref01_Same_any A2 B2 n2 m2 c2 d2 x.seqs y.seqs w1 hx2 hy2 (hx.later h).seqs (hy.later h).seqs (hx2▸fx.2.1) (hy2▸fy.2.1)
  have S3:Hid (∀ w1,Below w.heap.size w w1→Calls Tryz.prog 32 #[.slice A3 n3 c3,.slice B3 m3 d3] w1 fun e w'=>e= .returned (.bool z3)∧Below w1.heap.size w1 w'):=Lib.hid fun w1 h=>by
    rw [hz3]
    exact ref02_Same_all A3 B3 n3 m3 c3 d3 x.keys y.keys w1 hx3 hy3 (hx.later h).keys (hy.later h).keys (hx3▸fx.2.2.1) (hy3▸fy.2.2.1)
  have HX4:=Lib.hid hx.lists
  have HY4:=Lib.hid hy.lists
  have H4:=Lib.hid hx4
  have G4:=Lib.hid hy4
  have HFX:=Lib.hid fx.2.2.2.2
  have HFY:=Lib.hid fy.2.2.2.2
  have hn4:n4≤9223372036854775807:=hx4▸fx.2.2.2.1
  have hm4:m4≤9223372036854775807:=hy4▸fy.2.2.2.1
  have HV:=Lib.hid hV
  have HU:=Lib.hid hU
  have HZ:=Lib.hid hz
  have N1:Hid (z1=false→z=false):=Lib.hid fun h=>by rw [hz];exact decide_eq_false fun e=>of_decide_eq_false (hz1.symm.trans h) (by rw [e])
  have N2:Hid (z2=false→z=false):=Lib.hid fun h=>by rw [hz];exact decide_eq_false fun e=>of_decide_eq_false (hz2.symm.trans h) (by rw [e])
  have N3:Hid (z3=false→z=false):=Lib.hid fun h=>by rw [hz];exact decide_eq_false fun e=>of_decide_eq_false (hz3.symm.trans h) (by rw [e])
  have N4:Hid (n4≠m4→z=false):=Lib.hid fun h=>by rw [hz];exact decide_eq_false fun e=>h (by rw [← hx4,← hy4,e])
  have T4:Hid (z1=true→z2=true→z3=true→x.lists=y.lists→z=true):=Lib.hid fun h1 h2 h3 h4=>by
    rw [hz]
    exact decide_eq_true (parts_ext (of_decide_eq_true (hz1.symm.trans h1)) (of_decide_eq_true (hz2.symm.trans h2)) (of_decide_eq_true (hz3.symm.trans h3)) h4)
  rw [← hz]
  clear hV hU hz hz1 hz2 hz3 hx hy fx fy hx1 hx2 hx3 hx4 hy1 hy2 hy3 hy4
  obtain ⟨w1,hw1⟩:∃ w1,w1=(w.alloc (.cells #[.slice A1 n1 c1,.slice A2 n2 c2,.slice A3 n3 c3,.slice A4 n4 c4] 26)).alloc (.cells #[.slice B1 m1 d1,.slice B2 m2 d2,.slice B3 m3 d3,.slice B4 m4 d4] 26):=⟨_,rfl⟩
  have hb1:PBox2 w V U w1:=by rw [hw1,HV.out,HU.out];exact pBox2_start w _ _
  have HW1:=Lib.hid hw1
  have HB1:=Lib.hid hb1
  clear hw1 hb1
  have QS:Hid (∀ wr,PBox2 w V U wr→(wr.cell? ⟨w.heap.size,0,none⟩=some (.slice A1 n1 c1)∧wr.cell? ⟨w.heap.size,1,none⟩=some (.slice A2 n2 c2)∧wr.cell? ⟨w.heap.size,2,none⟩=some (.slice A3 n3 c3)∧wr.cell? ⟨w.heap.size,3,none⟩=some (.slice A4 n4 c4))∧
      wr.cell? ⟨w.heap.size+1,0,none⟩=some (.slice B1 m1 d1)∧wr.cell? ⟨w.heap.size+1,1,none⟩=some (.slice B2 m2 d2)∧wr.cell? ⟨w.heap.size+1,2,none⟩=some (.slice B3 m3 d3)∧wr.cell? ⟨w.heap.size+1,3,none⟩=some (.slice B4 m4 d4)):=Lib.hid fun wr h=>by
    obtain ⟨_,_,h2,h3⟩:=h
    rw [HV.out] at h2
    rw [HU.out] at h3
    exact ⟨cells4 h2,cells4 h3⟩
  go_enter Tryz.func19,Tryz.ntmps19
  go_wp2_with (go_at_call 59;rw [show (w.alloc _).alloc _=w1 from HW1.out.symm];refine (S1.out _ HB1.out.1).mono ?_)
  rintro e w2 ⟨rfl,hb2⟩
  have HB2:Hid (PBox2 w V U w2):=Lib.hid (HB1.out.below hb2)
  clear hb2 S1
  obtain ⟨⟨q0,q1,q2,q3⟩,r0,r1,r2,r3⟩:=QS.out _ HB2.out
  go_wp2_with (go_at_call 59;refine (S2.out _ HB2.out.1).mono ?_)
  rintro e w3 ⟨rfl,hb3⟩
  have HB3:Hid (PBox2 w V U w3):=Lib.hid (HB2.out.below hb3)
  clear hb3 S2 q0 q1 q2 q3 r0 r1 r2 r3
  obtain ⟨⟨q0,q1,q2,q3⟩,r0,r1,r2,r3⟩:=QS.out _ HB3.out
  go_wp2_with (go_at_call 32;refine (S3.out _ HB3.out.1).mono ?_)
  rintro e w4 ⟨rfl,hb4⟩
  have HB4:Hid (PBox2 w V U w4):=Lib.hid (HB3.out.below hb4)
  clear hb4 S3 q0 q1 q2 q3 r0 r1 r2 r3
  obtain ⟨⟨q0,q1,q2,q3⟩,r0,r1,r2,r3⟩:=QS.out _ HB4.out
  rcases hz1:z1 with _|_
  · have hzf:=N1.out hz1
    subst hz1 hzf
    go_wp2
    go_ret
    exact ⟨rfl,HB4.out.1⟩
  rcases hz2:z2 with _|_
  · have hzf:=N2.out hz2
    subst hz1 hz2 hzf
    go_wp2
    go_ret
    exact ⟨rfl,HB4.out.1⟩
  rcases hz3:z3 with _|_
  · have hzf:=N3.out hz3
    subst hz1 hz2 hz3 hzf
    go_wp2
    go_ret
    exact ⟨rfl,HB4.out.1⟩
  subst hz1 hz2 hz3
  by_cases hnm:m4=n4
  · subst hnm
    go_wp2
    clear q0 q1 q2 q3 r0 r1 r2 r3
    go_loopw [4,8,9] (fun r i s wr=>PSameRel w V U x.lists y.lists r i wr) (fun _ i _ _=>m4-(intOf i).toNat)
    case atStart=>exact ⟨rfl,0,Nat.zero_le _,rfl,HB4.out,fun j _ _ hj=>by omega⟩
    case round=>
      obtain ⟨rfl,k,hk,rfl,hbox,hall⟩:=hrel
      obtain ⟨⟨q0,q1,q2,q3⟩,r0,r1,r2,r3⟩:=QS.out _ hbox
      have hsz:=hbox.2.1
      have HALL:=Lib.hid hall
      clear hall q0 q1 q2 r0 r1 r2
      by_cases hkm:k<m4
      · have hlt:k<x.lists.length:=by rw [H4.out];exact hkm
        have hlt2:k<y.lists.length:=by rw [G4.out];exact hkm
        obtain ⟨b1,o1,A',c',e1,hb1,hc1,hl1,hp1⟩:=(HX4.out.below hbox.1).at_ hlt
        obtain ⟨b2,o2,B',d',e2,hb2,hc2,hl2,hp2⟩:=(HY4.out.below hbox.1).at_ hlt2
        subst e1 e2
        have hi0:(0:Int)≤k:=by omega
        have hi1:(k:Int)<m4:=by omega
        obtain ⟨N,hN⟩:∃ N,N=x.lists[k].length:=⟨_,rfl⟩
        obtain ⟨M,hM⟩:∃ M,M=y.lists[k].length:=⟨_,rfl⟩
        rw [← hN] at hc1
        rw [← hM] at hc2
        obtain ⟨zk,hzk⟩:∃ z,z=decide (x.lists[k]=y.lists[k]):=⟨_,rfl⟩
        have f1:=HFX.out _ (List.getElem_mem hlt)
        have f2:=HFY.out _ (List.getElem_mem hlt2)
        have SM:Hid (∀ w1,Below wr.heap.size wr w1→Calls Tryz.prog 38 #[.slice A' N c',.slice B' M d'] w1 fun e w'=>e= .returned (.bool zk)∧Below w1.heap.size w1 w'):=Lib.hid fun w1 h1=>by
          rw [hzk]
          exact ref05_Same_any A' B' N M c' d' _ _ w1 hN.symm hM.symm (Posts.later (hp1.more (by omega)) h1) (Posts.later (hp2.more (by omega)) h1) (hN▸f1.1) (hM▸f2.1) f1.2 f2.2
        have HZK:=Lib.hid hzk
        have HBOX:=Lib.hid hbox
        clear hN hM hzk f1 f2 hp1 hp2 hl1 hl2 hbox
        go_wp2
        go_region_held3 (fun w'=>w'.cell? ⟨w.heap.size,3,none⟩=some (.slice (some ⟨b1,o1,none⟩) m4 c4)∧w'.cell? ⟨w.heap.size+1,3,none⟩=some (.slice (some ⟨b2,o2,none⟩) m4 d4)∧w'.cell? ⟨b1,o1+k,none⟩=some (.slice A' N c')∧w'.cell? ⟨b2,o2+k,none⟩=some (.slice B' M d'))
          (first|exact ⟨q3,r3,hc1,hc2⟩|exact ⟨q5,r5,hc5,hc6⟩)
          (first
            | (go_at_call 38; refine (SM.out _ (Below.refl _ _).drew).mono ?_; rintro e w5 ⟨rfl, hb5⟩
               have hb6:Below wr.heap.size wr w5:=(Below.refl wr.heap.size wr).drew.trans hb5
               have q5:=(hb6.cell (p:=⟨w.heap.size,3,none⟩) (by show w.heap.size<_;omega)).trans q3
               have r5:=(hb6.cell (p:=⟨w.heap.size+1,3,none⟩) (by show w.heap.size+1<_;omega)).trans r3
               have hc5:=(hb6.cell (p:=⟨b1,o1+k,none⟩) (by show b1<_;omega)).trans hc1
               have hc6:=(hb6.cell (p:=⟨b2,o2+k,none⟩) (by show b2<_;omega)).trans hc2
               have HB6:=Lib.hid hb6
               clear hb5 hb6))
        have HBX:=Lib.hid (HBOX.out.below (HB6.out.trans ⟨rfl,rfl,rfl,Nat.le_refl _,fun _ _=>rfl⟩))
        clear hc1 hc2 q3 r3
        rcases hzkc:zk with _|_
        · have hzf:z=false:=by
            rw [HZ.out]
            exact decide_eq_false fun e=>of_decide_eq_false (HZK.out.symm.trans hzkc) (by subst e;rfl)
          subst hzkc hzf
          go_wp2
          go_ret
          exact ⟨rfl,HBX.out.1⟩
        · have HN:Hid (∀ j (hj:j<x.lists.length) (hj':j<y.lists.length),j<k+1→x.lists[j]=y.lists[j]):=Lib.hid fun j hj hj' hjk=>by
            by_cases e:j=k
            · subst e
              exact of_decide_eq_true (HZK.out.symm.trans hzkc)
            · exact HALL.out j hj hj' (by omega)
          subst hzkc
          go_wp2
          go_roundw
          case rel=>exact ⟨rfl,k+1,by omega,by go_num,HBX.out,HN.out⟩
          case measure=>simp [intOf];omega
      · have hzt:z=true:=T4.out (by trivial) (by trivial) (by trivial) (List.ext_getElem (H4.out.trans G4.out.symm) fun j h1 h2=>HALL.out j h1 h2 (by have :=H4.out;omega))
        subst hzt
        have HBOX:=Lib.hid hbox
        clear hbox
        go_wp2
        go_ret
        exact ⟨rfl,HBOX.out.1⟩
  · have hzf:z=false:=N4.out fun e=>hnm e.symm
    subst hzf
    have hne:((n4:Int) != (m4:Int))=true:=by simp;omega
    clear hnm
    go_wp2
    go_ret
    exact ⟨rfl,HB4.out.1⟩
end Go.Proofs.YtmoomnpbiifedaaGreat
set_option linter.unusedVariables false
namespace Go.Proofs.YtmoomnpbiifedaaGreat
open Go Go.RowKit
def flds:List Fd→List Value
 |[]=>[]
 |f::l=> .string ⟨f.1.toArray⟩:: .string ⟨f.2.toArray⟩::flds l
theorem flds_length:∀ l:List Fd,(flds l).length=l.length*2
 |[]=>rfl
 |f::l=>by simp only [flds,List.length_cons,flds_length l];omega
theorem flds_append:∀ a b:List Fd,flds (a++b)=flds a++flds b
 |[],_=>rfl
 |f::a,b=>by simp [flds,flds_append a b]
theorem flds_at:∀ {l:List Fd} {k:Nat} (hk:k<l.length),(flds l)[k*2]?=some (.string ⟨l[k].1.toArray⟩)∧(flds l)[k*2+1]?=some (.string ⟨l[k].2.toArray⟩)
 |[],_,h=>by simp at h
 |f::l,0,_=>⟨rfl,rfl⟩
 |f::l,k+1,h=>by
  have :=flds_at (l:=l) (k:=k) (by simpa using h)
  rw [show (k+1)*2=k*2+1+1 by omega]
  simpa [flds] using this
theorem flds_take:∀ (l:List Fd) (k:Nat),flds (l.take k)=(flds l).take (k*2)
 |l,0=>by simp [flds]
 |[],k+1=>by simp [flds]
 |f::l,k+1=>by rw [show (k+1)*2=k*2+1+1 by omega];simp [flds,flds_take l k]
theorem flds_oneCell:∀ (l:List Fd),∀ u∈flds l,u.oneCell'=true
 |[],u,h=>by cases h
 |f::l,u,h=>by
  simp only [flds,List.mem_cons] at h
  rcases h with rfl|rfl|h
  ·rfl
  ·rfl
  ·exact flds_oneCell l u h
def FRow (w:World) (B:Nat) (A:Option Addr) (l:List Fd):Prop:=Row w B A (flds l)
theorem FRow.below {w w':World} {B:Nat} {A:Option Addr} {l:List Fd} (h:FRow w B A l) (hb:Below B w w'):FRow w' B A l:=Row.below h hb
theorem FRow.more {w:World} {B B':Nat} {A:Option Addr} {l:List Fd} (h:FRow w B A l) (hB:B≤B'):FRow w B' A l:=Row.more h hB
theorem FRow.nil {w:World} {B:Nat} {A:Option Addr}:FRow w B A []:=Row.nil
theorem FRow.later {w w':World} {A:Option Addr} {l:List Fd} (h:FRow w w.heap.size A l) (hb:Below w.heap.size w w'):FRow w' w'.heap.size A l:=(h.below hb).more hb.size
theorem FRow.at_ {w:World} {B:Nat} {A:Option Addr} {l:List Fd} (h:FRow w B A l) {k:Nat} (hk:k<l.length):
  ∃ b off,A=some ⟨b,off,none⟩∧b<B∧w.cell? ⟨b,off+k*2,none⟩=some (.string ⟨l[k].1.toArray⟩)∧w.cell? ⟨b,off+k*2+1,none⟩=some (.string ⟨l[k].2.toArray⟩):=by
 obtain ⟨b,off,rfl,hb,hc⟩:=Row.at_ h (by rw [flds_length];omega)
 obtain ⟨g1,g2⟩:=flds_at hk
 exact ⟨b,off,rfl,hb,hc _ _ g1,by have :=hc _ _ g2;rwa [← Nat.add_assoc] at this⟩
abbrev docV (id:Int) (A:Option Addr) (n c:Nat):Value:= .agg #[.int .i64 id,.slice A n c]
theorem info_field:(Tryz.prog.info? 99).map (fun i=>(i.zero,i.size,i.bytes))=some (some (.agg #[.string ByteArray.empty,.string ByteArray.empty]),2,32):=by kernel_rfl
end Go.Proofs.YtmoomnpbiifedaaGreat
set_option linter.unusedVariables false
namespace Go.Proofs.YtmoomnpbiifedaaGreat
open Go Go.RowKit
open Go.ChangeMaps (setBlock)
def tV (t:Tm):Value:= .agg #[.string ⟨t.1.toArray⟩,.string ⟨t.2.toArray⟩]
theorem str_eq (a b:Nm):((⟨a.toArray⟩:ByteArray)==⟨b.toArray⟩)=decide (a=b):=by
 have h:((⟨a.toArray⟩:ByteArray)==⟨b.toArray⟩)=(a.toArray==b.toArray):=rfl
 rw [h,Bool.eq_iff_iff]
 simp
theorem run_equal_tm (s t:Tm) (w:World):(Op.equal 39 (tV s) (tV t)).run Tryz.prog w= .ok (decide (s=t)) w:=by
 have h:∀ d:Nat,(Op.equalIn (d+2) 39 (tV s) (tV t)).run Tryz.prog w= .ok (decide (s=t)) w:=fun d=>by
  simp only [Op.equalIn,tV,part]
  simp [run_underlying Tryz.underlying39,run_underlying Tryz.underlying9,Tryz.sizeOf9,Tryz.isAgg9,str_eq]
  obtain ⟨s1,s2⟩:=s
  obtain ⟨t1,t2⟩:=t
  by_cases h1:s1=t1<;>by_cases h2:s2=t2<;>simp [h1,h2]
 exact h 9998
theorem run_check_tm (em:Bool) (t:Tm) (w:World):(Instr.checkKey em 10000 39 (tV t)).run Tryz.prog w= .ok () w:=by
 have h:∀ d:Nat,(Instr.checkKey em (d+2) 39 (tV t)).run Tryz.prog w= .ok () w:=fun d=>by
  simp [Instr.checkKey,run_underlying Tryz.underlying39,run_underlying Tryz.underlying9,tV,part,Tryz.sizeOf9,Tryz.isAgg9]
 exact h 9998
theorem run_stays_tm (t:Tm) (w:World):(Instr.keyThatStays (tV t) (tV t)).run Tryz.prog w= .ok (tV t) w:=by
 have h:∀ d:Nat,Instr.sameBits (d+2) (tV t) (tV t)=true:=fun d=>by simp [Instr.sameBits,tV,str_eq]
 simp [Instr.keyThatStays,h 9998]
abbrev Ent:=Tm × Value
def entsM:Nat→List Ent→List MapEntry
 |_,[]=>[]
 |i,e::m=>{key:=tV e.1,val:=e.2,born:=i}::entsM (i+1) m
theorem entsM_length:∀ (m:List Ent) (i:Nat),(entsM i m).length=m.length
 |[],_=>rfl
 |e::m,i=>by simp [entsM,entsM_length m (i+1)]
theorem entsM_at:∀ {m:List Ent} {i k:Nat} (hk:k<m.length),(entsM i m)[k]?=some {key:=tV m[k].1,val:=m[k].2,born:=i+k}
 |[],_,_,h=>by simp at h
 |e::m,i,0,_=>rfl
 |e::m,i,k+1,h=>by
  have :=entsM_at (m:=m) (i:=i+1) (k:=k) (by simpa using h)
  simp only [entsM,List.getElem?_cons_succ,zC]
  rw [this,Nat.add_assoc,Nat.add_comm 1 k]
theorem entsM_append:∀ (m:List Ent) (e:Ent) (i:Nat),entsM i (m++[e])=entsM i m++[{key:=tV e.1,val:=e.2,born:=i+m.length}]
 |[],e,i=>rfl
 |x::m,e,i=>by
  simp only [List.cons_append,entsM,entsM_append m e (i+1),List.length_cons]
  rw [Nat.add_assoc,Nat.add_comm 1 m.length]
theorem entsM_set:∀ (m:List Ent) (e:Ent) (i k:Nat),entsM i (m.set k e)=(entsM i m).set k {key:=tV e.1,val:=e.2,born:=i+k}
 |[],e,i,k=>by simp [entsM]
 |x::m,e,i,0=>by simp [entsM]
 |x::m,e,i,k+1=>by
  simp only [zF,entsM,entsM_set m e (i+1) k]
  rw [Nat.add_assoc,Nat.add_comm 1 k]
def MapAt (w:World) (B:Nat) (m:List Ent):Prop:=w.heap[B]?=some (.map (entsM 0 m).toArray m.length)
def posM (m:List Ent) (t:Tm):Nat:=m.findIdx (fun e=>decide (e.1=t))
def valM (m:List Ent) (t:Tm):Value:=if h:posM m t<m.length then m[posM m t].2 else .slice none 0 0
def entM (m:List Ent) (t:Tm):List Ent:=if posM m t<m.length then m else m++[(t,.slice none 0 0)]
theorem posM_key {m:List Ent} {t:Tm} (h:posM m t<m.length):m[posM m t].1=t:=by
 have :=List.findIdx_getElem (p:=fun e:Ent=>decide (e.1=t)) (xs:=m) (w:=h)
 exact of_decide_eq_true this
theorem posM_entM (m:List Ent) (t:Tm):posM m t<(entM m t).length∧(entM m t)[posM m t]?=some (t,valM m t):=by
 unfold entM valM
 split
 ·rename_i h
  have e:=posM_key h
  refine ⟨h,?_⟩
  rw [List.getElem?_eq_getElem h]
  exact congrArg some (Prod.ext e rfl)
 ·rename_i h
  have hle:posM m t≤m.length:=List.findIdx_le_length
  have :posM m t=m.length:=by omega
  rw [this]
  simp
theorem run_asking:∀ (m:List Ent) (t:Tm) (w:World) (k i:Nat),(Instr.findAsking 39 (tV t) (entsM k m) i).run Tryz.prog w= .ok (if h:posM m t<m.length then some (i+posM m t,m[posM m t].2) else none) w
 |[],t,w,k,i=>by simp [entsM,Instr.findAsking,posM]
 |e::m,t,w,k,i=>by
  have ih:=run_asking m t w (k+1) (i+1)
  rw [entsM,Instr.findAsking]
  simp only [Sem.run_bind,run_equal_tm,Result.andThen]
  by_cases he:t=e.1
  ·have hp:posM (e::m) t=0:=by unfold posM;rw [List.findIdx_cons];simp [he]
   simp only [hp]
   simp [he]
  ·have he':¬ e.1=t:=fun h=>he h.symm
   have hp:posM (e::m) t=posM m t+1:=by unfold posM;rw [List.findIdx_cons];simp [he']
   simp only [he,decide_false,Bool.false_eq_true,if_false,ih]
   rw [Result.ok.injEq]
   refine ⟨?_,rfl⟩
   by_cases h:posM m t<m.length
   ·have h':posM (e::m) t<(e::m).length:=by rw [hp];simpa using h
    rw [dif_pos h,dif_pos h']
    simp only [hp,zC]
    rw [Nat.add_assoc,Nat.add_comm 1]
   ·have h':¬ posM (e::m) t<(e::m).length:=by rw [hp];simpa using h
    rw [dif_neg h,dif_neg h']
theorem run_find_tm (m:List Ent) (t:Tm) (w:World) (k:Nat):(Instr.findKey 39 (tV t) (entsM k m)).run Tryz.prog w= .ok (if h:posM m t<m.length then some (posM m t,m[posM m t].2) else none) w:=by
 have h1:=run_asking m t w k 0
 rw [Nat.zero_add] at h1
 cases m with
 |nil=>simp [Instr.findKey,run_underlying Tryz.underlying39,entsM,Instr.findNow,posM]
 |cons e m=>
  rw [← h1]
  simp [Instr.findKey,run_underlying Tryz.underlying39,entsM,Instr.findNow,Instr.sameNow]
theorem run_lookup_tm {w:World} {B:Nat} {m:List Ent} (h:MapAt w B m) (t:Tm):(Instr.lookup 192 (.map (some B)) (tV t) false).run Tryz.prog w= .ok (valM m t) w:=by
 unfold MapAt at h
 have hf:=run_find_tm m t w 0
 unfold valM
 by_cases hp:posM m t<m.length
 ·rw [dif_pos hp] at hf ⊢
  simp [Instr.lookup,run_underlying Tryz.underlying192,MapKept.run_getObj_map h,run_check_tm,hf,Result.andThen]
 ·rw [dif_neg hp] at hf ⊢
  simp [Instr.lookup,run_underlying Tryz.underlying192,MapKept.run_getObj_map h,run_check_tm,hf,Result.andThen,Tryz.zeroValue22]
theorem run_entry_tm {w:World} {B:Nat} {m:List Ent} (h:MapAt w B m) (t:Tm):∃ w',(Instr.mapEntry 192 (.map (some B)) (tV t)).run Tryz.prog w= .ok (.tuple #[valM m t,.int .i64 (posM m t:Int)]) w'∧MapAt w' B (entM m t)∧w.grownBy w' (some B):=by
 unfold MapAt at h
 have hf:=run_find_tm m t w 0
 unfold valM entM
 by_cases hp:posM m t<m.length
 ·rw [dif_pos hp] at hf ⊢
  rw [if_pos hp]
  have hk:=posM_key hp
  have he:=entsM_at (i:=0) hp
  rw [hk,Nat.zero_add] at he
  have hmod:(entsM 0 m).modify (posM m t) (fun e=>{e with key:=tV t})=entsM 0 m:=by
   apply List.ext_getElem?
   intro j
   rw [List.getElem?_modify]
   by_cases hj:posM m t=j
   ·subst hj;simp [he]
   ·simp [hj]
  refine ⟨setBlock w B (.map (entsM 0 m).toArray m.length),?_,ChangeMaps.heap_setBlock_same h _,?_⟩
  ·simp [Instr.mapEntry,run_underlying Tryz.underlying192,MapKept.run_getObj_map h,run_check_tm,hf,Result.andThen,he,run_stays_tm,MapKept.run_setObj_map _ h,hmod,goInt,setBlock]
  ·exact ⟨rfl,rfl,rfl,by simp [setBlock],fun k _ hk=>ChangeMaps.heap_setBlock_other h _ (fun e=>hk (by rw [e]))⟩
 ·rw [dif_neg hp] at hf ⊢
  rw [if_neg hp]
  have hle:posM m t≤m.length:=List.findIdx_le_length
  have hpe:posM m t=m.length:=by omega
  have hpush:(entsM 0 m).toArray.push {key:=tV t,val:= .slice none 0 0,born:=m.length}=(entsM 0 (m++[(t,.slice none 0 0)])).toArray:=by
   rw [entsM_append,Nat.zero_add,List.push_toArray]
  refine ⟨setBlock w B (.map (entsM 0 (m++[(t,Value.slice none 0 0)])).toArray (m++[(t,Value.slice none 0 0)]).length),?_,ChangeMaps.heap_setBlock_same h _,?_⟩
  ·rw [hpe,← hpush]
   simp [Instr.mapEntry,run_underlying Tryz.underlying192,MapKept.run_getObj_map h,run_check_tm,hf,Result.andThen,MapKept.run_setObj_map _ h,goInt,setBlock,Tryz.zeroValue22]
  ·exact ⟨rfl,rfl,rfl,by simp [setBlock],fun k _ hk=>ChangeMaps.heap_setBlock_other h _ (fun e=>hk (by rw [e]))⟩
theorem find_born:∀ (m:List Ent) (i k:Nat),k<m.length→(entsM i m).findIdx? (fun e=>((e.born:Nat):Int)==((i+k:Nat):Int))=some k
 |[],i,k,h=>by simp at h
 |e::m,i,0,_=>by rw [entsM,List.findIdx?_cons];simp
 |e::m,i,k+1,h=>by
  have ih:=find_born m (i+1) k (by simpa using h)
  rw [entsM,List.findIdx?_cons,if_neg (by simp;omega)]
  rw [show i+(k+1)=i+1+k by omega,ih]
  rfl
theorem run_stored_tm {w:World} {B:Nat} {m:List Ent} (h:MapAt w B m) {k:Nat} (hk:k<m.length) (v:Value):∃ w',(Instr.entryStore 192 (.map (some B)) (.int .i64 (k:Int)) v).run Tryz.prog w= .ok () w'∧MapAt w' B (m.set k (m[k].1,v))∧w.grownBy w' (some B):=by
 unfold MapAt at h
 have hb:=find_born m 0 k hk
 rw [Nat.zero_add] at hb
 have he:=entsM_at (i:=0) hk
 rw [Nat.zero_add] at he
 have hmod:(entsM 0 m).modify k (fun e=>{e with val:=v})=entsM 0 (m.set k (m[k].1,v)):=by
  rw [entsM_set,Nat.zero_add]
  apply List.ext_getElem?
  intro j
  rw [List.getElem?_modify,List.getElem?_set]
  by_cases hj:k=j
  ·subst hj
   have hkl:k<(entsM 0 m).length:=by rw [entsM_length];exact hk
   rw [he,if_pos rfl,if_pos hkl]
   simp
  ·simp [hj]
 refine ⟨setBlock w B (.map (entsM 0 (m.set k (m[k].1,v))).toArray (m.set k (m[k].1,v)).length),?_,ChangeMaps.heap_setBlock_same h _,?_⟩
 ·rw [← hmod]
  simp [Instr.entryStore,MapKept.run_getObj_map h,asInt,asIntOf,hb,MapKept.run_setObj_map _ h,Result.andThen,setBlock]
 ·exact ⟨rfl,rfl,rfl,by simp [setBlock],fun k _ hk=>ChangeMaps.heap_setBlock_other h _ (fun e=>hk (by rw [e]))⟩
section
variable {ops:Array Oper} {rest:List Oper} {o:Oper} {a:Act} {Q:Exit→Act→World→Prop}
theorem wpList_lookup_tm (w:World) (hg:o.guard=none) (x y:Operand) (hop:o.op=Op.lookup 192 x y false) (B:Nat) (m:List Ent) (t:Tm) (hx:a.eval x= .map (some B)) (hat:MapAt w B m) (hy:a.eval y=tV t)
  (hK:wpList Tryz.prog ops Q rest (a.put o.dst (valM m t)) w):wpList Tryz.prog ops Q (o::rest) a w:=by
 refine wpList_plain hg fun K' hK'=> ?_
 unfold Oper.wp
 simp [execOp,hop,hx,hy,run_lookup_tm hat,Result.andThen]
 exact hK' _ _ hK
theorem wpList_entry_tm (w:World) (hg:o.guard=none) (x y:Operand) (hop:o.op=Op.mapEntry 192 x y) (B:Nat) (m:List Ent) (t:Tm) (hx:a.eval x= .map (some B)) (hat:MapAt w B m) (hy:a.eval y=tV t)
  (hK:∀ w',MapAt w' B (entM m t)→w.grownBy w' (some B)→wpList Tryz.prog ops Q rest (a.put o.dst (.tuple #[valM m t,.int .i64 (posM m t:Int)])) w'):wpList Tryz.prog ops Q (o::rest) a w:=by
 refine wpList_plain hg fun K' hK'=> ?_
 obtain ⟨w',hrun,r1,r2⟩:=run_entry_tm hat t
 unfold Oper.wp
 simp [execOp,hop,hx,hy,hrun,Result.andThen]
 exact hK' _ _ (hK w' r1 r2)
theorem wpList_stored_tm (w:World) (hg:o.guard=none) (x y z:Operand) (hop:o.op=Op.entryStore 192 x y z) (B:Nat) (m:List Ent) (k:Nat) (hk:k<m.length) (v:Value) (hx:a.eval x= .map (some B)) (hat:MapAt w B m) (hy:a.eval y= .int .i64 (k:Int)) (hz:a.eval z=v)
  (hK:∀ w',MapAt w' B (m.set k (m[k].1,v))→w.grownBy w' (some B)→wpList Tryz.prog ops Q rest (a.put o.dst undef) w'):wpList Tryz.prog ops Q (o::rest) a w:=by
 refine wpList_plain hg fun K' hK'=> ?_
 obtain ⟨w',hrun,r1,r2⟩:=run_stored_tm hat hk v
 unfold Oper.wp
 simp [execOp,hop,hx,hy,hz,hrun,Result.andThen]
 exact hK' _ _ (hK w' r1 r2)
end
end Go.Proofs.YtmoomnpbiifedaaGreat
