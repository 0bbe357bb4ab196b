import Derived.Test.YtldcadpemnpbmaaGreatDoorMLQ12
import Derived.Test.YtldcadpemnpbmaaGreatDoorMLQ13
import Derived.Test.YtldcadpemnpbmaaGreatDoorMLQ11
import Derived.RangeFuncNested
import Derived.RangeFuncBound
import Derived.RangeFuncCalls
import Derived.RangeFuncLeaves
import Derived.RangeFuncBox
import Derived.OwnWalkIn
import Derived.TacticsInMore
import Derived.LoopNIn
import Derived.LoopIn
import Derived.Maps.AppendAt
import Derived.Shelf.Abstract
import Derived.Shelf.RegionOpen
import Derived.Test.YtldcadpemnpbmaaGreatDoorMLQ01
import Derived.Test.YtldcadpemnpbmaaGreatDoorMLQ06
import Derived.Lib.SliceRun
set_option linter.unusedVariables false
namespace Go.Proofs.YtldcadpemnpbmaaGreatDoor
open Go Go.RowKit
set_option maxHeartbeats 4000000 in
set_option maxRecDepth 100000 in
theorem cur_Advance {fu:Prop × Nat} (C:Nat) (g:List Po) (i doc:Int) (w:World) (h:CAt fu C g i w):
  Calls Tryz.prog 277 #[.pointer (some ⟨C,0,none⟩),.int .i64 doc] w fun e w'=>e= .returned (.int .i64 (docC g (advC g doc i)))∧CAt fu C g (advC g doc i) w'∧OnlyAt C w w':=by
 obtain ⟨vb,ve,A,c,nx,bh,rd,rest,hblk,hl,hp,hc,hcx,hpo,hg⟩:=h
 have hnb:=hp.bd.2.2
 have hb1000:blocksP g.length≤1000:=by have :=hg.len;unfold blocksP;omega
 have hsub:IntKind.i64.wrap ((nx:Int)-1)=(nx:Int)-1:=IntWalk.i64_in _ (by omega)
 obtain ⟨⟨_,_,_,_,_,c5,_⟩,_⟩:=cell_eight hblk
 have HLA:Hid (∀ n,Calls Tryz.prog 299 #[.pointer (some ⟨C,0,none⟩),.int .i64 ((nx:Int)-1)] (w.drewN n) fun e w'=>e= .returned (.int .i64 (lastP g ((nx:Int)-1)))∧w'=w.drewN n):=Lib.hid fun n=>
  (in_Last C _ g (w.drewN n) ((hblk.lin hl).below ⟨rfl,rfl,rfl,Nat.le_refl _,fun _ _=>rfl⟩) (by have :=hg.len;omega) ((nx:Int)-1) (by omega)).mono fun e w' h=>⟨h.1,h.2.symm⟩
 have hdw:∀ n,Below w.heap.size w (w.drewN n):=fun n=>⟨rfl,rfl,rfl,Nat.le_refl _,fun _ _=>rfl⟩
 have HTU:Hid (lastP g ((nx:Int)-1)<doc→∀ n,Calls Tryz.prog 300 #[.pointer (some ⟨C,0,none⟩),.int .i64 doc] (w.drewN n) fun e w'=>(∃ v,e= .returned v)∧Turned06 fu C g doc i w w'):=Lib.hid fun hlt n=>
  (cur_turn C nx vb ve g A c bh rd rest doc i (w.drewN n) (hblk.only (OnlyIn.of_below (S:=fun _=>False) (hdw n)) (fun h=>h)) (hl.only (OnlyIn.of_below (S:=fun _=>False) (hdw n)) (fun D hD=>hD.elim)) hp hg hlt (Nat.le_trans hpo.1 (hdw n).size)).mono fun e w' h=>by
   obtain ⟨h1,i',vb,ve,A,c,nx,bh,rd,rest,k1,k2,k3,k4,k5,k6,k7,k8,k9,k10⟩:=h
   exact ⟨h1,i',vb,ve,A,c,nx,bh,rd,rest,k1,k2,k3,k4,k5,k6,k7,k8,k9,(OnlyIn.of_below (hdw n)).trans k10⟩
 have HSTAY:Hid (doc≤lastP g ((nx:Int)-1)→∀ n,Turned06 fu C g doc i w (w.drewN n)):=Lib.hid fun hlt n=>
  ⟨i,vb,ve,A,c,nx,bh,rd,rest,hblk.only (OnlyIn.of_below (S:=fun _=>False) (hdw n)) (fun h=>h),hl.only (OnlyIn.of_below (S:=fun _=>False) (hdw n)) (fun D hD=>hD.elim),hp,hc,hcx,
   hpo.only (OnlyIn.of_below (S:=fun _=>False) (hdw n)) (fun D hD=>hD.elim),rfl,(fun _=>by omega),(fun hr=>hp.stays (by omega) hr),OnlyIn.of_below (hdw n)⟩
 have HG:=Lib.hid hg
 obtain ⟨x,hx⟩:∃ x,x=lastP g ((nx:Int)-1):=⟨_,rfl⟩
 rw [← hx] at HLA HTU HSTAY
 clear hblk hl hp hc hcx hpo hg hdw hx
 go_enter Tryz.func277,Tryz.ntmps277
 go_wp2
 go_quiet ((go_at_call 299;exact Calls.quiet_of_same (HLA.out _)))
 clear c5
 go_upto_if 15 with fail
 go_cut [] from 15 to 18 (fun wx=>Turned06 fu C g doc i w wx)
 case first=>
  by_cases hlt:x<doc
  ·have hd:decide (x<doc)=true:=decide_eq_true hlt
   rw [hd]
   have HT:=Lib.hid (HTU.out hlt nq)
   clear hlt
   go_wp2_with (go_at_call 300;(with_reducible refine HT.out.mono ?_);rintro e w5 ⟨⟨v,rfl⟩,ht⟩)
   go_meet
   exact ht
  ·have hd:decide (x<doc)=false:=decide_eq_false hlt
   rw [hd]
   have HT:=Lib.hid (HSTAY.out (by omega) nq)
   clear hlt
   go_wp2_with fail
   go_meet
   exact HT.out
 case rest=>
  have HCU:=Lib.hid hcut
  clear hcut HTU HSTAY HLA
  go_wp2_with fail
  go_loopw [] (fun wr=>Turned06 fu C g doc i w wr) (fun wr=>restLen C wr)
  case atStart=>exact HCU.out
  case round=>
   obtain ⟨i',vb,ve,A,c,nx,bh,rd,rest,k1,k2,k3,k4,k5,k6,k7,k8,k9,k10⟩:=hrel
   obtain ⟨⟨_,_,_,_,d4,_⟩,e4,_⟩:=cell_eight k1
   cases rest with
   |nil=>
    have HD:=Lib.hid (cur_Doc C g i' wr ⟨vb,ve,A,c,nx,bh,rd,[],k1,k2,k3,k4,k5,k6,HG.out⟩)
    have HAT:Hid (CAt fu C g i' wr):=Lib.hid ⟨vb,ve,A,c,nx,bh,rd,[],k1,k2,k3,k4,k5,k6,HG.out⟩
    have HAD:=Lib.hid (k7.trans (k9 rfl))
    have HON:=Lib.hid k10
    simp only [List.length_nil] at d4
    clear k1 k2 k3 k4 k5 k6 k7 k8 k9 k10 e4
    go_wp2_with (go_at_call 301;(with_reducible refine HD.out.mono ?_);rintro e w5 ⟨rfl,rfl⟩)
    go_ret
    rw [HAD.out]
    exact ⟨rfl,HAT.out,HON.out⟩
   |cons p r=>
    obtain ⟨b,off,A2,c2,rfl,h1,_⟩:=k6.head
    have htl:=(k3.tells).2.2.2 p r rfl
    obtain ⟨y,hy⟩:∃ y,y=p.1:=⟨_,rfl⟩
    rw [← hy] at h1
    simp only [List.length_cons] at d4
    obtain ⟨n,hn⟩:∃ n,n=r.length:=⟨_,rfl⟩
    rw [← hn] at d4
    have hz:(0:Int)<(n:Int)+1:=by omega
    by_cases hlt:y<doc
    ·have hdl:decide (y<doc)=true:=decide_eq_true hlt
     have hnx:=k3.next (doc:=doc) (by rw [← hy];exact hlt) (k8 (by simp))
     have hr0:0<n:=by
      rw [hn]
      rcases Nat.eq_zero_or_pos r.length with h|h
      ·exact absurd (List.eq_nil_of_length_eq_zero h) hnx.2.1
      ·exact h
     simp only [List.length_cons] at k4
     have hc1:¬ c=1:=by omega
     have hz2:=k1.setRest (some ⟨b,off+2,none⟩) n (c-1)
     have ho2:OnlyAt C wr (wr.setCell ⟨C,4,none⟩ (.slice (some ⟨b,off+2,none⟩) n (c-1))):=(OnlyIn.of_below (Below.refl _ wr)).setCell _
     have hrl:restLen C wr=n+1:=by unfold restLen;rw [d4]
     have hrl2:restLen C (wr.setCell ⟨C,4,none⟩ (.slice (some ⟨b,off+2,none⟩) n (c-1)))=n:=by unfold restLen;rw [(cell_eight hz2).1.2.2.2.2.1]
     have HREL:Hid (Turned06 fu C g doc i w (wr.setCell ⟨C,4,none⟩ (.slice (some ⟨b,off+2,none⟩) n (c-1)))):=Lib.hid
      ⟨i'+1,vb,ve,some ⟨b,off+2,none⟩,c-1,nx,bh,rd,r,(by rw [← hn];exact hz2),k2.only ho2 k1.curs,hnx.1,by omega,by omega,k6.tail.only ho2 k1.curs,k7.trans hnx.2.2,(fun _=>k8 (by simp)),(fun h=>absurd h hnx.2.1),k10.trans ho2⟩
     have HRL:=Lib.hid hrl
     have HRL2:=Lib.hid hrl2
     have hnc:n+1≤c:=by omega
     clear k1 k2 k3 k4 k6 k7 k8 k9 k10 hlt hn hy htl hnx hz2 ho2 hrl hrl2
     go_wp2
     exact ⟨HREL.out,by rw [HRL.out,HRL2.out];omega⟩
    ·have hdl:decide (y<doc)=false:=decide_eq_false hlt
     have HD:=Lib.hid (cur_Doc C g i' wr ⟨vb,ve,_,c,nx,bh,rd,p::r,k1,k2,k3,k4,k5,k6,HG.out⟩)
     have HAT:Hid (CAt fu C g i' wr):=Lib.hid ⟨vb,ve,_,c,nx,bh,rd,p::r,k1,k2,k3,k4,k5,k6,HG.out⟩
     have HAD:Hid (advC g doc i=i'):=Lib.hid (k7.trans (advC_stay (by rw [htl.2.1,← hy];omega)))
     have HON:=Lib.hid k10
     clear k1 k2 k3 k4 k5 k6 k7 k8 k9 k10 e4 hlt hn hy htl
     go_wp2_with (go_at_call 301;(with_reducible refine HD.out.mono ?_);rintro e w5 ⟨rfl,rfl⟩)
     go_ret
     rw [HAD.out]
     exact ⟨rfl,HAT.out,HON.out⟩
end Go.Proofs.YtldcadpemnpbmaaGreatDoor
set_option linter.unusedVariables false
namespace Go.Proofs.YtldcadpemnpbmaaGreatDoor
open Go Go.RowKit
structure MeetInv (gs:List (List Po)) (s d:Int) (is:Nat→Int):Prop where
 lo:s≤d
 hi:d≤2147483648
 pass:∀ j (h:j<gs.length),PassC gs[j] (is j) d
 none:∀ x,s≤x→x<d→¬ AllC gs x
def OutM (p:Prop × Nat) (Cs:List Nat) (gs:List (List Po)) (s:Int) (w:World) (v1 v5:Value) (wr:World):Prop:=
 ∃ (is:Nat→Int) (d:Int) (b:Bool),v1= .int .i64 d∧v5= .bool b∧CursAt p Cs gs is wr∧MeetInv gs s d is∧(b=false→∀ j (h:j<gs.length),docC gs[j] (is j)=d∧0≤is j)∧OnlyIn (fun k=>k∈Cs) w wr
def InM (p:Prop × Nat) (Cs:List Nat) (gs:List (List Po)) (s d0:Int) (w:World) (v1 v5 vi:Value) (wr:World):Prop:=
 ∃ (is:Nat→Int) (d:Int) (b:Bool) (k:Nat),k≤Cs.length∧v1= .int .i64 d∧v5= .bool b∧vi= .int .i64 (k:Int)∧CursAt p Cs gs is wr∧MeetInv gs s d is∧(b=false→d=d0∧∀ j (h:j<gs.length),j<k→docC gs[j] (is j)=d∧0≤is j)∧(b=true→d0<d)∧OnlyIn (fun k=>k∈Cs) w wr
def boolOf (v:Value):Nat:=match v with| .bool true=>1|_=>0
def MetAt (p:Prop × Nat) (Cs:List Nat) (gs:List (List Po)) (s d:Int) (w:World):Prop:=
 ∃ is,CursAt p Cs gs is w∧MeetInv gs s d is∧∀ j (h:j<gs.length),docC gs[j] (is j)=d∧0≤is j
set_option maxHeartbeats 8000000 in
set_option maxRecDepth 100000 in
theorem match_meet {p:Prop × Nat} (A:Option Addr) (n c:Nat) (Cs:List Nat) (gs:List (List Po)) (is0:Nat→Int) (s:Int) (w:World) (hrow:RowT6 247 w A (ptrsC Cs)) (hn:Cs.length=n) (hcur:CursAt p Cs gs is0 w)
  (hpass:∀ j (h:j<gs.length),PassC gs[j] (is0 j) s) (hs0:0≤s) (hs1:s≤2147483648) (hm:n≤1048576):
  Calls Tryz.prog 236 #[.slice A n c,.int .i64 s] w fun e w'=>∃ d,e= .returned (.int .i64 d)∧MetAt p Cs gs s d w'∧OnlyIn (fun k=>k∈Cs) w w':=by
 have HREL:Hid (OutM p Cs gs s w (.int .i64 s) (.bool true) w):=Lib.hid ⟨is0,s,true,rfl,rfl,hcur,⟨Int.le_refl _,hs1,hpass,fun x h1 h2=>by omega⟩,(fun h=>by cases h),OnlyIn.of_below (Below.refl _ _)⟩
 have HROW:=Lib.hid hrow
 have HN:=Lib.hid hn
 have HBLK:=Lib.hid hcur.block
 have HG:Hid (∀ j (h:j<gs.length),GoodG gs[j]):=Lib.hid fun j h=>(hcur.at_ j (by rw [hcur.len];exact h) h).good
 have HLEN:=Lib.hid hcur.len
 clear hrow hn hcur hpass
 go_enter Tryz.func236,Tryz.ntmps236
 go_wp2
 go_loopw [1,5] (OutM p Cs gs s w) (fun v1 v5 _=>(2147483648-intOf v1).toNat*2+boolOf v5)
 case atStart=>exact HREL.out
 case round=>
  obtain ⟨wq,hwq⟩:∃ wq,wq=wr:=⟨_,rfl⟩
  subst hwq
  obtain ⟨is,d,b,rfl,rfl,hcur,hinv,hst,hon⟩:=hrel
  have hd:=And.intro hinv.lo hinv.hi
  obtain ⟨hd1,hd2⟩:=hd
  cases b with
  |false=>
   have HFIN:Hid (MetAt p Cs gs s d wq):=Lib.hid ⟨is,hcur,hinv,hst rfl⟩
   clear hcur hinv hst
   go_wp2
   go_ret
   exact ⟨d,rfl,HFIN.out,hon⟩
  |true=>
   have HIN:Hid (InM p Cs gs s d w (.int .i64 d) (.bool false) (.int .i64 ((0:Nat):Int)) wq):=Lib.hid ⟨is,d,false,0,Nat.zero_le _,rfl,rfl,rfl,hcur,hinv,(fun _=>⟨rfl,fun j h hj=>by omega⟩),(fun h=>by cases h),hon⟩
   clear hcur hinv hst hon
   go_wp2
   go_loopw [1,5,12] (InM p Cs gs s d w) (fun _ _ i _=>n-(intOf i).toNat)
   case atStart=>exact HIN.out
   case round=>
    obtain ⟨is2,d',b,k,hk,rfl,rfl,rfl,hcur,hinv,hst,hbt,hon⟩:=hrel
    rw [HN.out] at hk
    by_cases hlt:k<n
    ·have hkC:k<Cs.length:=by rw [HN.out];exact hlt
     have hkg:k<gs.length:=by rw [← HLEN.out];exact hkC
     obtain ⟨b1,o1,rfl,hc1⟩:=ptrC_at (ptrC_only HROW.out hon HBLK.out) hkC
     have hat:=hcur.at_ k hkC hkg
     have hgm:=(HG.out k hkg).may
     have hpk:=hinv.pass k hkg
     have hd'0:0≤d':=by have :=hinv.lo;omega
     obtain ⟨a1,a2,a3⟩:=adv_pass hgm hd'0 hinv.hi _ rfl hpk
     have htop:docC gs[k] (advC gs[k] d' (is2 k))≤2147483648:=docC_top hgm (by omega)
     have HADV:=Lib.hid (cur_Advance Cs[k] gs[k] (is2 k) d' wr hat)
     have HMV:Hid (∀ w',CAt p Cs[k] gs[k] (advC gs[k] d' (is2 k)) w'→OnlyAt Cs[k] wr w'→CursAt p Cs gs (fun j=>if j=k then advC gs[k] d' (is2 k) else is2 j) w'∧OnlyIn (fun k=>k∈Cs) w w'):=Lib.hid fun w' h1 h2=>⟨hcur.moved hkC hkg h1 h2,hon.trans ⟨h2.os,h2.tape,h2.output,h2.size,fun q hq hn=>h2.block q hq (fun e=>hn (by rw [e];exact List.getElem_mem hkC))⟩⟩
     have hnone:=fun x h1 h2=>pass_none hgm a1 a3 (d:=x) h1 h2
     obtain ⟨i',hi'⟩:∃ i',i'=advC gs[k] d' (is2 k):=⟨_,rfl⟩
     rw [← hi'] at a1 a2 a3 htop HADV HMV hnone
     have hin0:∀ x,(d'≤x∧x<docC gs[k] i')→¬ AllC gs x:=fun x hx hall=>hnone x hx.1 hx.2 (hall _ (List.getElem_mem hkg))
     obtain ⟨at',hat'⟩:∃ a,a=docC gs[k] i':=⟨_,rfl⟩
     have hpa:∀ q,d'≤q→∀ j (h:j<gs.length),PassC gs[j] (if j=k then i' else is2 j) q:=fun q hq j h=>by
      by_cases e:j=k
      ·subst e
       simp only [if_true]
       exact pass_more a1 hq
      ·simp only [if_neg e]
       exact pass_more (hinv.pass j h) hq
     have HST:Hid (at'=d'→b=false→d'=d∧∀ j (h:j<gs.length),j<k+1→docC gs[j] (if j=k then i' else is2 j)=d'∧0≤(if j=k then i' else is2 j)):=Lib.hid fun he hb=>by
      obtain ⟨h1,h2⟩:=hst hb
      refine ⟨h1,fun j hj hjk=> ?_⟩
      by_cases e:j=k
      ·subst e
       simp only [if_true]
       exact ⟨by rw [← hat'];exact he,a3⟩
      ·simp only [if_neg e]
       exact h2 j hj (by omega)
     have hdd:d≤d':=by
      cases b with
      |false=>rw [(hst rfl).1];exact Int.le_refl _
      |true=>exact Int.le_of_lt (hbt rfl)
     rw [← hat'] at a2 htop HADV hin0
     have HINV:Hid (MeetInv gs s at' (fun j=>if j=k then i' else is2 j)):=Lib.hid ⟨by have :=hinv.lo;omega,htop,hpa at' a2,fun x h1 h2=>by
      by_cases hx:x<d'
      ·exact hinv.none x h1 hx
      ·exact hin0 x ⟨by omega,h2⟩⟩
     have HBT:=Lib.hid hbt
     have hlt2:(k:Int)<(n:Int):=by omega
     obtain ⟨C,hC⟩:∃ C,C=Cs[k]:=⟨_,rfl⟩
     rw [← hC] at hc1 HADV HMV
     obtain ⟨g,hg⟩:∃ g,g=gs[k]:=⟨_,rfl⟩
     rw [← hg] at HADV HMV
     have hk1:k+1≤Cs.length:=by omega
     have HK1:=Lib.hid hk1
     clear hkC hkg hcur hinv hst hbt hon hat hgm hpk a1 a3 hpa hin0 hnone hi' hat' hC hg hk1
     by_cases hgt:d'<at'
     ·have e1:decide (at'>d')=true:=decide_eq_true hgt
      have e2:decide (d'<at')=true:=decide_eq_true hgt
      go_wp2_with (go_at_call 277;refine HADV.out.mono ?_;rintro e w2 ⟨rfl,hc2,ho2⟩)
      obtain ⟨m1,m2⟩:=HMV.out w2 hc2 ho2
      go_roundw
      case rel=>exact ⟨_,at',true,k+1,HK1.out,rfl,rfl,by go_num,m1,HINV.out,(fun h=>by cases h),(fun _=>by omega),m2⟩
      case measure=>simp [intOf];omega
     ·obtain rfl:at'=d':=by omega
      have e1:decide (at'>at')=false:=decide_eq_false (by omega)
      have e2:decide (at'<at')=false:=decide_eq_false (by omega)
      clear hgt
      go_wp2_with (go_at_call 277;refine HADV.out.mono ?_;rintro e w2 ⟨rfl,hc2,ho2⟩)
      obtain ⟨m1,m2⟩:=HMV.out w2 hc2 ho2
      go_roundw
      case rel=>exact ⟨_,at',b,k+1,HK1.out,rfl,rfl,by go_num,m1,HINV.out,HST.out (by first|trivial|rfl),HBT.out,m2⟩
      case measure=>simp [intOf];omega
    ·have hkn:k=n:=by omega
     have HO:Hid (OutM p Cs gs s w (.int .i64 d') (.bool b) wr):=Lib.hid ⟨is2,d',b,rfl,rfl,hcur,hinv,(fun hb j h=>(hst hb).2 j h (by rw [hkn,← HN.out,HLEN.out];exact h)),hon⟩
     have hms:(2147483648-d').toNat*2+boolOf (.bool b)<(2147483648-d).toNat*2+1:=by
      have h1:=hinv.hi
      cases b with
      |false=>rw [(hst rfl).1];simp [boolOf]
      |true=>have :=hbt rfl;simp [boolOf];omega
     have HMS:=Lib.hid hms
     clear hcur hinv hst hbt hon hms
     go_wp2
     go_roundw
     case rel=>exact HO.out
     case measure=>simpa [intOf,boolOf] using HMS.out
end Go.Proofs.YtldcadpemnpbmaaGreatDoor
set_option linter.unusedVariables false
namespace Go.Proofs.YtldcadpemnpbmaaGreatDoor
open Go Go.RowKit
def Told {α:Type} (n:Nat) (P:Program) (g:Nat) (lb:Array Value) (encs:α→Array Value) (Kp:World→World→Prop) (Ok:List α→α→World→Prop) (S:List α→Prop) (w:World):Prop:=
 ∀ (l:Nat) (J:List α→World→Prop) (W:World),Below w.heap.size w W→(∀ s A B,J s A→Below A.heap.size A B→J s B)→
  (∀ pre x W1,J pre W1→Ok pre x W1→YieldAt Fence.wide (n-1) P l (encs x) W1 fun e W'=>e= .returned (.bool true)∧J (pre++[x]) W'∧Kp W1 W')→
  J [] W→CallsIn Fence.wide n P g (#[.func (.yield l) #[] #[]]++lb) W fun e W'=>(∃ v,e= .returned v)∧∃ xs,S xs∧J xs W'
def Firm (B:Nat) (p:World→Prop):Prop:=∀ W l (o o':Obj),B≤l→W.heap[l]?=some o→o.isCells=false→p W→p (W.putObj l o')
variable {n:Nat} {P:Program}
theorem wpIn_range_told {α:Type} {g:Operand} {ps:Array Tmp} {assign body:Code} {Q:Exit→Act→World→Prop} {a:Act} {w:World} (h1:1≤n) {gf:Nat} {lb:Array Value} (hg:a.eval g= .func (.func gf) #[] lb)
  (eg:∀ args w,(callFunc gf args).run P w= .ok (.enter gf args) w) {encs:α→Array Value} {Kp:World→World→Prop} {Ok:List α→α→World→Prop} {S:List α→Prop} (hseq:Told (n-1) P gf lb encs Kp Ok S w)
  (hKt:∀ {A B C:World},Kp A B→Kp B C→Kp A C) (hKp:∀ (W:World) (l:Nat) (o o':Obj),w.heap.size≤l→W.heap[l]?=some o→o.isCells=false→Kp W (W.putObj l o')) (hps:∀ x,(encs x).size=ps.size)
  (I:List α→World→Prop) (hIb:∀ s A B,I s A→Below A.heap.size A B→I s B) (hIp:∀ s,Firm w.heap.size (I s)) (hOk:∀ s x,Firm w.heap.size (Ok s x)) (h0:I [] w) (a₁:α→Act)
  (hassign:∀ (l:Nat) (x:α) (W:World) (K:Act→World→Prop),K (a₁ x) W→assign.wpIn (Fence.wide.inRound l) (n-1-1) P (Exit.then K (fun _ _ _=>False)) {tmps:=(ps.zip (encs x)).foldl (fun t (p,v)=>t.setIfInBounds p v) a.tmps,defers:=[]} W)
  (hbody:∀ (l:Nat) (pre:List α) (x:α) (W:World),I pre W→Ok pre x W→body.wpIn (Fence.wide.inRound l) (n-1-1) P (ownPostK Kp I (fun _ _ _=>False) (pre++[x]) W) (a₁ x) W)
  (hdone:∀ (D:Nat) (xs:List α) (W:World),w.heap.size≤D→S xs→I xs W→W.heap[D]?=some (.deferred (some []))→Q .normal {a with defers:={target:= .collected D,args:=#[]}::a.defers} W):
  (Code.rangeFunc g ps assign body).wpIn Fence.wide n P Q a w:=by
 refine wpIn_rangeFunc fun fn hfn=> ?_
 have enter:=run_enterLoop_outer (P:=P) (w:=w) fn a.tmps ps assign body
 obtain ⟨D,hD⟩:∃ D,D=w.heap.size:=⟨_,rfl⟩
 obtain ⟨st,hst⟩:∃ st:LoopState→Loop,st=fun s=>{state:=s,pending:=none,fn:=fn,tmps:=a.tmps,params:=ps,assign:=assign,body:=body,defers:=w.heap.size}:=⟨_,rfl⟩
 obtain ⟨V,hV⟩:∃ V,V=(w.alloc (.deferred (some []))).alloc (.loop (st .ready)):=⟨_,rfl⟩
 have enter':(Instr.enterLoop fn a.tmps ps assign body Fence.wide.round).run P w= .ok (D+1,[{target:= .collected D,args:=#[]}]) V:=by rw [hV,hst,hD];exact enter
 have bel:Below w.heap.size w V:=by rw [hV];exact ((Below.refl _ w).alloc (Nat.le_refl _) _).alloc (by simp) _
 have hdV:V.heap[D]?=some (.deferred (some [])):=by rw [hV,hD];exact (Below.heap_alloc _ _ _ (by simp)).trans (World.alloc_heap_new w _)
 have hlV:V.heap[D+1]?=some (.loop (st .ready)):=by
  have :=World.alloc_heap_new (w.alloc (.deferred (some []))) (.loop (st .ready))
  rwa [World.size_alloc,← hV,← hD] at this
 have stay:∀ (s:List α) (A B:World),(I s A∧A.heap[D+1]?=some (.loop (st .ready))∧A.heap[D]?=some (.deferred (some [])))→Below A.heap.size A B→(I s B∧B.heap[D+1]?=some (.loop (st .ready))∧B.heap[D]?=some (.deferred (some []))):=by
  rintro s A B ⟨i1,i2,i3⟩ hb
  exact ⟨hIb s A B i1 hb,(hb.block _ (Array.getElem?_eq_some_iff.1 i2).1).trans i2,(hb.block _ (Array.getElem?_eq_some_iff.1 i3).1).trans i3⟩
 have round:∀ (pre:List α) (x:α) (A:World),(I pre A∧A.heap[D+1]?=some (.loop (st .ready))∧A.heap[D]?=some (.deferred (some [])))→Ok pre x A→
   YieldAt Fence.wide (n-1-1) P (D+1) (encs x) A fun e B=>e= .returned (.bool true)∧(I (pre++[x]) B∧B.heap[D+1]?=some (.loop (st .ready))∧B.heap[D]?=some (.deferred (some [])))∧Kp A B:=by
  rintro pre x A ⟨i1,i2,i3⟩ hx
  have hl:D+1<A.heap.size:=(Array.getElem?_eq_some_iff.1 i2).1
  have y:=run_yield (P:=P) (args:=encs x) i2 (by rw [hst];exact hps x)
  have beg:=run_beginRound (P:=P) i2 (by rw [hst])
  rw [hst] at y
  refine ⟨fn,_,assign,body,y,roundIn_of_wpIn hfn (hassign _ x A _ ⟨_,beg,?_⟩)⟩
  obtain ⟨A1,hA1⟩:∃ A1,A1=A.putObj (D+1) (.loop {st .ready with state:= .busy}):=⟨_,rfl⟩
  rw [← hA1]
  have l1:A1.heap[D+1]?=some (.loop {st .ready with state:= .busy}):=by rw [hA1];exact World.putObj_heap_same hl
  have d1:A1.heap[D]?=some (.deferred (some [])):=by rw [hA1];exact (World.putObj_heap_other (by omega)).trans i3
  have k1:Kp A A1:=by rw [hA1];exact hKp A _ _ _ (by omega) i2 rfl
  have b1:=hbody (D+1) pre x A1 (by rw [hA1];exact hIp pre A _ _ _ (by omega) i2 rfl i1) (by rw [hA1];exact hOk pre x A _ _ _ (by omega) i2 rfl hx)
  refine wpIn_mono b1 ?_
  rintro ex a2 A2 hp
  cases ex with
  |normal=>
   obtain ⟨ko,k2,i4⟩:=hp
   have l2:=ko.same _ _ l1 rfl
   have d2:=ko.same _ _ d1 rfl
   have fin:=run_endRound (P:=P) none l2
   have hl2:D+1<A2.heap.size:=(Array.getElem?_eq_some_iff.1 l2).1
   refine ⟨_,_,fin,rfl,⟨hIp _ A2 _ _ _ (by omega) l2 rfl i4,?_,(World.putObj_heap_other (by omega)).trans d2⟩,hKt (hKt k1 k2) (hKp A2 _ _ _ (by omega) l2 rfl)⟩
   rw [World.putObj_heap_same hl2,hst]
   rfl
  |ret=>exact hp.2.elim
  |exit id=>exact hp.2.elim
  |goto t=>exact hp.2.elim
  |panic c=>exact hp.elim
  |outgrown=>exact hp.elim
 refine ⟨D+1,_,V,{target:= .fn (.func gf) lb,args:=#[.func (.yield (D+1)) #[] #[]]},V,gf,#[.func (.yield (D+1)) #[] #[]]++lb,V,enter',?_,?_,?_,fun _=>h1,?_⟩
 ·simp only [resolve,hg]
  simp [go_sem]
 ·intro f' _
  trivial
 ·simp [invoke,go_sem,eg]
 ·refine (hseq (D+1) _ V bel stay round ⟨hIb [] w V h0 bel,hlV,hdV⟩).mono ?_
  rintro e A ⟨⟨v,rfl⟩,xs,hS,i1,i2,i3⟩
  have fin:=run_endLoop (P:=P) i2 (by rw [hst];simp)
  rw [hst] at fin
  refine ⟨none,_,fin,hdone D xs _ (by omega) hS (hIp xs A _ _ _ (by omega) i2 rfl i1) ((World.putObj_heap_other (by omega)).trans i3)⟩
end Go.Proofs.YtldcadpemnpbmaaGreatDoor
set_option linter.unusedVariables false
namespace Go.Proofs.YtldcadpemnpbmaaGreatDoor
open Go Go.RowKit
def Tells {α:Type} (n:Nat) (P:Program) (g:Nat) (lb:Array Value) (encs:α→Array Value) (Mv Kp:World→World→Prop) (Ok:List α→α→World→Prop) (S Sp:List α→Prop) (w:World):Prop:=
 ∀ (l:Nat) (J X:List α→World→Prop) (W:World),Below w.heap.size w W→(∀ s A B,J s A→Mv A B→J s B)→
  (∀ pre x W1,J pre W1→Ok pre x W1→YieldAt Fence.wide (n-1) P l (encs x) W1 fun e W'=>(e= .returned (.bool true)∧J (pre++[x]) W'∧Kp W1 W')∨(e= .returned (.bool false)∧X (pre++[x]) W'))→
  J [] W→CallsIn Fence.wide n P g (#[.func (.yield l) #[] #[]]++lb) W fun e W'=>(∃ v,e= .returned v)∧((∃ xs,S xs∧J xs W')∨∃ xs,Sp xs∧X xs W')
variable {n:Nat} {P:Program}
theorem wpIn_range_tells {α:Type} {g:Operand} {ps:Array Tmp} {assign body:Code} {Q:Exit→Act→World→Prop} {a:Act} {w:World} (h1:1≤n) {gf:Nat} {lb:Array Value} (hg:a.eval g= .func (.func gf) #[] lb)
  (eg:∀ args w,(callFunc gf args).run P w= .ok (.enter gf args) w) {encs:α→Array Value} {Mv Kp:World→World→Prop} {Ok:List α→α→World→Prop} {S Sp:List α→Prop} (hseq:Tells (n-1) P gf lb encs Mv Kp Ok S Sp w)
  (hMb:∀ {A B:World},Below A.heap.size A B→Mv A B) (hMk:∀ {A B:World} {k:Nat} {o:Obj},w.heap.size≤k→Mv A B→A.heap[k]?=some o→o.isCells=false→B.heap[k]?=some o)
  (hKt:∀ {A B C:World},Kp A B→Kp B C→Kp A C) (hKp:∀ (W:World) (l:Nat) (o o':Obj),w.heap.size≤l→W.heap[l]?=some o→o.isCells=false→Kp W (W.putObj l o')) (hps:∀ x,(encs x).size=ps.size)
  (I:List α→World→Prop) (Ix:Code→List α→World→Prop) (hIb:∀ s A B,I s A→Mv A B→I s B) (hIp:∀ s,Firm w.heap.size (I s)) (hIxp:∀ c s,Firm w.heap.size (Ix c s)) (hOk:∀ s x,Firm w.heap.size (Ok s x)) (h0:I [] w) (a₁:α→Act)
  (hassign:∀ (l:Nat) (x:α) (W:World) (K:Act→World→Prop),K (a₁ x) W→assign.wpIn (Fence.wide.inRound l) (n-1-1) P (Exit.then K (fun _ _ _=>False)) {tmps:=(ps.zip (encs x)).foldl (fun t (p,v)=>t.setIfInBounds p v) a.tmps,defers:=[]} W)
  (hbody:∀ (l:Nat) (pre:List α) (x:α) (W:World),I pre W→Ok pre x W→body.wpIn (Fence.wide.inRound l) (n-1-1) P (ownPostK Kp I Ix (pre++[x]) W) (a₁ x) W)
  (hdone:∀ (D:Nat) (xs:List α) (W:World),w.heap.size≤D→S xs→I xs W→W.heap[D]?=some (.deferred (some []))→Q .normal {a with defers:={target:= .collected D,args:=#[]}::a.defers} W)
  (hstop:∀ (D:Nat) (c:Code) (xs:List α) (W:World),w.heap.size≤D→Sp xs→Ix c xs W→W.heap[D]?=some (.deferred (some []))→c.wpIn Fence.wide n P Q {a with defers:={target:= .collected D,args:=#[]}::a.defers} W):
  (Code.rangeFunc g ps assign body).wpIn Fence.wide n P Q a w:=by
 refine wpIn_rangeFunc fun fn hfn=> ?_
 have enter:=run_enterLoop_outer (P:=P) (w:=w) fn a.tmps ps assign body
 obtain ⟨D,hD⟩:∃ D,D=w.heap.size:=⟨_,rfl⟩
 obtain ⟨st,hst⟩:∃ st:LoopState→Option Code→Loop,st=fun s p=>{state:=s,pending:=p,fn:=fn,tmps:=a.tmps,params:=ps,assign:=assign,body:=body,defers:=w.heap.size}:=⟨_,rfl⟩
 obtain ⟨V,hV⟩:∃ V,V=(w.alloc (.deferred (some []))).alloc (.loop (st .ready none)):=⟨_,rfl⟩
 have enter':(Instr.enterLoop fn a.tmps ps assign body Fence.wide.round).run P w= .ok (D+1,[{target:= .collected D,args:=#[]}]) V:=by rw [hV,hst,hD];exact enter
 have bel:Below w.heap.size w V:=by rw [hV];exact ((Below.refl _ w).alloc (Nat.le_refl _) _).alloc (by simp) _
 have hdV:V.heap[D]?=some (.deferred (some [])):=by rw [hV,hD];exact (Below.heap_alloc _ _ _ (by simp)).trans (World.alloc_heap_new w _)
 have hlV:V.heap[D+1]?=some (.loop (st .ready none)):=by
  have :=World.alloc_heap_new (w.alloc (.deferred (some []))) (.loop (st .ready none))
  rwa [World.size_alloc,← hV,← hD] at this
 have stay:∀ (s:List α) (A B:World),(I s A∧A.heap[D+1]?=some (.loop (st .ready none))∧A.heap[D]?=some (.deferred (some [])))→Mv A B→(I s B∧B.heap[D+1]?=some (.loop (st .ready none))∧B.heap[D]?=some (.deferred (some []))):=by
  rintro s A B ⟨i1,i2,i3⟩ hb
  exact ⟨hIb s A B i1 hb,hMk (by omega) hb i2 rfl,hMk (by omega) hb i3 rfl⟩
 have round:∀ (pre:List α) (x:α) (A:World),(I pre A∧A.heap[D+1]?=some (.loop (st .ready none))∧A.heap[D]?=some (.deferred (some [])))→Ok pre x A→
   YieldAt Fence.wide (n-1-1) P (D+1) (encs x) A fun e B=>(e= .returned (.bool true)∧(I (pre++[x]) B∧B.heap[D+1]?=some (.loop (st .ready none))∧B.heap[D]?=some (.deferred (some [])))∧Kp A B)∨
    (e= .returned (.bool false)∧∃ c,Ix c (pre++[x]) B∧B.heap[D+1]?=some (.loop (st .done (some c)))∧B.heap[D]?=some (.deferred (some []))):=by
  rintro pre x A ⟨i1,i2,i3⟩ hx
  have hl:D+1<A.heap.size:=(Array.getElem?_eq_some_iff.1 i2).1
  have y:=run_yield (P:=P) (args:=encs x) i2 (by rw [hst];exact hps x)
  have beg:=run_beginRound (P:=P) i2 (by rw [hst])
  rw [hst] at y
  refine ⟨fn,_,assign,body,y,roundIn_of_wpIn hfn (hassign _ x A _ ⟨_,beg,?_⟩)⟩
  obtain ⟨A1,hA1⟩:∃ A1,A1=A.putObj (D+1) (.loop {st .ready none with state:= .busy}):=⟨_,rfl⟩
  rw [← hA1]
  have l1:A1.heap[D+1]?=some (.loop {st .ready none with state:= .busy}):=by rw [hA1];exact World.putObj_heap_same hl
  have d1:A1.heap[D]?=some (.deferred (some [])):=by rw [hA1];exact (World.putObj_heap_other (by omega)).trans i3
  have k1:Kp A A1:=by rw [hA1];exact hKp A _ _ _ (by omega) i2 rfl
  have b1:=hbody (D+1) pre x A1 (by rw [hA1];exact hIp pre A _ _ _ (by omega) i2 rfl i1) (by rw [hA1];exact hOk pre x A _ _ _ (by omega) i2 rfl hx)
  have fin:∀ (jump:Option Code) (A2:World),KeepsOthers A1 A2→
    (Instr.endRound (D+1) jump).run P A2= .ok (.bool jump.isNone) (A2.putObj (D+1) (.loop (st (if jump.isNone then .ready else .done) jump)))∧A2.heap[D+1]?=some (.loop {st .ready none with state:= .busy})∧
    (A2.putObj (D+1) (.loop (st (if jump.isNone then .ready else .done) jump))).heap[D+1]?=some (.loop (st (if jump.isNone then .ready else .done) jump))∧
    (A2.putObj (D+1) (.loop (st (if jump.isNone then .ready else .done) jump))).heap[D]?=some (.deferred (some [])):=fun jump A2 ko=>by
   have l2:=ko.same _ _ l1 rfl
   have hr:=run_endRound (P:=P) jump l2
   rw [hst] at hr ⊢
   exact ⟨hr,by rw [hst] at l2;exact l2,World.putObj_heap_same (Array.getElem?_eq_some_iff.1 l2).1,(World.putObj_heap_other (by omega)).trans (ko.same _ _ d1 rfl)⟩
  refine wpIn_mono b1 ?_
  rintro ex a2 A2 hp
  cases ex with
  |normal=>
   obtain ⟨ko,k2,i4⟩:=hp
   obtain ⟨hr,l2,l3,d3⟩:=fin none A2 ko
   exact ⟨_,_,hr,.inl ⟨rfl,⟨hIp _ A2 _ _ _ (by omega) l2 rfl i4,l3,d3⟩,hKt (hKt k1 k2) (hKp A2 _ _ _ (by omega) l2 rfl)⟩⟩
  |ret=>
   obtain ⟨ko,i4⟩:=hp
   obtain ⟨hr,l2,l3,d3⟩:=fin (some .ret) A2 ko
   exact ⟨_,_,hr,.inr ⟨rfl,.ret,hIxp _ _ A2 _ _ _ (by omega) l2 rfl i4,l3,d3⟩⟩
  |exit id=>
   obtain ⟨ko,i4⟩:=hp
   obtain ⟨hr,l2,l3,d3⟩:=fin (some (.exit id)) A2 ko
   exact ⟨_,_,hr,.inr ⟨rfl,.exit id,hIxp _ _ A2 _ _ _ (by omega) l2 rfl i4,l3,d3⟩⟩
  |goto t=>
   obtain ⟨ko,i4⟩:=hp
   obtain ⟨hr,l2,l3,d3⟩:=fin (some (.goto t)) A2 ko
   exact ⟨_,_,hr,.inr ⟨rfl,.goto t,hIxp _ _ A2 _ _ _ (by omega) l2 rfl i4,l3,d3⟩⟩
  |panic c=>exact hp.elim
  |outgrown=>exact hp.elim
 refine ⟨D+1,_,V,{target:= .fn (.func gf) lb,args:=#[.func (.yield (D+1)) #[] #[]]},V,gf,#[.func (.yield (D+1)) #[] #[]]++lb,V,enter',?_,?_,?_,fun _=>h1,?_⟩
 ·simp only [resolve,hg]
  simp [go_sem]
 ·intro f' _
  trivial
 ·simp [invoke,go_sem,eg]
 ·refine (hseq (D+1) _ (fun xs B=>∃ c,Ix c xs B∧B.heap[D+1]?=some (.loop (st .done (some c)))∧B.heap[D]?=some (.deferred (some []))) V bel stay round ⟨hIb [] w V h0 (hMb bel),hlV,hdV⟩).mono ?_
  rintro e A ⟨⟨v,rfl⟩,(⟨xs,hS,i1,i2,i3⟩|⟨xs,hS,c,i1,i2,i3⟩)⟩
  ·have fin:=run_endLoop (P:=P) i2 (by rw [hst];simp)
   rw [hst] at fin
   exact ⟨none,_,fin,hdone D xs _ (by omega) hS (hIp xs A _ _ _ (by omega) i2 rfl i1) ((World.putObj_heap_other (by omega)).trans i3)⟩
  ·have fin:=run_endLoop (P:=P) i2 (by rw [hst];simp)
   rw [hst] at fin
   exact ⟨some c,_,fin,hstop D c xs _ (by omega) hS (hIxp c xs A _ _ _ (by omega) i2 rfl i1) ((World.putObj_heap_other (by omega)).trans i3)⟩
end Go.Proofs.YtldcadpemnpbmaaGreatDoor
set_option linter.unusedVariables false
namespace Go.Proofs.YtldcadpemnpbmaaGreatDoor
open Go Go.RowKit
theorem Firm.block {N k:Nat} (hk:k<N) (o:Obj):Firm N (fun W=>W.heap[k]?=some o):=fun W l u u' hl _ _ h=>(World.putObj_heap_other (by omega)).trans h
theorem Firm.belowW {N n0:Nat} {w0:World} (hN:n0≤N):Firm N (fun W=>Below n0 w0 W):=fun W l o o' hl ho _ h=>
 h.trans ((Below.refl n0 W).grown (grownBy_putObj' W l o') (by have :=(Array.getElem?_eq_some_iff.1 ho).1;omega) (fun k e=>by cases e;omega))
theorem Firm.and {N:Nat} {p q:World→Prop} (h:Firm N p) (k:Firm N q):Firm N (fun W=>p W∧q W):=fun W l o o' hl ho hc hp=>⟨h W l o o' hl ho hc hp.1,k W l o o' hl ho hc hp.2⟩
theorem Firm.pure {N:Nat} {p:Prop}:Firm N (fun _=>p):=fun _ _ _ _ _ _ _ h=>h
end Go.Proofs.YtldcadpemnpbmaaGreatDoor
set_option linter.unusedVariables false
namespace Go.Proofs.YtldcadpemnpbmaaGreatDoor
open Go Go.RowKit
attribute [local go_sem] Oper.semAt_some
theorem match_common (A:Option Addr) (n c:Nat) (w:World):
  Calls Tryz.prog 183 #[.slice A n c] w fun e w'=>e= .returned (.func (.func 235) #[] #[.pointer (some ⟨w.heap.size,0,none⟩)])∧
   w'.heap[w.heap.size]?=some (.cells #[.slice A n c] 246 (0,0))∧Below w.heap.size w w'∧w'.heap.size=w.heap.size+1:=by
 go_enter Tryz.func183,Tryz.ntmps183
 go_wp2
 go_ret
 exact ⟨rfl,heap_alloc_new w _,(Below.refl _ w).alloc (Nat.le_refl _) _,by simp⟩
def XC (Cs:List Nat) (D:Nat) (A:Option Addr) (k:Nat):Prop:=k∈Cs∨k=D∨(Cs≠[]∧∃ a,A=some a∧a.block=k)
theorem ptrC_soft {p:Prop × Nat} {X:Nat→Prop} {w w':World} {A:Option Addr} {xs:List Value} (h:RowT6 247 w A xs) (hs:Soft p X w w') (hX:xs≠[]→∀ a,A=some a→X a.block):RowT6 247 w' A xs:=by
 rcases h with h|⟨b,off,e,⟨cs,fr,hb⟩,hc⟩
 ·exact .inl h
 ·by_cases hx:xs=[]
  ·exact .inl hx
  have hk:=hs.keep hb (hX hx _ e)
  exact .inr ⟨b,off,e,⟨cs,fr,hk⟩,fun j u hu=>(World.cell?_of_block (a:=⟨b,off+j,none⟩) (hk.trans hb.symm)).trans (hc j u hu)⟩
theorem rise_len:∀ {l:List Int} {a b:Int},l.Pairwise (· <·)→(∀ x∈l,a≤x∧x<b)→a≤b→(l.length:Int)≤b-a
 |[],a,b,_,_,h=>by simp;omega
 |x::l,a,b,h,hb,hab=>by
  obtain ⟨h1,h2⟩:=List.pairwise_cons.1 h
  have h3:=hb x (List.mem_cons_self ..)
  have :=rise_len (a:=x+1) (b:=b) h2 (fun y hy=>⟨by have :=h1 y hy;omega,(hb y (List.mem_cons_of_mem _ hy)).2⟩) (by omega)
  rw [List.length_cons]
  omega
def OkC (p:Prop × Nat) (Cs:List Nat) (gs:List (List Po)) (D:Nat) (A:Option Addr) (n c:Nat) (pre:List Int) (d:Int) (W:World):Prop:=
 (0≤d∧d<2147483648∧AllC gs d∧(pre.length:Int)≤d)∧W.heap[D]?=some (.cells #[.slice A n c] 246 (0,0))∧RowT6 247 W A (ptrsC Cs)∧∃ is,CursAt p Cs gs is W∧∀ j (h:j<gs.length),docC gs[j] (is j)=d∧0≤is j
def AllOf (gs:List (List Po)) (xs:List Int):Prop:=xs.Pairwise (· <·)∧∀ x,x∈xs↔(0≤x∧x<2147483648∧AllC gs x)
structure ComAt (p:Prop × Nat) (Cs:List Nat) (gs:List (List Po)) (D:Nat) (A:Option Addr) (n c:Nat) (J:List Int→World→Prop) (d:Int) (pre:List Int) (wr:World):Prop where
 met:∃ s,0≤s∧MetAt p Cs gs s d wr∧∀ x,x∈pre↔(0≤x∧x<s∧AllC gs x)
 rise:pre.Pairwise (· <·)
 low:0≤d
 j:J pre wr
 var:wr.heap[D]?=some (.cells #[.slice A n c] 246 (0,0))
 row:RowT6 247 wr A (ptrsC Cs)
def ComRel (p:Prop × Nat) (Cs:List Nat) (gs:List (List Po)) (D:Nat) (A:Option Addr) (n c:Nat) (J:List Int→World→Prop) (v:Value) (wr:World):Prop:=∃ d pre,v= .int .i64 d∧ComAt p Cs gs D A n c J d pre wr
theorem met_hi {p:Prop × Nat} {Cs:List Nat} {gs:List (List Po)} {s d:Int} {w:World} (h:MetAt p Cs gs s d w):s≤d∧d≤2147483648:=by
 obtain ⟨is,_,h2,_⟩:=h
 exact ⟨h2.lo,h2.hi⟩
set_option maxHeartbeats 8000000 in
set_option maxRecDepth 100000 in
theorem common_tells (m b0 D:Nat) (A:Option Addr) (n c:Nat) (Cs:List Nat) (gs:List (List Po)) (w:World) (hm:1≤m) (hD:w.heap[D]?=some (.cells #[.slice A n c] 246 (0,0)))
  (hrow:RowT6 247 w A (ptrsC Cs)) (hn:Cs.length=n) (hcur:CursAt (True,b0) Cs gs (fun _=> -1) w) (hnm:n≤1048576):
  Tells m Tryz.prog 235 #[.pointer (some ⟨D,0,none⟩)] (fun d:Int=>#[.int .i64 d]) (fun A B=>OnlyIn (fun k=>k∈Cs) A B) (Soft (True,b0) (XC Cs D A)) (OkC (True,b0) Cs gs D A n c) (AllOf gs) (fun _=>True) w:=by
 intro lp J X W hW hJ hY h0
 have e1:=(hW.block D (lt_of_block hD)).trans hD
 have c1:=cell_of_one e1
 have hcurW:=hcur.below hW
 have hrowW:=ptrC_below hrow hW
 have hDC:D∉Cs:=fun h=>by
  obtain ⟨cs,fr,hb⟩:=hcur.block D h
  rw [hD] at hb
  injection hb with hb
  injection hb with _ hb _
  exact absurd hb (by decide)
 have HM0:=Lib.hid (match_meet A n c Cs gs (fun _=> -1) 0 W hrowW hn hcurW (fun j h=>pass_start) (by omega) (by omega) hnm)
 have HNX:Hid (∀ wr s d,0≤d→d<2147483648→MetAt (True,b0) Cs gs s d wr→RowT6 247 wr A (ptrsC Cs)→Calls Tryz.prog 236 #[.slice A n c,.int .i64 (d+1)] wr fun e w'=>∃ d',e= .returned (.int .i64 d')∧MetAt (True,b0) Cs gs (d+1) d' w'∧OnlyIn (fun k=>k∈Cs) wr w'):=Lib.hid fun wr s d h1 h2 h3 h4=>by
  obtain ⟨is,k1,k2,k3⟩:=h3
  exact match_meet A n c Cs gs is (d+1) wr h4 hn k1 (fun j h=>pass_more (k2.pass j h) (by omega)) (by omega) (by omega) hnm
 have HBLK:=Lib.hid hcurW.block
 have HJ:=Lib.hid hJ
 have HY:=Lib.hid hY
 have H0:=Lib.hid h0
 have HROW:=Lib.hid hrowW
 have HD:=Lib.hid e1
 have HDC:=Lib.hid hDC
 clear hJ hY h0 hD hrow hn hcur hcurW hrowW hW e1 hDC
 refine callsIn_of_wp Tryz.func235 rfl trivial ?_ rfl
 simp only [Tryz.ntmps235,List.size_toArray,List.length_cons,List.length_nil,Nat.reduceAdd,Nat.reduceSub,Array.replicate_succ,Array.replicate_zero,List.push_toArray,List.append_toArray,List.nil_append,List.cons_append]
 gi_wp2_with (first
  |(refine ⟨trivial,?_⟩;gi_at_call 236;refine (callsIn_wide.2 HM0.out).mono ?_)
  |(gi_at_call 236;refine (callsIn_wide.2 HM0.out).mono ?_))
 first|rintro e w1 d0 rfl hmet1 ho1|rintro e w1 ⟨d0,rfl,hmet1,ho1⟩
 have HREL:Hid (ComRel (True,b0) Cs gs D A n c J (.int .i64 d0) w1):=Lib.hid ⟨d0,[],rfl,⟨0,Int.le_refl _,hmet1,fun x=>by simp;intro h1 h2;omega⟩,List.Pairwise.nil,(met_hi hmet1).1,HJ.out _ _ _ H0.out ho1,(ho1.block D (lt_of_block HD.out) HDC.out).trans HD.out,ptrC_only HROW.out ho1 HBLK.out⟩
 clear hmet1 ho1 c1
 gi_wp2
 gi_loopw [3] (ComRel (True,b0) Cs gs D A n c J) (fun v _=>(2147483648-intOf v).toNat)
 case atStart=>exact HREL.out
 case round=>
  obtain ⟨d,pre,rfl,⟨s,hs0,hmet,hpre⟩,hrise,hlow,hj,hvar,hrow⟩:=hrel
  obtain ⟨hd1,hd2⟩:=met_hi hmet
  by_cases hend:d=2147483648
  ·subst hend
   have HF:Hid (AllOf gs pre):=Lib.hid ⟨hrise,fun x=>by
    rw [hpre]
    constructor
    ·rintro ⟨h1,h2,h3⟩;exact ⟨h1,by omega,h3⟩
    ·rintro ⟨h1,h2,h3⟩
     refine ⟨h1,?_,h3⟩
     obtain ⟨is,_,k2,_⟩:=hmet
     rcases intLG x s with h4|h4
     ·exact h4
     ·exact absurd h3 (k2.none x h4 h2)⟩
   have HJE:=Lib.hid hj
   clear hmet hpre hrise hj hvar hrow
   gi_wp2
   go_end0
   exact ⟨⟨_,rfl⟩,.inl ⟨pre,HF.out,HJE.out⟩⟩
  ·have hlt:d<2147483648:=by omega
   have hne:(d != 2147483648)=true:=by simp;omega
   have hne2:(d==2147483648)=false:=beq_eq_false_iff_ne.2 hend
   obtain ⟨is,hcur,hinv,hst⟩:=hmet
   have hall:AllC gs d:=fun g hg=>by
    obtain ⟨j,hj,rfl⟩:=List.getElem_of_mem hg
    obtain ⟨h1,h2⟩:=hst j hj
    have h3:=(hinv.pass j hj).2.1
    have :=stand_in h2 h3 (by rw [h1];exact hlt)
    rwa [h1] at this
   have hprd:∀ x,x∈pre++[d]↔(0≤x∧x<d+1∧AllC gs x):=fun x=>by
    rw [List.mem_append,List.mem_singleton,hpre]
    constructor
    ·rintro (⟨h1,h2,h3⟩|rfl)
     ·exact ⟨h1,by omega,h3⟩
     ·exact ⟨hlow,by omega,hall⟩
    ·rintro ⟨h1,h2,h3⟩
     by_cases e:x=d
     ·exact .inr e
     ·refine .inl ⟨h1,?_,h3⟩
      rcases intLG x s with h4|h4
      ·exact h4
      ·exact absurd h3 (hinv.none x h4 (by omega))
   have hlts:∀ x∈pre,x<d:=fun x hx=>by have :=(hpre x).1 hx;omega
   have hpl:(pre.length:Int)≤d:=by have :=rise_len (a:=0) (b:=d) hrise (fun x hx=>⟨((hpre x).1 hx).1,hlts x hx⟩) hlow;omega
   have hok:OkC (True,b0) Cs gs D A n c pre d wr:=⟨⟨hlow,hlt,hall,hpl⟩,hvar,hrow,is,hcur,hst⟩
   have hrise2:(pre++[d]).Pairwise (· <·):=List.pairwise_append.2 ⟨hrise,List.pairwise_singleton _ _,fun x hx y hy=>by rw [List.mem_singleton] at hy;rw [hy];exact hlts x hx⟩
   obtain ⟨fn,tmps,assign,body,hyy,hR⟩:=HY.out pre d wr hj hok
   have HMET:Hid (MetAt (True,b0) Cs gs s d wr):=Lib.hid ⟨is,hcur,hinv,hst⟩
   have HPRD:=Lib.hid hprd
   have HRISE:=Lib.hid hrise2
   have HVAR:=Lib.hid hvar
   have HRW:=Lib.hid hrow
   clear hcur hinv hst hall hprd hlts hpl hok hrise2 hj hvar hrow hpre hrise
   gi_wp2
   refine hR.mono ?_
   rintro e W7 (⟨rfl,hJ7,hk7⟩|⟨rfl,hX7⟩)
   ·have hvar7:=hk7.keep HVAR.out (.inr (.inl rfl))
    have hrow7:=ptrC_soft HRW.out hk7 (fun hx a ha=> .inr (.inr ⟨(fun e=>hx (by rw [e];rfl)),a,ha,rfl⟩))
    have hmet7:MetAt (True,b0) Cs gs s d W7:=by
     obtain ⟨is,k1,k2,k3⟩:=HMET.out
     exact ⟨is,k1.soft hk7 (fun C hC=> .inl hC),k2,k3⟩
    have c7:=cell_of_one hvar7
    have HN7:=Lib.hid (HNX.out W7 s d hlow hlt hmet7 hrow7)
    have HB7:Hid (∀ C∈Cs,∃ cs fr,W7.heap[C]?=some (.cells cs 338 fr)):=Lib.hid (by obtain ⟨is,k1,_⟩:=hmet7;exact k1.block)
    have HV7:=Lib.hid hvar7
    have HR7:=Lib.hid hrow7
    have HJ7:=Lib.hid hJ7
    clear hvar7 hrow7 hmet7 hJ7 hk7 hyy hR
    gi_wp2_with (first
     |(refine ⟨trivial,?_⟩;gi_at_call 236;refine (callsIn_wide.2 HN7.out).mono ?_)
     |(gi_at_call 236;refine (callsIn_wide.2 HN7.out).mono ?_))
    first|rintro e w8 d8 rfl hmet8 ho8|rintro e w8 ⟨d8,rfl,hmet8,ho8⟩
    have hd8:=met_hi hmet8
    have HR8:Hid (ComRel (True,b0) Cs gs D A n c J (.int .i64 d8) w8):=Lib.hid ⟨d8,pre++[d],rfl,⟨d+1,by omega,hmet8,HPRD.out⟩,HRISE.out,by omega,HJ.out _ _ _ HJ7.out ho8,(ho8.block D (lt_of_block HV7.out) HDC.out).trans HV7.out,ptrC_only HR7.out ho8 HB7.out⟩
    obtain ⟨hd8a,hd8b⟩:=hd8
    clear hmet8 ho8
    gi_wp2
    go_roundw
    case rel=>exact HR8.out
    case measure=>simp [intOf];omega
   ·have HX7:=Lib.hid hX7
    clear hX7 hyy hR
    gi_wp2
    refine bodyPost_ret (results_none rfl _ _ _) rfl ?_
    exact ⟨⟨_,rfl⟩,.inr ⟨_,trivial,HX7.out⟩⟩
end Go.Proofs.YtldcadpemnpbmaaGreatDoor
set_option linter.unusedVariables false
namespace Go.Proofs.YtldcadpemnpbmaaGreatDoor
open Go Go.RowKit
def GaveOwnI (ps:List Int) (w:World) (e:Ending) (w':World):Prop:=∃ v,e= .returned v∧w'.ownsRow w.heap.size 3 1 v ps.length (ints ps)∧Below w.heap.size w w'
set_option maxHeartbeats 2000000 in
set_option maxRecDepth 100000 in
theorem clone_ints13 (A:Option Addr) (m c:Nat) (ps:List Int) (w:World) (hn:ps.length=m) (hr:Row w w.heap.size A (ints ps)) (hl:m≤2147483648):
  Calls Tryz.prog 99 #[.slice A m c] w (GaveOwnI ps w):=by
 obtain ⟨i0,hi0,hz0,hz1,hz2⟩:=info_parts info_int
 have qe:∀ (w:World) (a:Option Addr) (n c n' c':Nat),(binOp .eql 88 (.slice a n c) (.slice none n' c')).run Tryz.prog w= .ok (.bool a.isNone) w:=fun w a n c n' c'=>Lib.run_eql_slice_nil w _ _ a n c n' c' Tryz.underlying88
 subst hn
 cases A with
 |none=>
  obtain rfl:ps=[]:=by
   rcases Nat.eq_zero_or_pos ps.length with h0|h0
   ·exact List.eq_nil_of_length_eq_zero h0
   ·obtain ⟨_,_,e,_⟩:=hr.at_ (by simpa [ints] using h0)
    cases e
  clear hr
  go_enter Tryz.func99,Tryz.ntmps99
  go_wp2
  go_ret
  exact ⟨_,rfl,World.ownsRow_nil _ _ _ _,Below.refl _ _⟩
 |some ad=>
  have HR:=Lib.hid hr
  have hwl:(ints ps).length=ps.length:=by simp [ints]
  have HWL:=Lib.hid hwl
  clear hr hwl
  have hlit:(w.alloc (.cells #[] 3)).ownsRow w.heap.size 3 1 (.slice (some ⟨w.heap.size,0,none⟩) 0 0) 0 []:=World.ownsRow_made w #[] 0 (Nat.le_refl _) (Nat.zero_le _) rfl
  obtain ⟨m,hm⟩:∃ m,m=ps.length:=⟨_,rfl⟩
  rw [← hm] at HWL hl
  rw [← hm]
  have HM:=Lib.hid hm
  clear hm
  go_enter Tryz.func99,Tryz.ntmps99
  go_wp2_with (at_builtin;(refine wpList_append_row _ rfl (.tmp 5) (.tmp 6) 88 rfl w.heap.size 3 i0 _ 1 8 Tryz.underlying88 hi0 hz0 hz1 hz2 rfl (by decide) _ 0 [] rfl hlit _ _ m c (ints ps) rfl (by rw [HWL.out];omega) ((HR.out.below ((Below.refl _ w).alloc (Nat.le_refl _) (.cells #[] 3))).more (B':=(w.alloc (.cells #[] 3)).heap.size) (by simp)) (ints_oneCell' _) (by unfold maxLen;omega) (by omega) (by simp) ?_))
  intro v' w' hown hgrow
  have hown2:=hown
  obtain ⟨A',c',rfl,_,hr'⟩:=owned_row hown2
  go_wp2
  go_ret
  refine ⟨_,rfl,?_,((Below.refl _ _).alloc (Nat.le_refl _) _).grown hgrow (by simp) (fun k hk=>by cases hk;exact Nat.le_refl _)⟩
  rw [← HM.out]
  simpa using hown
set_option maxHeartbeats 1000000 in
set_option maxRecDepth 100000 in
theorem cur_PlacesO {fu:Prop × Nat} (hf:fu.1) (C:Nat) (g:List Po) (i:Int) (w:World) (h:CAt fu C g i w) (hpl:(placesC g i).length≤2147483648):
  Calls Tryz.prog 237 #[.pointer (some ⟨C,0,none⟩)] w (GaveOwnI (placesC g i) w):=by
 obtain ⟨vb,ve,A,c,nx,bh,rd,rest,hblk,_,hpos,_,_,hpo,_⟩:=h
 obtain ⟨⟨_,_,_,_,c4,_,c6,_⟩,_⟩:=cell_eight hblk
 obtain ⟨_,_,t3,t4⟩:=hpos.tells
 clear hblk hpos c6
 cases rest with
 |nil=>
  rw [t3 rfl]
  simp only [List.length_nil] at c4
  clear t3 t4 hpo
  go_enter Tryz.func237,Tryz.ntmps237
  go_wp2
  go_ret
  exact ⟨_,rfl,World.ownsRow_nil _ _ _ _,Below.refl _ _⟩
 |cons p r=>
  obtain ⟨b,off,A',c',rfl,_,h1,_,_,hr⟩:=hpo.head
  rw [(t4 p r rfl).2.2] at hpl
  rw [(t4 p r rfl).2.2]
  have HC:=Lib.hid (clone_ints13 A' p.2.length c' p.2 w rfl (hr hf) hpl)
  simp only [List.length_cons] at c4
  obtain ⟨x,hx⟩:∃ x,x=p.2.length:=⟨_,rfl⟩
  rw [← hx] at h1 HC
  obtain ⟨n,hn⟩:∃ n,n=r.length:=⟨_,rfl⟩
  rw [← hn] at c4
  have hz:((n:Int)+1==0)=false:=by rw [beq_eq_false_iff_ne];omega
  clear t3 t4 hpo hx hn hr hpl
  go_enter Tryz.func237,Tryz.ntmps237
  go_wp2_with (go_at_call 99;refine HC.out.mono ?_;rintro e w' ⟨v2,rfl,hr2,hb2⟩)
  have hr3:=hr2
  obtain ⟨A2,c2,rfl,_,_⟩:=owned_row hr3
  go_ret
  exact ⟨_,rfl,hr2,hb2⟩
end Go.Proofs.YtldcadpemnpbmaaGreatDoor
