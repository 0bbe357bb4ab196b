import Derived.Test.YtldcadpemnpbmaaGreatDoorMPQ30
import Derived.Deep.CutRange
import Derived.Test.YtldcadpemnpbmaaGreatDoorMPQ22
import Derived.Test.YtldcadpemnpbmaaGreatDoorMPQ23
import Derived.Test.YtldcadpemnpbmaaGreatDoorMPQ24
import Derived.Test.YtldcadpemnpbmaaGreatDoorMPQ04
import Derived.Deep.RegionHeld3
import Derived.Test.YtldcadpemnpbmaaGreatDoorMPQ20
import Derived.Test.YtldcadpemnpbmaaGreatDoorMPQ15
set_option linter.unusedVariables false
namespace Go.Proofs.YtldcadpemnpbmaaGreatDoor
open Go Go.RowKit
def topD (l:List Fo):Nat:=match l.getLast? with|none=>0|some x=>x.1+1
theorem top_at {l:List Fo} (h:0<l.length):topD l=(l[l.length-1]'(by omega)).1+1:=by
 unfold topD
 rw [List.getLast?_eq_getElem?,List.getElem?_eq_getElem (by omega)]
theorem top_lt {l:List Fo} (hr:RiseF l):∀ x∈l,x.1<topD l:=fun x hx=>by
 unfold topD
 cases h:l.getLast? with
 |none=>rw [List.getLast?_eq_none_iff] at h;rw [h] at hx;cases hx
 |some y=>exact rise_last hr h hx
def JoinRel (g:Nat→Option Int) (n:Nat) (w:World) (vo vi:Value) (wr:World):Prop:=∃ k:Nat,k≤n∧vi= .int .i64 (k:Int)∧OwnFo w.heap.size wr vo (tabF k g)∧Below w.heap.size w wr
set_option maxHeartbeats 16000000 in
set_option maxRecDepth 100000 in
theorem ref13_Join (va vb:Value) (a b:List Fo) (or:Bool) (w:World) (ha:InFo w va a) (hb:InFo w vb b) (hra:RiseF a) (hrb:RiseF b) (hfa:FewF a) (hfb:FewF b) (hta:topD a≤1048576) (htb:topD b≤1048576):
  Calls Tryz.prog 22 #[va,vb,.bool or] w (GaveFo (keptF (if or=true then orB else andB) a b) w):=by
 obtain ⟨i0,hi0,hz0,hz1,hz2⟩:=info_parts info_found
 rw [join_is or hra hrb (most:=max (topD a) (topD b)) (fun x hx=>by have :=top_lt hra x hx;omega) (fun x hx=>by have :=top_lt hrb x hx;omega)]
 unfold joinD
 obtain ⟨g,hg⟩:∃ g:Nat→Option Int,g=fun d=>bothF (if or=true then orB else andB) (scF a d) (scF b d):=⟨_,rfl⟩
 rw [← hg]
 obtain ⟨A,c,rfl,hac,hcm,hrowa⟩:=ha
 obtain ⟨A2,c2,rfl,hbc,hcm2,hrowb⟩:=hb
 obtain ⟨ta,hta'⟩:∃ t,t=topD a:=⟨_,rfl⟩
 obtain ⟨tb,htb'⟩:∃ t,t=topD b:=⟨_,rfl⟩
 rw [← hta'] at hta
 rw [← htb'] at htb
 rw [← hta',← htb']
 obtain ⟨n,hn⟩:∃ n,n=a.length:=⟨_,rfl⟩
 obtain ⟨m,hm⟩:∃ m,m=b.length:=⟨_,rfl⟩
 rw [← hn,← hm]
 have HATA:Hid (∀ d w2,Below w.heap.size w w2→Calls Tryz.prog 58 #[.slice A n c,.int .i64 ((d:Nat):Int)] w2 fun e w'=>(∃ i,e= .returned (.int .i64 i)∧AtF a d i)∧Below w2.heap.size w2 w'):=Lib.hid fun d w2 hb=>ref13_at A n c a d w2 (FoRow.later hrowa hb) hn.symm (by have :=hfa.1;omega)
 have HATB:Hid (∀ d w2,Below w.heap.size w w2→Calls Tryz.prog 58 #[.slice A2 m c2,.int .i64 ((d:Nat):Int)] w2 fun e w'=>(∃ i,e= .returned (.int .i64 i)∧AtF b d i)∧Below w2.heap.size w2 w'):=Lib.hid fun d w2 hb=>ref13_at A2 m c2 b d w2 (FoRow.later hrowb hb) hm.symm (by have :=hfb.1;omega)
 have HG:=Lib.hid hg
 have HRA:=Lib.hid hrowa
 have HRB:=Lib.hid hrowb
 have HFA:=Lib.hid hfa
 have HFB:=Lib.hid hfb
 have HN:=Lib.hid hn
 have HM:=Lib.hid hm
 have HTA:=Lib.hid hta'
 have HTB:=Lib.hid htb'
 have HREL:Hid (∀ wr,w=wr→JoinRel g (max ta tb) w (.slice none 0 0) (.int .i64 ((0:Nat):Int)) wr):=Lib.hid fun wr e=>by subst e;exact ⟨0,Nat.zero_le _,rfl,OwnFo.nil,Below.refl _ _⟩
 have hmx:∀ (w:World) (ts:Array TypeId) (t:TypeId),(Builtin.max_ ts t #[.int .i64 (ta:Int),.int .i64 (tb:Int)]).run Tryz.prog w= .ok (.int .i64 ((max ta tb:Nat):Int)) w:=fun w ts t=>by rw [run_max_int2];congr 2;split<;>omega
 clear hg hrowa hrowb hfa hfb hn hm hta' htb' hra hrb hac hbc hcm hcm2
 go_enter Tryz.func22,Tryz.ntmps22
 go_upto_if 15 with fail
 go_cut [7] from 13 to 23 (fun s wx=>s= .int .i64 (ta:Int)∧w=wx)
 case first=>
  rcases Nat.eq_zero_or_pos n with h0|h0
  ·have ht:ta=0:=by rw [HTA.out,show a=[] from List.eq_nil_of_length_eq_zero (by rw [← HN.out];exact h0)];rfl
   subst h0 ht
   go_wp2_with fail
   go_meet
   exact ⟨rfl,rfl⟩
  ·obtain ⟨j,rfl⟩:∃ j,n=j+1:=⟨n-1,by omega⟩
   have hl:0<a.length:=by rw [← HN.out];omega
   have hjl:j<a.length:=by rw [← HN.out];omega
   obtain ⟨b1,o1,rfl, -,p0, -⟩:=HRA.out.at_ hjl
   have hjb:(j:Int)≤1073741824:=by have :=HFA.out.1;omega
   have ht:=top_at hl
   obtain ⟨x,hx⟩:∃ x,x=a[j]:=⟨_,rfl⟩
   have hx2:a[a.length-1]'(by omega)=x:=by rw [hx];congr 1;rw [← HN.out];omega
   rw [hx2,← HTA.out] at ht
   rw [← hx] at p0
   obtain ⟨y,hy⟩:∃ y:Int,y=(x.1:Int):=⟨_,rfl⟩
   rw [← hy] at p0
   have hyt:(ta:Int)=y+1:=by rw [ht,hy];omega
   have hy0:0≤y:=by omega
   have hy1:y≤1048576:=by omega
   have HYT:=Lib.hid hyt
   have d0:decide (((j+1:Nat):Int)>0)=true:=decide_eq_true (by omega)
   clear hl hjl ht hx hx2 hy hyt h0 hmx
   go_wp2_with fail
   go_meet
   exact ⟨by rw [HYT.out],rfl⟩
 case rest=>
  obtain ⟨rfl,rfl⟩:=hcut
  go_upto_if 26 with fail
  go_cut [7] from 24 to 36 (fun s wx=>s= .int .i64 ((max ta tb:Nat):Int)∧w=wx)
  case first=>
   rcases Nat.eq_zero_or_pos m with h0|h0
   ·have ht:tb=0:=by rw [HTB.out,show b=[] from List.eq_nil_of_length_eq_zero (by rw [← HM.out];exact h0)];rfl
    have hmm:max ta tb=ta:=by omega
    have HMM:=Lib.hid hmm
    subst h0
    clear hmm ht
    go_wp2_with fail
    go_meet
    exact ⟨by rw [HMM.out],rfl⟩
   ·obtain ⟨j,rfl⟩:∃ j,m=j+1:=⟨m-1,by omega⟩
    have hl:0<b.length:=by rw [← HM.out];omega
    have hjl:j<b.length:=by rw [← HM.out];omega
    obtain ⟨b1,o1,rfl, -,p0, -⟩:=HRB.out.at_ hjl
    have hjb:(j:Int)≤1073741824:=by have :=HFB.out.1;omega
    have ht:=top_at hl
    obtain ⟨x,hx⟩:∃ x,x=b[j]:=⟨_,rfl⟩
    have hx2:b[b.length-1]'(by omega)=x:=by rw [hx];congr 1;rw [← HM.out];omega
    rw [hx2,← HTB.out] at ht
    rw [← hx] at p0
    obtain ⟨y,hy⟩:∃ y:Int,y=(x.1:Int):=⟨_,rfl⟩
    rw [← hy] at p0
    have hyt:(tb:Int)=y+1:=by rw [ht,hy];omega
    have hy0:0≤y:=by omega
    have hy1:y≤1048576:=by omega
    rw [hyt] at hmx
    have d0:decide (((j+1:Nat):Int)>0)=true:=decide_eq_true (by omega)
    clear hl hjl ht hx hx2 hy hyt h0
    go_wp2_with fail
    go_meet
    exact ⟨rfl,rfl⟩
  case rest=>
   obtain ⟨rfl,rfl⟩:=hcut
   obtain ⟨M,hM⟩:∃ M,M=max ta tb:=⟨_,rfl⟩
   have hM1:M≤1048576:=by omega
   rw [← hM] at HREL ⊢
   have HMX:=Lib.hid hM
   clear hmx hM
   go_wp2
   go_loopw [8,9] (JoinRel g M w) (fun _ i _=>M-(intOf i).toNat)
   case atStart=>exact HREL.out _ rfl
   case round=>
    obtain ⟨k,hk,rfl,hown,hbw⟩:=hrel
    by_cases hlt:k<M
    ·have hkn:(k:Int)<(M:Int):=by omega
     have hsz:=hbw.size
     have hts:=tab_succ k g
     have htl:=tab_length g k
     have HA:=Lib.hid (HATA.out k wr hbw)
     have HB:Hid (∀ w2,Below wr.heap.size wr w2→_):=Lib.hid fun w2 h2=>HATB.out k w2 (hbw.trans (h2.mono hsz))
     obtain ⟨L,hL⟩:∃ L,L=tabF k g:=⟨_,rfl⟩
     rw [← hL] at hts htl
     unfold OwnFo at hown
     rw [← hL] at hown
     obtain ⟨q,hq⟩:∃ q,q=L.length:=⟨_,rfl⟩
     rw [← hq] at hown htl
     have hown0:=hown
     obtain ⟨Av,cv,rfl, -, -⟩:=owned_row hown0
     have HQ:=Lib.hid hq
     have HO:=Lib.hid hown
     have HTS:=Lib.hid hts
     have HBW:=Lib.hid hbw
     clear hL hown hown0 hq hts hbw
     go_wp2_with (go_at_call 58;(with_reducible refine HA.out.mono ?_))
     rintro e w2 ⟨⟨i,rfl,hat⟩,hb2⟩
     have HB2:=Lib.hid hb2
     have HBX:=Lib.hid (HB.out w2 hb2)
     have HAT:=Lib.hid hat
     clear hb2 hat
     go_wp2_with (go_at_call 58;(with_reducible refine HBX.out.mono ?_))
     rintro e w3 ⟨⟨i2,rfl,hat2⟩,hb3⟩
     have hb23:Below wr.heap.size wr w3:=HB2.out.trans (hb3.mono HB2.out.size)
     have hsz3:=hb23.size
     have hbw3:=HBW.out.trans (hb23.mono hsz)
     have HW3:=Lib.hid hbw3
     have HO3:=Lib.hid (owned_below HO.out hb23)
     clear hb3 hb23
     have hat:=HAT.out
     rcases hat with ⟨h1,rfl⟩|⟨j,hj,rfl,h1⟩
     ·have hat:=HAT.out
      rcases hat2 with ⟨h2,rfl⟩|⟨j2,hj2,rfl,h2⟩
      ·have hat2:=True.intro
       cases or with
       |false=>
        have hgk:g k=none:=by rw [HG.out];simp [h1,h2,bothF,andB]
        have hts2:tabF (k+1) g=L:=by rw [HTS.out,hgk];simp
        have hfin:JoinRel g M w (.slice Av q cv) (.int .i64 ((k:Int)+1)) w3:=by
         refine ⟨k+1,by omega,rfl,?_,HW3.out⟩
         unfold OwnFo
         rw [hts2,← HQ.out]
         exact HO3.out
        have HF:=Lib.hid hfin
        clear hfin hts2 hgk h1 h2 hbw3 hat hat2
        go_wp2
        go_roundw
        case rel=>exact HF.out
        case measure=>simp [intOf];omega
       |true=>
        have hgk:g k=none:=by rw [HG.out];simp [h1,h2,bothF,orB]
        have hts2:tabF (k+1) g=L:=by rw [HTS.out,hgk];simp
        have hfin:JoinRel g M w (.slice Av q cv) (.int .i64 ((k:Int)+1)) w3:=by
         refine ⟨k+1,by omega,rfl,?_,HW3.out⟩
         unfold OwnFo
         rw [hts2,← HQ.out]
         exact HO3.out
        have HF:=Lib.hid hfin
        clear hfin hts2 hgk h1 h2 hbw3 hat hat2
        go_wp2
        go_roundw
        case rel=>exact HF.out
        case measure=>simp [intOf];omega
      ·have hat2:=True.intro
       cases or with
       |false=>
        obtain ⟨b2,o2,rfl, -, -,p2⟩:=(FoRow.later HRB.out hbw3).at_ hj2
        obtain ⟨ys,hys⟩:∃ ys,ys=b[j2].2:=⟨_,rfl⟩
        rw [← hys] at p2 h2
        have hy1:=HFB.out.2 b[j2] (List.getElem_mem hj2)
        rw [← hys] at hy1
        obtain ⟨hy1,hy2⟩:=hy1
        have hj21:j2<m:=by rw [HM.out];exact hj2
        have hj20:(j2:Int)<(m:Int):=by omega
        have hj2n:decide ((j2:Int)≥0)=true:=decide_eq_true (by omega)
        clear hys
        have hgk:g k=none:=by rw [HG.out];simp [h1,h2,bothF,andB]
        have hts2:tabF (k+1) g=L:=by rw [HTS.out,hgk];simp
        have hfin:JoinRel g M w (.slice Av q cv) (.int .i64 ((k:Int)+1)) w3:=by
         refine ⟨k+1,by omega,rfl,?_,HW3.out⟩
         unfold OwnFo
         rw [hts2,← HQ.out]
         exact HO3.out
        have HF:=Lib.hid hfin
        clear hfin hts2 hgk h1 h2 hj2 hbw3 hat hat2
        go_wp2
        go_roundw
        case rel=>exact HF.out
        case measure=>simp [intOf];omega
       |true=>
        obtain ⟨b2,o2,rfl, -, -,p2⟩:=(FoRow.later HRB.out hbw3).at_ hj2
        obtain ⟨ys,hys⟩:∃ ys,ys=b[j2].2:=⟨_,rfl⟩
        rw [← hys] at p2 h2
        have hy1:=HFB.out.2 b[j2] (List.getElem_mem hj2)
        rw [← hys] at hy1
        obtain ⟨hy1,hy2⟩:=hy1
        have hj21:j2<m:=by rw [HM.out];exact hj2
        have hj20:(j2:Int)<(m:Int):=by omega
        have hj2n:decide ((j2:Int)≥0)=true:=decide_eq_true (by omega)
        clear hys
        have hgk:g k=some ys:=by rw [HG.out];simp [h1,h2,bothF,orB]
        have hts2:tabF (k+1) g=L++[(k,ys)]:=by rw [HTS.out,hgk]
        have HT2:=Lib.hid hts2
        clear hts2 hgk h1 h2 hj2 hbw3 hat hat2
        go_wp2_with (at_builtin;refine wpList_append_own _ rfl (.tmp 83) (.tmp 87) 46 rfl w.heap.size 53 i0 _ 2 16 Tryz.underlying46 hi0 hz0 hz1 hz2 rfl (by omega) _ q (foC L) rfl (HO3.out.alloc _) ⟨w3.heap.size,0,none⟩ 1 1 [.int .i64 (k:Int),.int .i64 ys] rfl rfl (news_at w3 [.int .i64 (k:Int),.int .i64 ys] 53) (by intro u hu;simp at hu;rcases hu with rfl|rfl<;>rfl) (by unfold maxLen;omega) (by omega) (by simp;omega) ?_)
        intro v5 w5 hown5 hg5 _
        have hb5:Below w.heap.size w3 w5:=((Below.refl _ w3).alloc (by omega) _).grown hg5 (by simp;omega) fun j hj=>(HO3.out.lt j hj).1
        have hfin:JoinRel g M w v5 (.int .i64 ((k:Int)+1)) w5:=by
         refine ⟨k+1,by omega,rfl,?_,HW3.out.trans hb5⟩
         unfold OwnFo
         rw [HT2.out,List.length_append,List.length_singleton,← HQ.out,foC_append]
         exact hown5
        have HF:=Lib.hid hfin
        clear hfin hb5 hg5 hown5
        go_wp2
        go_roundw
        case rel=>exact HF.out
        case measure=>simp [intOf];omega
     ·have hat:=HAT.out
      rcases hat2 with ⟨h2,rfl⟩|⟨j2,hj2,rfl,h2⟩
      ·have hat2:=True.intro
       cases or with
       |false=>
        obtain ⟨b1,o1,rfl, -, -,p1⟩:=(FoRow.later HRA.out hbw3).at_ hj
        obtain ⟨xs,hxs⟩:∃ xs,xs=a[j].2:=⟨_,rfl⟩
        rw [← hxs] at p1 h1
        have hx1:=HFA.out.2 a[j] (List.getElem_mem hj)
        rw [← hxs] at hx1
        obtain ⟨hx1,hx2⟩:=hx1
        have hj1:j<n:=by rw [HN.out];exact hj
        have hj0:(j:Int)<(n:Int):=by omega
        have hjn:decide ((j:Int)≥0)=true:=decide_eq_true (by omega)
        clear hxs
        have hgk:g k=none:=by rw [HG.out];simp [h1,h2,bothF,andB]
        have hts2:tabF (k+1) g=L:=by rw [HTS.out,hgk];simp
        have hfin:JoinRel g M w (.slice Av q cv) (.int .i64 ((k:Int)+1)) w3:=by
         refine ⟨k+1,by omega,rfl,?_,HW3.out⟩
         unfold OwnFo
         rw [hts2,← HQ.out]
         exact HO3.out
        have HF:=Lib.hid hfin
        clear hfin hts2 hgk h1 h2 hj hbw3 hat hat2
        go_wp2
        go_roundw
        case rel=>exact HF.out
        case measure=>simp [intOf];omega
       |true=>
        obtain ⟨b1,o1,rfl, -, -,p1⟩:=(FoRow.later HRA.out hbw3).at_ hj
        obtain ⟨xs,hxs⟩:∃ xs,xs=a[j].2:=⟨_,rfl⟩
        rw [← hxs] at p1 h1
        have hx1:=HFA.out.2 a[j] (List.getElem_mem hj)
        rw [← hxs] at hx1
        obtain ⟨hx1,hx2⟩:=hx1
        have hj1:j<n:=by rw [HN.out];exact hj
        have hj0:(j:Int)<(n:Int):=by omega
        have hjn:decide ((j:Int)≥0)=true:=decide_eq_true (by omega)
        clear hxs
        have hgk:g k=some xs:=by rw [HG.out];simp [h1,h2,bothF,orB]
        have hts2:tabF (k+1) g=L++[(k,xs)]:=by rw [HTS.out,hgk]
        have HT2:=Lib.hid hts2
        clear hts2 hgk h1 h2 hj hbw3 hat hat2
        go_wp2_with (at_builtin;refine wpList_append_own _ rfl (.tmp 83) (.tmp 87) 46 rfl w.heap.size 53 i0 _ 2 16 Tryz.underlying46 hi0 hz0 hz1 hz2 rfl (by omega) _ q (foC L) rfl (HO3.out.alloc _) ⟨w3.heap.size,0,none⟩ 1 1 [.int .i64 (k:Int),.int .i64 xs] rfl rfl (news_at w3 [.int .i64 (k:Int),.int .i64 xs] 53) (by intro u hu;simp at hu;rcases hu with rfl|rfl<;>rfl) (by unfold maxLen;omega) (by omega) (by simp;omega) ?_)
        intro v5 w5 hown5 hg5 _
        have hb5:Below w.heap.size w3 w5:=((Below.refl _ w3).alloc (by omega) _).grown hg5 (by simp;omega) fun j hj=>(HO3.out.lt j hj).1
        have hfin:JoinRel g M w v5 (.int .i64 ((k:Int)+1)) w5:=by
         refine ⟨k+1,by omega,rfl,?_,HW3.out.trans hb5⟩
         unfold OwnFo
         rw [HT2.out,List.length_append,List.length_singleton,← HQ.out,foC_append]
         exact hown5
        have HF:=Lib.hid hfin
        clear hfin hb5 hg5 hown5
        go_wp2
        go_roundw
        case rel=>exact HF.out
        case measure=>simp [intOf];omega
      ·have hat2:=True.intro
       cases or with
       |false=>
        obtain ⟨b1,o1,rfl, -, -,p1⟩:=(FoRow.later HRA.out hbw3).at_ hj
        obtain ⟨xs,hxs⟩:∃ xs,xs=a[j].2:=⟨_,rfl⟩
        rw [← hxs] at p1 h1
        have hx1:=HFA.out.2 a[j] (List.getElem_mem hj)
        rw [← hxs] at hx1
        obtain ⟨hx1,hx2⟩:=hx1
        have hj1:j<n:=by rw [HN.out];exact hj
        have hj0:(j:Int)<(n:Int):=by omega
        have hjn:decide ((j:Int)≥0)=true:=decide_eq_true (by omega)
        clear hxs
        obtain ⟨b2,o2,rfl, -, -,p2⟩:=(FoRow.later HRB.out hbw3).at_ hj2
        obtain ⟨ys,hys⟩:∃ ys,ys=b[j2].2:=⟨_,rfl⟩
        rw [← hys] at p2 h2
        have hy1:=HFB.out.2 b[j2] (List.getElem_mem hj2)
        rw [← hys] at hy1
        obtain ⟨hy1,hy2⟩:=hy1
        have hj21:j2<m:=by rw [HM.out];exact hj2
        have hj20:(j2:Int)<(m:Int):=by omega
        have hj2n:decide ((j2:Int)≥0)=true:=decide_eq_true (by omega)
        clear hys
        have hgk:g k=some (xs+ys):=by rw [HG.out];simp [h1,h2,bothF,andB]
        have hts2:tabF (k+1) g=L++[(k,(xs+ys))]:=by rw [HTS.out,hgk]
        have HT2:=Lib.hid hts2
        clear hts2 hgk h1 h2 hj hj2 hbw3 hat hat2
        go_wp2_with (at_builtin;refine wpList_append_own _ rfl (.tmp 83) (.tmp 87) 46 rfl w.heap.size 53 i0 _ 2 16 Tryz.underlying46 hi0 hz0 hz1 hz2 rfl (by omega) _ q (foC L) rfl (HO3.out.alloc _) ⟨w3.heap.size,0,none⟩ 1 1 [.int .i64 (k:Int),.int .i64 (xs+ys)] rfl rfl (news_at w3 [.int .i64 (k:Int),.int .i64 (xs+ys)] 53) (by intro u hu;simp at hu;rcases hu with rfl|rfl<;>rfl) (by unfold maxLen;omega) (by omega) (by simp;omega) ?_)
        intro v5 w5 hown5 hg5 _
        have hb5:Below w.heap.size w3 w5:=((Below.refl _ w3).alloc (by omega) _).grown hg5 (by simp;omega) fun j hj=>(HO3.out.lt j hj).1
        have hfin:JoinRel g M w v5 (.int .i64 ((k:Int)+1)) w5:=by
         refine ⟨k+1,by omega,rfl,?_,HW3.out.trans hb5⟩
         unfold OwnFo
         rw [HT2.out,List.length_append,List.length_singleton,← HQ.out,foC_append]
         exact hown5
        have HF:=Lib.hid hfin
        clear hfin hb5 hg5 hown5
        go_wp2
        go_roundw
        case rel=>exact HF.out
        case measure=>simp [intOf];omega
       |true=>
        obtain ⟨b1,o1,rfl, -, -,p1⟩:=(FoRow.later HRA.out hbw3).at_ hj
        obtain ⟨xs,hxs⟩:∃ xs,xs=a[j].2:=⟨_,rfl⟩
        rw [← hxs] at p1 h1
        have hx1:=HFA.out.2 a[j] (List.getElem_mem hj)
        rw [← hxs] at hx1
        obtain ⟨hx1,hx2⟩:=hx1
        have hj1:j<n:=by rw [HN.out];exact hj
        have hj0:(j:Int)<(n:Int):=by omega
        have hjn:decide ((j:Int)≥0)=true:=decide_eq_true (by omega)
        clear hxs
        obtain ⟨b2,o2,rfl, -, -,p2⟩:=(FoRow.later HRB.out hbw3).at_ hj2
        obtain ⟨ys,hys⟩:∃ ys,ys=b[j2].2:=⟨_,rfl⟩
        rw [← hys] at p2 h2
        have hy1:=HFB.out.2 b[j2] (List.getElem_mem hj2)
        rw [← hys] at hy1
        obtain ⟨hy1,hy2⟩:=hy1
        have hj21:j2<m:=by rw [HM.out];exact hj2
        have hj20:(j2:Int)<(m:Int):=by omega
        have hj2n:decide ((j2:Int)≥0)=true:=decide_eq_true (by omega)
        clear hys
        have hgk:g k=some (xs+ys):=by rw [HG.out];simp [h1,h2,bothF,orB]
        have hts2:tabF (k+1) g=L++[(k,(xs+ys))]:=by rw [HTS.out,hgk]
        have HT2:=Lib.hid hts2
        clear hts2 hgk h1 h2 hj hj2 hbw3 hat hat2
        go_wp2_with (at_builtin;refine wpList_append_own _ rfl (.tmp 83) (.tmp 87) 46 rfl w.heap.size 53 i0 _ 2 16 Tryz.underlying46 hi0 hz0 hz1 hz2 rfl (by omega) _ q (foC L) rfl (HO3.out.alloc _) ⟨w3.heap.size,0,none⟩ 1 1 [.int .i64 (k:Int),.int .i64 (xs+ys)] rfl rfl (news_at w3 [.int .i64 (k:Int),.int .i64 (xs+ys)] 53) (by intro u hu;simp at hu;rcases hu with rfl|rfl<;>rfl) (by unfold maxLen;omega) (by omega) (by simp;omega) ?_)
        intro v5 w5 hown5 hg5 _
        have hb5:Below w.heap.size w3 w5:=((Below.refl _ w3).alloc (by omega) _).grown hg5 (by simp;omega) fun j hj=>(HO3.out.lt j hj).1
        have hfin:JoinRel g M w v5 (.int .i64 ((k:Int)+1)) w5:=by
         refine ⟨k+1,by omega,rfl,?_,HW3.out.trans hb5⟩
         unfold OwnFo
         rw [HT2.out,List.length_append,List.length_singleton,← HQ.out,foC_append]
         exact hown5
        have HF:=Lib.hid hfin
        clear hfin hb5 hg5 hown5
        go_wp2
        go_roundw
        case rel=>exact HF.out
        case measure=>simp [intOf];omega
    ·obtain rfl:k=M:=by omega
     have HO:=Lib.hid hown
     clear hown hlt
     go_wp2
     go_ret
     exact ⟨_,rfl,by rw [← HMX.out];exact HO.out,hbw⟩
end Go.Proofs.YtldcadpemnpbmaaGreatDoor
set_option linter.unusedVariables false
namespace Go.Proofs.YtldcadpemnpbmaaGreatDoor
open Go Go.RowKit
theorem same_found (v u:Value) (l:List Fo) (w:World) (h1:InFo w v l) (h2:InFo w u l) (hl:l.length≤1099511627776):Calls Tryz.prog 17 #[v,u] w fun e w'=>e= .returned (.bool true)∧Below w.heap.size w w':=by
 obtain ⟨A,c,rfl, -, -,hr⟩:=h1
 obtain ⟨A2,c2,rfl, -, -,hr2⟩:=h2
 have :=ref13_Same A A2 _ c _ c2 l l w hr hr2 rfl rfl hl hl
 rwa [decide_eq_true rfl] at this
theorem kept_len (f:Bool→Bool→Bool) (a b:List Fo):(keptF f a b).length≤a.length+b.length:=Nat.le_trans (keptL_length _ _) (pairs_length _ a b (Nat.le_refl _))
theorem not_len {a:List Fo} (ha:RiseF a) (n:Nat):(notF a n).length≤n:=by rw [not_is ha];exact tab_length _ _
end Go.Proofs.YtldcadpemnpbmaaGreatDoor
set_option linter.unusedVariables false
namespace Go.Proofs.YtldcadpemnpbmaaGreatDoor
open Go Go.RowKit
theorem found_rise (D:List (List Fd)) (q:Qy):RiseF (foundP D q):=tab_rise _ _
theorem found_top {G:List En} (hG:AddOk G) (q:Qy):topD (foundP (docsE G) q)≤1048576:=by
 by_cases h:0<(foundP (docsE G) q).length
 ·rw [top_at h]
  obtain ⟨hx, -, -⟩:=found_low (M:=500) (fun f hf s=>by
   obtain ⟨e,he,rfl⟩:=List.mem_map.1 hf
   exact (hG.good e he).wordsS s) ((foundP (docsE G) q)[(foundP (docsE G) q).length-1]'(by omega)) (List.getElem_mem _)
  rw [docsE_length] at hx
  have :=hG.few
  omega
 ·have :foundP (docsE G) q=[]:=List.length_eq_zero_iff.1 (by omega)
  rw [this]
  decide
theorem found_few {G:List En} (hG:AddOk G) (q:Qy):(foundP (docsE G) q).length≤100:=Nat.le_trans (tab_length _ _) (by rw [docsE_length];exact hG.few)
theorem match_good {G:List En} (hG:AddOk G) {S:Nat} (q:Qy) (v:Value) (w:World) (hm:mayQ 1 q=0) (hq:QIn w q v) (hseg:SegAt w S (buildP G)):
  Calls Tryz.prog 18 #[.pointer (some ⟨S,0,none⟩),v] w (GaveFo (foundP (docsE G) q) w):=by
 have hd:=mayQ_deep hm
 have :=match_Match hG q v w (by omega) (may_fine 7 (by omega) hm) hq hseg
 unfold matchP at this
 rwa [if_pos hm] at this
theorem two_in {w:World} {a b:Qy} {k k2:Int} {f x f2 x2:ByteArray} {A K A2 K2:Option Addr} {n c m d n2 c2 m2 d2:Nat} (k3:Int) (ha:QIn w a (qV k f x A n c K m d)) (hb:QIn w b (qV k2 f2 x2 A2 n2 c2 K2 m2 d2)):
  QIn (w.alloc (two10 k f x A n c K m d k2 f2 x2 A2 n2 c2 K2 m2 d2)) (.mk k3 ([],[]) [] [a,b]) (qV k3 ⟨#[]⟩ ⟨#[]⟩ none 0 0 (some ⟨w.heap.size,0,none⟩) 2 2):=by
 obtain ⟨w1,hw1⟩:∃ w1,w1=w.alloc (two10 k f x A n c K m d k2 f2 x2 A2 n2 c2 K2 m2 d2):=⟨_,rfl⟩
 have hs:w1.heap.size=w.heap.size+1:=by rw [hw1];simp
 have hb1:Below w.heap.size w w1:=by rw [hw1];exact (Below.refl _ _).alloc (Nat.le_refl _) _
 rw [← hw1]
 refine QV.mk (ds:=qC k f x A n c K m d++qC k2 f2 x2 A2 n2 c2 K2 m2 d2) rfl rfl rfl rfl (Nat.le_refl _) (Nat.le_refl _) (.inl rfl) (.inr ⟨w.heap.size,0,rfl,by show _<_;rw [hs];omega,fun j u hu=> ?_⟩) ?_
 ·have :=news_at w (qC k f x A n c K m d++qC k2 f2 x2 A2 n2 c2 K2 m2 d2) 27 j u hu
  rw [Addr.add_lit] at this
  rw [hw1]
  exact this
 ·rw [QsAt]
  refine ⟨_,_,rfl,?_,?_⟩
  ·exact (QV.at_ (ha.later hb1))
  ·rw [QsAt]
   exact ⟨_,[],by simp,QV.at_ (hb.later hb1),QsAt.nil⟩
theorem one_in {w:World} {a:Qy} {k:Int} {f x:ByteArray} {A K:Option Addr} {n c m d:Nat} (h:QIn w a (qV k f x A n c K m d)):
  QIn (boxQ w k f x A n c K m d) (notQ a) (qV 4 ⟨#[]⟩ ⟨#[]⟩ none 0 0 (some ⟨w.heap.size,0,none⟩) 1 1):=
 not_val h (fun b hb=>boxQ_below.block b hb) (fun b hb=>by rw [boxQ_size];omega) (by show _<_;rw [boxQ_size];omega) (heap_alloc_new _ _)
end Go.Proofs.YtldcadpemnpbmaaGreatDoor
set_option linter.unusedVariables false
namespace Go.Proofs.YtldcadpemnpbmaaGreatDoor
open Go Go.RowKit
theorem lives_and:andF [(1,2),(3,1)] [(3,4)]=[(3,5)]:=by
 have h1:RiseF [(1,2),(3,1)]:=by unfold RiseF;simp
 have h2:RiseF [(3,4)]:=by unfold RiseF;simp
 have h3:RiseF [(3,5)]:=by unfold RiseF;simp
 refine sc_ext (kept_rise _ h1 h2) h3 fun d=> ?_
 rw [andF,kept_sc _ h1 h2]
 simp only [scF]
 by_cases e1:1=d
 ·subst e1;rfl
 ·by_cases e3:3=d
  ·subst e3;rfl
  ·simp [e1,e3,bothF]
theorem lives_side:sideF [[0,4],[1]]=1:=by decide
set_option maxHeartbeats 4000000 in
set_option maxRecDepth 100000 in
theorem law13_lives (w:World):Calls Tryz.prog 21 #[] w fun e w'=>e= .returned (.bool true)∧Below w.heap.size w w':=by
 obtain ⟨w1,hw1⟩:∃ w1,w1=(w.alloc (.cells #[.int .i64 1,.int .i64 2,.int .i64 3,.int .i64 1] 53)).alloc (.cells #[.int .i64 3,.int .i64 4] 53):=⟨_,rfl⟩
 have hb1:Below w.heap.size w w1:=by rw [hw1];exact ((Below.refl _ w).alloc (Nat.le_refl _) _).alloc (by simp) _
 have h0:w1.heap[w.heap.size]?=some (.cells #[.int .i64 1,.int .i64 2,.int .i64 3,.int .i64 1] 53 (0,0)):=by rw [hw1];exact (Below.heap_alloc _ _ _ (by simp)).trans (heap_alloc_new w _)
 have h1:w1.heap[w.heap.size+1]?=some (.cells #[.int .i64 3,.int .i64 4] 53 (0,0)):=by rw [hw1];exact heap_alloc2_new _ _ _
 have hA:InFo w1 (.slice (some ⟨w.heap.size,0,none⟩) 2 2) [(1,2),(3,1)]:=⟨_,_,rfl,by simp,by unfold maxLen;omega,.inr ⟨_,_,rfl,lt_of_block h0,fun j u hu=>by
  rw [cell_of_row _ _ _ _ _ _ h0]
  simpa [foC] using hu⟩⟩
 have hB:InFo w1 (.slice (some ⟨w.heap.size+1,0,none⟩) 1 1) [(3,4)]:=⟨_,_,rfl,by simp,by unfold maxLen;omega,.inr ⟨_,_,rfl,lt_of_block h1,fun j u hu=>by
  rw [cell_of_row _ _ _ _ _ _ h1]
  simpa [foC] using hu⟩⟩
 have CA:=Lib.hid (match_And _ _ _ _ w1 hA hB ⟨by simp,by intro x hx;simp at hx;rcases hx with rfl|rfl<;>simp⟩ ⟨by simp,by intro x hx;simp at hx;subst hx;simp⟩)
 rw [lives_and] at CA
 have HB1:=Lib.hid hb1
 have HW1:=Lib.hid hw1
 clear hA hB hb1 hw1 h0 h1
 go_enter Tryz.func21,Tryz.ntmps21
 go_wp2_with (go_at_call 56;rw [← HW1.out];refine CA.out.mono ?_)
 rintro e w2 ⟨v,rfl,ho,hb2⟩
 have hrow:=ho
 obtain ⟨A,c,rfl, -,hr⟩:=owned_row hrow
 obtain ⟨b1,o1,rfl,hlt,p0,p1, -⟩:=FoRow.cons hr
 have HB2:=Lib.hid (HB1.out.trans (hb2.mono HB1.out.size))
 clear hb2 ho hrow hr
 simp only [List.length_singleton] at p0 p1 ⊢
 have p0:w2.cell? ⟨b1,o1,none⟩=some (.int .i64 3):=p0
 have hz2:w2.heap.size=w2.heap.size:=rfl
 obtain ⟨w3,hw3⟩:∃ w3,w3=(w2.alloc (.cells #[.int .i64 0,.int .i64 4] 3)).alloc (.cells #[.int .i64 1] 3):=⟨_,rfl⟩
 have e0:w3.heap[w2.heap.size]?=some (.cells #[.int .i64 0,.int .i64 4] 3 (0,0)):=by rw [hw3];exact (Below.heap_alloc _ _ _ (by simp)).trans (heap_alloc_new w2 _)
 have e1:w3.heap[w2.heap.size+1]?=some (.cells #[.int .i64 1] 3 (0,0)):=by rw [hw3];exact heap_alloc2_new _ _ _
 have hb3:Below w2.heap.size w2 w3:=by rw [hw3];exact ((Below.refl _ w2).alloc (Nat.le_refl _) _).alloc (by simp) _
 have hs3:w3.heap.size=w2.heap.size+2:=by rw [hw3];simp
 obtain ⟨w4,hw4⟩:∃ w4,w4=w3.alloc (.cells #[.slice (some ⟨w2.heap.size,0,none⟩) 2 2,.slice (some ⟨w2.heap.size+1,0,none⟩) 1 1] 88):=⟨_,rfl⟩
 have hb4:Below w3.heap.size w3 w4:=by rw [hw4];exact (Below.refl _ _).alloc (Nat.le_refl _) _
 have f2:w4.heap[w3.heap.size]?=some (.cells #[.slice (some ⟨w2.heap.size,0,none⟩) 2 2,.slice (some ⟨w2.heap.size+1,0,none⟩) 1 1] 88 (0,0)):=by rw [hw4];exact heap_alloc_new w3 _
 have f0:=(hb4.block _ (lt_of_block e0)).trans e0
 have f1:=(hb4.block _ (lt_of_block e1)).trans e1
 have hlis:Lis w4 w4.heap.size (some ⟨w3.heap.size,0,none⟩) [[0,4],[1]]:=by
  refine ⟨[.slice (some ⟨w2.heap.size,0,none⟩) 2 2,.slice (some ⟨w2.heap.size+1,0,none⟩) 1 1],⟨rfl,fun i hi=> ?_⟩,.inr ⟨_,_,rfl,lt_of_block f2,fun j u hu=>by rw [cell_of_row _ _ _ _ _ _ f2];simpa using hu⟩⟩
  match i,hi with
  |0,_=>exact ⟨_,2,rfl,.inr ⟨_,_,rfl,lt_of_block f0,fun j u hu=>by rw [cell_of_row _ _ _ _ _ _ f0];simpa [ints] using hu⟩⟩
  |1,_=>exact ⟨_,1,rfl,.inr ⟨_,_,rfl,lt_of_block f1,fun j u hu=>by rw [cell_of_row _ _ _ _ _ _ f1];simpa [ints] using hu⟩⟩
 have CS:=Lib.hid (match_Side (some ⟨w3.heap.size,0,none⟩) 2 2 [[0,4],[1]] w4 hlis rfl (Nat.le_refl _) (by intro s hs;simp at hs;rcases hs with rfl|rfl<;>simp) (by omega))
 rw [lives_side,hs3] at CS
 have HW4:Hid (w4=((w2.alloc (.cells #[.int .i64 0,.int .i64 4] 3)).alloc (.cells #[.int .i64 1] 3)).alloc (.cells #[.slice (some ⟨w2.heap.size,0,none⟩) 2 2,.slice (some ⟨w2.heap.size+1,0,none⟩) 1 1] 88)):=Lib.hid (by rw [hw4,hw3])
 have HB4:=Lib.hid (HB2.out.trans ((hb3.trans (hb4.mono hb3.size)).mono HB2.out.size))
 clear hz2 hw3 e0 e1 hb3 hs3 hw4 hb4 f0 f1 f2 hlis
 go_wp2_with (go_at_call 57;rw [← HW4.out];refine CS.out.mono ?_;rintro e w5 ⟨rfl,hb5⟩)
 go_ret
 exact ⟨rfl,HB4.out.trans (hb5.mono HB4.out.size)⟩
end Go.Proofs.YtldcadpemnpbmaaGreatDoor
