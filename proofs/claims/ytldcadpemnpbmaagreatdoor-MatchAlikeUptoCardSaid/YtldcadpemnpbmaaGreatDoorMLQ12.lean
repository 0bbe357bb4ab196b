import Derived.Test.YtldcadpemnpbmaaGreatDoorMLQ11
import Derived.Test.YtldcadpemnpbmaaGreatDoorMLQ06
import Derived.Test.YtldcadpemnpbmaaGreatDoorMLQ07
import Derived.BigQuiet
import Derived.Deep.QuietTactic
import Derived.Lib.SliceRun
import Derived.Deep.RegionHeld3
import Derived.StillTailTactics
namespace Go.Proofs.YtldcadpemnpbmaaGreatDoor
open Go Go.RowKit
set_option linter.unusedVariables false
theorem Taker.keep {Be Bb Ba:Nat} {A:Option Addr} {m c:Nat} {e a:Int} {w w':World} (h:Taker Be Bb Ba A m c e a w) {B:Nat} (hb:Below B w w') (h1:Be<B) (h2:Bb<B) (h3:Ba<B):Taker Be Bb Ba A m c e a w':=
 ⟨(hb.block _ h1).trans h.err,(hb.block _ h2).trans h.bytes,(hb.block _ h3).trans h.place⟩
def GetRRel (B0 base:Nat) (A:Option Addr) (m c:Nat) (l:List UInt8) (many:Nat) (w:World) (r:Option (List Int × Nat)) (at_ r4 r5 r6 e vl last i:Value) (wr:World):Prop:=
 r4= .slice none 0 0∧r5= .int .i64 0∧r6= .int .i64 0∧e= .int .i64 0∧∃ (acc:List Int) (x:Int) (a k:Nat),k≤many∧i= .int .i64 (k:Int)∧last= .int .i64 x∧at_= .int .i64 (a:Int)∧acc.length=k∧k≤a∧a≤m∧ -1≤x∧x≤4611686018427387904∧
  r=takeR l (many-k) x a acc∧wr.ownsRow base 3 1 vl k (ints acc)∧Taker (B0+2) B0 (B0+1) A m c 0 a wr∧Below B0 w wr∧base≤wr.heap.size
set_option maxHeartbeats 2000000 in
set_option maxRecDepth 100000 in
theorem vint_GetRising (A:Option Addr) (m c:Nat) (a:Int) (l:List UInt8) (w:World) (hr:Row w w.heap.size A (Lib.byteCells l)) (hm:l.length=m) (hc:m≤c) (hcx:c≤maxLen) (hl:m≤400000000000):
  Calls Tryz.prog 335 #[.slice A m c,.int .i64 a] w (GaveR (risZ l a) w):=by
 obtain ⟨i0,hi0,hz0,hz1,hz2⟩:=info_parts info_int
 have HR:=Lib.hid hr
 clear hr
 rcases getZ_split l a with ⟨e,hz,he⟩|⟨many,b,hz,hb,hmany⟩
 ·have hres:=risZ_err hz (by omega)
  rw [hres]
  have HZ:=Lib.hid hz
  clear hz hres he
  go_enter Tryz.func335,Tryz.ntmps335
  go_wp2_with (go_at_call 336;refine (vint_taker A m c a _ (by omega)).mono ?_)
  rintro en w2 ⟨rfl,ht,hb,hs⟩
  have hr2:=HR.out.below hb
  have t1:=take_first _ _ _ A m c a l w2 ht (hr2.more (by omega)) hm hc hcx (by omega)
  rw [HZ.out] at t1
  have T1:=Lib.hid t1
  have HB:=Lib.hid hb
  clear t1 hr2 ht hb
  go_wp2_with (go_at_call 337;refine T1.out.mono ?_)
  rintro en w3 ⟨rfl,_,h3⟩
  have HB3:=Lib.hid (HB.out.trans (h3.below (by omega) (by omega) (by omega)))
  clear h3
  go_wp2
  go_loop [1,9,10,23] (fun t er vl i=>t= .int .i64 0∧er= .int .i64 e∧vl= .slice none 0 0∧i= .int .i64 0) (fun _ _ _ _=>0)
  case atStart=>exact ⟨rfl,rfl,rfl,rfl⟩
  case round=>
   obtain ⟨rfl,rfl,rfl,rfl⟩:=hrel
   go_wp2
   go_ret3
   exact ⟨_,rfl,World.ownsRow_nil _ _ _ _,HB3.out⟩
 ·have hres:=risZ_ok hz
  obtain ⟨r,hr⟩:∃ r,r=takeR l many (-1) b []:=⟨_,rfl⟩
  rw [← hr] at hres
  obtain ⟨z,hzz⟩:∃ z,z=risZ l a:=⟨_,rfl⟩
  rw [← hzz]
  rw [← hzz] at hres
  have HZ:=Lib.hid hz
  have HRES:=Lib.hid hres
  have HRR:=Lib.hid hr
  clear hz hres hr hzz
  go_enter Tryz.func335,Tryz.ntmps335
  go_wp2_with (go_at_call 336;refine (vint_taker A m c a _ (by omega)).mono ?_)
  rintro en w2 ⟨rfl,ht,hb2,hs⟩
  have hr2:=HR.out.below hb2
  have t1:=take_first _ _ _ A m c a l w2 ht (hr2.more (by omega)) hm hc hcx (by omega)
  rw [HZ.out] at t1
  have T1:=Lib.hid t1
  have HB:=Lib.hid hb2
  clear t1 hr2 ht hb2
  go_wp2_with (go_at_call 337;refine T1.out.mono ?_)
  rintro en w3 ⟨rfl,⟨a',ht3,ha'⟩,h3⟩
  have ha3:a'=(b:Int):=ha' rfl
  subst ha3
  have hs3:w2.heap.size≤w3.heap.size:=h3.2.2.2.1
  have HB3:=Lib.hid (HB.out.trans (h3.below (by omega) (by omega) (by omega)))
  have HT3:=Lib.hid ht3
  clear h3 ht3 ha'
  obtain ⟨B0,hB0⟩:∃ B0,B0=w.heap.size:=⟨_,rfl⟩
  rw [← hB0] at HT3
  rw [← hB0] at HB3
  rw [← hB0] at hs
  rw [← hB0]
  have HB0:=Lib.hid hB0
  clear hB0
  go_wp2
  go_loopw [1,4,5,6,9,10,11,23] (fun t r4 r5 r6 e vl last i wr=>GetRRel B0 w2.heap.size A m c l many w r t r4 r5 r6 e vl last i wr) (fun _ _ _ _ _ _ _ i _=>many-(intOf i).toNat)
  case atStart=>exact ⟨rfl,rfl,rfl,rfl,[], -1,b,0,by omega,rfl,rfl,rfl,rfl,by omega,by omega,by omega,by omega,HRR.out,World.ownsRow_nil _ _ _ _,HT3.out,HB3.out,hs3⟩
  case round=>
   obtain ⟨rfl,rfl,rfl,rfl,acc,x,q,k,hk,rfl,rfl,rfl,hacc,hkq,hqm,hx0,hx1,htake,hown,ht,hbw,hsz⟩:=hrel
   by_cases hlt:k<many
   ·obtain ⟨j,hj⟩:∃ j,many-k=j+1:=⟨many-k-1,by omega⟩
    rw [hj,takeR] at htake
    have hbd:=getF_bd (l.drop q)
    rw [List.length_drop,hm] at hbd
    have hrow:=(HR.out.below (HB0.out▸hbw)).more (HB0.out▸hbw).size
    have HBW:=Lib.hid hbw
    have HOWN:=Lib.hid hown
    by_cases hbad:(getF (l.drop q)).2=0∨4611686018427387904-(x+1)<((getF (l.drop q)).1:Int)
    ·rw [if_pos hbad] at htake
     have t1:=vint_take_bad (B0+2) B0 (B0+1) A m c q (4611686018427387904-(x+1)) l wr ht hrow hm hc hcx hqm (by omega) hbad
     have T1:=Lib.hid t1
     have hres:z=([],0,2):=by rw [HRES.out,htake];rfl
     have HR2:=Lib.hid hres
     clear hres t1 hbad htake hbd hj hrow hbw hown ht
     go_wp2_with (go_at_call 337;refine T1.out.mono ?_)
     rintro en w4 ⟨rfl,_,h4⟩
     have HB4:=Lib.hid (HBW.out.trans (h4.below (by have :=HBW.out.size;omega) (by omega) (by omega)))
     clear h4
     go_wp2
     go_ret3
     rw [HR2.out]
     exact ⟨_,rfl,World.ownsRow_nil _ _ _ _,HB0.out▸HB4.out⟩
    ·rw [if_neg hbad] at htake
     have t1:=vint_take_good (B0+2) B0 (B0+1) A m c q (4611686018427387904-(x+1)) l wr ht hrow hm hc hcx hqm (by omega) (by omega) (by omega)
     obtain ⟨f,hf⟩:∃ f,f=(getF (l.drop q)).1:=⟨_,rfl⟩
     obtain ⟨g,hg⟩:∃ g,g=(getF (l.drop q)).2:=⟨_,rfl⟩
     rw [← hf,← hg] at t1 htake
     rw [← hf,← hg] at hbd hbad
     have T1:=Lib.hid t1
     have HTK:=Lib.hid htake
     have hfx:(f:Int)≤4611686018427387904-(x+1):=by omega
     have hg1:1≤g:=by omega
     have hjk:Hid (j=many-(k+1)):=Lib.hid (by omega)
     clear t1 hbad htake hj hrow hbw hown ht hf hg
     go_wp2_with (go_at_call 337;refine T1.out.mono ?_)
     rintro en w4 ⟨rfl,ht4,h4⟩
     have hs4:wr.heap.size≤w4.heap.size:=h4.2.2.2.1
     have hown4:=owned_aside HOWN.out (by omega) (by omega) (Nat.le_refl _) h4
     have HB4:=Lib.hid (HBW.out.trans (h4.below (by have :=HBW.out.size;omega) (by omega) (by omega)))
     have HT4:=Lib.hid ht4
     have HOWN4:=Lib.hid hown4
     clear h4 ht4 hown4
     go_wp2_with (at_builtin;refine wpList_append_own _ rfl (.tmp 41) (.tmp 43) 88 rfl w2.heap.size 3 i0 _ 1 8 Tryz.underlying88 hi0 hz0 hz1 hz2 rfl (by omega) _ k (ints acc) rfl (HOWN4.out.alloc _) ⟨w4.heap.size,0,none⟩ 1 1 [.int .i64 (x+((f:Int)+1))] rfl rfl (news_at w4 [.int .i64 (x+((f:Int)+1))] 3) (by intro u hu;simp at hu;subst hu;rfl) (by unfold maxLen;omega) (by omega) (by simp;omega) ?_)
     intro v5 w5 hown5 hg5 _
     have hb5:Below w2.heap.size w4 w5:=((Below.refl _ w4).alloc (by omega) _).grown hg5 (by simp;omega) fun k hk=>(HOWN4.out.lt k hk).1
     have hfin:GetRRel B0 w2.heap.size A m c l many w r (.int .i64 ((q:Int)+(g:Int))) (.slice none 0 0) (.int .i64 0) (.int .i64 0) (.int .i64 0) v5 (.int .i64 (x+((f:Int)+1))) (.int .i64 ((k:Int)+1)) w5:=
      ⟨rfl,rfl,rfl,rfl,acc++[x+((f:Int)+1)],x+((f:Int)+1),q+g,k+1,by omega,by simp,rfl,by simp,by simp [hacc],by omega,by omega,by omega,by omega,
       by rw [← hjk.out];exact HTK.out,by rw [show ints (acc++[x+((f:Int)+1)])=ints acc++[.int .i64 (x+((f:Int)+1))] by simp [ints],hs];exact hown5,
       by rw [Int.natCast_add];exact HT4.out.keep hb5 (by omega) (by omega) (by omega),HB4.out.trans (hb5.mono (by omega)),by have :=hb5.size;omega⟩
     have HF:=Lib.hid hfin
     clear hfin hb5 hg5 hown5
     go_wp2
     go_roundw
     case rel=>exact HF.out
     case measure=>simp [intOf];omega
   ·have hkm:many-k=0:=by omega
    rw [hkm,takeR] at htake
    have hres:z=(acc,(q:Int),0):=by rw [HRES.out,htake];rfl
    have HR2:=Lib.hid hres
    have HA:=Lib.hid hacc
    clear hres htake hkm hacc
    go_wp2
    go_ret3
    rw [HR2.out]
    refine ⟨_,rfl,?_,HB0.out▸hbw⟩
    simp only
    rw [HA.out]
    exact owned_low hown (by rw [← HB0.out];omega)
end Go.Proofs.YtldcadpemnpbmaaGreatDoor
set_option linter.unusedVariables false
namespace Go.Proofs.YtldcadpemnpbmaaGreatDoor
open Go Go.RowKit
def GaveGet (b:List UInt8) (x:Int) (a many:Nat) (w:World) (e:Ending) (w':World):Prop:=
  Below w.heap.size w w'∧
    ((∃ g v, g.length = many ∧ Stands b x a g ∧ (∀ g', g'.length = many → Stands b x a g' → g' = g) ∧ (∀ p ∈ g, p.2.length ≤ b.length) ∧ e = .returned (.tuple #[v, .int .i64 ((a + (bytesP x g).length : Nat) : Int), .bool true]) ∧ NewPo w.heap.size w' v g) ∨
     ((∀ g',g'.length=many→¬ Stands b x a g')∧e= .returned (.tuple #[.slice none 0 0,.int .i64 0,.bool false])))
def GetPRel (b:List UInt8) (x0:Int) (a0 many:Nat) (w:World) (r6 r7 r8 vo last at_ i:Value) (wr:World):Prop:=
 r6= .slice none 0 0∧r7= .int .i64 0∧r8= .bool false∧∃ (acc:List Po) (k a:Nat) (x:Int),k≤many∧i= .int .i64 (k:Int)∧acc.length=k∧last= .int .i64 x∧at_= .int .i64 (a:Int)∧x=docOf x0 acc∧a=a0+(bytesP x0 acc).length∧a≤b.length∧
  Stands b x0 a0 acc∧ -1≤x∧x<2147483648∧(∀ g,g.length=many→Stands b x0 a0 g→acc=g.take k)∧(∀ p∈acc,p.2.length≤b.length)∧NewPo w.heap.size wr vo acc∧Below w.heap.size w wr
set_option maxHeartbeats 4000000 in
set_option maxRecDepth 100000 in
theorem posting_get (A:Option Addr) (m c:Nat) (b:List UInt8) (x0:Int) (a0 many:Nat) (w:World) (hr:Row w w.heap.size A (Lib.byteCells b)) (hm:b.length=m) (hc:m≤c) (hcx:c≤maxLen) (hl:m≤400000000000) (ha0:a0≤m) (hx0: -1≤x0) (hx1:x0<2147483648) (hmany:many≤1000):
  Calls Tryz.prog 331 #[.slice A m c,.agg #[.int .i64 x0,.int .i64 (a0:Int)],.int .i64 (many:Int)] w (GaveGet b x0 a0 many w):=by
 obtain ⟨i0,hi0,hz0,hz1,hz2⟩:=info_parts info_posting
 have HR:=Lib.hid hr
 have HM:=Lib.hid hm
 clear hr
 go_enter Tryz.func331,Tryz.ntmps331
 go_wp2
 go_quiet (fail)
 go_wp2
 obtain ⟨wq,hwq⟩:∃ wq,wq=World.drewN (w.alloc (.cells #[.int .i64 x0,.int .i64 (a0:Int)] 240)) nq:=⟨_,rfl⟩
 have hbq:Below w.heap.size w wq:=by rw [hwq];exact ((Below.refl _ w).alloc (Nat.le_refl _) _).trans (quiet_below _)
 rw [← hwq]
 have HBQ:=Lib.hid hbq
 clear hwq hbq
 go_loopw [6,7,8,9,10,11,21] (fun r6 r7 r8 vo last at_ i wr=>GetPRel b x0 a0 many w r6 r7 r8 vo last at_ i wr) (fun _ _ _ _ _ _ i _=>many-(intOf i).toNat)
 case atStart=>exact ⟨rfl,rfl,rfl,[],0,a0,x0,by omega,rfl,rfl,rfl,rfl,rfl,by simp [bytesP],by omega,Stands.nil (by omega),hx0,hx1,fun g _ _=>by simp,(by intro p hp;cases hp),NewPo.nil,HBQ.out⟩
 case round=>
  obtain ⟨rfl,rfl,rfl,acc,k,a,x,hk,rfl,hacc,rfl,rfl,hxe,hae,hab,hst,hxl,hxh,huni,hpl,hown,hbw⟩:=hrel
  have hsz:=hbw.size
  by_cases hlt:k<many
  ·have hnx:∀ g,g.length=many→Stands b x0 a0 g→∃ a2:Nat,getZ b (a:Int)=((g.getD k (0,[])).1-(x+1),(a2:Int),0)∧risZ b (a2:Int)=((g.getD k (0,[])).2,(((a0+(bytesP x0 (g.take (k+1))).length:Nat)):Int),0)∧
     x<(g.getD k (0,[])).1∧(g.getD k (0,[])).1<2147483648∧placesB (g.getD k (0,[])).2=true∧g.take (k+1)=acc++[((g.getD k (0,[])).1,(g.getD k (0,[])).2)]:=fun g h1 h2=>by
    obtain ⟨a2,e1,e2,e3,e4,e5,e6,e7⟩:=stands_next h2 hx0 (k:=k) (by omega) (by omega)
    rw [← huni g h1 h2] at e1 e3 e4 e7
    rw [← hxe,← hae] at e1
    rw [← hxe] at e3 e4
    exact ⟨a2,e1,e2,e4,e5,e6,e7⟩
   have HNX:=Lib.hid hnx
   have HUNI:=Lib.hid huni
   have HST:=Lib.hid hst
   have HXE:=Lib.hid hxe
   have HAE:=Lib.hid hae
   have HPL:=Lib.hid hpl
   have HOWN:=Lib.hid hown
   have HA:=Lib.hid hacc
   have HBW:=Lib.hid hbw
   have g1:=vint_Get A m c (a:Int) b wr ((HR.out.below hbw).more hsz) hm hc hcx (by omega)
   clear hnx huni hst hxe hae hpl hown hacc hbw
   rcases getZ_split b (a:Int) with ⟨e,hz,he⟩|⟨dz,a2,hz,ha2,hdz⟩
   ·rw [hz] at g1
    have G1:=Lib.hid g1
    have HNO:Hid (∀ g',g'.length=many→¬ Stands b x0 a0 g'):=Lib.hid fun g h1 h2=>by
     obtain ⟨q,e1,_⟩:=HNX.out g h1 h2
     rw [hz] at e1
     simp only [Prod.mk.injEq] at e1
     omega
    have hne:e≠0:=by omega
    have heb:(e != 0)=true:=by rw [bne_iff_ne];exact hne
    clear g1 hz he
    go_wp2_with (go_at_call 334;refine G1.out.mono ?_)
    rintro en w4 ⟨rfl,hb4⟩
    have HB4:=Lib.hid (HBW.out.trans (hb4.mono hsz))
    clear hb4
    go_wp2
    go_ret3
    exact ⟨HB4.out,.inr ⟨HNO.out,rfl⟩⟩
   ·rw [hz] at g1
    have G1:=Lib.hid g1
    have HZ:=Lib.hid hz
    clear g1 hz
    by_cases hbig:2147483648-(x+1)≤(dz:Int)
    ·have HNO:Hid (∀ g',g'.length=many→¬ Stands b x0 a0 g'):=Lib.hid fun g h1 h2=>by
      obtain ⟨q,e1,_,e3,e4,_⟩:=HNX.out g h1 h2
      rw [HZ.out] at e1
      simp only [Prod.mk.injEq] at e1
      omega
     have hd:decide (2147483648-(x+1)≤(dz:Int))=true:=decide_eq_true hbig
     clear hdz
     go_wp2_with (go_at_call 334;refine G1.out.mono ?_)
     rintro en w4 ⟨rfl,hb4⟩
     have HB4:=Lib.hid (HBW.out.trans (hb4.mono hsz))
     clear hb4
     go_wp2
     go_ret3
     exact ⟨HB4.out,.inr ⟨HNO.out,rfl⟩⟩
    ·have hd:decide (2147483648-(x+1)≤(dz:Int))=false:=decide_eq_false hbig
     go_wp2_with (go_at_call 334;refine G1.out.mono ?_)
     rintro en w4 ⟨rfl,hb4⟩
     have HB4:=Lib.hid (HBW.out.trans (hb4.mono hsz))
     have hs4:=HB4.out.size
     have g2:=vint_GetRising A m c (a2:Int) b w4 ((HR.out.below HB4.out).more hs4) hm hc hcx (by omega)
     have HOW4:=Lib.hid (HOWN.out.below hb4)
     clear hb4
     rcases risZ_split b (a2:Int) with ⟨e,hz2,he⟩|⟨ps,a3,hz2,ha3,hpsl⟩
     ·rw [hz2] at g2
      have G2:=Lib.hid g2
      have HNO:Hid (∀ g',g'.length=many→¬ Stands b x0 a0 g'):=Lib.hid fun g h1 h2=>by
       obtain ⟨q,e1,e2,_⟩:=HNX.out g h1 h2
       rw [HZ.out] at e1
       simp only [Prod.mk.injEq] at e1
       rw [← e1.2.1,hz2] at e2
       simp only [Prod.mk.injEq] at e2
       exact he e2.2.2
      have heb:(e != 0)=true:=by rw [bne_iff_ne];exact he
      clear g2 hz2
      go_wp2_with (go_at_call 335;refine G2.out.mono ?_)
      rintro en w5 ⟨v5,rfl,_,hb5⟩
      have HB5:=Lib.hid (HB4.out.trans (hb5.mono hs4))
      clear hb5
      go_wp2
      go_ret3
      exact ⟨HB5.out,.inr ⟨HNO.out,rfl⟩⟩
     ·rw [hz2] at g2
      have G2:=Lib.hid g2
      have HZ2:=Lib.hid hz2
      clear g2 hz2
      go_wp2_with (go_at_call 335;refine G2.out.mono ?_)
      rintro en w5 ⟨v5,rfl,hown5,hb5⟩
      simp only at hown5
      obtain ⟨A5,c5,rfl,hc5,hr5⟩:=owned_row hown5
      have hcx5:c5≤maxLen:=by
       rcases hown5.2 with ⟨h,_⟩|⟨_,cap,_,h,_,_,_,h4,_⟩
       ·injection h with _ _ h;omega
       ·injection h with _ _ h;rw [h];exact h4
      obtain ⟨F,hF⟩:∃ F,F=ps.length:=⟨_,rfl⟩
      have mp:=may_places_any A5 F c5 ps w5 hr5 hF.symm (by omega)
      rw [← hF] at hc5 hpsl
      rw [← hF]
      have HFL:=Lib.hid hF
      have MP:=Lib.hid mp
      have HR5:=Lib.hid (RowL.of_own (base:=w.heap.size) hown5 (by omega))
      have HB5:=Lib.hid (HB4.out.trans (hb5.mono hs4))
      have hs5:=HB5.out.size
      have HOW5:=Lib.hid (HOW4.out.below hb5)
      clear hown5 hb5 hF mp hr5
      rcases hpb:placesB ps with _|_
      ·rw [hpb] at MP
       have HNO:Hid (∀ g',g'.length=many→¬ Stands b x0 a0 g'):=Lib.hid fun g h1 h2=>by
        obtain ⟨q,e1,e2,_,_,e5,_⟩:=HNX.out g h1 h2
        rw [HZ.out] at e1
        simp only [Prod.mk.injEq] at e1
        rw [← e1.2.1,HZ2.out] at e2
        simp only [Prod.mk.injEq] at e2
        rw [← e2.1,hpb] at e5
        cases e5
       clear hpb
       go_wp2_with (go_at_call 226;refine MP.out.mono ?_;rintro e w' ⟨rfl,rfl⟩)
       go_ret3
       exact ⟨HB5.out,.inr ⟨HNO.out,rfl⟩⟩
      ·rw [hpb] at MP
       have hstep:=stands_step HST.out (by rw [← HXE.out];exact hxl) (d:=(dz:Int)) (q2:=(a2:Int)) (q3:=(a3:Int)) (ps:=ps) (by rw [← HAE.out];exact HZ.out) HZ2.out (by rw [← HXE.out];omega) hpb
       rw [← HXE.out] at hstep
       obtain ⟨y,hy⟩:∃ y,y=x+1+(dz:Int):=⟨_,rfl⟩
       rw [show (dz:Int)+(x+1)=y by omega] at hstep
       have hst2:=hstep.1
       have ha32:a3=a0+(bytesP x0 (acc++[(y,ps)])).length:=by have :=hstep.2;omega
       have huni2:∀ g,g.length=many→Stands b x0 a0 g→acc++[(y,ps)]=g.take (k+1):=fun g h1 h2=>by
        obtain ⟨q,e1,e2,_,_,_,e6⟩:=HNX.out g h1 h2
        rw [HZ.out] at e1
        simp only [Prod.mk.injEq] at e1
        rw [← e1.2.1,HZ2.out] at e2
        simp only [Prod.mk.injEq] at e2
        rw [e6,← e2.1,show y=(g.getD k (0,[])).1 by omega]
       have hpl2:∀ p∈acc++[(y,ps)],p.2.length≤b.length:=fun p hp=>by
        rcases List.mem_append.1 hp with h|h
        ·exact HPL.out p h
        ·simp at h;rw [h];show ps.length≤b.length;rw [← HFL.out];exact hpsl
       have hy2: -1≤y∧y<2147483648:=by omega
       have hdoc:y=docOf x0 (acc++[(y,ps)]):=docOf_step.symm
       obtain ⟨cs,hcs1,hcs2⟩:=HOW5.out
       rw [HA.out] at hcs1
       have HC1:=Lib.hid hcs1
       have HC2:=Lib.hid hcs2
       have HST2:=Lib.hid hst2
       have HA32:=Lib.hid ha32
       have HUNI2:=Lib.hid huni2
       have HPL2:=Lib.hid hpl2
       have HDOC:=Lib.hid hdoc
       have HY:=Lib.hid hy
       clear hpb hstep hst2 ha32 huni2 hpl2 hdoc hcs1 hcs2 HST HNX HUNI HPL HZ HZ2 HOW5 HOW4 HOWN
       have hyx:x+1+(dz:Int)=y:=HY.out.symm
       clear hy
       go_wp2_with (first
        |(go_at_call 226;refine MP.out.mono ?_;rintro e w' ⟨rfl,rfl⟩)
        |(at_builtin;refine wpList_append_own _ rfl (.tmp 58) (.tmp 62) 94 rfl w.heap.size 153 i0 _ 2 32 Tryz.underlying94 hi0 hz0 hz1 hz2 rfl (by omega) _ k cs rfl (HC1.out.alloc _) ⟨w5.heap.size,0,none⟩ 1 1 [.int .i64 y,.slice A5 F c5] rfl rfl (news_at w5 [.int .i64 y,.slice A5 F c5] 153) (by intro u hu;simp at hu;rcases hu with hu|hu<;>(subst hu;rfl)) (by unfold maxLen;omega) (by omega) (by simp;omega) ?_))
       intro v7 w7 hown7 hg7 _
       have hal:=(Below.refl w5.heap.size w5).alloc (Nat.le_refl _) (.cells #[.int .i64 y,.slice A5 F c5] 153)
       have hb7:Below w.heap.size w5 w7:=((Below.refl _ w5).alloc hs5 _).grown hg7 (by simp;omega) fun k hk=>(HC1.out.lt k hk).1
       have hpush:NewPo w.heap.size w7 v7 (acc++[(y,ps)]):=
        NewPo.push (c:=c5) (A:=A5) (cs:=cs) (by rw [HA.out];exact HC1.out.alloc _) (HC2.out.imp fun _ _ h=>⟨h.1.below hal,h.2⟩) (by rw [← HFL.out];exact hc5) hcx5 ⟨HR5.out.1.below hal,HR5.out.2⟩ (by rw [HA.out,← HFL.out];exact hown7) hg7
       have hfin:GetPRel b x0 a0 many w (.slice none 0 0) (.int .i64 0) (.bool false) v7 (.int .i64 y) (.int .i64 (a3:Int)) (.int .i64 ((k:Int)+1)) w7:=
        ⟨rfl,rfl,rfl,acc++[(y,ps)],k+1,a3,y,by omega,by simp,by simp [HA.out],rfl,rfl,HDOC.out,HA32.out,ha3,HST2.out,hy2.1,hy2.2,HUNI2.out,HPL2.out,hpush,HB5.out.trans hb7⟩
       have HF:=Lib.hid hfin
       clear hfin hb7 hg7 hown7 hpush hal
       go_wp2
       go_roundw
       case rel=>exact HF.out
       case measure=>simp [intOf];omega
  ·obtain rfl:k=many:=by omega
   have hfin:Below w.heap.size w wr∧((∃ g v,g.length=k∧Stands b x0 a0 g∧(∀ g',g'.length=k→Stands b x0 a0 g'→g'=g)∧(∀ p∈g,p.2.length≤b.length)∧Ending.returned (.tuple #[u9,.int .i64 (a:Int),.bool true])= .returned (.tuple #[v,.int .i64 ((a0+(bytesP x0 g).length:Nat):Int),.bool true])∧NewPo w.heap.size wr v g)):=
    ⟨hbw,acc,u9,hacc,hst,fun g' h1 h2=>by rw [huni g' h1 h2,List.take_of_length_le (by omega)],hpl,by rw [hae],hown⟩
   have HF:=Lib.hid hfin
   clear hfin hst huni hpl hown hbw hxe hae
   go_wp2
   go_ret3
   exact ⟨HF.out.1,.inl HF.out.2⟩
end Go.Proofs.YtldcadpemnpbmaaGreatDoor
set_option linter.unusedVariables false
namespace Go.Proofs.YtldcadpemnpbmaaGreatDoor
open Go Go.RowKit
section
variable (B:Nat) (bs:List UInt8) (l:List Po) (w:World) (h:LIn w B bs l)
include h
theorem in_has (k:Int) (hk0: -1≤k):Calls Tryz.prog 320 #[.pointer (some ⟨B,0,none⟩),.int .i64 k] w fun e w'=>e= .returned (.bool (decide (0≤k∧k<(blocksP l.length:Int))))∧w=w':=by
 have HB:=Lib.hid (in_Blocks B bs l w h)
 clear h
 obtain ⟨n,hn⟩:∃ n,n=blocksP l.length:=⟨_,rfl⟩
 rw [← hn] at HB
 rw [← hn]
 clear hn
 by_cases hz:k<0
 ·have hd:decide (0≤k∧k<(n:Int))=false:=decide_eq_false (by omega)
  rw [hd]
  have hg:decide (0≤k)=false:=decide_eq_false (by omega)
  go_enter Tryz.func320,Tryz.ntmps320
  go_wp2
  go_ret
  exact ⟨rfl,rfl⟩
 ·have hg:decide (0≤k)=true:=decide_eq_true (by omega)
  have hd:decide (0≤k∧k<(n:Int))=decide (k<(n:Int)):=by
   by_cases h2:k<(n:Int)
   ·rw [decide_eq_true h2,decide_eq_true ⟨by omega,h2⟩]
   ·rw [decide_eq_false h2,decide_eq_false (fun h=>h2 h.2)]
  rw [hd]
  clear hd
  go_enter Tryz.func320,Tryz.ntmps320
  go_wp2_with (go_at_call 231;refine HB.out.mono ?_;rintro e w' ⟨rfl,rfl⟩)
  go_ret
  exact ⟨rfl,rfl⟩
end
end Go.Proofs.YtldcadpemnpbmaaGreatDoor
set_option linter.unusedVariables false
namespace Go.Proofs.YtldcadpemnpbmaaGreatDoor
open Go Go.RowKit
set_option maxHeartbeats 4000000 in
set_option maxRecDepth 100000 in
theorem in_Block (B:Nat) (l:List Po) (w:World) (h:LIn w B (bytesP (-1) l) l) (hm:mayB' (-1) l=true) (hbl:(bytesP (-1) l).length≤400000000000) (hl:l.length≤1000000) (k:Int) (hk0: -1≤k):
  Calls Tryz.prog 323 #[.pointer (some ⟨B,0,none⟩),.int .i64 k] w (GaveNew (blockP l k) w):=by
 have HH:=Lib.hid (in_has B _ l w h k hk0)
 by_cases hin:0≤k∧k<(blocksP l.length:Int)
 ·obtain ⟨j,rfl⟩:∃ j:Nat,k=(j:Int):=⟨k.toNat,by omega⟩
  have hj:j<blocksP l.length:=by omega
  rw [decide_eq_true hin] at HH
  have hst:=block_stands hj hm
  have hblen:=blockP_length (l:=l) j
  have hd0:=docOf_ge (l.take (8*j)) (-1) (by have :=hm;rw [← List.take_append_drop (8*j) l,mayB'_append,Bool.and_eq_true] at this;exact this.1)
  have hd1:=docOf_lt (l.take (8*j)) (-1) (by have :=hm;rw [← List.take_append_drop (8*j) l,mayB'_append,Bool.and_eq_true] at this;exact this.1) (by omega)
  have hal:(bytesP (-1) (l.take (8*j))).length≤(bytesP (-1) l).length:=by have :=hst.2.1;omega
  have ah:=fun w' (hb:Below w.heap.size w w')=>in_ahead B _ l w' (h.below hb) j (by omega) (by omega)
  obtain ⟨bs,hbs⟩:∃ bs,bs=bytesP (-1) l:=⟨_,rfl⟩
  obtain ⟨blk,hblk⟩:∃ blk,blk=blockP l (j:Int):=⟨_,rfl⟩
  obtain ⟨x,hx⟩:∃ x,x=docOf (-1) (l.take (8*j)):=⟨_,rfl⟩
  obtain ⟨a,ha⟩:∃ a,a=(bytesP (-1) (l.take (8*j))).length:=⟨_,rfl⟩
  rw [← hx,← ha] at ah
  rw [← hbs,← hblk,← hx,← ha] at hst
  rw [← hx] at hd0 hd1
  rw [← hbs] at h hbl
  rw [← hbs,← ha] at hal
  rw [← hblk] at hblen
  rw [← hblk]
  have hblt:=h.1
  obtain ⟨_,Ab,cb,Ae,ce,⟨c0,c1,c2,c3⟩,hcb,hcbx,_,hrb,_⟩:=h
  obtain ⟨n,hn⟩:∃ n,n=l.length:=⟨_,rfl⟩
  rw [← hn] at c2 hblen hl
  have hnj:8*j<n:=by rw [hn];unfold blocksP at hj;omega
  obtain ⟨M,hM⟩:∃ M,M=bs.length:=⟨_,rfl⟩
  rw [← hM] at c0 hal hbl hcb
  obtain ⟨q,hq⟩:∃ q:Nat,q=min 8 (n-8*j):=⟨_,rfl⟩
  rw [← hq] at hblen
  have hq1:q≤8:=by omega
  have hqm:(if (8:Int)<(n:Int)-(j:Int)*8 then (8:Int) else (n:Int)-(j:Int)*8)=(q:Int):=by split<;>omega
  have hqm2:min ((n:Int)-(j:Int)*8) 8=(q:Int):=by omega
  have hqm3:min (8:Int) ((n:Int)-(j:Int)*8)=(q:Int):=by omega
  have HG:Hid (∀ w',Below w.heap.size w w'→Calls Tryz.prog 331 #[.slice Ab M cb,.agg #[.int .i64 x,.int .i64 (a:Int)],.int .i64 (q:Int)] w' fun e w2=>
    ∃ (v:Value) (z:Int),e= .returned (.tuple #[v,.int .i64 z,.bool true])∧NewPo w'.heap.size w2 v blk∧Below w'.heap.size w' w2):=Lib.hid fun w' hb=>
   (posting_get Ab M cb bs x a q w' ((hrb.below hb).more hb.size) hM.symm hcb hcbx hbl hal (by omega) hd1 (by omega)).mono fun e w2=>by
    rintro ⟨h1,(⟨g,v,h2,h3,h4,_,rfl,h5⟩|⟨h2,_⟩)⟩
    ·exact ⟨v,_,rfl,by rw [h4 blk hblen hst];exact h5,h1⟩
    ·exact absurd hst (h2 blk hblen)
  have HA:Hid (∀ w',Below w.heap.size w w'→Calls Tryz.prog 230 #[.pointer (some ⟨B,0,none⟩),.int .i64 (j:Int)] w' fun e w2=>
    e= .returned (.agg #[.int .i64 x,.int .i64 (a:Int)])∧Below w'.heap.size w' w2):=Lib.hid fun w' hb=>ah w' hb
  have HC:Hid (∀ w',Below w.heap.size w w'→w'.cell? ⟨B,0,none⟩=some (.slice Ab M cb)∧w'.cell? ⟨B,2,none⟩=some (.int .i64 (n:Int))):=Lib.hid fun w' hb=>⟨(hb.cell (p:=⟨B,0,none⟩) hblt).trans c0,(hb.cell (p:=⟨B,2,none⟩) hblt).trans c2⟩
  have hsub:IntKind.i64.wrap ((n:Int)-(j:Int)*8)=(n:Int)-(j:Int)*8:=IntWalk.i64_in _ (by omega)
  have hmul:IntKind.i64.wrap ((j:Int)*8)=(j:Int)*8:=IntWalk.i64_in _ (by omega)
  have hjb:j≤1000000:=by omega
  clear hst hblen hrb hbs hblk hx ha hn hM hq ah c1 c3 hd0 hd1 hj hin hm
  go_enter Tryz.func323,Tryz.ntmps323
  go_wp2_with (go_at_call 320;refine HH.out.mono ?_;rintro e w' ⟨rfl,rfl⟩)
  go_region_held3 (fun w'=>w'.cell? ⟨B,0,none⟩=some (.slice Ab M cb)∧w'.cell? ⟨B,2,none⟩=some (.int .i64 (n:Int)))
   (first|exact HC.out _ (Below.refl _ _).drew|exact HC.out _ HB5.out|exact HC.out _ HB6.out)
   (first
    |(go_simp;go_at_call 230;(with_reducible refine (HA.out _ (Below.refl _ _).drew).mono ?_);rintro e w5 ⟨rfl,hb5⟩;have HB5:Hid (Below w.heap.size w w5):=Lib.hid ((Below.refl _ w).drew.trans hb5))
    |(go_simp;go_at_call 331;(with_reducible refine (HG.out _ HB5.out).mono ?_);rintro e w6 ⟨v,z,rfl,hown6,hb6⟩;have HB6:Hid (Below w.heap.size w w6):=Lib.hid (HB5.out.trans (hb6.mono HB5.out.size))))
  all_goals
   go_wp2
   go_ret
   exact ⟨_,rfl,hown6.low HB5.out.size,HB6.out⟩
 ·have hx:blockP l k=[]:=by
   by_cases hz:k<0
   ·exact blockP_neg hz
   ·obtain ⟨j,rfl⟩:∃ j:Nat,k=(j:Int):=⟨k.toNat,by omega⟩
    exact blockP_out (by omega)
  rw [hx]
  rw [decide_eq_false hin] at HH
  clear hx hin
  go_enter Tryz.func323,Tryz.ntmps323
  go_wp2_with (go_at_call 320;refine HH.out.mono ?_;rintro e w' ⟨rfl,rfl⟩)
  go_ret
  exact ⟨_,rfl,NewPo.nil,Below.refl _ _⟩
end Go.Proofs.YtldcadpemnpbmaaGreatDoor
set_option linter.unusedVariables false
namespace Go.Proofs.YtldcadpemnpbmaaGreatDoor
open Go Go.RowKit
theorem in_Last (B:Nat) (bs:List UInt8) (l:List Po) (w:World) (h:LIn w B bs l) (hl:l.length≤1073741824) (k:Int) (hk0: -1≤k):
  Calls Tryz.prog 299 #[.pointer (some ⟨B,0,none⟩),.int .i64 k] w fun e w'=>e= .returned (.int .i64 (lastP l k))∧w=w':=by
 have HH:=Lib.hid (in_has B bs l w h k hk0)
 obtain ⟨_,Ab,cb,Ae,ce,⟨c0,c1,c2,c3⟩,_,_,hce,_,hre⟩:=h
 clear c0 c2 c3
 by_cases hin:0≤k∧k<(blocksP l.length:Int)
 ·obtain ⟨j,rfl⟩:∃ j:Nat,k=(j:Int):=⟨k.toNat,by omega⟩
  have hj:j<blocksP l.length:=by omega
  obtain ⟨b,o,rfl,_,e0,_⟩:=row_end hre hj
  rw [← lastP_end hj] at e0
  rw [decide_eq_true hin] at HH
  obtain ⟨n,hn⟩:∃ n,n=blocksP l.length:=⟨_,rfl⟩
  rw [← hn] at c1 hj hce
  obtain ⟨x,hx⟩:∃ x,x=lastP l (j:Int):=⟨_,rfl⟩
  rw [← hx] at e0 ⊢
  have hnb:n≤1073741824:=by rw [hn];unfold blocksP;omega
  clear hn hx hre hin
  go_enter Tryz.func299,Tryz.ntmps299
  go_wp2_with (go_at_call 320;refine HH.out.mono ?_;rintro e w' ⟨rfl,rfl⟩)
  go_ret
  exact ⟨rfl,rfl⟩
 ·have hx:lastP l k= -1:=by
   unfold lastP
   by_cases hz:k<0
   ·rw [blockP_neg hz];rfl
   ·obtain ⟨j,rfl⟩:∃ j:Nat,k=(j:Int):=⟨k.toNat,by omega⟩
    rw [blockP_out (by omega)];rfl
  rw [hx]
  rw [decide_eq_false hin] at HH
  clear hx hre c1 hin
  go_enter Tryz.func299,Tryz.ntmps299
  go_wp2_with (go_at_call 320;refine HH.out.mono ?_;rintro e w' ⟨rfl,rfl⟩)
  go_ret
  exact ⟨rfl,rfl⟩
end Go.Proofs.YtldcadpemnpbmaaGreatDoor
set_option linter.unusedVariables false
namespace Go.Proofs.YtldcadpemnpbmaaGreatDoor
open Go Go.RowKit
structure Seen (C b1 b2:Nat) (g:List Po) (nx:Nat) (doc:Int) (W:World):Prop where
 box1:W.cell? ⟨b1,0,none⟩=some (.pointer (some ⟨C,0,none⟩))
 box2:W.cell? ⟨b2,0,none⟩=some (.int .i64 doc)
 next:W.cell? ⟨C,5,none⟩=some (.int .i64 (nx:Int))
 list:LIn W C (bytesP (-1) g) g
theorem OnlyIn.keepCell {S:Nat→Prop} {w w':World} (h:OnlyIn S w w') {p:Addr} (hp:p.block<w.heap.size) (hs:¬ S p.block):w'.cell? p=w.cell? p:=World.cell?_of_block (a:=p) (h.block p.block hp hs)
theorem OnlyIn.setCell {C i:Nat} {w w':World} (h:OnlyAt C w w') (v:Value):OnlyAt C w (w'.setCell ⟨C,i,none⟩ v):=
 ⟨h.os,h.tape,h.output,Nat.le_trans h.size (by simp),fun k hk hne=>(Below.heap_setCell w' ⟨C,i,none⟩ v k hne).trans (h.block k hk hne)⟩
end Go.Proofs.YtldcadpemnpbmaaGreatDoor
set_option linter.unusedVariables false
namespace Go.Proofs.YtldcadpemnpbmaaGreatDoor
open Go Go.RowKit
set_option maxHeartbeats 1000000 in
set_option maxRecDepth 100000 in
theorem cur_Doc {fu:Prop × Nat} (C:Nat) (g:List Po) (i:Int) (w:World) (h:CAt fu C g i w):
  Calls Tryz.prog 301 #[.pointer (some ⟨C,0,none⟩)] w fun e w'=>e= .returned (.int .i64 (docC g i))∧w=w':=by
 obtain ⟨vb,ve,A,c,nx,bh,rd,rest,hblk,_,hpos,_,_,hpo,_⟩:=h
 obtain ⟨⟨_,_,_,_,c4,_,c6,_⟩,_⟩:=cell_eight hblk
 obtain ⟨t1,t2,_,t4⟩:=hpos.tells
 clear hblk hpos
 cases bh with
 |true=>
  rw [t1 rfl]
  clear t1 t2 t4 c4 hpo
  go_enter Tryz.func301,Tryz.ntmps301
  go_wp2
  go_ret
  exact ⟨rfl,rfl⟩
 |false=>
  cases rest with
  |nil=>
   rw [t2 rfl rfl]
   simp only [List.length_nil] at c4
   clear t1 t2 t4 hpo
   go_enter Tryz.func301,Tryz.ntmps301
   go_wp2
   go_ret
   exact ⟨rfl,rfl⟩
  |cons p r=>
   obtain ⟨b,off,A',c',rfl,h1,_⟩:=hpo.head
   rw [(t4 p r rfl).2.1]
   simp only [List.length_cons] at c4
   obtain ⟨x,hx⟩:∃ x,x=p.1:=⟨_,rfl⟩
   rw [← hx] at h1
   rw [← hx]
   obtain ⟨n,hn⟩:∃ n,n=r.length:=⟨_,rfl⟩
   rw [← hn] at c4
   have hz:((n:Int)+1==0)=false:=by rw [beq_eq_false_iff_ne];omega
   clear t1 t2 t4 hpo hx hn
   go_enter Tryz.func301,Tryz.ntmps301
   go_wp2
   go_ret
   exact ⟨rfl,rfl⟩
end Go.Proofs.YtldcadpemnpbmaaGreatDoor
set_option linter.unusedVariables false
namespace Go.Proofs.YtldcadpemnpbmaaGreatDoor
open Go Go.RowKit
def restLen (C:Nat) (w:World):Nat:=match w.cell? ⟨C,4,none⟩ with|some (.slice _ n _)=>n|_=>0
theorem Pos6.next {g:List Po} {i:Int} {nx:Nat} {bh:Bool} {p:Po} {r:List Po} {doc:Int} (h:Pos6 g i nx bh (p::r)) (hlt:p.1<doc) (hle:doc≤lastP g ((nx:Int)-1)):
  Pos6 g (i+1) nx bh r∧r≠[]∧advC g doc i=advC g doc (i+1):=by
 have ht:=(h.tells).2.2.2 p r rfl
 rcases h with ⟨_,_,_,h⟩|⟨_,_,_,h⟩|⟨k,j,hj,rfl,rfl,rfl,hr⟩
 ·cases h
 ·cases h
 ·obtain ⟨h1,h2,h3⟩:=block_at hj
  rw [h3] at hr
  injection hr with hp hr
  rw [show ((k+1:Nat):Int)-1=(k:Int) by omega,lastP_doc h1] at hle
  have hj2:j+1<(blockP g (k:Int)).length:=by
   rcases Nat.lt_or_ge (j+1) (blockP g (k:Int)).length with h|h
   ·exact h
   ·have e:8*k+(blockP g (k:Int)).length-1=8*k+j:=by omega
    rw [e,ht.2.1] at hle
    omega
  refine ⟨.inr (.inr ⟨k,j+1,hj2,by omega,rfl,rfl,hr⟩),?_,?_⟩
  ·intro e
   rw [e] at hr
   have :=List.length_drop (i:=j+1) (l:=blockP g (k:Int))
   rw [← hr] at this
   simp at this
   omega
  ·exact advC_step ⟨by rw [ht.2.1];exact hlt,by omega⟩
end Go.Proofs.YtldcadpemnpbmaaGreatDoor
