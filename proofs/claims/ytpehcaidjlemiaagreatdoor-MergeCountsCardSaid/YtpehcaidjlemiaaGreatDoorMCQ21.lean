import Derived.Test.YtpehcaidjlemiaaGreatDoorMCZz
import Derived.Test.YtpehcaidjlemiaaGreatDoorMCQ09
import Derived.Test.YtpehcaidjlemiaaGreatDoorMCQ10
import Derived.Test.YtpehcaidjlemiaaGreatDoorMCQ16
import Derived.Test.YtpehcaidjlemiaaGreatDoorMCQ17
import Derived.Test.YtpehcaidjlemiaaGreatDoorMCQ20
import Derived.BigQuiet
import Derived.Deep.QuietTactic
import Derived.Lib.SliceRun
import Derived.Deep.RegionHeld3
import Derived.OneCell
import Derived.Test.YtpehcaidjlemiaaGreatDoorMCQ18
import Derived.Test.YtpehcaidjlemiaaGreatDoorMCQ04
import Derived.Test.YtpehcaidjlemiaaGreatDoorMCQ19
import Derived.Test.YtpehcaidjlemiaaGreatDoorMCQ07
import Derived.Test.YtpehcaidjlemiaaGreatDoorMCQ06
set_option maxHeartbeats 8000000
set_option maxRecDepth 100000
set_option linter.unusedVariables false
namespace Go.Proofs.YtpehcaidjlemiaaGreatDoor
open Go Go.RowKit
def qw6 (b:List UInt8) (x:Int) (a many:Nat) (w:World) (e:Ending) (w':World):Prop:=
  Below w.heap.size w w'/\
    ((∃ g v, g.length = many /\ qb1 b x a g /\ (∀ g', g'.length = many -> qb1 b x a g' -> g' = g) /\ (∀ p ∈ g, p.2.length <= b.length) /\ e = .returned (.tuple #[v, .int .i64 ((a + (qab x g).length : Nat) : Int), .bool true]) /\ qbb w.heap.size w' v g) ∨
     ((∀ g',g'.length=many->¬ qb1 b x a g')/\e= .returned (.tuple #[.slice none 0 0,.int .i64 0,.bool false])))
def qpg (b:List UInt8) (x0:Int) (a0 many:Nat) (w:World) (r6 r7 r8 vo last at_ i:Value) (wr:World):Prop:=
 r6= .slice none 0 0/\r7= .int .i64 0/\r8= .bool false/\∃ (acc:List Po) (k a:Nat) (x:Int),k<=many/\i= .int .i64 (k:Int)/\acc.length=k/\last= .int .i64 x/\at_= .int .i64 (a:Int)/\x=qaC x0 acc/\a=a0+(qab x0 acc).length/\a<=b.length/\
  qb1 b x0 a0 acc/\ -1<=x/\x<2147483648/\(∀ g,g.length=many->qb1 b x0 a0 g->acc=g.take k)/\(∀ p∈acc,p.2.length<=b.length)/\qbb w.heap.size wr vo acc/\Below w.heap.size w wr
theorem qw7 (A:Option Addr) (m c:Nat) (b:List UInt8) (x0:Int) (a0 many:Nat) (w:World) (hr:Row w w.heap.size A (Lib.byteCells b)) (hm:b.length=m) (hc:m<=c) (hcx:c<=maxLen) (hl:m<=400000000000) (ha0:a0<=m) (hx0: -1<=x0) (hx1:x0<2147483648) (hmany:many<=1000):
  Calls Tryz.prog 176 #[.slice A m c,.agg #[.int .i64 x0,.int .i64 (a0:Int)],.int .i64 (many:Int)] w (qw6 b x0 a0 many w):=by
 obtain ⟨i0,hi0,hz0,hz1,hz2⟩:=info_parts qfX;have HR:=qH hr;have HM:=qH hm;clear hr
 go_enter Tryz.func176,Tryz.ntmps176
 go_wp2
 go_quiet (fail)
 go_wp2;obtain ⟨wq,hwq⟩:∃ wq,wq=World.drewN (w.alloc (.cells #[.int .i64 x0,.int .i64 (a0:Int)] 206)) nq:=⟨_,rfl⟩;have hbq:Below w.heap.size w wq:=by rw [hwq];exact ((Below.refl _ w).alloc (Nat.le_refl _) _).trans (qum _)
 rw [<- hwq];have HBQ:=qH hbq;clear hwq hbq
 go_loopw [6,7,8,9,10,11,21] (fun r6 r7 r8 vo last at_ i wr=>qpg b x0 a0 many w r6 r7 r8 vo last at_ i wr) (fun _ _ _ _ _ _ i _=>many-(intOf i).toNat)
 case atStart=>exact ⟨rfl,rfl,rfl,[],0,a0,x0,by omega,rfl,rfl,rfl,rfl,rfl,by simp [qab],by omega,qb1.nil (by omega),hx0,hx1,fun g _ _=>by simp,(by intro p hp;cases hp),qbb.nil,HBQ.out⟩
 case round=>
  obtain ⟨rfl,rfl,rfl,acc,k,a,x,hk,rfl,hacc,rfl,rfl,hxe,hae,hab,hst,hxl,hxh,huni,hpl,hown,hbw⟩:=hrel;have hsz:=hbw.size;by_cases hlt:k<many
  ·have hnx:∀ g,g.length=many->qb1 b x0 a0 g->∃ a2:Nat,qbA b (a:Int)=((g.getD k (0,[])).1-(x+1),(a2:Int),0)/\qcR b (a2:Int)=((g.getD k (0,[])).2,(((a0+(qab x0 (g.take (k+1))).length:Nat)):Int),0)/\
     x<(g.getD k (0,[])).1/\(g.getD k (0,[])).1<2147483648/\qcS (g.getD k (0,[])).2=true/\g.take (k+1)=acc++[((g.getD k (0,[])).1,(g.getD k (0,[])).2)]:=fun g h1 h2=>by
    obtain ⟨a2,e1,e2,e3,e4,e5,e6,e7⟩:=quv h2 hx0 (k:=k) (by omega) (by omega);rw [<- huni g h1 h2] at e1 e3 e4 e7;rw [<- hxe,<- hae] at e1;rw [<- hxe] at e3 e4;exact ⟨a2,e1,e2,e4,e5,e6,e7⟩
   have HNX:=qH hnx;have HUNI:=qH huni;have HST:=qH hst;have HXE:=qH hxe;have HAE:=qH hae;have HPL:=qH hpl;have HOWN:=qH hown;have HA:=qH hacc;have HBW:=qH hbw;have g1:=qw4 A m c (a:Int) b wr ((HR.out.below hbw).more hsz) hm hc hcx (by omega);clear hnx huni hst hxe hae hpl hown hacc hbw;rcases qhz b (a:Int) with ⟨e,hz,he⟩|⟨dz,a2,hz,ha2,hdz⟩
   ·rw [hz] at g1
    have G1:=qH g1;have HNO:Hid (∀ g',g'.length=many->¬ qb1 b x0 a0 g'):=qH fun g h1 h2=>by
     obtain ⟨q,e1,_⟩:=HNX.out g h1 h2;rw [hz] at e1;simp only [Prod.mk.injEq] at e1;omega
    have hne:e≠0:=by omega
    have heb:(e != 0)=true:=by rw [bne_iff_ne];exact hne
    clear g1 hz he
    go_wp2_with (go_at_call 216;refine G1.out.mono ?_)
    rintro en w4 ⟨rfl,hb4⟩;have HB4:=qH (HBW.out.trans (hb4.mono hsz));clear hb4;go_wp2
    go_ret3
    exact ⟨HB4.out,.inr ⟨HNO.out,rfl⟩⟩
   ·rw [hz] at g1
    have G1:=qH g1;have HZ:=qH hz;clear g1 hz;by_cases hbig:2147483648-(x+1)<=(dz:Int)
    ·have HNO:Hid (∀ g',g'.length=many->¬ qb1 b x0 a0 g'):=qH fun g h1 h2=>by
      obtain ⟨q,e1,_,e3,e4,_⟩:=HNX.out g h1 h2;rw [HZ.out] at e1;simp only [Prod.mk.injEq] at e1;omega
     have hd:decide (2147483648-(x+1)<=(dz:Int))=true:=decide_eq_true hbig;clear hdz
     go_wp2_with (go_at_call 216;refine G1.out.mono ?_)
     rintro en w4 ⟨rfl,hb4⟩;have HB4:=qH (HBW.out.trans (hb4.mono hsz));clear hb4;go_wp2
     go_ret3
     exact ⟨HB4.out,.inr ⟨HNO.out,rfl⟩⟩
    ·have hd:decide (2147483648-(x+1)<=(dz:Int))=false:=decide_eq_false hbig
     go_wp2_with (go_at_call 216;refine G1.out.mono ?_)
     rintro en w4 ⟨rfl,hb4⟩;have HB4:=qH (HBW.out.trans (hb4.mono hsz));have hs4:=HB4.out.size;have g2:=qw5 A m c (a2:Int) b w4 ((HR.out.below HB4.out).more hs4) hm hc hcx (by omega);have HOW4:=qH (HOWN.out.below hb4);clear hb4;rcases qun b (a2:Int) with ⟨e,hz2,he⟩|⟨ps,a3,hz2,ha3,hpsl⟩
     ·rw [hz2] at g2
      have G2:=qH g2;have HNO:Hid (∀ g',g'.length=many->¬ qb1 b x0 a0 g'):=qH fun g h1 h2=>by
       obtain ⟨q,e1,e2,_⟩:=HNX.out g h1 h2;rw [HZ.out] at e1;simp only [Prod.mk.injEq] at e1;rw [<- e1.2.1,hz2] at e2;simp only [Prod.mk.injEq] at e2;exact he e2.2.2
      have heb:(e != 0)=true:=by rw [bne_iff_ne];exact he
      clear g2 hz2
      go_wp2_with (go_at_call 217;refine G2.out.mono ?_)
      rintro en w5 ⟨v5,rfl,_,hb5⟩;have HB5:=qH (HB4.out.trans (hb5.mono hs4));clear hb5;go_wp2
      go_ret3
      exact ⟨HB5.out,.inr ⟨HNO.out,rfl⟩⟩
     ·rw [hz2] at g2
      have G2:=qH g2;have HZ2:=qH hz2;clear g2 hz2
      go_wp2_with (go_at_call 217;refine G2.out.mono ?_)
      rintro en w5 ⟨v5,rfl,hown5,hb5⟩;simp only at hown5;obtain ⟨A5,c5,rfl,hc5,hr5⟩:=qaM hown5;have hcx5:c5<=maxLen:=by
       rcases hown5.2 with ⟨h,_⟩|⟨_,cap,_,h,_,_,_,h4,_⟩
       ·injection h with _ _ h;omega
       ·injection h with _ _ h;rw [h];exact h4
      obtain ⟨F,hF⟩:∃ F,F=ps.length:=⟨_,rfl⟩;have mp:=qoX A5 F c5 ps w5 hr5 hF.symm (by omega);rw [<- hF] at hc5 hpsl;rw [<- hF];have HFL:=qH hF;have MP:=qH mp;have HR5:=qH (qfW.of_own (base:=w.heap.size) hown5 (by omega));have HB5:=qH (HB4.out.trans (hb5.mono hs4));have hs5:=HB5.out.size;have HOW5:=qH (HOW4.out.below hb5);clear hown5 hb5 hF mp hr5;rcases hpb:qcS ps with _|_
      ·rw [hpb] at MP
       have HNO:Hid (∀ g',g'.length=many->¬ qb1 b x0 a0 g'):=qH fun g h1 h2=>by
        obtain ⟨q,e1,e2,_,_,e5,_⟩:=HNX.out g h1 h2;rw [HZ.out] at e1;simp only [Prod.mk.injEq] at e1;rw [<- e1.2.1,HZ2.out] at e2;simp only [Prod.mk.injEq] at e2;rw [<- e2.1,hpb] at e5;cases e5
       clear hpb
       go_wp2_with (go_at_call 161;refine MP.out.mono ?_;rintro e w' ⟨rfl,rfl⟩)
       go_ret3
       exact ⟨HB5.out,.inr ⟨HNO.out,rfl⟩⟩
      ·rw [hpb] at MP
       have hstep:=quw HST.out (by rw [<- HXE.out];exact hxl) (d:=(dz:Int)) (q2:=(a2:Int)) (q3:=(a3:Int)) (ps:=ps) (by rw [<- HAE.out];exact HZ.out) HZ2.out (by rw [<- HXE.out];omega) hpb;rw [<- HXE.out] at hstep;obtain ⟨y,hy⟩:∃ y,y=x+1+(dz:Int):=⟨_,rfl⟩;rw [show (dz:Int)+(x+1)=y by omega] at hstep;have hst2:=hstep.1;have ha32:a3=a0+(qab x0 (acc++[(y,ps)])).length:=by have :=hstep.2;omega
       have huni2:∀ g,g.length=many->qb1 b x0 a0 g->acc++[(y,ps)]=g.take (k+1):=fun g h1 h2=>by
        obtain ⟨q,e1,e2,_,_,_,e6⟩:=HNX.out g h1 h2;rw [HZ.out] at e1;simp only [Prod.mk.injEq] at e1;rw [<- e1.2.1,HZ2.out] at e2;simp only [Prod.mk.injEq] at e2;rw [e6,<- e2.1,show y=(g.getD k (0,[])).1 by omega]
       have hpl2:∀ p∈acc++[(y,ps)],p.2.length<=b.length:=fun p hp=>by
        rcases List.mem_append.1 hp with h|h
        ·exact HPL.out p h
        ·simp at h;rw [h];show ps.length<=b.length;rw [<- HFL.out];exact hpsl
       have hy2: -1<=y/\y<2147483648:=by omega
       have hdoc:y=qaC x0 (acc++[(y,ps)]):=qux.symm;obtain ⟨cs,hcs1,hcs2⟩:=HOW5.out;rw [HA.out] at hcs1;have HC1:=qH hcs1;have HC2:=qH hcs2;have HST2:=qH hst2;have HA32:=qH ha32;have HUNI2:=qH huni2;have HPL2:=qH hpl2;have HDOC:=qH hdoc;have HY:=qH hy;clear hpb hstep hst2 ha32 huni2 hpl2 hdoc hcs1 hcs2 HST HNX HUNI HPL HZ HZ2 HOW5 HOW4 HOWN;have hyx:x+1+(dz:Int)=y:=HY.out.symm;clear hy
       go_wp2_with (first
        |(go_at_call 161;refine MP.out.mono ?_;rintro e w' ⟨rfl,rfl⟩)
        |(at_builtin;refine wpList_append_own _ rfl (.tmp 58) (.tmp 62) 71 rfl w.heap.size 74 i0 _ 2 32 Tryz.underlying71 hi0 hz0 hz1 hz2 rfl (by omega) _ k cs rfl (HC1.out.alloc _) ⟨w5.heap.size,0,none⟩ 1 1 [.int .i64 y,.slice A5 F c5] rfl rfl (qaQ w5 [.int .i64 y,.slice A5 F c5] 74) (by intro u hu;simp at hu;rcases hu with hu|hu<;>(subst hu;rfl)) (by unfold maxLen;omega) (by omega) (by simp;omega) ?_))
       intro v7 w7 hown7 hg7 _;have hal:=(Below.refl w5.heap.size w5).alloc (Nat.le_refl _) (.cells #[.int .i64 y,.slice A5 F c5] 74);have hb7:Below w.heap.size w5 w7:=((Below.refl _ w5).alloc hs5 _).grown hg7 (by simp;omega) fun k hk=>(HC1.out.lt k hk).1
       have hpush:qbb w.heap.size w7 v7 (acc++[(y,ps)]):=
        qbb.push (c:=c5) (A:=A5) (cs:=cs) (by rw [HA.out];exact HC1.out.alloc _) (HC2.out.imp fun _ _ h=>⟨h.1.below hal,h.2⟩) (by rw [<- HFL.out];exact hc5) hcx5 ⟨HR5.out.1.below hal,HR5.out.2⟩ (by rw [HA.out,<- HFL.out];exact hown7) hg7
       have hfin:qpg b x0 a0 many w (.slice none 0 0) (.int .i64 0) (.bool false) v7 (.int .i64 y) (.int .i64 (a3:Int)) (.int .i64 ((k:Int)+1)) w7:=
        ⟨rfl,rfl,rfl,acc++[(y,ps)],k+1,a3,y,by omega,by simp,by simp [HA.out],rfl,rfl,HDOC.out,HA32.out,ha3,HST2.out,hy2.1,hy2.2,HUNI2.out,HPL2.out,hpush,HB5.out.trans hb7⟩
       have HF:=qH hfin;clear hfin hb7 hg7 hown7 hpush hal;go_wp2;go_roundw
       case rel=>exact HF.out
       case measure=>simp [intOf];omega
  ·obtain rfl:k=many:=by omega
   have hfin:Below w.heap.size w wr/\((∃ g v,g.length=k/\qb1 b x0 a0 g/\(∀ g',g'.length=k->qb1 b x0 a0 g'->g'=g)/\(∀ p∈g,p.2.length<=b.length)/\Ending.returned (.tuple #[u9,.int .i64 (a:Int),.bool true])= .returned (.tuple #[v,.int .i64 ((a0+(qab x0 g).length:Nat):Int),.bool true])/\qbb w.heap.size wr v g)):=
    ⟨hbw,acc,u9,hacc,hst,fun g' h1 h2=>by rw [huni g' h1 h2,List.take_of_length_le (by omega)],hpl,by rw [hae],hown⟩
   have HF:=qH hfin;clear hfin hst huni hpl hown hbw hxe hae;go_wp2
   go_ret3
   exact ⟨HF.out.1,.inl HF.out.2⟩
section
variable (B:Nat) (bs:List UInt8) (l:List Po) (w:World) (h:LIn w B bs l)
include h
theorem qw8 (k:Int) (hk0: -1<=k):Calls Tryz.prog 175 #[.pointer (some ⟨B,0,none⟩),.int .i64 k] w fun e w'=>e= .returned (.bool (decide (0<=k/\k<(qay l.length:Int))))/\w=w':=by
 have HB:=qH (qnK B bs l w h);clear h;obtain ⟨n,hn⟩:∃ n,n=qay l.length:=⟨_,rfl⟩;rw [<- hn] at HB;rw [<- hn];clear hn;by_cases hz:k<0
 ·have hd:decide (0<=k/\k<(n:Int))=false:=decide_eq_false (by omega)
  rw [hd];have hg:decide (0<=k)=false:=decide_eq_false (by omega)
  go_enter Tryz.func175,Tryz.ntmps175
  go_wp2;go_ret;exact ⟨rfl,rfl⟩
 ·have hg:decide (0<=k)=true:=decide_eq_true (by omega)
  have hd:decide (0<=k/\k<(n:Int))=decide (k<(n:Int)):=by
   by_cases h2:k<(n:Int)
   ·rw [decide_eq_true h2,decide_eq_true ⟨by omega,h2⟩]
   ·rw [decide_eq_false h2,decide_eq_false (fun h=>h2 h.2)]
  rw [hd];clear hd
  go_enter Tryz.func175,Tryz.ntmps175
  go_wp2_with (go_at_call 141;refine HB.out.mono ?_;rintro e w' ⟨rfl,rfl⟩)
  go_ret;exact ⟨rfl,rfl⟩
end
theorem qw9 (B:Nat) (l:List Po) (w:World) (h:LIn w B (qab (-1) l) l) (hm:qaT (-1) l=true) (hbl:(qab (-1) l).length<=400000000000) (hl:l.length<=1000000) (k:Int) (hk0: -1<=k):
  Calls Tryz.prog 142 #[.pointer (some ⟨B,0,none⟩),.int .i64 k] w (qfs (qbL l k) w):=by
 have HH:=qH (qw8 B _ l w h k hk0);by_cases hin:0<=k/\k<(qay l.length:Int)
 ·obtain ⟨j,rfl⟩:∃ j:Nat,k=(j:Int):=⟨k.toNat,by omega⟩
  have hj:j<qay l.length:=by omega
  rw [decide_eq_true hin] at HH;have hst:=quC hj hm;have hblen:=qi2 (l:=l) j;have hd0:=qhk (l.take (8*j)) (-1) (by have :=hm;rw [<- List.take_append_drop (8*j) l,qei,Bool.and_eq_true] at this;exact this.1);have hd1:=qmS (l.take (8*j)) (-1) (by have :=hm;rw [<- List.take_append_drop (8*j) l,qei,Bool.and_eq_true] at this;exact this.1) (by omega);have hal:(qab (-1) (l.take (8*j))).length<=(qab (-1) l).length:=by have :=hst.2.1;omega
  have ah:=fun w' (hb:Below w.heap.size w w')=>qnL B _ l w' (h.below hb) j (by omega) (by omega)
  obtain ⟨bs,hbs⟩:∃ bs,bs=qab (-1) l:=⟨_,rfl⟩;obtain ⟨blk,hblk⟩:∃ blk,blk=qbL l (j:Int):=⟨_,rfl⟩;obtain ⟨x,hx⟩:∃ x,x=qaC (-1) (l.take (8*j)):=⟨_,rfl⟩;obtain ⟨a,ha⟩:∃ a,a=(qab (-1) (l.take (8*j))).length:=⟨_,rfl⟩;rw [<- hx,<- ha] at ah;rw [<- hbs,<- hblk,<- hx,<- ha] at hst;rw [<- hx] at hd0 hd1;rw [<- hbs] at h hbl;rw [<- hbs,<- ha] at hal;rw [<- hblk] at hblen;rw [<- hblk];have hblt:=h.1;obtain ⟨_,Ab,cb,Ae,ce,⟨c0,c1,c2,c3⟩,hcb,hcbx,_,hrb,_⟩:=h;obtain ⟨n,hn⟩:∃ n,n=l.length:=⟨_,rfl⟩;rw [<- hn] at c2 hblen hl;have hnj:8*j<n:=by rw [hn];unfold qay at hj;omega
  obtain ⟨M,hM⟩:∃ M,M=bs.length:=⟨_,rfl⟩;rw [<- hM] at c0 hal hbl hcb;obtain ⟨q,hq⟩:∃ q:Nat,q=min 8 (n-8*j):=⟨_,rfl⟩;rw [<- hq] at hblen;have hq1:q<=8:=by omega
  have hqm:(if (8:Int)<(n:Int)-(j:Int)*8 then (8:Int) else (n:Int)-(j:Int)*8)=(q:Int):=by split<;>omega
  have hqm2:min ((n:Int)-(j:Int)*8) 8=(q:Int):=by omega
  have hqm3:min (8:Int) ((n:Int)-(j:Int)*8)=(q:Int):=by omega
  have HG:Hid (∀ w',Below w.heap.size w w'->Calls Tryz.prog 176 #[.slice Ab M cb,.agg #[.int .i64 x,.int .i64 (a:Int)],.int .i64 (q:Int)] w' fun e w2=>
    ∃ (v:Value) (z:Int),e= .returned (.tuple #[v,.int .i64 z,.bool true])/\qbb w'.heap.size w2 v blk/\Below w'.heap.size w' w2):=qH fun w' hb=>
   (qw7 Ab M cb bs x a q w' ((hrb.below hb).more hb.size) hM.symm hcb hcbx hbl hal (by omega) hd1 (by omega)).mono fun e w2=>by
    rintro ⟨h1,(⟨g,v,h2,h3,h4,_,rfl,h5⟩|⟨h2,_⟩)⟩
    ·exact ⟨v,_,rfl,by rw [h4 blk hblen hst];exact h5,h1⟩
    ·exact absurd hst (h2 blk hblen)
  have HA:Hid (∀ w',Below w.heap.size w w'->Calls Tryz.prog 165 #[.pointer (some ⟨B,0,none⟩),.int .i64 (j:Int)] w' fun e w2=>
    e= .returned (.agg #[.int .i64 x,.int .i64 (a:Int)])/\Below w'.heap.size w' w2):=qH fun w' hb=>ah w' hb
  have HC:Hid (∀ w',Below w.heap.size w w'->w'.cell? ⟨B,0,none⟩=some (.slice Ab M cb)/\w'.cell? ⟨B,2,none⟩=some (.int .i64 (n:Int))):=qH fun w' hb=>⟨(hb.cell (p:=⟨B,0,none⟩) hblt).trans c0,(hb.cell (p:=⟨B,2,none⟩) hblt).trans c2⟩
  have hsub:IntKind.i64.wrap ((n:Int)-(j:Int)*8)=(n:Int)-(j:Int)*8:=IntWalk.i64_in _ (by omega);have hmul:IntKind.i64.wrap ((j:Int)*8)=(j:Int)*8:=IntWalk.i64_in _ (by omega);have hjb:j<=1000000:=by omega
  clear hst hblen hrb hbs hblk hx ha hn hM hq ah c1 c3 hd0 hd1 hj hin hm
  go_enter Tryz.func142,Tryz.ntmps142
  go_wp2_with (go_at_call 175;refine HH.out.mono ?_;rintro e w' ⟨rfl,rfl⟩)
  go_region_held3 (fun w'=>w'.cell? ⟨B,0,none⟩=some (.slice Ab M cb)/\w'.cell? ⟨B,2,none⟩=some (.int .i64 (n:Int)))
   (first|exact HC.out _ (Below.refl _ _).drew|exact HC.out _ HB5.out|exact HC.out _ HB6.out)
   (first
    |(go_simp;go_at_call 165;(with_reducible refine (HA.out _ (Below.refl _ _).drew).mono ?_);rintro e w5 ⟨rfl,hb5⟩;have HB5:Hid (Below w.heap.size w w5):=qH ((Below.refl _ w).drew.trans hb5))
    |(go_simp;go_at_call 176;(with_reducible refine (HG.out _ HB5.out).mono ?_);rintro e w6 ⟨v,z,rfl,hown6,hb6⟩;have HB6:Hid (Below w.heap.size w w6):=qH (HB5.out.trans (hb6.mono HB5.out.size))))
  all_goals
   go_wp2;go_ret;exact ⟨_,rfl,hown6.low HB5.out.size,HB6.out⟩
 ·have hx:qbL l k=[]:=by
   by_cases hz:k<0
   ·exact qth hz
   ·obtain ⟨j,rfl⟩:∃ j:Nat,k=(j:Int):=⟨k.toNat,by omega⟩
    exact qti (by omega)
  rw [hx];rw [decide_eq_false hin] at HH;clear hx hin
  go_enter Tryz.func142,Tryz.ntmps142
  go_wp2_with (go_at_call 175;refine HH.out.mono ?_;rintro e w' ⟨rfl,rfl⟩)
  go_ret;exact ⟨_,rfl,qbb.nil,Below.refl _ _⟩
theorem qxa (base B:Nat) (l:List Po) (w:World) (h:LAt w base B (qab (-1) l) l) (hm:qaT (-1) l=true) (hbl:(qab (-1) l).length<=400000000000) (hl:l.length<=1000000) (k:Int) (hk0: -1<=k):
  Calls Tryz.prog 142 #[.pointer (some ⟨B,0,none⟩),.int .i64 k] w (qfs (qbL l k) w):=qw9 B l w h.in_ hm hbl hl k hk0
attribute [local go_sem] Oper.semAt_some
def qfD (base D:Nat) (A B:World):Prop:=Below base A B/\(D<A.heap.size->B.heap[D]?=A.heap[D]?)
theorem qfD.trans {base D:Nat} {A B C:World} (h:qfD base D A B) (k:qfD base D B C):qfD base D A C:=
 ⟨h.1.trans k.1,fun e=>(k.2 (Nat.lt_of_lt_of_le e h.1.size)).trans (h.2 e)⟩
def qh4 (b:Nat) (l:List Po) (pre:List Value) (v:Value) (W:World):Prop:=pre.length<qay l.length/\qbb b W v (qbL l (pre.length:Int))
def qxb (w0:World) (B D N:Nat) (J:List Value->World->Prop) (i:Value) (wr:World):Prop:=
 ∃ pre:List Value,pre.length<=N/\i= .int .i64 (pre.length:Int)/\J pre wr/\Below w0.heap.size w0 wr/\wr.heap[D]?=some (.cells #[.pointer (some ⟨B,0,none⟩)] 116 (0,0))
theorem qxc (m D base0 B:Nat) (l:List Po) (w0 w:World) (hm:1<=m) (h:LAt w0 base0 B (qab (-1) l) l) (hmay:qaT (-1) l=true) (hbl:(qab (-1) l).length<=400000000000) (hl:l.length<=1000000) (hb:Below w0.heap.size w0 w)
  (hd:w.heap[D]?=some (.cells #[.pointer (some ⟨B,0,none⟩)] 116 (0,0))):
  qhW m Tryz.prog 140 #[.pointer (some ⟨D,0,none⟩)] (fun v:Value=>#[v]) (qfD w0.heap.size D) (qh4 w0.heap.size l) (fun ys=>ys.length=qay l.length) w:=by
 intro lp J W hW hJ hY h0;have e1:W.heap[D]?=some (.cells #[.pointer (some ⟨B,0,none⟩)] 116 (0,0)):=(hW.block D (lt_of_block hd)).trans hd;have hbW:=hb.trans (hW.mono hb.size);refine callsIn_of_wp Tryz.func140 rfl trivial ?_ rfl;simp only [Tryz.ntmps140,List.size_toArray,List.length_cons,List.length_nil,Nat.reduceAdd,Nat.reduceSub,Array.replicate_succ,Array.replicate_zero,List.push_toArray,List.append_toArray,List.nil_append,List.cons_append];have HBK:=qH (qnM base0 B _ l W (h.below hbW));have HBL:Hid (∀ w',Below w0.heap.size w0 w'->∀ k:Nat,Calls Tryz.prog 142 #[.pointer (some ⟨B,0,none⟩),.int .i64 (k:Int)] w' (qfs (qbL l (k:Int)) w')):=qH fun w' hb' k=>
  qxa base0 B l w' (h.below hb') hmay hbl hl k (by omega)
 have c1:=cell_of_one e1;obtain ⟨N,hN⟩:∃ N,N=qay l.length:=⟨_,rfl⟩;rw [<- hN] at HBK;have hNb:N<=1000000:=by rw [hN];unfold qay;omega
 have HNE:=qH hN;have HY:=qH hY;have HJ:=qH hJ;have H0:=qH h0;have HE1:=qH e1;have HBW:=qH hbW;clear hY hJ h0 hW hd e1 hbW h hb hN hmay hbl
 gi_wp2_with (first
  |(refine ⟨trivial,?_⟩;gi_at_call 141;refine (callsIn_wide.2 HBK.out).mono ?_;rintro e w' ⟨rfl,rfl⟩)
  |(gi_at_call 141;refine (callsIn_wide.2 HBK.out).mono ?_;rintro e w' ⟨rfl,rfl⟩))
 gi_loopw [6] (fun i wr=>qxb w0 B D N J i wr) (fun i _=>N-(intOf i).toNat)
 case atStart=>exact ⟨[],Nat.zero_le _,rfl,H0.out,HBW.out,HE1.out⟩
 case round=>
  obtain ⟨pre,hk,rfl,hj,hbw,e2⟩:=hrel;obtain ⟨k,hke⟩:∃ k,k=pre.length:=⟨_,rfl⟩;rw [<- hke] at hk;rw [<- hke];have c2:=cell_of_one e2;have HJK:=qH hj;have E2:=qH e2;have HKE:=qH hke;have HB1:=qH hbw;clear hj e2 hke c1 hbw;by_cases hlt:k<N
  ·have hbk:=HBL.out wr HB1.out k
   have HBC:=qH hbk;clear hbk
   gi_wp2_with (first
    |(refine ⟨trivial,?_⟩;gi_at_call 142;refine (callsIn_wide.2 HBC.out).mono ?_)
    |(gi_at_call 142;refine (callsIn_wide.2 HBC.out).mono ?_))
   rintro e w5 ⟨v,rfl,hnew,hb5⟩;have hok:qh4 w0.heap.size l pre v w5:=by
    unfold qh4;rw [<- HKE.out,<- HNE.out];exact ⟨hlt,hnew.low HB1.out.size⟩
   obtain ⟨fn,tmps,assign,body,hy,hR⟩:=HY.out pre v w5 (HJ.out _ _ _ HJK.out hb5) hok;have e5:=(hb5.block _ (lt_of_block E2.out)).trans E2.out;have HB5:=qH (HB1.out.trans (hb5.mono HB1.out.size));have E5:=qH e5;clear hok hnew hb5 e5;gi_wp2;refine hR.mono ?_;rintro e W6 ⟨rfl,hJ6,hk6⟩;have e6:=(hk6.2 (lt_of_block E5.out)).trans E5.out;have HJ6:=qH hJ6;have E6:=qH e6;have HB6:=qH (HB5.out.trans hk6.1);clear hJ6 hk6 e6 hy hR c2;gi_wp2;go_roundw
   case rel=>exact ⟨pre++[v],by rw [List.length_append,<- HKE.out];exact hlt,by rw [List.length_append,<- HKE.out];simp,HJ6.out,HB6.out,E6.out⟩
   case measure=>simp [intOf];omega
  ·have hfin:pre.length=qay l.length:=by rw [<- HKE.out,<- HNE.out];omega
   have HF:=qH hfin;clear hfin;gi_wp2
   go_end0
   exact ⟨⟨_,rfl⟩,_,HF.out,HJK.out⟩
theorem qph (p:Addr) (w:World):
  Calls Tryz.prog 100 #[.pointer (some p)] w fun e w'=>e= .returned (.func (.func 140) #[] #[.pointer (some ⟨w.heap.size,0,none⟩)])/\
   w'.heap[w.heap.size]?=some (.cells #[.pointer (some p)] 116 (0,0))/\Below w.heap.size w w'/\w'.heap.size=w.heap.size+1:=by
 go_enter Tryz.func100,Tryz.ntmps100
 go_wp2;go_ret;exact ⟨rfl,heap_alloc_new w _,(Below.refl _ w).alloc (Nat.le_refl _) _,by simp⟩
theorem qxd {w w':World} {b:Nat} {e:TypeId} {size n:Nat} {v:Value} {xs:List Value} (h:w.ownsRow b e size v n xs) (hk:∀ (k:Nat) (o:Obj),w.heap[k]?=some o->o.isCells=true->w'.heap[k]?=some o):w'.ownsRow b e size v n xs:=
 qav h fun g hg=>by
  obtain ⟨cs,fr,hh⟩:=qfb h hg;rw [hk _ _ hh rfl,hh]
theorem qc2.moved {w w':World} {A:Option Addr} {xs:List Value} (h:qc2 0 w A xs) (hk:∀ (k:Nat) (cs:Array Value) (fr:Nat × Nat),w.heap[k]?=some (.cells cs 3 fr)->w'.heap[k]?=some (.cells cs 3 fr)):qc2 0 w' A xs:=by
 rcases h with h|⟨b,off,e,⟨h1,h2⟩,hc⟩
 ·exact .inl h
 ·obtain ⟨cs,fr,hh⟩:=h2.resolve_left (Nat.not_lt_zero _)
  have hh':=hk _ _ _ hh;refine .inr ⟨b,off,e,⟨(Array.getElem?_eq_some_iff.1 hh').1,.inr ⟨cs,fr,hh'⟩⟩,fun j u hu=> ?_⟩;rw [World.cell?_of_block (a:=⟨b,off+j,none⟩) (hh'.trans hh.symm)];exact hc j u hu
theorem qxe {W:World} {l:Nat} {o o':Obj} (ho:W.heap[l]?=some o) (hc:o.isCells=false):∀ (k:Nat) (u:Obj),W.heap[k]?=some u->u.isCells=true->(W.putObj l o').heap[k]?=some u:=fun k u hk hu=>by
 by_cases e:k=l
 ·subst e
  rw [ho] at hk;injection hk with hk
  subst hk;rw [hc] at hu;cases hu
 ·exact (World.putObj_heap_other e).trans hk
theorem qbb.kept {base:Nat} {w w':World} {v:Value} {l:List Po} (h:qbb base w v l) (hk:∀ (k:Nat) (o:Obj),w.heap[k]?=some o->o.isCells=true->w'.heap[k]?=some o):qbb base w' v l:=by
 obtain ⟨cs,h1,h2⟩:=h;exact ⟨cs,qxd h1 hk,h2.imp fun _ _ h=>⟨h.1.moved fun k cs fr hh=>hk k _ hh rfl,h.2⟩⟩
theorem qax.newPo (N base:Nat) (v:Value) (l:List Po):qax N (fun W=>qbb base W v l):=fun W k o o' _ ho hc h=>h.kept (qxe ho hc)
attribute [local go_sem] Oper.semAt_some
theorem qak.one {R:Option Addr->List Value->Prop}:∀ {l:List Po} {cs:List Value},qak R l cs->∀ u∈cs,u.oneCell'=true
 |[],cs,h,u,hu=>by simp only [qak] at h;subst h;cases hu
 |q::r,cs,h,u,hu=>by
  obtain ⟨A,c,cs',rfl,_,_,_,h'⟩:=h;simp only [List.mem_cons] at hu;rcases hu with rfl|rfl|hu
  ·rfl
  ·rfl
  ·exact qak.one h' u hu
theorem qak.join {R:Option Addr->List Value->Prop}:∀ {a b:List Po} {cs cs':List Value},qak R a cs->qak R b cs'->qak R (a++b) (cs++cs')
 |[],b,cs,cs',h,k=>by simp only [qak] at h;subst h;exact k
 |q::r,b,cs,cs',h,k=>by
  obtain ⟨A,c,cs'',rfl,h1,h2,h3,h'⟩:=h;exact ⟨A,c,cs''++cs',rfl,h1,h2,h3,qak.join h' k⟩
def qh5 (w:World) (R C D B:Nat) (l:List Po) (pre:List Value) (W:World):Prop:=
 W.heap[D]?=some (.cells #[.pointer (some ⟨B,0,none⟩)] 116 (0,0))/\W.heap[C]?=some (.cells #[.slice (some ⟨R,0,none⟩) (l.take (8*pre.length)).length l.length] 71 (0,0))/\
  qbb w.heap.size W (.slice (some ⟨R,0,none⟩) (l.take (8*pre.length)).length l.length) (l.take (8*pre.length))/\Below w.heap.size w W
theorem qxf (base B:Nat) (l:List Po) (w:World) (h:LAt w base B (qab (-1) l) l) (hmay:qaT (-1) l=true) (hbl:(qab (-1) l).length<=400000000000) (hl:l.length<=1000000):
  Calls Tryz.prog 55 #[.pointer (some ⟨B,0,none⟩)] w (qfs l w):=by
 obtain ⟨i0,hi0,hz0,hz1,hz2⟩:=info_parts qfX;refine (callsIn_wide (n:=6)).1 ?_;obtain ⟨_,_,_,_,⟨_,_,c2,_⟩,_⟩:=h.read;have hblt:=h.lt;obtain ⟨n,hn⟩:∃ n,n=l.length:=⟨_,rfl⟩;rw [<- hn] at c2 hl;have HN:=qH hn;have HTOLD:Hid (∀ (D:Nat) (w':World),Below w.heap.size w w'->w'.heap[D]?=some (.cells #[.pointer (some ⟨B,0,none⟩)] 116 (0,0))->qhW 5 Tryz.prog 140 #[.pointer (some ⟨D,0,none⟩)] (fun v:Value=>#[v]) (qfD w.heap.size D) (qh4 w.heap.size l) (fun ys=>ys.length=qay l.length) w'):=qH fun D w' hb hd=>
  qxc 5 D base B l w w' (by omega) h hmay hbl (by rw [<- hn];exact hl) hb hd
 clear h hmay hbl hn;refine callsIn_of_wp_marks Tryz.func55 rfl trivial ?_ rfl;simp only [Tryz.ntmps55,List.size_toArray,List.length_cons,List.length_nil,Nat.reduceAdd,Nat.reduceSub,Array.replicate_succ,Array.replicate_zero,List.push_toArray,List.append_toArray,List.nil_append,List.cons_append]
 gi_wp2_with (gi_at_make;refine wpListIn_make_own _ rfl _ _ 71 rfl w.heap.size 74 i0 _ 2 Tryz.underlying71 hi0 hz0 hz1 _ _ _ n rfl rfl rfl (by rw [hz2];omega) (by unfold maxLen;omega) (Nat.le_refl _) ?_)
 intro w1 hown hgrow;have hb1:Below w.heap.size w w1:=(Below.refl _ _).grown hgrow (Nat.le_refl _) (fun k hk=>by cases hk);have hs1:=hb1.size;have hR1:=(hown.lt w.heap.size rfl).2;obtain ⟨C,hC⟩:∃ C,C=w1.heap.size:=⟨_,rfl⟩
 gi_wp2_with (first
  |(refine ⟨trivial,?_⟩;gi_at_call 100;refine (callsIn_wide.2 (qph _ _)).mono ?_)
  |(gi_at_call 100;refine (callsIn_wide.2 (qph _ _)).mono ?_))
 rintro e w3 ⟨rfl,e1,hb3,hz3⟩;rw [World.size_alloc,<- hC] at e1 hz3;have hal:=(Below.refl w1.heap.size w1).alloc (Nat.le_refl _) (.cells #[.slice (some ⟨w.heap.size,0,none⟩) 0 n] 71);have hb13:=hal.trans (hb3.mono (by simp));have hb03:=hb1.trans (hb13.mono hs1);have hc3:w3.heap[C]?=some (.cells #[.slice (some ⟨w.heap.size,0,none⟩) 0 n] 71 (0,0)):=by rw [hC];exact (hb3.block _ (by simp)).trans (heap_alloc_new w1 _)
 have hown3:=qan hown hb13;have hi0':qh5 w w.heap.size C (C+1) B l [] w3:=⟨e1,by simpa [<- HN.out] using hc3,⟨[],by simpa [<- HN.out] using hown3,by simp [qak]⟩,hb03⟩;have HI0:=qH hi0';have HT:=qH (HTOLD.out (C+1) w3 hb03 e1);have HZ3:=qH hz3;have HRC:Hid (w.heap.size<C):=qH (by omega);gi_wp2;rw [<- hC];clear hi0' hown3 hc3 hb03 hb13 hal e1 hz3 hb3 hown hgrow hb1 hs1 hR1 hC c2;refine qoQ (by omega) (gf:=140) (lb:=#[.pointer (some ⟨C+1,0,none⟩)]) rfl (enters_of Tryz.func140 (by kernel_rfl) rfl)
  HT.out qfD.trans (fun W lp o o' hlp ho hc=>⟨qax.belowW (N:=w.heap.size) (Nat.le_refl _) W lp o o' (by have :=HZ3.out;have :=HRC.out;omega) ho hc (Below.refl _ _),fun _=>World.putObj_heap_other (by have :=HZ3.out;omega)⟩) (fun _=>rfl)
  (qh5 w w.heap.size C (C+1) B l) (fun s A' B' h hb=>⟨(hb.block _ (lt_of_block h.1)).trans h.1,(hb.block _ (lt_of_block h.2.1)).trans h.2.1,h.2.2.1.below hb,h.2.2.2.trans (hb.mono h.2.2.2.size)⟩)
  (fun s=>(qax.block (by have :=HZ3.out;omega) _).and ((qax.block (by have :=HZ3.out;omega) _).and ((qax.newPo _ _ _ _).and (qax.belowW (by have :=HZ3.out;have :=HRC.out;omega)))))
  (fun s x=>qax.pure.and (qax.newPo _ _ _ _)) HI0.out
  (fun v=>{tmps:=#[.pointer (some ⟨B,0,none⟩),undef,.slice none 0 0,.pointer (some ⟨C,0,none⟩),v,.pointer (some ⟨B,0,none⟩),.pointer (some ⟨B,0,none⟩),.pointer (some ⟨B,2,none⟩),.int .i64 (n:Int),.slice (some ⟨w.heap.size,0,none⟩) 0 n,.pointer (some ⟨B,0,none⟩),
   .func (.func 140) #[] #[.pointer (some ⟨C+1,0,none⟩)],v,undef,undef,undef,undef],defers:=[]}) ?assign ?body ?done
 case assign=>
  intro lp x W K' hK';gi_wp2;exact hK'
 case body=>
  rintro lp pre v W ⟨hD,hC,hnew,hbw⟩ ⟨hx,hok⟩;obtain ⟨k,hk⟩:∃ k,k=pre.length:=⟨_,rfl⟩;have hAI:∀ W',W'.heap[C+1]?=some (.cells #[.pointer (some ⟨B,0,none⟩)] 116 (0,0))->W'.heap[C]?=some (.cells #[.slice (some ⟨w.heap.size,0,none⟩) (l.take (8*(k+1))).length l.length] 71 (0,0))->qbb w.heap.size W' (.slice (some ⟨w.heap.size,0,none⟩) (l.take (8*(k+1))).length l.length) (l.take (8*(k+1)))->Below w.heap.size w W'->qh5 w w.heap.size C (C+1) B l (pre++[v]) W':=fun W' h1 h2 h3 h4=>by
   unfold qh5;rw [List.length_append,List.length_singleton,<- hk];exact ⟨h1,h2,h3,h4⟩
  rw [<- hk] at hC hnew hx hok;have hcat:=qi3 l k;have hblen:=qi2 (l:=l) k;have hlen:(l.take (8*(k+1))).length<=l.length:=by rw [List.length_take];omega
  obtain ⟨acc,hacc⟩:∃ acc,acc=l.take (8*k):=⟨_,rfl⟩;obtain ⟨blk,hblk⟩:∃ blk,blk=qbL l (k:Int):=⟨_,rfl⟩;rw [<- hacc,<- hblk] at hcat;rw [hcat] at hAI hlen;rw [<- hacc] at hC hnew;rw [<- hblk] at hblen hok;rw [<- HN.out] at hC hnew hlen hAI hblen;have hm0:0<blk.length:=by rw [hblen,HN.out];unfold qay at hx;omega
  obtain ⟨cs2,ho2,hp2⟩:=hok;obtain ⟨A2,c2,rfl,hc2,hr2⟩:=qaM ho2;obtain ⟨b2,o2,rfl,hb2,hcc⟩:=hr2.at_ (by rw [hp2.len];omega);obtain ⟨cs1,ho1,hp1⟩:=hnew;obtain ⟨L,hL⟩:∃ L,L=acc.length:=⟨_,rfl⟩;obtain ⟨M,hM⟩:∃ M,M=blk.length:=⟨_,rfl⟩;rw [List.length_append] at hlen hAI;rw [<- hL,<- hM] at hlen hAI;rw [<- hL] at hC ho1;rw [<- hM] at hm0;rw [<- hM];have hcc1:=cell_of_one hC;have hcf1:=free_of_one hC;have HAI:=qH hAI;have HD:=qH hD;have HC:=qH hC;have HO1:=qH ho1;have HP1:=qH hp1;have HP2:=qH hp2;have HBW:=qH hbw;have HL:=qH hL;have HM:=qH hM;have HCC:=qH hcc;have hn2:cs2.length=M*2:=by rw [hp2.len,hM]
  have HN2:=qH hn2;clear hAI hD hC ho1 hp1 hp2 hbw hL hM hk hx hcat hacc hblk hblen ho2 hr2 hcc hc2 hb2 hn2
  gi_wp2_with (gi_at_builtin;refine wpListIn_append_fits _ rfl (.tmp 13) (.tmp 14) 71 rfl w.heap.size 74 i0 2 Tryz.underlying71 hi0 hz1 w.heap.size L n cs1 rfl HO1.out ⟨b2,o2,none⟩ M c2 cs2 rfl HN2.out (fun j u hu=>by rw [Addr.add_lit];exact HCC.out j u hu) (qak.one HP2.out) hlen ?_)
  intro w4 hown4 hg4;obtain ⟨csr,frr,hRr⟩:=qfb HO1.out rfl;have hCR:C≠w.heap.size:=by have :=HRC.out;omega
  have hC4:w4.heap[C]?=some (.cells #[.slice (some ⟨w.heap.size,0,none⟩) L n] 71 (0,0)):=(hg4.block C (lt_of_block HC.out) (fun e=>hCR (Option.some.inj e))).trans HC.out;have hc4:=cell_of_one hC4;have hf4:=free_of_one hC4;have hints:∀ (k:Nat) (cs:Array Value) (fr:Nat × Nat),W.heap[k]?=some (.cells cs 3 fr)->(w4.setCell ⟨C,0,none⟩ (.slice (some ⟨w.heap.size,0,none⟩) (L+M) n)).heap[k]?=some (.cells cs 3 fr):=fun k cs fr hk=>by
   have h1:k≠C:=fun e=>by rw [e,HC.out] at hk;simp at hk
   have h2:k≠w.heap.size:=fun e=>by rw [e,hRr] at hk;simp at hk
   rw [Below.heap_setCell _ _ _ _ h1,hg4.block k (Array.getElem?_eq_some_iff.1 hk).1 (fun e=>h2 (Option.some.inj e)),hk]
  have hnew5:qbb w.heap.size (w4.setCell ⟨C,0,none⟩ (.slice (some ⟨w.heap.size,0,none⟩) (L+M) n)) (.slice (some ⟨w.heap.size,0,none⟩) (L+M) n) (acc++blk):=by
   refine ⟨cs1++cs2,?_,(HP1.out.imp fun _ _ h=>⟨h.1.moved hints,h.2⟩).join (HP2.out.imp fun _ _ h=>⟨h.1.moved hints,h.2⟩)⟩;rw [List.length_append,<- HL.out,<- HM.out];exact qeG hown4 (by simpa [Value.ownBlock] using hCR.symm) _
  have hb5:Below w.heap.size W (w4.setCell ⟨C,0,none⟩ (.slice (some ⟨w.heap.size,0,none⟩) (L+M) n)):=
   ((Below.refl _ W).grown hg4 HBW.out.size (fun k e=>by injection e with e;omega)).setCell (p:=⟨C,0,none⟩) (by show w.heap.size<=C;have :=HRC.out;omega) _
  have hko:KeepsOthers W (w4.setCell ⟨C,0,none⟩ (.slice (some ⟨w.heap.size,0,none⟩) (L+M) n)):=
   (KeepsOthers.of_grownBy hg4 fun j o ej hj=>by injection ej with ej;subst ej;rw [hRr] at hj;injection hj with hj;subst hj;rfl).trans (KeepsOthers.setCell _ _ _)
  have hD5:(w4.setCell ⟨C,0,none⟩ (.slice (some ⟨w.heap.size,0,none⟩) (L+M) n)).heap[C+1]?=W.heap[C+1]?:=by
   rw [Below.heap_setCell _ _ _ _ (show C+1≠C by omega),hg4.block (C+1) (lt_of_block HD.out) (fun e=>by have :=Option.some.inj e;have :=HRC.out;omega)]
  have hfin:=HAI.out _ (hD5.trans HD.out) (one_setCell hC4) hnew5 (HBW.out.trans hb5);have HF:=qH hfin;have HB5:=qH hb5;have HKO:=qH hko;have HD5:=qH hD5;clear hints hnew5 hb5 hko hD5 hfin hown4 hg4 hC4 hRr hcc1 hcf1;gi_wp2;exact ⟨HKO.out,⟨HB5.out,fun _=>HD5.out⟩,HF.out⟩
 case done=>
  rintro D' ys W hD hys ⟨_,hC,hnew,hbw⟩ hK';rw [hys,qj9] at hC hnew;have hcc1:=cell_of_one hC;have HNW:=qH hnew;have HBW:=qH hbw;clear hC hnew hbw hys;gi_wp2;refine ⟨by simp,.inl ⟨_,_,rfl,run_takeDeferred hK',?_⟩⟩;refine ⟨_,results_tmp rfl _ _ _,?_⟩;have hD2:w.heap.size<=D':=by have :=HZ3.out;have :=HRC.out;omega
  exact ⟨_,rfl,qax.newPo 0 _ _ _ W D' _ _ (Nat.zero_le _) hK' rfl HNW.out,qax.belowW (N:=w.heap.size) (Nat.le_refl _) W D' _ _ hD2 hK' rfl HBW.out⟩
section
variable (base B:Nat) (bs:List UInt8) (l:List Po) (w:World) (h:LAt w base B bs l)
include h
theorem qxg:Calls Tryz.prog 59 #[.pointer (some ⟨B,0,none⟩)] w fun e w'=>e= .returned (.int .i64 (l.length:Int))/\w=w':=by
 obtain ⟨Ab,cb,Ae,ce,⟨c0,c1,c2,c3⟩,_⟩:=h.read;clear h
 go_enter Tryz.func59,Tryz.ntmps59
 go_wp2;go_ret;exact ⟨rfl,rfl⟩
end
theorem qxh (f g:ByteArray) (w:World) (hf:f.size<=140737488355328) (hg:g.size<=140737488355328):
  Calls Tryz.prog 58 #[.agg #[.string f,.string g]] w fun e w'=>e= .returned (.string (qcP f g))/\Below w.heap.size w w':=by
 go_enter Tryz.func58,Tryz.ntmps58
 go_wp2;go_ret;exact ⟨rfl,(Below.refl _ _).alloc (Nat.le_refl _) _⟩
theorem qxi {l:List Pn} (hm:qaT (-1) l=true) (h1:l.length<=1000) (h2:qai l<=40000000000):(qab (-1) l).length<=400000000000:=by
 have :=qi1 l (-1) (by omega) hm (fun p hp=>by have :=qke hm p hp;omega);omega
theorem qfZ.at_ {x:qbM} (h:qfZ x) (key:Nm):(qdB x key).length<=1000/\qai (qdB x key)<=40000000000:=by
 have key':∀ (ks:List Nm) (ls:List (List Pn)),(∀ l∈ls,l.length<=1000/\qai l<=40000000000)->(atP ks ls key).length<=1000/\qai (atP ks ls key)<=40000000000:=by
  intro ks
  induction ks with
  |nil=>intro ls _;simp [atP,qai]
  |cons k ks ih=>
   intro ls hl;cases ls with
   |nil=>simp [atP,qai]
   |cons l ls=>
    rw [atP];split
    ·exact hl l (List.mem_cons_self ..)
    ·exact ih ls fun m hm=>hl m (List.mem_cons_of_mem _ hm)
 exact key' _ _ h.lists
theorem qxj {x:qbM} (h:qd0 x=true) (key:Nm):qaT (-1) (qdB x key)=true:=by
 have key':∀ (ks:List Nm) (ls:List (List Pn)),(∀ l∈ls,qaT (-1) l=true)->qaT (-1) (atP ks ls key)=true:=by
  intro ks
  induction ks with
  |nil=>intro ls _;rfl
  |cons k ks ih=>
   intro ls hl;cases ls with
   |nil=>rfl
   |cons l ls=>
    rw [atP];split
    ·exact hl l (List.mem_cons_self ..)
    ·exact ih ls fun m hm=>hl m (List.mem_cons_of_mem _ hm)
 exact key' _ _ fun l hl=>(qnN ((qf0.1 h).2.2.2.2 l hl)).1
theorem qxk {x:qbM} (h:qd0 x=true) {i:Nat} (hi:i<x.keys.length) (hl:i<x.lists.length):qdB x x.keys[i]=x.lists[i]:=
 qmX hi hl rfl fun j hj hji e=>by
  have :=qed (qfK.1 (qf0.1 h).2.2.2.1) hi hji;rw [e] at this;exact qev _ this
theorem qxl {x:qbM} {key:Nm} (hr:qaH x.keys) (h:isN x.keys key=false):qdB x key=[]:=qmW fun k hk e=>by
 subst e;have :isN x.keys k=true:=by
  obtain ⟨i,hi,rfl⟩:=List.mem_iff_getElem.1 hk;exact (qlL hr hi).2
 rw [h] at this;cases this
section
variable {w:World} {S:Nat} {x:qbM}
theorem qxm (h:qbC w S x):Calls Tryz.prog 25 #[.pointer (some ⟨S,0,none⟩)] w (qeU x.keys w):=by
 obtain ⟨bl,hd,_⟩:=h.dict;have C1:=qH (qwW S 2 x.keys bl w hd h.small.keys);clear h hd
 go_enter Tryz.func25,Tryz.ntmps25
 go_wp2_with (go_at_call 56;refine C1.out.mono ?_;rintro e w' ⟨v,rfl,ho,hb⟩)
 go_ret;exact ⟨_,rfl,ho,hb⟩
def qpi (l:List Pn) (w:World) (e:Ending) (w':World):Prop:=∃ B,e= .returned (.pointer (some ⟨B,0,none⟩))/\LAt w' 0 B (qab (-1) l) l/\Below w.heap.size w w'
theorem qpj (h:qbC w S x) (key:ByteArray):Calls Tryz.prog 57 #[.pointer (some ⟨S,0,none⟩),.string key] w (qpi (qdB x key.data.toList) w):=by
 obtain ⟨bl,hd,hl⟩:=h.dict;have hr:=qfK.1 (qf0.1 h.may).2.2.2.1;have c1:=qtG S 2 x.keys bl key w hd hr (by have :=h.small.keys;omega);have hkl:=h.keys;cases hf:isN x.keys key.data.toList with
 |true=>
  rw [hf,if_pos rfl] at c1;obtain ⟨hp,hpe⟩:=qiz hf;obtain ⟨p,hpp⟩:∃ p,p=qau x.keys key.data.toList:=⟨_,rfl⟩;simp only [<- hpp] at c1 hp hpe;obtain ⟨base,hla⟩:=hl p (by omega);have hpo:qdB x key.data.toList=x.lists[p]'(by omega):=by rw [<- hpe];exact qxk h.may hp (by omega)
  rw [hpo];have HLA:=qH (hla.low (Nat.zero_le _));obtain ⟨L,hL⟩:∃ L,L=x.lists[p]'(by omega):=⟨_,rfl⟩;rw [<- hL] at HLA ⊢;have C1:=qH c1;obtain ⟨B,hB⟩:∃ B,B=bl.getD p 0:=⟨_,rfl⟩;rw [<- hB] at C1 HLA;clear c1 hd hl hr h hkl hf hp hpe hpp hla hpo hL hB
  go_enter Tryz.func57,Tryz.ntmps57
  go_wp2_with (go_at_call 101;refine C1.out.mono ?_;rintro e w' ⟨rfl,hb⟩)
  go_ret;exact ⟨B,rfl,HLA.out.below hb,hb⟩
 |false=>
  rw [hf,if_neg (by decide)] at c1;rw [qxl hr hf];have C1:=qH c1;have HM:Hid (∀ w1,Calls Tryz.prog 70 #[.slice none 0 0] w1 (qo5 [] w1)):=qH fun w1=>qo7 none 0 0 [] w1 rfl (Nat.le_refl _) (Nat.zero_le _) (by omega) qbp.nil (by simp [qai]) rfl
  clear c1 hd hl hr h hkl hf
  go_enter Tryz.func57,Tryz.ntmps57
  go_wp2_with (first
   |(go_at_call 101;refine C1.out.mono ?_;rintro e w1 ⟨rfl,hb⟩)
   |(go_at_call 70;refine (HM.out w1).mono ?_;rintro e w2 ⟨B,rfl,hla,hb2⟩))
  go_ret;exact ⟨B,rfl,hla.low (Nat.zero_le _),hb.trans (hb2.mono hb.size)⟩
theorem qpk (h:qbC w S x) (key:ByteArray):Calls Tryz.prog 27 #[.pointer (some ⟨S,0,none⟩),.string key] w (qfs (qdB x key.data.toList) w):=by
 have C1:=qH (qpj h key);have hs:=h.small.at_ key.data.toList;have hm:=qxj h.may key.data.toList;obtain ⟨L,hL⟩:∃ L,L=qdB x key.data.toList:=⟨_,rfl⟩;rw [<- hL] at hs hm C1 ⊢;have C2:Hid (∀ w1 B,LAt w1 0 B (qab (-1) L) L->Calls Tryz.prog 55 #[.pointer (some ⟨B,0,none⟩)] w1 (qfs L w1)):=qH fun w1 B h=>qxf 0 B L w1 h hm (qxi hm hs.1 hs.2) (by omega)
 clear h hs hm hL
 go_enter Tryz.func27,Tryz.ntmps27
 go_wp2_with (first
  |(go_at_call 57;refine C1.out.mono ?_;rintro e w1 ⟨B,rfl,hla,hb⟩)
  |(go_at_call 55;refine (C2.out w1 B hla).mono ?_;rintro e w2 ⟨v,rfl,hn,hb2⟩))
 go_ret;exact ⟨v,rfl,hn.low hb.size,hb.trans (hb2.mono hb.size)⟩
theorem qxn (h:qbC w S x) (f g:ByteArray) (hf:f.size<=140737488355328) (hg:g.size<=140737488355328):Calls Tryz.prog 26 #[.pointer (some ⟨S,0,none⟩),.agg #[.string f,.string g]] w fun e w'=>e= .returned (.int .i64 ((qdB x (qcX f.data.toList g.data.toList)).length:Int))/\Below w.heap.size w w':=by
 obtain ⟨w1,hw1⟩:∃ w1,w1=w.alloc (.cells #[.string f,.string g] 69):=⟨_,rfl⟩;have hb1:Below w.heap.size w w1:=by rw [hw1];exact (Below.refl _ w).alloc (Nat.le_refl _) _
 have C0:=qH (qxh f g w1 hf hg);have C1:Hid (∀ w2,Below w1.heap.size w1 w2->Calls Tryz.prog 57 #[.pointer (some ⟨S,0,none⟩),.string (qcP f g)] w2 (qpi (qdB x (qcX f.data.toList g.data.toList)) w2)):=qH fun w2 hb=>by
  have :=qpj ((h.below hb1).below hb) (qcP f g);rwa [qgh] at this
 obtain ⟨L,hL⟩:∃ L,L=qdB x (qcX f.data.toList g.data.toList):=⟨_,rfl⟩;rw [<- hL] at C1 ⊢;obtain ⟨K,hK⟩:∃ K,K=qcP f g:=⟨_,rfl⟩;rw [<- hK] at C0 C1;have HB1:=qH hb1;have HW1:=qH hw1;clear h hL hK hb1 hw1 hf hg
 go_enter Tryz.func26,Tryz.ntmps26
 go_wp2_with (first
  |(go_at_call 58;rw [show w.alloc _=w1 from HW1.out.symm];refine C0.out.mono ?_;rintro e w2 ⟨rfl,hb2⟩)
  |(go_at_call 57;refine (C1.out w2 hb2).mono ?_;rintro e w3 ⟨B,rfl,hla,hb3⟩)
  |(go_at_call 59;refine (qxg 0 B _ L w3 hla).mono ?_;rintro e w4 ⟨rfl,rfl⟩))
 go_ret;exact ⟨rfl,HB1.out.trans ((hb2.trans (hb3.mono hb2.size)).mono HB1.out.size)⟩
end
end Go.Proofs.YtpehcaidjlemiaaGreatDoor
