import Derived.Test.YtpehcaidjlemiaaGreatDoorMMQ04
set_option maxHeartbeats 8000000
set_option maxRecDepth 100000
set_option linter.all false
namespace Go.Proofs.YtpehcaidjlemiaaGreatDoor
open Go Go.RowKit Go.Proofs.Tryz
def qye (zz B j:Nat) (l:List Hd) (w:World) (E:HAt zz w B l) (C:j<l.length) (O:l.length<=1000000) (b:qe0 qaD l j):
  yG 139 #[ifH B,.int .i64 (j:Int)] w (qgl zz B l w):=by
 have D:=qH (show qoe zz B l w (.int .i64 (j:Int)) w from ⟨j,l,rfl,C,.refl _,b,E,.refl _ _⟩)
 clear E C b
 go_enter func139,ntmps139
 go_wp2
 go_loopw [1,4] (fun r P wr=>qoe zz B l w r wr) (fun r _ _=>(intOf r).toNat)
 case atStart=>exact D.o
 case round=>
  clear D;obtain ⟨k,q,rfl,n,d,b,a,h⟩:=hrel;have N:=d.length_eq;cases k with
  |zero=>
   have y:=qH (show ∀ v,qgl zz B l w (.returned v) wr from fun v=>⟨⟨v,rfl⟩,q,d,b.top,a,h⟩)
   clear d b a h;go_wp2
   go_end0
   exact y.o _
  |succ m=>
   have s:m/2<q.length:=by omega
   have ⟨r,T,g⟩:=a.less n s;rw [show ((m+1:Nat):Int)=(m:Int)+1 by omega,show ((m/2:Nat):Int)=(m:Int)/2 by omega] at g;have R:((m:Int)/2==(m:Int)+1)=false:=by rw [nD];omega
   by_cases i:q[m+1].1<q[m/2].1
   ·rw [yA i] at g
    have z:=qH g;have A:=b.step n (by omega) i;simp only [Nat.add_sub_cancel] at A;have I:=qH A;clear A;have K:=qH d;have t:=qH a;have G:=qH h;clear g b d a h i
    go_wp2_with first
     |(go_at_call 279;refine (H.o).mono ?_;rintro e V ⟨⟨v,rfl⟩,J,L⟩)
     |(go_at_call 278;refine (z.o).mono ?_;rintro e p ⟨rfl,c⟩;have F:=(t.o).below c;have ⟨Q,M,x⟩:=F.swaps s n;rw [show ((m+1:Nat):Int)=(m:Int)+1 by omega,show ((m/2:Nat):Int)=(m:Int)/2 by omega] at x;have H:=qH x;clear x F)
    have S:=(t.o).1;have U:=(t.o).lt;go_roundw
    case rel=>exact ⟨m/2,_,by go_num,by rw [qe1];exact s,(qhs s n).trans K.o,I.o,J,(G.o).trans ((qaQ.of_below c (by omega)).trans L)⟩
    case measure=>simp [intOf];omega
   ·rw [uA i] at g
    have z:=qH g;have y:=qH (show ∀ v p,wG wr p->qgl zz B l w (.returned v) p from fun v p c=>⟨⟨v,rfl⟩,q,d,b.stop n (by simpa using i),a.below c,h.trans (.of_below c (by have :=a.1;have :=a.lt;omega))⟩)
    clear g b d a h i
    go_wp2_with (go_at_call 278;refine (z.o).mono ?_;rintro e p ⟨rfl,c⟩)
    go_end0
    exact y.o _ _ c
attribute [local go_sem] gG
def qaE.okP (N:Nat) (l:List Nm) (vs:List Nat) (s:List (Nm × Nat)) (x:Nm × Nat):qaE N (OkP l vs s x):=fun _ _ _ _ _ _ _ a=>a
def qps (l:List Nm) (w:World) (a:Nat) (pre:List (Nm × Nat)) (W:World):Prop:=qbJ 40 9 w.heap.size a (qad (l.take pre.length)) W/\wG w W
def qyf (B o:Nat) (l:List Nm) (vs:List Nat) (w:World) (a:qce w B o l vs) (ao:l.length<=1048576):
  yG 56 #[.pointer (some ⟨B,o,none⟩)] w (qeE l w):=by
 have ⟨ar,an,aj,ak,ap⟩:=lG qfh;refine (uG (n:=6)).1 ?_;have U:=qH (qj9 B o l vs w a);have ⟨n,Y⟩:=qE l.length;have b2:=qH Y;have ⟨C,bw,az,ag⟩:=run_make_own (P:=prog) w w.heap.size 40 9 ar _ 1 underlying40 an aj ak .i64 .i64 n (by rw [ap];omega) (by unfold maxLen;omega) (aA _);have t:wG w C:=(bA _ w).grown ag (aA _) (fun k h=>by cases h);have ⟨ac,p⟩:=qE (C.alloc (.cells #[.slice (some ⟨w.heap.size,0,none⟩) 0 n] 40));have ⟨b,E⟩:=qE C.heap.size;have T:wG w ac:=by rw [p];exact t.alloc t.size _
 have al:qbJ 40 9 w.heap.size b (qad []) ac:=⟨_,by rw [p,E];exact jA C _,by rw [p];exact az.alloc _⟩;have af:=qH (qn0 B o 0 l vs w ac a T ao (by omega));have bb:w.heap.size<=b:=by rw [E];exact t.size
 rw [<- Y] at U;have ay:=qH T;have bg:=qH al;have au:=qH p;have a7:=qH E;clear a Y az ag t p E T al;refine callsIn_of_wp_marks func56 rfl trivial ?_ rfl;simp only [ntmps56,iD,nA,vB,Nat.reduceAdd,Nat.reduceSub,tD,uD,jD,vD,lC,bC]
 gi_wp2_with (first
  |(refine ⟨trivial,?_⟩;gi_at_call 98;refine (uG.2 U.o).mono ?_;rintro e w' ⟨rfl,rfl⟩)
  |(gi_at_call 98;refine (uG.2 U.o).mono ?_;rintro e w' ⟨rfl,rfl⟩)
  |(refine ⟨trivial,?_⟩;gi_at_call 54;rw [<- au.o];refine (uG.2 af.o).mono ?_)
  |(gi_at_call 54;rw [<- au.o];refine (uG.2 af.o).mono ?_))
 rintro e w3 ⟨J,rfl,b4,aa,I,bi⟩;rw [Int.toNat_zero,List.drop_zero,List.drop_zero] at aa;have V:=ay.o.trans (I.mono ay.o.size);have L:=bg.o.below I;have ab:w.heap.size<=w3.heap.size:=V.size;have bq:=qH (qn7 5 w.heap.size J l vs w3 (by omega) ab aa ao);have be:=qH V;have br:=qH L;have ba:qI (b<w3.heap.size):=qH L.lt;clear aa I V L bw bi;gi_wp2;rw [<- a7.o];refine qj5 (by omega) (gf:=99) (lb:=#[.pointer (some ⟨J,0,none⟩)]) rfl (enters_of func99 (by kernel_rfl) rfl)
  bq.o (fun bn=>bn) (fun {A B k o} h H z b1=>(H.block k (gA.1 z).1).trans z)
  (fun a k=>a.trans k) (fun W O o ax a8 z a5=>qaE.belowW (N:=w3.heap.size) (w0:=W) (by omega) W O o ax a8 z a5 (bA _ _)) (fun _=>rfl)
  (qps l w b) (fun _ _ _=>False)
  (fun s b5 B' a H=>⟨a.1.below H,a.2.trans (H.mono (by have :=a.2.size;omega))⟩)
  (fun s=>(qaE.rowVar _ _ _ _ _ _).and (qaE.belowW ab))
  (fun c s W l o ax _ _ _ a=>a)
  (fun s x=>qaE.okP _ _ _ _ _) ⟨by simpa using br.o,be.o⟩
  (fun x=>{tmps:=#[.pointer (some ⟨B,o,none⟩),undef,.slice none 0 0,.pointer (some ⟨b,0,none⟩),.string ⟨x.1.toArray⟩,.pointer (some ⟨B,o,none⟩),.int .i64 n,.slice (some ⟨w.heap.size,0,none⟩) 0 n,.pointer (some ⟨B,o,none⟩),.func (.func 99) #[] #[.pointer (some ⟨J,0,none⟩)],.string ⟨x.1.toArray⟩,.pointer (some ⟨x.2,0,none⟩),undef,undef,undef,undef,undef],defers:=[]}) ?assign ?body ?done ?stop
 case assign=>
  intro O x W bz q;unfold qfp;gi_wp2;exact q
 case body=>
  rintro O pre ⟨x,y⟩ W ⟨m,i⟩ ⟨am,R,ah⟩;simp only at R ah ⊢;have r:qad (l.take (pre.length+1))=qad (l.take pre.length)++[.string ⟨x.toArray⟩]:=by
   rw [aB am,R,qjY];rfl
  have j:(qad (l.take pre.length)).length=pre.length:=by rw [qfJ,sA];omega
  have G:=m;obtain ⟨v,g,d⟩:=m;rw [j] at d;have a6:=kG g;have bl:=i.size;have ⟨X,a2⟩:=qE (⟨x.toArray⟩:ByteArray);rw [<- a2] at r ⊢;have ⟨k,h⟩:=qE pre.length;rw [<- h] at r d am j G;have ⟨xs,aq⟩:=qE (qad (l.take k));rw [<- aq] at r d j G;have bo:=qH r;have ai:=qH d;have D:=qH G;have a3:=qH g;have Q:=qH i;have bp:=qH h;have bh:=qH j;have bx:k<=1048576:=by omega
  clear r d G g i h j aq R ah a2
  gi_wp2_with (gi_at_builtin;refine wpListIn_append_own _ rfl (.tmp 12) (.tmp 14) 40 rfl w.heap.size 9 ar _ 1 16 underlying40 an aj ak ap rfl (by omega) _ k xs rfl (ai.o.alloc _) ⟨W.heap.size,0,none⟩ 1 1 [.string X] rfl rfl (qaH W [.string X] 9) (qhy 0 X) (by unfold maxLen;omega) (by omega) (by simp;omega) ?_)
  intro v' bc Z av bf;clear bf;have ⟨bs,bv,a4,_,_⟩:=Z.form (by omega);have ⟨b0,b3,ae,S⟩:=pushed (by decide) a3.o bh.o ai.o ((bA _ W).alloc (aA _) _) av Z rfl;subst a4;have a1:=S.others D.o;have K:=S.below D.o bb bl;have aw:qps l w b (pre++[(x,y)]) (bc.setCell ⟨b,0,none⟩ (.slice (some ⟨bs,0,none⟩) (k+1) bv)):=by
   refine ⟨?_,Q.o.trans K⟩;rw [iA,bB,<- bp.o,bo.o];exact ae
  have bd:=qH a1;have bj:=qH K;have bm:=qH aw;clear a1 K aw ae S Z av;gi_wp2;exact ⟨bd.o,bj.o,bm.o⟩
 case done=>
  rintro F ys W bt ad ⟨m,i⟩ q;rw [ad,fC] at m;obtain ⟨v,g,d⟩:=m;have a6:=kG g;have Q:=qH i;have D:qI (qbJ 40 9 w.heap.size b (qad l) W):=qH ⟨v,g,d⟩;clear ad d i;gi_wp2;refine ⟨by simp,.inl ⟨_,_,rfl,run_takeDeferred q,?_⟩⟩;refine ⟨_,results_tmp rfl _ _ _,?_⟩;have a9:=qaE.rowVar 0 _ _ _ _ _ W F _ (.deferred none) (kA _) q rfl D.o;obtain ⟨b6,M,a0⟩:=a9;have bu:b≠F:=by have :=ba.o;omega
  rw [World.putObj_heap_other bu,g] at M;simp at M;subst M;refine ⟨_,rfl,?_,qaE.belowW (N:=w3.heap.size) ab W F _ _ bt q rfl Q.o⟩;unfold qaB;rw [qfJ] at a0;exact a0
 case stop=>
  rintro F c pre W _ _ bk _;exact bk.elim
