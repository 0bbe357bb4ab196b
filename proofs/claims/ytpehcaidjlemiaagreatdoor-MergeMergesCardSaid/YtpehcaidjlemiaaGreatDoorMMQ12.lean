import Derived.Test.YtpehcaidjlemiaaGreatDoorMMQ08
import Derived.Test.YtpehcaidjlemiaaGreatDoorMMQ10
set_option maxHeartbeats 8000000
set_option maxRecDepth 100000
set_option linter.all false
namespace Go.Proofs.YtpehcaidjlemiaaGreatDoor
open Go Go.RowKit Go.Proofs.Tryz
variable {w w':World} {k b zz B M:Nat} {v v' u:Value} {cs:List Value} {t:TypeId} {l:List (List UInt8)} {L:List (Int × List (List UInt8 × List UInt8) × Int)} {Q:List (List Int)}
def qlK:∀ l:List Fd,(∀ f∈l,(qaX f.2).length<=M)->(qba l).length<=l.length*M
 |[],_=>by simp [qba]
 |f::l,a=>by
  have h1:=a f (eB ..);have h2:=qlK l fun g b=>a g (oB _ b)
  rw [qba,iA,qhJ,nA,Nat.succ_mul];omega
def qA8 (a:w.heap[B]?=some (.cells #[u,v] t (0,0))):w.cell? ⟨B,0,none⟩=some u/\w.cell? ⟨B,1,none⟩=some v:=⟨by simp [World.cell?,a],by simp [World.cell?,a]⟩
def qlL (zz:Nat) (g:Nat) (d:Nat) (c:List (Tm × Int)->World->Prop):Prop:=
 (∀ args w,(callFunc g args).run prog w= .ok (.enter g args) w)/\(∀ s W b,c s W->wG W b->c s b)/\
 ∀ (s:List (Tm × Int)) (x y:ByteArray) (a:Int) (W:World),c s W->zz<=W.heap.size->s.length<=104857600->
  yG g #[.agg #[.string x,.string y],.int .i64 a,.pointer (some ⟨d,0,none⟩)] W fun e b=>e= .returned (.tuple #[])/\c (s++[((x.data.toList,y.data.toList),a)]) b/\qci zz W b
def qA9 (l:List Fd) (zz:Nat) (b:List (Tm × Int)->World->Prop) (a:World) (i:Value) (wr:World):Prop:=∃ k:Nat,k<=l.length/\i= .int .i64 (k:Int)/\b (qba (l.take k)) wr/\qci zz a wr
def qBa (s:List (Tm × Int)) (f:Nm) (ws:List Nm) (zz:Nat) (b:List (Tm × Int)->World->Prop) (a:World) (i:Value) (wr:World):Prop:=∃ m:Nat,m<=ws.length/\i= .int .i64 (m:Int)/\b (s++qcp f 0 (ws.take m)) wr/\qci zz a wr
def qq6 (zz g Q:Nat) (a:List (Tm × Int)->World->Prop) (id:Int) (A:Option Addr) (n c:Nat) (l:List Fd) (w:World) (bf:l.length=n) (ah:qap w zz A l) (br:zz<=w.heap.size) (cd:n<=100)
  (ag:∀ f∈l,f.2.length<=268435456) (X:∀ f∈l,(qaX f.2).length<=1048576) (v:qlL zz g Q a) (am:a [] w):
  yG 106 #[qb8 id A n c,.func (.func g) #[] #[.pointer (some ⟨Q,0,none⟩)]] w fun e w'=>e= .returned (.tuple #[])/\a (qba l) w'/\qci zz w w':=by
 subst bf;obtain ⟨b6,I,v⟩:=v;have a4:=qH ah;have bn:=qH ag;have U:=qH X;have a1:=qH I;have a9:=qH v;have bg:=qH (qlK (M:=1048576));have ⟨all,N⟩:=qE (qba l);rw [<- N];have a0:=qH N;have ⟨h,C⟩:=qE (qbh w id A l.length c);have p:wG w h:=by rw [C];exact qgq _ _ _ _ _
 have ap:a [] h:=I _ _ _ am p;have be:h.cell? ⟨w.heap.size,1,none⟩=some (.slice A l.length c):=by rw [C];exact (qfu (bA _ _)).2
 have bu:=p.size;have bm:=qH p;have a6:=qH ap;have aj:=qH C;clear ah ag X I v N p ap C am;have aq:qci zz w h:=qci.of bm.o br;have ab:=qH aq;clear aq;have a5:(qbh w id A l.length c).cell? ⟨w.heap.size,1,none⟩=some (.slice A l.length c):=by rw [<- aj.o];exact be
 go_enter func106,ntmps106
 go_wp2;rw [show w.alloc _=h from aj.o.symm]
 clear a5
 go_loopw [11] (fun i wr=>qA9 l zz a h i wr) (fun i _=>l.length-(intOf i).toNat)
 case atStart=>exact ⟨0,by omega,rfl,by rw [List.take_zero];exact a6.o,qci.refl _ _⟩
 case round=>
  obtain ⟨k,b2,rfl,r,d⟩:=hrel;by_cases E:k<l.length
  ·have ad:Below zz w wr:=ab.o.below.trans d.below
   have ch:=d.below.size;have ⟨bw,b4,bo,p,az,bj⟩:=(a4.o.below ad).at_ E;subst bo;have ⟨x,Y,P⟩:=qa8 l[k].1;have ⟨y,J,V⟩:=qa8 l[k].2;rw [<- Y] at az;rw [<- J] at bj;have ce:(0:Int)<=k:=by omega
   have cb:(k:Int)<l.length:=by omega
   have b0:y.size<=268435456:=by rw [J,qdl];exact bn.o _ (pA E)
   have bb:=U.o _ (pA E);have j:=qx4 E;have G:=bg.o (l.take k) fun f bs=>U.o f (rF bs)
   rw [sA,eD (by omega)] at G;have bq:(qba (l.take k)).length<=99*1048576:=lA G (dE _ (by omega));have ⟨s,af⟩:=qE (qba (l.take k));have ⟨ws,K⟩:=qE (qaX l[k].2);rw [<- af] at r j bq;rw [<- K] at j bb;have bi:qI (∀ w',yG 155 #[.string y] w' (qgJ ws w')):=qH fun w'=>by have :=qnP y w' (by omega);rwa [V,<- K] at this
   have ⟨fn,an⟩:=qE (l[k].1);rw [<- an] at j P;have R:=qH P;have ar:=qH j;have a2:=qH r;have O:=qH d;have ⟨S,F⟩:=qE (wr.alloc (.cells #[.string x,.string y] 121));have T:S.heap[wr.heap.size]?=some (.cells #[.string x,.string y] 121 (0,0)):=by rw [F];exact jA _ _
   have D:wG wr S:=by rw [F];exact (bA _ _).alloc (aA _) _
   have bv:=D.size;have ai:=qH T;have al:=qH D;have bl:=qH F;clear Y P J V af K an j r d ad G T D F
   go_wp2_with (go_at_call 155;refine (bi.o _).mono ?_)
   rw [show wr.alloc _=S from bl.o.symm]
   rintro e B ⟨b3,rfl,L,q⟩;obtain ⟨b8,ca,rfl,bz,_⟩:=qaK L;have bx:=q.size;have ao:a s B:=a1.o _ _ _ a2.o (al.o.trans (q.mono (by omega)));have ac:B.heap[wr.heap.size]?=some (.cells #[.string x,.string y] 121 (0,0)):=(q.block _ (by have :=(gA.1 ai.o).1;omega)).trans ai.o;have Z:qci zz wr B:=qci.of (al.o.trans (q.mono (by omega))) (by omega);have a7:=qH ao;have ba:=qH ac;have a8:=qH L;have bd:=qH Z;clear ao ac L Z q;go_wp2
   go_loopw [19] (fun i ay=>qBa s fn ws zz a B i ay) (fun i _=>ws.length-(intOf i).toNat)
   case atStart=>exact ⟨0,by omega,rfl,by rw [List.take_zero];simpa [qcp] using a7.o,qci.refl _ _⟩
   case round=>
    obtain ⟨m,cg,rfl,t,b⟩:=hrel;by_cases aa:m<ws.length
    ·have ⟨bt,b5,aw,D,bh⟩:=qdr (qbx (b.owned a8.o (by decide))) aa
     subst aw;have ⟨z,ak,ae⟩:=qa8 ws[m];rw [<- ak] at bh;have ⟨b7,_⟩:=qA8 (b.keep _ _ _ _ ba.o (by decide));have cf:=b.below.size;have H:=qx3 fn aa;rw [<- ae,<- R.o] at H;have a3:(s++qcp fn 0 (ws.take m)).length<=104857600:=by rw [iA,qhJ,sA];omega
     have ax:qI (yG g #[.agg #[.string x,.string z],.int .i64 (m:Int),.pointer (some ⟨Q,0,none⟩)] wr fun e W=>e= .returned (.tuple #[])/\a (s++qcp fn 0 (ws.take (m+1))) W/\qci zz wr W):=qH (by
      have :=a9.o _ x z (m:Int) wr t (by omega) a3;rw [iB,<- R.o,<- H] at this;rwa [<- R.o])
     have cc:(0:Int)<=m:=by omega
     have b1:(m:Int)<ws.length:=by omega
     have bk:=qH b;clear ak ae H t b
     go_wp2_with (go_at_fn g;refine ax.o.mono ?_;rintro e b9 ⟨rfl,av,bc⟩)
     exact ⟨⟨m+1,by omega,by go_num,av,bk.o.trans bc⟩,by simp [intOf];omega⟩
    ·have bp:m=ws.length:=by omega
     subst bp;rw [fC,<- ar.o] at t;go_wp2;exact ⟨⟨k+1,by omega,by go_num,t,O.o.trans (bd.o.trans b)⟩,by simp [intOf];omega⟩
  ·have au:k=l.length:=by omega
   subst au;rw [fC,<- a0.o] at r;have O:=qH d;clear d;go_wp2
   go_end0
   exact ⟨rfl,r,ab.o.trans O.o⟩
attribute [local go_sem] gG
def qf2 (zz B:Nat) (l:List Nm) (W:World):Prop:=∃ v,W.heap[B]?=some (.cells #[v] 40 (0,0))/\qaB zz W v l
def qlM (e:qaB zz w v l) {k:Nat} {o:Obj} (b:w.heap[k]?=some o) (d:o.isCells=false):v.ownBlock≠some k:=by
 intro a;rcases e.2 with ⟨rfl,_⟩|⟨g,i,h,rfl,_,c,_⟩
 ·cases a
 ·simp only [Value.ownBlock,jB] at a
  subst a;rw [c] at b;cases b;cases d
def qf2.firm (N zz B:Nat) (l:List Nm):qgE N (qf2 zz B l):=fun W k o h _ a b ⟨v,h1,h2⟩=>by
 have d:B≠k:=fun e=>by subst e;rw [h1] at a;injection a with a;rw [<- a] at b;cases b
 exact ⟨v,(World.putObj_heap_other d).trans h1,qaq h2 fun g c=>World.putObj_heap_other fun e=>by subst e;exact qlM h2 a b c⟩
def qf2.moved (d:qf2 zz B l w) (b:qdK k w w'):qf2 zz B l w':=by
 obtain ⟨v,h1,h2⟩:=d;refine ⟨v,b.keep _ _ h1 (by simp),qaq h2 fun g a=> ?_⟩;rcases h2.2 with ⟨rfl,_⟩|⟨i,h,e,rfl,_,c,_⟩
 ·cases a
 ·simp only [Value.ownBlock,jB] at a
  subst a;rw [b.keep _ _ c (by simp),c]
def qq7 (w:World) (pre:List Nm) (W:World):Prop:=qf2 w.heap.size w.heap.size pre W/\wG w W/\pre.length<=134217728
def qBb (f:Value) (w:World) (x:Nm) (a:Act) (W:World):Prop:=a={tmps:=#[.slice none 0 0,f,.pointer (some ⟨w.heap.size,0,none⟩),undef,.slice none 0 0,kV x,f,kV x,undef,undef,undef,undef,undef],defers:=[]}
def qq8 (ks:List Nm) (w:World) (e:Ending) (w':World):Prop:=∃ v ts,e= .returned v/\ts.Perm ks/\qaB w.heap.size w' v ts/\wG w w'
def qBc (i B c:Nat) (m:List qaS) (w:World) (S:qbm w B c m) (I:w.cell? ⟨i,0,none⟩=some (.map (some B))) (bh:m.length<=134217727):
  yG 156 #[.slice none 0 0,.func (.func 110) #[] #[.pointer (some ⟨i,0,none⟩)]] w (qq8 (m.map (·.1)) w):=by
 have ⟨a2,ax,aq,ar,a0⟩:=lG qfh;refine (uG (n:=6)).1 ?_;have ⟨H,E⟩:=qE (w.alloc (.cells #[.slice none 0 0] 40));have C:wG w H:=by rw [E];exact (bA _ _).alloc (aA _) _
 have af:qbm H B c m:=(C.block B (gA.1 S).1).trans S;have U:=(C.cell (p:=⟨i,0,none⟩) (vC w _ I)).trans I;have ab:qf2 w.heap.size w.heap.size [] H:=⟨_,by rw [E];exact jA w _,qaB.nil⟩;have bi:H.heap.size=w.heap.size+1:=by rw [E];simp
 have a7:=qH (qyX 5 w.heap.size i B c m H (by omega) C.size af U);have a3:=qH E;have a9:=qH C;have ak:=qH ab;clear E C af U ab S I;refine callsIn_of_wp_marks func156 rfl trivial ?_ rfl;simp only [ntmps156,iD,nA,vB,Nat.reduceAdd,Nat.reduceSub,tD,uD,jD,vD,lC,bC];gi_wp2;rw [<- a3.o];refine qna (by omega) (gf:=110) (lb:=#[.pointer (some ⟨i,0,none⟩)]) rfl (enters_of func110 (by kernel_rfl) rfl)
  a7.o (fun a5=>qdK.of a5 (aA _)) (fun {A B k o} K M J y=>M.keep _ _ J (by rcases y with ⟨x,rfl⟩|⟨x,rfl⟩<;>simp))
  (fun a k=>a.trans k) (fun W P x r bd J=>qdb.loop W P x r (by omega) J) (fun _=>rfl)
  (qq7 w) (fun s bl B' a M=>⟨a.1.moved M,a.2.1.trans (M.below.mono (by omega)),a.2.2⟩)
  (fun s=>fun W l o r h1 h2 h3 a=>⟨qf2.firm _ _ _ _ W l o r h1 h2 h3 a.1,Below.firm (by omega) W l o r h1 h2 h3 a.2.1,a.2.2⟩)
  (fun s x W l o r _ _ _ a=>a) ⟨ak.o,a9.o,by simp⟩
  (qBb (.func (.func 110) #[] #[.pointer (some ⟨i,0,none⟩)]) w) (fun x an W l o r _ J I a=>a) ?assign ?body ?done
 case assign=>
  intro P pre x W be ag au F;unfold qiW kV;gi_wp2;exact F _ _ rfl ag au (bA _ _) (qdb.of (bA _ _) ag.2.1.size)
 case body=>
  rintro P pre x an W rfl ⟨⟨v,d,q⟩,D,a6⟩ av;unfold kV;have ⟨X,T⟩:=qE (⟨x.toArray⟩:ByteArray);rw [<- T];have aa:qad [x]=[.string X]:=by rw [T];rfl
  have am:=kG d;have az:=mG d;have ⟨k,K⟩:=qE pre.length;have Y:W.ownsRow w.heap.size 9 1 v k (qad pre):=by rw [K];exact q
  have bc:k<=134217727:=by omega
  have z:=qH Y;have aj:=qH q;have N:=qH d;have Q:=qH D;have ah:=qH K;have ao:=qH aa;clear d q D Y K aa T av a6
  gi_wp2_with (gi_at_builtin;refine wpListIn_append_own _ rfl (.tmp 8) (.tmp 10) 40 rfl w.heap.size 9 a2 _ 1 16 underlying40 ax aq ar a0 rfl (by omega) _ k (qad pre) rfl (z.o.alloc _) ⟨W.heap.size,0,none⟩ 1 1 [.string X] rfl rfl (qaH W [.string X] 9) (by intro u ae;simp at ae;subst ae;rfl) (by unfold maxLen;omega) (by omega) (by simp;omega) ?_)
  intro v' b L h aw;clear aw;have ⟨bk,bm,al,_,_⟩:=L.form (by omega);have ai:=qan aj.o N.o (by decide);have t:wG W (W.alloc (.cells #[.string X] 9)):=(bA _ _).alloc (aA _) _;have G:b.heap[w.heap.size]?=some (.cells #[v] 40 (0,0)):=(h.block _ (by simp;omega) (fun e=>ai e.symm)).trans ((t.block _ az).trans N.o);have bg:=kG G;have bf:=nG G;have ad:=qan L G (by decide);have V:W.heap.size<=b.heap.size:=lA t.size h.size;have R:∀ (j:Nat),j<W.heap.size->j≠w.heap.size->v.ownBlock≠some j->(b.setCell ⟨w.heap.size,0,none⟩ v').heap[j]?=W.heap[j]?:=fun j h1 h2 h3=>by
   rw [rA _ _ _ _ h2,h.block j (tB h1 t.size) (fun e=>h3 e.symm),t.block j h1]
  have y:∀ (j:Nat) (o:Obj),W.heap[j]?=some o->o.isCells=false->(b.setCell ⟨w.heap.size,0,none⟩ v').heap[j]?=some o:=fun j o h1 h2=>by
   rw [R j (gA.1 h1).1 (fun e=> ?_) (qlM aj.o h1 h2),h1];subst e;have :=N.o;rw [this] at h1;injection h1 with h1
   rw [<- h1] at h2;cases h2
  have O:Below w.heap.size W (b.setCell ⟨w.heap.size,0,none⟩ v'):=⟨h.os,h.tape,h.output,by simpa using V,fun j bj=>R j (by omega) (by omega) (fun e=>by have :=(z.o.lt j e).1;omega)⟩;have Z:qq7 w (pre++[x]) (b.setCell ⟨w.heap.size,0,none⟩ v'):=by
   refine ⟨⟨v',rG G,?_⟩,Q.o.trans O,by rw [iA,bB,<- ah.o];omega⟩;have :=pG L (show v'.ownBlock≠some (⟨w.heap.size,0,none⟩:Addr).block from ad) v'
   unfold qaB;rw [iA,bB,<- ah.o,qjY,ao.o];exact this
  have ap:qI (KeepsOthers W (b.setCell ⟨w.heap.size,0,none⟩ v')):=qH ⟨by simpa using V,y⟩;have ay:qI (qdb w.heap.size W (b.setCell ⟨w.heap.size,0,none⟩ v')):=qH ⟨O,fun j o h1 h2=>y j o h1 (by rcases h2 with ⟨_,_,_,_,rfl⟩|⟨_,_,rfl⟩<;>rfl)⟩
  have a4:=qH Z;subst al;clear R y O Z ai ad t G h L;gi_wp2;exact ⟨ap.o,ay.o,a4.o⟩
 case done=>
  rintro ba ys W a8 ac ⟨⟨v,d,q⟩,D,_⟩ F;have am:=kG d;have z:=qH q;have Q:=qH D;have a1:=qH ac;clear ac q D d;gi_wp2;refine ⟨by simp,.inl ⟨_,_,rfl,run_takeDeferred F,?_⟩⟩;refine ⟨_,results_tmp rfl _ _ _,?_⟩;refine ⟨v,ys,rfl,a1.o,qaq z.o fun g bb=>World.putObj_heap_other fun e=> ?_,Below.firm (by omega) W ba _ (.deferred none) a8 F rfl Q.o⟩;subst e;exact qlM z.o F rfl bb
def qBd (a B c:Nat) (m:List qaS) (w:World) (b:qbm w B c m) (d:w.cell? ⟨a,0,none⟩=some (.map (some B))) (j:m.length<=134217727):
  yG 108 #[.func (.func 110) #[] #[.pointer (some ⟨a,0,none⟩)]] w (qq8 (m.map (·.1)) w):=by
 have g:=qH (qBc a B c m w b d j);clear b d
 go_enter func108,ntmps108
 go_wp2_with (go_at_call 156;(with_reducible refine g.o.mono ?_);rintro e w' ⟨v,ts,rfl,k,i,h⟩)
 go_ret;exact ⟨v,ts,rfl,k,i,h⟩
def qBe (b B c:Nat) (m:List qaS) (l:List En) (w:World) (i:qbm w B c m) (j:w.cell? ⟨b,0,none⟩=some (.map (some B))) (n:m.length<=134217727) (p:(m.map (·.1)).Perm (qah l)):
    yG 66 #[.func (.func 110) #[] #[.pointer (some ⟨b,0,none⟩)]] w (qeE (qah l) w):=by
  have g:=qH (qBd b B c m w i j n);have h:(m.map (·.1)).length<=134217727:=by simpa using n
  have k:=qH p;have ⟨ks,s⟩:=qE (m.map (·.1));rw [<- s] at h g k;clear i j p s
  go_enter func66,ntmps66
  go_wp2_with (first
    | (go_at_call 108; (with_reducible refine g.o.mono ?_); rintro e x ⟨v, ts, rfl, d, r, a⟩
       have C:ts.length<=134217727:=by rw [d.length_eq];exact h
       have A:=qH (quw w.heap.size v ts x r a.size (by omega));have t:=qH d;have y:=qH a;clear d r a)
    |(go_at_call 109;(with_reducible refine A.o.mono ?_);rintro e D ⟨rfl,q,z⟩))
  go_ret;rw [qzK (t.o.trans k.o)] at q;exact ⟨v,rfl,q,y.o.trans z⟩
def qBf (a B:Nat) (m:List Ent) (w:World) (b:qbj w B m) (c:w.cell? ⟨a,0,none⟩=some (.map (some B))) (i:m.length<=134217727):
  yG 185 #[.func (.func 187) #[] #[.pointer (some ⟨a,0,none⟩)]] w (qpZ (m.map (·.1)) w):=by
 have d:=qH (qyV a B m w b c i);clear b c
 go_enter func185,ntmps185
 go_wp2_with (go_at_call 220;(with_reducible refine d.o.mono ?_);rintro e w' ⟨v,ts,rfl,j,h,g⟩)
 go_ret;exact ⟨v,ts,rfl,j,h,g⟩
def qBg (ks:List Tm) (w:World) (e:Ending) (w':World):Prop:=∃ v ts,e= .returned v/\ts.Perm ks/\(ts.Pairwise fun s t=>¬ qag t<qag s)/\qaR w.heap.size w' v ts/\wG w w'
def qBh (c B:Nat) (m:List Ent) (w:World) (i:qbj w B m) (j:w.cell? ⟨c,0,none⟩=some (.map (some B))) (k:m.length<=134217727) (p:∀ t∈m.map (·.1),t.1.length<=536870912/\t.2.length<=536870912):
    yG 150 #[.func (.func 187) #[] #[.pointer (some ⟨c,0,none⟩)],.func (.func 152) #[] #[]] w (qBg (m.map (·.1)) w):=by
  have d:=qH (qBf c B m w i j k);have h:=qH p;have g:(m.map (·.1)).length<=134217727:=by simpa using k
  have ⟨ks,l⟩:=qE (m.map (·.1));rw [<- l] at g d h ⊢;clear i j p l
  go_enter func150,ntmps150
  go_wp2_with (first
    | (go_at_call 185; (with_reducible refine d.o.mono ?_); rintro e y ⟨v, ts, rfl, a, n, b⟩
       have F:ts.length<=134217727:=by rw [a.length_eq];exact g
       have E:=qH (qyM w.heap.size v ts y n b.size (fun t q=>h.o t (a.mem_iff.1 q)) (by omega));have x:=qH a;have A:=qH b;clear a n b)
    |(go_at_call 186;(with_reducible refine E.o.mono ?_);rintro e G ⟨rfl,s,D,r,z,C⟩))
  go_ret;exact ⟨v,s,rfl,D.trans x.o,r,z,A.o.trans C⟩
def qBi (s:List (Tm × Int)) (t:Tm):(qdI s t).length<=s.length:=by
 unfold qdI;rw [gB];exact wD _ _
def qlN (zz B a:Nat) (s:List (Tm × Int)) (w:World):Prop:=qch zz w B (qc8 s)/\w.heap[a]?=some (.cells #[.map (some B)] 248 (0,0))
def qBj (zz B c:Nat):qlL zz 184 c (qlN zz B c):=by
 refine ⟨enters_of func184 (by kernel_rfl) rfl,fun s W i b d=>⟨b.1.below d,(d.block _ (gA.1 b.2).1).trans b.2⟩,fun s x y a W b g h=> ?_⟩;refine (qyT zz B c (qc8 s) x y a W b.1 (by simp [World.cell?,b.2]) g (by rw [qo8];have :=qBi s (x.data.toList,y.data.toList);omega)).mono ?_;rintro e w' ⟨rfl,h1,h2⟩;exact ⟨rfl,⟨by rw [qx5];exact h1,h2.keep _ _ _ _ b.2 (by decide)⟩,h2⟩
def qBk (l:List Fd) (w:World) (e:Ending) (w':World):Prop:=∃ B,e= .returned (.map (some B))/\qch w.heap.size w' B (qc8 (qba l))/\wG w w'
def qBl (id:Int) (A:Option Addr) (n c:Nat) (l:List Fd) (w:World) (z:l.length=n) (g:qap w w.heap.size A l) (H:n<=100) (d:∀ f∈l,f.2.length<=268435456) (s:∀ f∈l,(qaX f.2).length<=1048576):
    yG 149 #[qb8 id A n c] w (qBk l w):=by
  have J:=@run_makeMap prog;have ⟨w3,a⟩:=qE (((qbh w id A n c).alloc (.map #[] 0)).alloc (.cells #[.map (some (w.heap.size+1))] 248));have j:=qgq w id A n c;have r:=qhM w id A n c;have q:qch (qbh w id A n c).heap.size ((qbh w id A n c).alloc (.map #[] 0)) (qbh w id A n c).heap.size []:=qch.made _;have b:wG w w3:=by rw [a];exact (j.alloc (by omega) _).alloc (by simp;omega) _
  have v:qlN w.heap.size (w.heap.size+1) (w.heap.size+2) [] w3:=by
    have h1:qch (qbh w id A n c).heap.size w3 (qbh w id A n c).heap.size []:=q.below (by rw [a];exact (bA _ _).alloc (aA _) _);obtain ⟨m,k,M,C,K,D⟩:=h1;rw [r] at k;refine ⟨⟨m,k,by omega,C,?_,D⟩,?_⟩
    · intro i e p P F
      cases F
    · rw [a]
      have :=jA ((qbh w id A n c).alloc (.map #[] 0)) (.cells #[.map (some (w.heap.size+1))] 248);rw [tE,r] at this;exact this
  have B:w3.cell? ⟨w.heap.size,0,none⟩=some (.int .i64 id)/\w3.cell? ⟨w.heap.size,1,none⟩=some (.slice A n c):=qfu (by rw [a];exact ((bA _ _).alloc (aA _) _).alloc (by simp) _);have h:=qq6 w.heap.size 184 (w.heap.size+2) (qlN w.heap.size (w.heap.size+1) (w.heap.size+2)) id A n c l w3 z (g.below b) b.size H d s (qBj _ _ _) v;have I:=qH h;have E:=qH b;have G:=qH a;obtain ⟨L,N⟩:=B;clear h b a v g d s q j
  go_enter func149,ntmps149
  go_wp2_with (go_at_call 106
               rw [show ((w.alloc _).alloc _).alloc _=w3 from G.o.symm]
               refine I.o.mono ?_;rintro e y ⟨rfl,t,x⟩;have O:y.cell? ⟨w.heap.size+1+1,0,none⟩=some (.map (some (w.heap.size+1))):=by have :=t.2;simp [World.cell?,this])
  go_ret;exact ⟨_,rfl,t.1,E.o.trans x.below⟩
def qf3 (a:Nat) (s:List (Tm × Int)) (w:World):Prop:=w.heap[a]?=some (.cells #[.int .i64 (s.length:Int)] 3 (0,0))
def qBm (zz b:Nat) (s:List (Tm × Int)) (x y:ByteArray) (a:Int) (w:World) (c:qf3 b s w) (q:zz<=b) (m:s.length<=104857600):
  yG 107 #[.agg #[.string x,.string y],.int .i64 a,.pointer (some ⟨b,0,none⟩)] w fun e w'=>e= .returned (.tuple #[])/\qf3 b (s++[((x.data.toList,y.data.toList),a)]) w'/\qci zz w w':=by
 have i:b<w.heap.size:=(gA.1 c).1;have h1:(w.alloc (.cells #[.string x,.string y] 69)).heap[b]?=some (.cells #[.int .i64 (s.length:Int)] 3 (0,0)):=(pB w _ _ i).trans c;have r:=kG h1;have z:=nG h1;have ⟨N,d⟩:=qE s.length;rw [<- d] at h1 r m;have h:=qH d;clear d
 go_enter func107,ntmps107
 go_wp2
 go_end0
 have j:w.heap[b]?=some (.cells #[.int .i64 (N:Int)] 3 (0,0)):=by rw [h.o];exact c
 refine ⟨rfl,?_,?_,fun k cs t fr g l=> ?_⟩
 ·unfold qf3
  rw [pB _ _ _ (by simpa using i),iA,<- h.o,bB];exact rG j
 ·exact ((bA zz w).setCell (p:=⟨b,0,none⟩) q _).alloc (by simp;omega) _
 ·have v:=(gA.1 g).1
  have n:k≠b:=by
   rintro rfl;unfold qf3 at c;rw [g] at c;simp at c;exact l c.2.1
  rw [pB _ _ _ (by simpa using v),rA _ _ _ _ n,g]
def qBn (zz b:Nat) (d:zz<=b):qlL zz 107 b (qf3 b):=
 ⟨enters_of func107 (by kernel_rfl) rfl,fun s W g c d=>(d.block _ (gA.1 c).1).trans c,fun s x y a W c h e=>qBm zz b s x y a W c d e⟩
def qBo (id:Int) (A:Option Addr) (n c:Nat) (l:List Fd) (w:World) (r:l.length=n) (g:qap w w.heap.size A l) (x:n<=100) (d:∀ f∈l,f.2.length<=268435456) (k:∀ f∈l,(qaX f.2).length<=1048576):
    yG 65 #[qb8 id A n c] w fun e w'=>e= .returned (.int .i64 ((qba l).length:Int))/\wG w w':=by
  have ⟨w3,a⟩:=qE ((qbh w id A n c).alloc (.cells #[.int .i64 0] 3));have j:=qgq w id A n c;have z:=qhM w id A n c;have b:wG w w3:=by rw [a];exact j.alloc (by omega) _
  have i:qf3 (w.heap.size+1) [] w3:=by
    rw [a];have :=jA (qbh w id A n c) (.cells #[.int .i64 0] 3);rw [z] at this;exact this
  have s:w3.cell? ⟨w.heap.size,0,none⟩=some (.int .i64 id)/\w3.cell? ⟨w.heap.size,1,none⟩=some (.slice A n c):=qfu (by rw [a];exact (bA _ _).alloc (aA _) _);have h:=qq6 w.heap.size 107 (w.heap.size+1) (qf3 (w.heap.size+1)) id A n c l w3 r (g.below b) b.size x d k (qBn _ _ (by omega)) i;have y:=qH h;have t:=qH b;have v:=qH a;obtain ⟨B,C⟩:=s;clear h b a i g d k j
  go_enter func65,ntmps65
  go_wp2_with (go_at_call 106
               rw [show (w.alloc _).alloc _=w3 from v.o.symm]
               refine y.o.mono ?_;rintro e q ⟨rfl,m,p⟩;have D:q.cell? ⟨w.heap.size+1,0,none⟩=some (.int .i64 ((qba l).length:Int)):=by unfold qf3 at m;simp [World.cell?,m])
  go_ret;exact ⟨rfl,t.o.trans p.below⟩
theorem qBp:(prog.info? 23).map (fun i=>(i.zero,i.size,i.bytes))=some (some (.slice none 0 0),1,24):=by kernel_rfl
def qdz (zz b:Nat) (w:World) (v:Value) (a:List (List Int)):Prop:=∃ cs:List Value,w.ownsRow zz 23 1 v a.length cs/\cs.length=a.length/\∀ (i:Nat) (c:Value) (l:List Int),cs[i]?=some c->a[i]?=some l->qcy b w c l
def qdz.below (d:qdz zz k w v Q) (a:wG w w'):qdz zz k w' v Q:=by
 obtain ⟨cs,h1,h2,h3⟩:=d;exact ⟨cs,qaf h1 a,h2,fun i c l b e=>qaf (h3 i c l b e) a⟩
def qdz.low (e:qdz zz k w v Q) (d:b<=zz) (g:b<=k):qdz b b w v Q:=by
 obtain ⟨cs,h1,h2,h3⟩:=e;exact ⟨cs,qbk h1 d,h2,fun i c l a h=>qbk (h3 i c l a h) g⟩
def qdz.push {l:List Int} (h1:w.ownsRow zz 23 1 v Q.length cs) (h2:cs.length=Q.length) (h3:∀ (i:Nat) (c:Value) (l:List Int),cs[i]?=some c->Q[i]?=some l->qcy k w c l) (n:qcy k w u l)
  (m:w'.ownsRow zz 23 1 v' (Q.length+1) (cs++[u])) (h:w.grownBy w' v.ownBlock):qdz zz k w' v' (Q++[l]):=by
 have e:∀ (c:Value) (l:List Int),qcy k w c l->qcy k w' c l:=fun c l g=>g.kept h (qmR g h1 (by decide))
 refine ⟨cs++[u],by rw [iA,bB];exact m,by simp [h2],fun i c p a b=> ?_⟩;by_cases j:i<cs.length
 ·rw [fD j] at a
  rw [fD (by omega)] at b;exact e _ _ (h3 i c p a b)
 ·rw [oC (by omega)] at a b
  have d:i-cs.length=0:=by
   by_cases d:i-cs.length=0
   ·exact d
   ·rw [sC (by simp;omega)] at a;cases a
  rw [d] at a;rw [show i-Q.length=0 by omega] at b;cases a;cases b;exact e _ _ n
def qBq (w:World) (B:Nat) (A:Option Addr) (a:List (List Int)):Prop:=∃ cs:List Value,cs.length=a.length/\Row w B A cs/\∀ (i:Nat) (c:Value) (l:List Int),cs[i]?=some c->a[i]?=some l->∃ d b,c= .slice d l.length b/\l.length<=b/\Row w B d (qaa l)
def qdz.rows (d:qdz zz k w v Q):∃ A c,v= .slice A Q.length c/\Q.length<=c/\qBq w w.heap.size A Q:=by
 obtain ⟨cs,h1,h2,h3⟩:=d;obtain ⟨A,c,rfl,a,b⟩:=qaK h1;exact ⟨A,c,rfl,a,cs,h2,b,fun i c l a e=>qaK (h3 i c l a e)⟩
def qq9 (ts:List Tm) (c:List (List Int)) (w:World) (e:Ending) (w':World):Prop:=∃ b a,e= .returned (.tuple #[b,a])/\qaR w.heap.size w' b ts/\qdz w.heap.size w.heap.size w' a c/\wG w w'
def qBr (g:List Gr) (ts:List Tm) (zz b:Nat) (a:World) (o i:Value) (wr:World):Prop:=∃ (k:Nat) (c:Value),c=o/\k<=ts.length/\i= .int .i64 (k:Int)/\qdz zz b wr o ((ts.take k).map (qbs g))/\wG a wr
def qch.keys {g:List Gr} (e:qch zz w B g):∃ m,qbj w B m/\m.map (·.1)=g.map (·.1)/\m.length=g.length:=by
 obtain ⟨m,h1,_,h3,c,_⟩:=e;refine ⟨m,h1,dD (by simp [h3]) fun i b a=> ?_,h3⟩;have d:i<m.length:=by simpa using b
 have h:i<g.length:=by simpa using a
 simpa using (c i _ _ (oA d) (oA h)).1
def qra (t:Tm) (a:Int):∀ g:List Gr,(qbT g t a).length<=g.length+1
 |[]=>aA _
 |p::g=>by
  have :=qra t a g;rw [qbT];split
  ·simp
  ·simp only [nA];omega
def qrb:∀ (s:List (Tm × Int)) (g:List Gr),(s.foldl (fun g p=>qbT g p.1 p.2) g).length<=g.length+s.length
 |[],g=>aA _
 |p::s,g=>by
  have h1:=qrb s (qbT g p.1 p.2);have h2:=qra p.1 p.2 g;rw [wE,nA];omega
def qBs (s:List (Tm × Int)):(qc8 s).length<=s.length:=by have :=qrb s [];simpa [qc8] using this
def qBt {l:List Fd} (a:∀ f∈l,f.1.length<=536870912/\f.2.length<=134217728):∀ t∈(qc8 (qba l)).map (·.1),t.1.length<=536870912/\t.2.length<=536870912:=fun t b=>by
 have ⟨f,c,h1,h2⟩:=(qgU t l).1 ((qo9 _ _).1 b);have ⟨d,e⟩:=a f c;have :=qif h2;exact ⟨by rw [h1];exact d,by omega⟩
def qBu (id:Int) (A:Option Addr) (n c:Nat) (l:List Fd) (w:World) (ab:l.length=n) (bp:qap w w.heap.size A l) (cq:n<=100) (ag:∀ f∈l,f.1.length<=536870912/\f.2.length<=134217728) (U:∀ f∈l,(qaX f.2).length<=1048576) (ac:qd1 l) (bz:qfX l):
    yG 104 #[qb8 id A n c] w (qq9 (qas l) ((qas l).map (qaZ l)) w):=by
  have ⟨bm,bf,a9,ba,bj⟩:=lG qBp;have az:=qH (fun w' (al:wG w w')=>qBl id A n c l w' ab (bp.later al) cq (fun f c5=>by have :=(ag f c5).2;omega) U);have aq:=qlK (M:=1048576) l U;have c3:(qba l).length<=104857600:=lA aq (lA (dE _ (by omega:l.length<=100)) (by omega));have a1:(qc8 (qba l)).length<=134217727:=by have :=qBs (qba l);omega
  have bo:=qH (qBt ag);have Z:=qH (fun (ts:List Tm)=>qx9 (ts:=ts) ac bz);have T:qI (∀ t,qbs (qc8 (qba l)) t=qaZ l t):=qH fun t=>by rw [qo8,qpc ac]
  have ⟨g,an⟩:=qE (qc8 (qba l));have ca:qI (∀ w',wG w w'->yG 149 #[qb8 id A n c] w' fun e bg=>∃ B,e= .returned (.map (some B))/\qch w'.heap.size bg B g/\wG w' bg):=qH fun w' al=>by rw [an];exact az.o w' al
  rw [<- an] at a1 bo Z T;have ⟨h,G⟩:=qE (qbh w id A n c);have S:wG w h:=by rw [G];exact qgq _ _ _ _ _
  have b2:=qfu (w:=w) (id:=id) (A:=A) (n:=n) (c:=c) (bA _ _);rw [<- G] at b2;obtain ⟨di,dd⟩:=b2;have N:=qH S;have cx:=qH G;have ⟨a0,bk⟩:=qE (qas l);have ⟨cw,bn⟩:=qE (qaZ l);rw [<- bk] at Z ⊢;rw [<- bn] at T ⊢;clear az bp ag U ac bz aq c3 an S G bk bn
  go_enter func104,ntmps104
  go_wp2_with (first
    | (go_at_call 149; rw [show w.alloc _ = h from cx.o.symm]
       (with_reducible refine (ca.o h N.o).mono ?_)
       rintro e d ⟨B,rfl,V,be⟩;have ⟨m,ah,ai,c1⟩:=V.keys;have ⟨ad,O⟩:=qE (d.alloc (.cells #[.map (some B)] 248));have aa:wG d ad:=by rw [O];exact (bA _ _).alloc (aA _) _
       have a6:ad.cell? ⟨d.heap.size,0,none⟩=some (.map (some B)):=by have :=jA d (.cells #[.map (some B)] 248);rw [<- O] at this;exact kG this
       have bq:=qH (qBh d.heap.size B m ad ((aa.block B (gA.1 ah).1).trans ah) a6 (by omega) (by rw [ai];exact bo.o));have ck:=qH V;have ak:=qH be;have Y:=qH aa;have c2:=qH O;rw [ai] at bq;clear V be ah ai c1 O aa a6)
    |(go_at_call 151;(with_reducible refine (qyN B d).mono ?_);rintro e db ⟨rfl,rfl⟩;rw [<- c2.o])
    | (go_at_call 150; (with_reducible refine bq.o.mono ?_); rintro e a ⟨dk, ts, rfl, X, a8, af, bi⟩
       obtain ⟨cd,cp,rfl,dh,a5⟩:=af.row;have bv:=Z.o ts X a8;have de:ts.length<=134217727:=by rw [X.length_eq,gB];exact a1
       have ⟨aw,c4,ap,bw⟩:=run_make_own (P:=prog) a a.heap.size 92 23 bm _ 1 underlying92 bf a9 ba .i64 .i64 ts.length (by rw [bj];omega) (by unfold maxLen;omega) (aA _);have ax:=qH bv;have b7:=qH af;have cn:=qH bi;have cy:=qH a5;clear bv X a8 af bi a5))
  have a2:wG a aw:=(bA _ _).grown bw (aA _) (fun k a7=>by cases a7);have cl:=qH a2;have b9:qI (qdz a.heap.size h.heap.size aw (.slice (some ⟨a.heap.size,0,none⟩) 0 ts.length) []):=qH ⟨[],ap,rfl,fun i c l R=>by cases R⟩;have H:wG d a:=Y.o.trans (cn.o.mono Y.o.size);have ae:wG w a:=N.o.trans ((ak.o.trans (H.mono ak.o.size)).mono N.o.size);have cm:=H.size;have cf:=ae.size;have co:=qH H;have cu:=qH ae;clear c4 ap bw a2 H ae
  go_loopw [6,19] (fun o i wr=>qBr g ts a.heap.size h.heap.size a o i wr) (fun _ i _=>ts.length-(intOf i).toNat)
  case atStart=>exact ⟨0,_,rfl,by omega,rfl,b9.o,cl.o⟩
  case round=>
    obtain ⟨k,cg,rfl,a7,rfl,s,C⟩:=hrel;have r:wG a wr:=C;have b0:=r.size;by_cases bd:k<ts.length
    · have ⟨c7,da,c0,S,b5,cr⟩:=(cy.o.below r).at_ bd
      subst c0;have ⟨x,bb,bs⟩:=qa8 ts[k].1;have ⟨y,a4,av⟩:=qa8 ts[k].2;rw [<- bb] at b5;rw [<- a4] at cr;have b1:(x.data.toList,y.data.toList)=ts[k]:=Prod.ext bs av;have Q:(ts.take (k+1)).map (qbs g)=(ts.take k).map (qbs g)++[qbs g (x.data.toList,y.data.toList)]:=by rw [b1,aB bd,jC];rfl
      have ⟨q,aj⟩:=qE (wr.alloc (.cells #[.string x,.string y] 69));have v:wG wr q:=by rw [aj];exact (bA _ _).alloc (aA _) _
      have c8:=v.size;have bh:qch h.heap.size q B g:=ck.o.below (co.o.trans ((r.trans (v.mono b0)).mono cm));have ⟨u,⟨b8,a3,ar⟩,K⟩:=bh.look (x.data.toList,y.data.toList);have ⟨cs,F,am,bl⟩:=s.below v;have L:((ts.take k).map (qbs g)).length=k:=by rw [gB,sA];omega
      have ⟨I,au⟩:=qE (qbs g (x.data.toList,y.data.toList));rw [<- au] at Q K;have ⟨E,D,z,_,_⟩:=qaK K;have bu:∀ (v':Value) (W p:World),wG q W->p.ownsRow a.heap.size 23 1 v' (k+1) (cs++[u])->W.grownBy p cg.ownBlock->qdz a.heap.size h.heap.size p v' ((ts.take (k+1)).map (qbs g)):=fun v' W p h1 h2 h3=>by
        rw [Q];exact qdz.push (qaf F h1) am (fun i c l R ab=>qaf (bl i c l R ab) h1) (qaf K h1) (by rw [L];exact h2) h3
      have dg:cs.length=k:=by rw [am,L]
      rw [L] at F;have ao:k<=134217727:=by omega
      have df:(0:Int)<=k:=by omega
      have dc:(k:Int)<ts.length:=by omega
      have b6:=qH bu;have bc:=qH F;have ct:=qH a3;have b3:=qH ar;have bt:=qH z;have J:=qH aj;have ci:=qH v;have ce:=qH C;clear bb bs a4 av b1 Q aj v bh a3 ar K s F am bl L au z bu C r
      go_wp2_with (first
        | (refine qyv _ (by rfl) _ _ (by rfl) B b8 (x.data.toList, y.data.toList) (by rfl) (by rw [<- J.o]; exact ct.o) (by rfl) ?_
           rw [b3.o,bt.o])
        | (at_builtin; refine wB _ rfl (.tmp 23) (.tmp 27) 92 rfl a.heap.size 23 bm _ 1 24 underlying92 bf a9 ba bj rfl (by omega) _ k cs rfl (by rw [<- J.o]; exact bc.o.alloc _) ⟨wr.heap.size + 1, 0, none⟩ 1 1 [.slice E I.length D] rfl rfl (by have := qaH (wr.alloc (.cells #[.string x, .string y] 69)) [.slice E I.length D] 23; rwa [tE] at this) (by intro u z; simp at z; subst z; rfl) (by unfold maxLen; omega) (by omega) (by simp; omega) ?_
           intro v' p cc ay cj;clear cj))
      refine ⟨⟨k+1,v',rfl,by omega,by go_num,b6.o v' (q.alloc (.cells #[.slice E I.length D] 23)) p ((bA _ _).alloc (aA _) _) (by rw [bt.o];exact cc) (by rw [J.o];exact ay),?_⟩,by simp [intOf];omega⟩;have ch:wG a q:=ce.o.trans (ci.o.mono b0);have bx:wG a (q.alloc (.cells #[.slice E I.length D] 23)):=ch.alloc (by omega) _;exact bx.grown (by rw [J.o];exact ay) bx.size (fun j cz=>(bc.o.lt j cz).1)
    · have ao:k=ts.length:=by omega
      subst ao;rw [fC] at s;have br:ts.map (qbs g)=a0.map cw:=by rw [ax.o];exact List.map_congr_left fun t _=>T.o t
      rw [br] at s;have dj:=Y.o.size;have c6:=N.o.size;have c9:=ak.o.size;have cv:=qH (s.low (b:=w.heap.size) (by omega) (by omega));have b4:qI (qaR w.heap.size wr (.slice cd ts.length cp) a0):=qH (by
        have :=(b7.o.below r).low (b:=w.heap.size) (by omega);rw [<- ax.o];exact this)
      have cb:qI (wG w wr):=qH (cu.o.trans (C.mono cf));clear s br C r;go_wp2;go_ret2;exact ⟨_,_,rfl,b4.o,cv.o,cb.o⟩
section
variable {id:Int} {A:Option Addr} {n c:Nat} {l:List Fd} {w:World}
def qBv (a:qc9 l) (d:l.length=n) (e:qap w w.heap.size A l):yG 104 #[qb8 id A n c] w (qq9 (qas l) ((qas l).map (qaZ l)) w):=
 qBu id A n c l w d e (by have :=a.len;omega) (fun f b=>by have :=a.names f b;have :=a.texts f b;omega) (fun f b=>by have :=a.wordsF f b;omega) a.apart a.zero
def qBw (a:qc9 l) (d:l.length=n) (g:qap w w.heap.size A l):yG 65 #[qb8 id A n c] w fun e w'=>e= .returned (.int .i64 (qft l:Int))/\wG w w':=by
 rw [<- qpj a.apart];exact qBo id A n c l w d g (by have :=a.len;omega) (fun f b=>by have :=a.texts f b;omega) (fun f b=>by have :=a.wordsF f b;omega)
end
def qb2 (rs:List (List Bool)):List (List Int):=rs.map fun r=>qaL (qa1 r)
def qlO:∀ {Ls:List (List En)} {rs:List (List Bool)},qbu Ls rs->(qaT Ls rs).length=Ls.length
 |_,_,.nil=>rfl
 |_,_,.cons h hs=>by rw [qaT,nA,nA,qlO hs]
def qlP:∀ {Ls:List (List En)} {rs:List (List Bool)},qbu Ls rs->∀ k (h1:k<Ls.length) (h2:k<rs.length) (h3:k<(qaT Ls rs).length),(qaT Ls rs)[k]=qde Ls[k] rs[k]
 |_,_,.nil,k,h,_,_=>by simp at h
 |_,_,.cons h hs,0,_,_,_=>rfl
 |_,_,.cons h hs,k+1,h1,h2,h3=>by
  simp only [qaT,zC];exact qlP hs k _ _ _
def qBx {r:List Bool} (e:r.length=L.length) {j:Nat} (a:j<(qa1 r).length) (d:j<(qaz (qde L r)).length):qd5 (qac L).seqs ((qa1 r)[j]:Int)=(qaz (qde L r))[j]:=by
 have c:(qa1 r)[j]<L.length:=by have :=qi4 (pA a);omega
 have b:(qac L).seqs=L.map (·.2.2):=rfl;unfold qd5;rw [b,eA ⟨by omega,by simpa using (by omega:((qa1 r)[j]:Int)<(L.length:Int))⟩];simp [qaz,qde,mA,oA c]
def qrc (Ls:List (List En)) (rs:List (List Bool)) (w:World) (e:Ending) (w':World):Prop:=∃ (a:Int) (o:List Pl) (v:Value),qea ((qaT Ls rs).map qaz) a o/\e= .returned (.tuple #[v,.int .i64 a])/\w'.ownsRow w.heap.size 88 2 v (qaj rs o).length (plc (qaj rs o))/\wG w w'/\o.length<=1000000
structure qrd (Ls:List (List En)) (rs:List (List Bool)) (w:World) (m lo k D1 D2:Nat) (wr:World):Prop where
 docs:qbi (qb2 rs) w D1 m lo k wr
 seqs:qbi ((qaT Ls rs).map qaz) w D2 m lo k wr
 ne:D1≠D2
 size:lo<=wr.heap.size
 from1:w.heap.size<=D1
 from2:w.heap.size<=D2
def qlQ (Ls:List (List En)) (rs:List (List Bool)) (w:World) (m:Nat) (d c:Value) (wr:World):Prop:=∃ a b lo,d= .slice (some ⟨a,0,none⟩) m m/\c= .slice (some ⟨b,0,none⟩) m m/\qrd Ls rs w m lo 0 a b wr
def qlR (Ls:List (List En)) (rs:List (List Bool)) (w:World) (m lo h e k b:Nat) (g c:List Int) (l:Option Addr) (i:List Value) (d:Value) (a:World):Prop:=∃ (j:Nat) (v:Value),d= .int .i64 (j:Int)/\qdD ((qaT Ls rs).map qaz) w e m lo k b j c v i a/\qgj (qb2 rs) w h m lo (k+1) b a/\qc5 a lo b l (qaa g)
def qBy (r:List Bool):qdZ (Plain.ones r)=qaa (qaL (qa1 r)):=by
 unfold qdZ qaa qaL;rw [List.map_map];rfl
def qlS:∀ (o:List Pl) (q:Nat) (b:q<o.length) (y:Nat),(plc o).set (q*2+1) (.int .i64 (y:Int))=plc (o.set q (o[q].1,y))
 |[],q,a,_=>by simp at a
 |p::o,0,_,y=>by simp [plc]
 |p::o,q+1,a,y=>by
  rw [show (q+1)*2+1=(q*2+1)+1+1 by omega];simp only [plc,zF,zC];rw [qlS o q (by simpa using a) y]
def qre {α:Type} {a b:List α} (d:a.length=b.length) {q:Nat} (c:q<a.length):(a.take q++b.drop q).set q a[q]=a.take (q+1)++b.drop (q+1):=by
 have h1:(a.take q).length=q:=by rw [sA];omega
 rw [List.set_append_right _ _ (by omega),h1,bE,yD (l:=b) (by omega),zE,aB c,iB];rfl
def qrf {α:Type} {a b:List α} (d:a.length=b.length) {q:Nat} (c:q<b.length) (h2:q<(a.take q++b.drop q).length):(a.take q++b.drop q)[q]=b[q]:=by
 have h1:(a.take q).length=q:=by rw [sA];omega
 rw [List.getElem_append_right (by omega)];simp [h1]
def qBz {x y:Value} (a:w.heap[b]?=some (.cells #[x,y] t (0,0))):w.cell? ⟨b,0,none⟩=some x/\w.cell? ⟨b,1,none⟩=some y:=by
 simp [World.cell?,a]
def qlT (rs:List (List Bool)) (o:List Pl) (a:World) (c b:Value) (M:Nat) (wr:World):Prop:=∃ q:Nat,q<=M/\b= .int .i64 (q:Int)/\wr.ownsRow a.heap.size 88 2 c M (plc ((qaj rs o).take q++o.drop q))/\wG a wr
def qlU (Ls:List (List En)) (rs:List (List Bool)) (w:World) (m lo c b:Nat) (a:Value) (wr:World):Prop:=∃ k:Nat,a= .int .i64 (k:Int)/\qrd Ls rs w m lo k c b wr
def qBA (A dp:Option Addr) (m c cp:Nat) (Ls:List (List En)) (rs:List (List Bool)) (w:World) (ds:qet w A Ls) (dv:qfa w dp rs) (bh:qbu Ls rs) (cm:Ls.length=m) (gv:m<=1000) (ce:∀ bt∈Ls,bt.length<=1000) (c7:Tab w):
    yG 38 #[.slice A m c,.slice dp m cp] w (qrc Ls rs w):=by
  have ⟨eb,ee,c0,cx,em⟩:=lG qis;have ⟨fy,fc,fg,fw,e7⟩:=lG qc4;have ⟨cz,dc⟩:=qgs.1 bh;have Y:(qb2 rs).length=m:=by simp [qb2];omega
  have a2:((qaT Ls rs).map qaz).length=m:=by rw [gB,qlO bh,cm]
  have ej:(madeCells (Value.slice none 0 0).cells (m*1)).toList=List.replicate m qbg:=by
    rw [show (Value.slice none 0 0).cells=#[.slice none 0 0] from rfl,pF,Nat.mul_one]
  have ⟨O,ea,bg,dg⟩:=tF (P:=prog) w.drew w.heap.size 92 23 eb _ 1 underlying92 ee c0 cx .i64 .i64 m (by rw [em];omega) (by unfold maxLen;omega) (aA _);have aa:wG w O:=(bA _ w).drew.grown dg (aA _) (fun k b1=>by cases b1);have f5:w.heap.size<O.heap.size:=(bg.lt _ rfl).2;have ⟨Q,gi,ai,c6⟩:=tF (P:=prog) O w.heap.size 92 23 eb _ 1 underlying92 ee c0 cx .i64 .i64 m (by rw [em];omega) (by unfold maxLen;omega) aa.size;have T:wG O Q:=(bA _ O).grown c6 (aA _) (fun k b1=>by cases b1);rw [ej] at bg ai;have gj:O.heap.size<Q.heap.size:=(ai.lt _ rfl).2;have ak:wG w Q:=aa.trans (T.mono aa.size);have br:=qaf bg T;have dd:qlQ Ls rs w m (.slice (some ⟨w.heap.size,0,none⟩) m m) (.slice (some ⟨O.heap.size,0,none⟩) m m) Q:=
    ⟨_,_,Q.heap.size,rfl,rfl,qbi.begin2 br (by omega) Y ak,qbi.begin2 ai (by omega) a2 ak,by omega,aA _,aA _,aa.size⟩
  have ef:qlQ Ls rs w m (.slice (some ⟨O.heap.size,0,none⟩) m m) (.slice (some ⟨w.heap.size,0,none⟩) m m) Q:=
    ⟨_,_,Q.heap.size,rfl,rfl,qbi.begin2 ai (by omega) Y ak,qbi.begin2 br (by omega) a2 ak,by omega,aA _,aa.size,aA _⟩
  have dm:=qH dd;have cw:=qH ef;have e0:=qH ds;have fa:=qH dv;have ax:=qH bh;have du:=qH cm;have ei:=qH ce;have el:=qH c7;have gp:=qH dc;have b0:=qH cz;have hh:=qH Y;have c2:=qH a2;clear dd ef br ak gj bg ai dg c6 aa T f5 ej ds dv bh cm ce c7 dc cz Y a2;have fh:(Instr.makeSlice 92 (.int .i64 (m:Int)) (.int .i64 (m:Int))).run prog w.drew= .ok (.slice (some ⟨w.heap.size,0,none⟩) m m) O:=ea
  go_enter func38,ntmps38
  go_upto_region 1 with fail
  go_cut [6,7] from 16 to 21 (fun f9 fm bp=>qlQ Ls rs w m f9 fm bp)
  case first=>
    go_region
    all_goals
      go_wp2_with fail
      go_meet
      first
        |exact dm.o
        |exact cw.o
  case rest=>
    obtain ⟨J,a,lo,rfl,rfl,H⟩:=hcut;have c9:=qH (show qlU Ls rs w m lo J a (.int .i64 0) _ from ⟨0,rfl,H⟩)
    clear H dm cw ea fh gi;go_wp2
    go_loopw [8,9,11,24,40,41,42] (fun u8 u9 u11 F u40 u41 u42 wr=>qlU Ls rs w m lo J a F wr) (fun _ _ _ F _ _ _ _=>m-(intOf F).toNat)
    case atStart=>exact c9.o
    case round=>
      clear c9;obtain ⟨k,rfl,H⟩:=hrel;have ⟨R,fx⟩:=qE wr;subst fx;by_cases Z:k<m
      · have an:k<Ls.length:=by rw [du.o];exact Z
        have b2:k<rs.length:=by rw [<- b0.o];exact an
        have ⟨_,_,h,_⟩:=H.docs.low;obtain ⟨b,gd,S,rfl,ge,da,c4⟩:=(e0.o).at_ an;obtain ⟨aq,e8,B,zz,rfl,T,q2,d7⟩:=(fa.o).at_ b2;have cv:=(gp.o) k an b2;have f2:=(ei.o) _ (pA an);have bb:=qxk zz B rs[k] R (d7.below h) (by unfold big;omega) ((el.o).below h (el.o).lt);have hi:=(h.cell (p:=⟨b,gd+k,none⟩) ge).trans da;have gy:=(h.cell (p:=⟨aq,e8+k,none⟩) T).trans q2;have bi:∀ U:k<(qb2 rs).length,(qb2 rs)[k]=qaL (qa1 rs[k]):=fun U=>by simp [qb2]
        have cl:∀ U:k<((qaT Ls rs).map qaz).length,((qaT Ls rs).map qaz)[k]=qaz (qde Ls[k] rs[k]):=fun U=>by rw [eC,qlP ax.o k an b2]
        have dx:∀ j (eg:j<(qa1 rs[k]).length) (aj:j<(qaz (qde Ls[k] rs[k])).length),qd5 (qac Ls[k]).seqs ((qa1 rs[k])[j]:Int)=(qaz (qde Ls[k] rs[k]))[j]:=fun j eg aj=>qBx cv eg aj
        have bo:(qaz (qde Ls[k] rs[k])).length=(qa1 rs[k]).length:=by simp [qaz,qde]
        have fk:(qa1 rs[k]).length<=rs[k].length:=by
          have :=wD (fun i=>rs[k].getD i false) (List.range rs[k].length);rwa [List.length_range] at this
        have ⟨C,ac⟩:=qE (qaL (qa1 rs[k]));have ⟨l,ba⟩:=qE (qaz (qde Ls[k] rs[k]));have b6:C.length=(qa1 rs[k]).length:=by rw [ac];simp [qaL]
        have ec:l.length=C.length:=by rw [ba,bo,b6]
        have cj:∀ j (h1:j<C.length) (h2:j<l.length),qd5 (qac Ls[k]).seqs C[j]=l[j]:=fun j h1 h2=>by
          have :=dx j (by omega) (by rw [bo];omega);simp only [ac,ba];rw [<- this];simp [qaL]
        rw [<- ac] at bi;rw [<- ba] at cl;have dn:yG 81 #[.pointer (some ⟨B,0,none⟩)] R fun e w'=>∃ v,e= .returned v/\w'.ownsRow R.heap.size 3 1 v C.length (qaa C)/\wG R w':=by
          refine bb.mono ?_;rintro e w' ⟨v,h1,h2,h3⟩;refine ⟨v,h1,?_,h3⟩;rw [qBy,<- ac] at h2;rwa [b6]
        have b8:∀ W,wG w W->∀ i:Int,yG 40 #[.pointer (some ⟨S,0,none⟩),.int .i64 i] W fun e w'=>e= .returned (.int .i64 (qd5 (qac Ls[k]).seqs i))/\wG W w':=fun W bq i=>qqI (c4.below bq) i
        have ⟨xs,d2⟩:=qE ((qac Ls[k]).seqs);rw [<- d2] at b8 cj;have e3:C.length<=1000:=by omega
        have f1:=qH dn;have f4:=qH b8;have e6:=qH cj;have gk:=qH bi;have fq:=qH cl;have fp:=qH ec;have E:=qH H;have hq:(k:Int)<(m:Int):=by omega
        have ⟨n,ci⟩:=qE C.length;rw [<- ci] at e3;have ae:=qH ci;clear bb dn b8 dx cj bi cl b6 ec ac ba bo fk cv f2 c4 d7 h H d2 da q2 ci
        go_wp2_with (go_at_call 81; refine (f1.o).mono ?_; rintro e d4 ⟨v, rfl, cr, b7⟩
                     obtain ⟨ez,gx,cf,gb,rfl,a6,ay,dy,ct⟩:=(E.o).docs.put Z (E.o).size b7 (gk.o) cr;have ar:=qH ct;have av:=qH dy;have bx:=qH b7;rw [<- ae.o] at av;clear cr ct dy b7)
        try rw [<- ae.o]
        rw [<- ae.o] at ar a6;have ⟨L,ad⟩:=qE (d4.setCell ⟨J,k,none⟩ (.slice cf n gb));rw [<- ad] at ar av
        try rw [<- ad]
        have cc:L.heap.size=d4.heap.size:=by rw [ad];simp [World.setCell]
        have bz:lo<=L.heap.size:=by rw [cc];exact lA (E.o).size (bx.o).size
        have c1:qbi ((qaT Ls rs).map qaz) w a m lo k L:=by
          rw [ad];exact ((E.o).seqs.later bx.o).other (E.o).ne ((E.o).docs.low).1 (E.o).from1 _
        have ⟨bv,d5,D⟩:=c1.mid (s:=l) Z bz;have dk:qlR Ls rs w m lo J a k L.heap.size C l cf bv (.int .i64 0) L:=⟨0,_,rfl,D,(ar.o).stay,by rw [cc];exact av.o⟩;have dh:=qH dk;have a7:=qH d5;have I:=qH bz;have cd:qI (l.length=n):=qH (by rw [fp.o,<- ae.o]);have dl:=qH (E.o).ne;have fb:=qH (E.o).from1;have d0:=qH ((E.o).seqs.low).1;have ft:=qH (E.o).from2;clear dk D c1 bz cc d5 ad ar av bx E ez gx
        go_loopw [11,42] (fun u11 F bp=>qlR Ls rs w m lo J a k L.heap.size C l cf bv F bp) (fun _ F _=>n-(intOf F).toNat)
        case atStart=>exact dh.o
        case round=>
          clear dh;obtain ⟨j,v,rfl,D,az,a8⟩:=hrel;have di:=D.le;rw [cd.o] at di;by_cases eo:j<n
          · have eq:j<C.length:=by rw [<- ae.o];exact eo
            have aj:j<l.length:=by rw [cd.o];exact eo
            obtain ⟨e1,e4,rfl,g1,fj⟩:=qbR a8.row eq;obtain ⟨db,cu,rfl,_,_,_⟩:=qaU D.mine;have au:=(e6.o) j eq aj;have ⟨d,eh⟩:=qE (C[j]);rw [<- eh] at fj au;have ⟨t,ck⟩:=qE (l[j]);rw [<- ck] at au;have bm:=fun W (bq:wG wr W)=>(f4.o) W (D.below.trans (bq.mono D.below.size)) d
            rw [au] at bm;have e9:=qH bm;have ⟨g9,gw⟩:=D.cell a7.o Z;have dw:=qH D;have gl:=qH az;have fz:=qH a8;have et:=qH ck;have hk:(j:Int)<(n:Int):=by omega
            clear D az a8 ck au bm eh gw;go_wp2
            go_region_law (first
              | (refine step_append_lies _ (by rfl) _ _ _ (by rfl) L.heap.size 3 fy _ 1 8 underlying23 fc fg fw e7 rfl (by omega) (.slice db j cu) j (qaa (l.take j)) (by rfl) (ao.o.mine.alloc _)
                  ⟨K.heap.size,0,none⟩ 1 1 [.int .i64 t] (by rfl) (by rfl) (World.news_of_block (cs:=#[.int .i64 t]) (t:=3) (fr:=(0,0)) (jA K _)) (by intro u dq;simp at dq;subst dq;rfl)
                  (by omega) (by unfold maxLen;omega) (by omega) (by have :=(ao.o).top;simp;omega) (K.heap.size+1) (by simp) ?_
                 intro co bd cb bs af e5 fd;rw [et.o] at bs af;have cg:=(ao.o).later ((bA K.heap.size K).alloc (aA _) (.cells #[.int .i64 l[j]] 3));have ⟨hd,hn,bk⟩:=cg.grow a7.o Z aj bs af)
              | (go_simp; go_at_call 40; (with_reducible refine (e9.o _ (bA _ _).drew).mono ?_); rintro e K ⟨rfl, c8⟩
                 have a5:qI (wG wr K):=qH ((bA wr.heap.size wr).drew.trans c8);have ao:=qH ((dw.o).later a5.o);have ⟨ey,gn⟩:=(ao.o).cell a7.o Z;have f3:=((ao.o).own.lt a rfl).2;have g3:∀ o,(K.alloc o).cell? ⟨a,k,none⟩=some (.slice db j cu):=fun o=>(((bA K.heap.size K).alloc (aA _) o).cell (p:=⟨a,k,none⟩) f3).trans ey
                 clear c8 gn))
            all_goals
              have b4:∀ x,x<L.heap.size->x≠a->(cb.setCell ⟨a,k,none⟩ (.slice (some ⟨co,0,none⟩) (j+1) bd)).heap[x]?=wr.heap[x]?:=fun x b5 gr=>by
                have g7:=(dw.o).top;have es:=(a5.o).size;rw [cg.kept af b5 gr,pB _ _ _ (by omega),(a5.o).block x (by omega)]
              have c3:wr.heap.size<=(cb.setCell ⟨a,k,none⟩ (.slice (some ⟨co,0,none⟩) (j+1) bd)).heap.size:=by
                have es:=(a5.o).size;have fl:=af.size;simp [World.setCell] at fl ⊢;omega
              have G:qlR Ls rs w m lo J a k L.heap.size C l (some ⟨e1,e4,none⟩) bv (.int .i64 ((j:Int)+1)) (cb.setCell ⟨a,k,none⟩ (.slice (some ⟨co,0,none⟩) (j+1) bd)):=
                ⟨j+1,_,rfl,bk,(gl.o).keep I.o (fun x b5 ga=>b4 x b5 (ga.elim (fun U e=>dl.o (U.symm.trans e)) (fun U e=>by have :=d0.o;omega))) c3 bk.below,(fz.o).keep fun x fn gf=>b4 x gf (by have :=d0.o;omega)⟩
              have X:=qH G;clear G b4 c3 bk cg bs af e5 fd;go_wp2;go_roundw
              case rel=>exact X.o
              case measure=>simp [intOf];omega
          · have gt:j=l.length:=by have :=cd.o;omega
            have dz:=D.done a7.o Z c2.o gt (fq.o);have G:qlU Ls rs w m lo J a (.int .i64 ((k:Int)+1)) wr:=⟨k+1,rfl,az.up_,dz,dl.o,lA I.o D.top,fb.o,ft.o⟩;have X:=qH G;clear G dz D az a8 di;go_wp2;go_roundw
            case rel=>exact X.o
            case measure=>simp [intOf];omega
      · have ⟨_,_,h,fi⟩:=H.docs.low
        have ew:k=m:=by omega
        subst ew;have Y:∀ s∈(qaT Ls rs).map qaz,s.length<=1000:=fun s f8=>by
          obtain ⟨bt,fv,rfl⟩:=tA.1 f8;have ⟨ff,fs,gm⟩:=qi5 (x:=(0,[],0)) ax.o bt fv;have h1:=gm.length_le;have h2:=(ei.o) ff fs;simp only [qaz,gB];omega
        have bb:=qH (qpv (some ⟨a,0,none⟩) k k ((qaT Ls rs).map qaz) R H.seqs.all c2.o gv Y);have gh:=qH H.docs.all;have b3:=qH h;clear H h Y fi
        go_wp2_with (go_at_call 47; refine (bb.o).mono ?_; rintro e Q ⟨df, o, v, cq, rfl, bn, T, ev⟩
                     obtain ⟨ca,a4,rfl,fu,g5,_⟩:=qaU bn;have ep:=qH cq;have ek:=qH bn;have gq:=qH T;clear cq bn T fu)
        have ⟨M,al⟩:=qE o.length;have dt:(qaj rs o).length=o.length:=by simp [qaj]
        have cy:∀ q (ag:q<o.length),∃ x y,o[q]=(x,y)/\x<rs.length/\y<(qa1 (rs.getD x [])).length:=fun q ag=>by
          have f7:=pA ag;have f6:qbS ((qaT Ls rs).map qaz) o:=by
            cases ep.o with
            |bad _=>exact absurd ag (Nat.not_lt_zero _)
            |twice _ _=>exact absurd ag (Nat.not_lt_zero _)
            |ok _ U=>exact U
          have ⟨a6,ay⟩:=(f6.mem o[q]).1 f7;have ce:=qlO ax.o;rw [qaI a6] at ay;rw [gB] at a6;have h1:o[q].1<rs.length:=by have :=b0.o;omega
          refine ⟨o[q].1,o[q].2,rfl,h1,?_⟩;rw [eC,qlP ax.o o[q].1 (by omega) h1] at ay;rw [qaI h1];simpa [qaz,qde] using ay
        have dj:qlT rs o R (.slice ca M a4) (.int .i64 0) M Q:=⟨0,kA _,rfl,by rw [List.take_zero,lC,List.drop_zero,al];exact ek.o,gq.o⟩;have d9:=qH dj;have gc:=qH cy;have I:=qH dt;have a9:=qH al
        try rw [<- al]
        rw [<- al] at ev;clear dj cy dt al ek
        go_loopw [14,15,67] (fun u14 u15 F wr=>qlT rs o R (.slice ca M a4) F M wr) (fun _ _ F _=>M-(intOf F).toNat)
        case atStart=>exact d9.o
        case round=>
          clear d9;obtain ⟨q,ag,rfl,N,h⟩:=hrel;by_cases d3:q<M
          · have ah:q<o.length:=by rw [<- a9.o];exact d3
            rcases N.2 with ⟨aw,hs⟩|⟨g,bd,hj,aw,fo,d6,g8,hm,gs,gu⟩
            · injection aw with _ aw _
              omega
            · injection aw with hv1 _ hv3
              subst hv1 hv3;have ⟨x,y,bf,h1,h2⟩:=(gc.o) q ah;have bj:q<((qaj rs o).take q++o.drop q).length:=by rw [iA,sA,rB,I.o];omega
              have b9:=qrf I.o ah bj;have de:=qre I.o (q:=q) (by rw [I.o];exact ah);have ⟨bl,ch⟩:=qhx bj;rw [b9,bf] at bl ch;have g4:=(N.cellAt (q*2) (by omega)).trans bl;have cp:=(N.cellAt (q*2+1) (by omega)).trans ch;have en:=N.frozenAt (q*2+1);have be:(qaj rs o)[q]'(by rw [I.o];exact ah)=(x,(qa1 (rs.getD x [])).getD y 0):=by
                simp only [qaj,eC,bf]
              have ⟨g0,hc,ht,hl,am,hb,ab,⟨bu,hf⟩,bc⟩:=((gh.o).below h).at_ (i:=x) (by simpa [qb2] using h1);have er:(qb2 rs)[x]'(by simpa [qb2] using h1)=qaL (qa1 (rs.getD x [])):=by rw [qaI h1];simp [qb2]
              rw [er] at ab bu bc;have ⟨r,ed⟩:=qE (qa1 (rs.getD x []));rw [<- ed] at h2 be ab bu bc;have a3:(qaL r).length=r.length:=by simp [qaL]
              rw [a3] at ab bu;obtain ⟨aq,fe,rfl,hr,bw⟩:=qbR bc (k:=y) (by rw [a3];exact h2);have ⟨z,cn⟩:=qE (r.getD y 0);have d1:(qaL r)[y]'(by rw [a3];exact h2)=(z:Int):=by rw [cn,qaI h2];simp [qaL]
              rw [d1] at bw;rw [<- cn] at be;injection am with am
              injection am with am e2
              subst am e2;have ⟨gg,d8⟩:=qE r.length;rw [<- d8] at ab h2;have ⟨a1,a0⟩:=qE (wr.alloc (.cells #[.int .i64 (x:Int),.int .i64 (y:Int)] 88));have c5:=(gA.1 d6).1;have V:wG wr a1:=by rw [a0];exact (bA _ wr).alloc (aA _) _
              obtain ⟨hg,g6⟩:a1.cell? ⟨wr.heap.size,0,none⟩=some (.int .i64 (x:Int))/\a1.cell? ⟨wr.heap.size,1,none⟩=some (.int .i64 (y:Int)):=by rw [a0];exact qBz (jA wr _)
              have dr:=qaf N V;have ap:=(dr.stored (q*2+1) (.int .i64 (z:Int))).1;rw [qlS _ q bj] at ap;simp only [b9,bf] at ap;rw [<- be,de] at ap;have ha:=(V.cell (p:=⟨g,q*2+1,none⟩) c5).trans cp;have hp:=(V.frozen (p:=⟨g,q*2+1,none⟩) c5).trans en;have eu:=h.size;have f0:=(V.cell (p:=⟨J,0+x,none⟩) (by show J<_;omega)).trans ab;have ho:=(V.cell (p:=⟨aq,fe+y,none⟩) (by show aq<_;omega)).trans bw;rw [kB] at f0;have G:qlT rs o R (.slice (some ⟨g,0,none⟩) M a4) (.int .i64 ((q:Int)+1)) M (a1.setCell ⟨g,q*2+1,none⟩ (.int .i64 (z:Int))).drew:=
                ⟨q+1,d3,rfl,ap,((h.trans (V.mono eu)).setCell (p:=⟨g,q*2+1,none⟩) fo _).drew⟩
              have X:=qH G;have ex:=qH a0;have hu:(q:Int)<(M:Int):=by omega
              have fn:(x:Int)<(k:Int):=by have h3:=b0.o;have he:=du.o;omega
              have g2:(y:Int)<(gg:Int):=by omega
              clear G ap dr N h a0 V be b9 de bl ch bf er ed cn d1 d8 a3 bc ah d6 gu gs en ab bw;go_wp2;rw [<- ex.o]
              go_region
              all_goals
                go_wp2;go_roundw
                case rel=>exact X.o
                case measure=>simp [intOf];omega
          · have gz:q=o.length:=by have :=a9.o;omega
            have G:qrc Ls rs w (.returned (.tuple #[.slice ca M a4,.int .i64 df])) wr:=by
              refine ⟨df,o,_,ep.o,rfl,?_,(b3.o).trans (h.mono (b3.o).size),by have :=a9.o;omega⟩;rw [nB (by rw [I.o];omega),pC (by omega),mC] at N;rw [I.o,<- a9.o];exact qbk N (b3.o).size
            have X:=qH G;clear G N h;go_wp2;go_ret2;exact X.o
