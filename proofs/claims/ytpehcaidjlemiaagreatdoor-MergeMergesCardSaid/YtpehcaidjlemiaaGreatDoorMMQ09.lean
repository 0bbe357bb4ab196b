import Derived.Test.YtpehcaidjlemiaaGreatDoorMMQ11
import Derived.Test.YtpehcaidjlemiaaGreatDoorMMQ13
set_option maxHeartbeats 8000000
set_option maxRecDepth 100000
set_option linter.all false
namespace Go.Proofs.YtpehcaidjlemiaaGreatDoor
open Go Go.RowKit Go.Proofs.Tryz
variable {w w' w0 wr:World} {k n b c i j m zz B M:Nat} {A A' C:Option Addr} {v v' V:Value} {xs cs:List Value} {t E:TypeId} {l:List (List UInt8)} {G:List (Int × List (List UInt8 × List UInt8) × Int)} {Ls:List (List (Int × List (List UInt8 × List UInt8) × Int))} {rs:List (List Bool)} {S:Nat → Prop}
attribute [local go_sem] gG
def qp1 (l:List Po) (w:World) (e:Ending) (w':World):Prop:=∃ B,e= .returned (.tuple #[.pointer (some ⟨B,0,none⟩),.int .i64 0])/\LAt w' w.heap.size B (qae (-1) l) l/\wG w w'
def qyY {l:List Po} {x:Int} (a:l≠[]):0<(qae x l).length:=by
 cases l with
 |nil=>exact absurd rfl a
 |cons p r=>
  have :=qgc (p.1-(x+1)).toNat;rw [qae,iA];omega
def qiX (w:World) (B:Nat) (A:Option Addr) (n c:Nat) (l:List Po) (pre:List Nat) (W:World):Prop:=
 (W.heap[B+1+1]?=some (.cells #[.slice A n c] 71 (0,0))/\W.heap[B+1+1+1]?=some (.cells #[.int .i64 8] 3 (0,0)))/\LAt W w.heap.size B (qae (-1) (l.take (8*pre.length))) (l.take (8*pre.length))/\W.heap[B+1]?=some (.cells #[.pointer (some ⟨B,0,none⟩)] 116 (0,0))/\wG w W
def LAt.moreBytes {bs cs:List UInt8} {l:List Po} (k:zz<=B) (i:w.heap[B]?=some (.cells #[v,V,.int .i64 (l.length:Int),.int .i64 (qaG l:Int)] 181 (0,0)))
  (t:w.ownsRow zz 5 1 v bs.length (Lib.byteCells bs)) (y:w.ownsRow zz 206 2 V (qaN l.length) (qfq l)) (a:wG w w0) (d:w0.grownBy w' v.ownBlock) (r:cs.length=m)
  (n:w'.ownsRow zz 5 1 v' (bs.length+m) (Lib.byteCells bs++Lib.byteCells cs)):
  w'.heap[B]?=some (.cells #[v,V,.int .i64 (l.length:Int),.int .i64 (qaG l:Int)] 181 (0,0))/\LAt (w'.setCell ⟨B,0,none⟩ v') zz B (bs++cs) l/\qa9 zz w (w'.setCell ⟨B,0,none⟩ v'):=by
 have x:B<w.heap.size:=(gA.1 i).1;have q:=(a.block B x).trans i;have h:=qaf y a;have c:=qaf t a;have b:w'.heap[B]?=some (.cells #[v,V,.int .i64 (l.length:Int),.int .i64 (qaG l:Int)] 181 (0,0)):=(d.block B (by have :=a.size;omega) (fun e=>qan c q (by decide) e.symm)).trans q;have j:w'.ownsRow zz 206 2 V (qaN l.length) (qfq l):=qaq h fun g p=>d.block g (h.lt g p).2 fun e=>qeU c h (by decide) p e.symm
 have s:zz<=w.heap.size:=by omega
 refine ⟨b,⟨k,v',V,lB w' B 0 _ _ _ b,qfr (qkd r n) (qan n b (by decide)) _,qfr j (qan j b (by decide)) _⟩,?_⟩;exact (qa9.of_below a s).trans ((qa9.grownOwn c (.inr (.inr rfl)) d (by have :=a.size;omega)).trans (qa9.setCell b (.inl rfl) k _))
def qp2:∀ {ps:List Int} {x b:Int},qal x ps=true->(∀ y∈ps,y<b)->x<b->(ps.length:Int)<b-x
 |[],x,b,_,_,a=>by simp;omega
 |n::r,x,b,a,c,e=>by
  rw [qal,xA,gC] at a;have :=qp2 (b:=b) a.2 (fun y d=>c y (oB _ d)) (c n (eB ..));rw [nA];omega
def qyZ {ps:List Int} (a:qdk ps=true):ps.length<=2147483648:=by
 have :=qp2 (b:=2147483648) (qgD.1 a).1 (fun y c=>(qih a y c).2) (by omega);omega
def qlf:∀ {l:List Po} {last:Int},qa5 last l=true->∀ p∈l,p.2.length<=2147483648
 |[],_,_,p,hp=>by cases hp
 |q::r,last,b,p,hp=>by
  have a:=qfj.1 b;rcases wA.1 hp with rfl|hp
  ·exact qyZ a.2.2.1
  ·exact qlf a.2.2.2 p hp
def qp3 (A:Option Addr) (n c:Nat) (l:List Po) (w:World) (bq:l.length=n) (b4:n<=c) (ej:c<=maxLen) (er:n<=1000000) (bb:qbf w w.heap.size A l) (b9:qaG l<=40000000000) (az:qa5 (-1) l=true):
  yG 70 #[.slice A n c] w (qp1 l w):=by
 have ⟨ef,dw,dt,du,d9⟩:=lG qik;refine (uG (n:=6)).1 ?_;have bs:∀ p∈l,p.2.length<=2147483648:=qlf az;have a6:=qoE A n c l w bq (by omega) bb (fun p L=>by have :=bs p L;omega);rw [az] at a6;have b2:=qH a6;have b5:=qH bb;have b6:=qH bs;have dz:=qH az;have V:=qH bq;have dr:=qH b9;clear a6 bb bs az bq b9;refine callsIn_of_wp_marks func70 rfl trivial ?_ rfl;simp only [ntmps70,iD,nA,vB,Nat.reduceAdd,Nat.reduceSub,tD,uD,jD,vD,lC,bC]
 gi_wp2_with (first
  |(refine ⟨trivial,?_⟩;gi_at_call 115;refine (uG.2 b2.o).mono ?_;rintro e i ⟨rfl,ao⟩)
  |(gi_at_call 115;refine (uG.2 b2.o).mono ?_;rintro e i ⟨rfl,ao⟩)
  |(refine ⟨trivial,?_⟩;gi_at_call 116;refine (uG.2 (qow A n c _)).mono ?_)
  |(gi_at_call 116;refine (uG.2 (qow A n c _)).mono ?_))
 rintro e w3 ⟨rfl,ak,ab,an,ay⟩;have ⟨B,a0⟩:=qE i.heap.size;have ai:=ao.size;have b7:=((bA i.heap.size i).alloc (aA _) (.cells #[.slice none 0 0,.slice none 0 0,.int .i64 0,.int .i64 0] 181)).alloc (by simp) (.cells #[.pointer (some ⟨i.heap.size,0,none⟩)] 116);have ck:wG i w3:=b7.trans (an.mono (by simp;omega));have co:wG w w3:=ao.trans (ck.mono ai);have bl:w3.heap[i.heap.size]?=some (.cells #[.slice none 0 0,.slice none 0 0,.int .i64 0,.int .i64 0] 181 (0,0)):=
  (an.block _ (by simp;omega)).trans ((pB _ _ _ (by simp)).trans (jA i _))
 have bi:w3.heap[i.heap.size+1]?=some (.cells #[.pointer (some ⟨i.heap.size,0,none⟩)] 116 (0,0)):=by
  refine (an.block _ (by simp)).trans ?_;have h1:=jA (i.alloc (.cells #[.slice none 0 0,.slice none 0 0,.int .i64 0,.int .i64 0] 181)) (.cells #[.pointer (some ⟨i.heap.size,0,none⟩)] 116);rwa [tE] at h1
 simp only [tE] at ak ab ay;rw [<- a0] at ak ab ay bl bi;rw [<- a0] at ai;have cx:LAt w3 w.heap.size B [] []:=⟨ai,_,_,bl,vA _ _ _ _,vA _ _ _ _⟩;have c8:qiX w B A n c l [] w3:=⟨⟨ak,ab⟩,by simpa [qae] using cx,bi,co⟩;obtain ⟨b,m,cn⟩:∃ b m,0<n->A=some ⟨b,m,none⟩:=by
  by_cases c4:0<n
  ·have ⟨b,m,e,_⟩:=b5.o.at_ (k:=0) (by rw [V.o];exact c4)
   exact ⟨b,m,fun _=>e⟩
  ·exact ⟨0,0,fun C=>absurd C c4⟩
 have eo:=qH c8;have cw:=qH cn;have O:=qH ay;have dd:=qH ak;have el:=qH ab;have ch:qI (w.heap.size<=B):=qH ai;clear c8 cx cn ay ak ab bl bi co ck b7 an;gi_wp2;rw [<- a0];clear a0 ao ai;refine qm9 (by omega) (gf:=162) (lb:=#[.pointer (some ⟨B+1+1,0,none⟩),.pointer (some ⟨B+1+1+1,0,none⟩)]) rfl (enters_of func162 (by kernel_rfl) rfl)
  (qw1 5 (B+1+1) (B+1+1+1) n c A b m (by omega) cw.o b4 ej (by omega) w3 dd.o el.o) qe4.trans (fun W l o ei ev T b4=>qe4.putObj W l ei (by have :=O.o;omega) (by have :=O.o;omega)) (fun _=>rfl)
  (qiX w B A n c l) (fun s e0 B' C D=>⟨⟨(D.block _ (mG C.1.1)).trans C.1.1,(D.block _ (mG C.1.2)).trans C.1.2⟩,C.2.1.below D,(D.block _ (mG C.2.2.1)).trans C.2.2.1,C.2.2.2.trans (D.mono C.2.2.2.size)⟩)
  (fun s=>((qaE.block (by have :=O.o;omega) _).and (qaE.block (by have :=O.o;omega) _)).and<|(qaE.lat _ _ _ _ _).and ((qaE.block (by have :=O.o;omega) _).and (qaE.belowW (by have :=O.o;have :=ch.o;omega)))) (fun s x=>qaE.pure) eo.o
  (fun k=>{tmps:=#[.slice A n c,undef,.pointer none,.int .i64 0,.pointer (some ⟨B+1,0,none⟩),qgn b m n k,undef,.slice A n c,.bool true,.bool false,.agg #[.slice none 0 0,.slice none 0 0,.int .i64 0,.int .i64 0],.pointer (some ⟨B,0,none⟩),.slice A n c,
   .func (.func 162) #[] #[.pointer (some ⟨B+1+1,0,none⟩),.pointer (some ⟨B+1+1+1,0,none⟩)],qgn b m n k,undef,undef,undef,undef,undef,undef,undef,undef,undef,undef,undef,undef,undef,undef,undef,undef,undef,undef,undef,undef,undef,undef,undef],defers:=[]}) ?assign ?body ?done
 case assign=>
  intro ae x W es aj;gi_wp2;exact aj
 case body=>
  rintro ae pre x W ⟨⟨cc,cl⟩,E,Q,K⟩ ⟨rfl,bh⟩;have ⟨k,av⟩:=qE pre.length;rw [<- av] at E bh;rw [<- av];have bx:∀ d,LAt d w.heap.size B (qae (-1) (l.take (8*(k+1)))) (l.take (8*(k+1)))->d.heap[B+1]?=some (.cells #[.pointer (some ⟨B,0,none⟩)] 116 (0,0))->wG w d->qa9 w.heap.size W d->qiX w B A n c l (pre++[k]) d/\qe4 (B+1+1) (B+1+1+1) W d:=fun d h1 h2 h3 bj=>by
   have c0:=bj.keep _ _ cc (fun cs t fr e=>by cases e;unfold qe5;decide);have c7:=bj.keep _ _ cl (fun cs t fr e=>by cases e;unfold qe5;decide);refine ⟨?_,bj.below.size,fun _=>c0.trans cc.symm,fun _=>c7.trans cl.symm⟩;unfold qiX;rw [iA,bB,<- av];exact ⟨⟨c0,c7⟩,h1,h2,h3⟩
  have et:8*k<n:=by unfold qaN at bh;omega
  have eh:k<qaN l.length:=by rw [V.o];exact bh
  have U:=qjT (l:=l) k;rw [V.o] at U;have Z:=qjU l k;have bt:(l.take (8*k)).length=8*k:=by rw [sA,V.o];omega
  have ah:=dz.o;rw [<- gD (8*(k+1)) l,qeX,xA,Z,qeX,xA] at ah;have bv:=qii _ _ ah.1.1;have X:=ah.1.2;have bf:∀ p∈qcd l (k:Int),p.2.length<=2147483648:=fun p L=>b6.o p (by rw [qhm] at L;exact List.mem_of_mem_drop (rF L))
  have cz:∀ p∈l.take (8*(k+1)),p.2.length<=2147483648:=fun p L=>b6.o p (rF L)
  have d1:qaG (l.take (8*(k+1)))<=40000000000:=lA (qnB _) dr.o;have de:(qae (-1) (l.take (8*(k+1)))).length<=400000000000:=by
   have h1:=qjS (l.take (8*(k+1))) (-1) (by omega) (by rw [Z,qeX,ah.1.1,X];rfl) (fun p L=>by have :=cz p L;omega);have h3:(l.take (8*(k+1))).length<=1000000:=by rw [sA,V.o];omega
   omega
  have G:(qae (-1) (l.take (8*(k+1)))).length=(qae (-1) (l.take (8*k))).length+(qae (qaP (-1) (l.take (8*k))) (qcd l (k:Int))).length:=by rw [Z,qfK,iA]
  have b3:=cw.o (by omega);have ⟨q,bg⟩:=qE (min 8 (n-8*k));have cg:qgn b m n k= .slice (some ⟨b,m+8*k*2,none⟩) q q:=by unfold qgn;rw [<- bg]
  rw [<- bg] at U;have e1:0<q/\q<=8:=by omega
  rw [cg];have au:qbf w w.heap.size (some ⟨b,m+8*k*2,none⟩) (qcd l (k:Int)):=by
   have h1:=b5.o;rw [b3] at h1;rw [qhm];exact (h1.drop (8*k)).cut 8
  have ⟨I,bz⟩:=qE (l.take (8*k));have ⟨aa,br⟩:=qE (qcd l (k:Int));rw [<- bz,<- br] at Z;rw [Z] at bx de d1 G;rw [<- bz] at E bt bv X G;rw [<- br] at U X bf G au;have a1:=qwZ w.heap.size B (qae (-1) I) I W E (by omega);have ⟨al,a4⟩:=qE (qaP (-1) I);rw [<- a4] at bv X G a1;have ⟨a,ba⟩:=qE ((qae (-1) I).length);rw [<- ba] at G a1;have ew:=fun i=>qw2 al (a:Int) i
  have a3:∀ d,wG W d->yG 117 #[.slice (some ⟨b,m+8*k*2,none⟩) q q,.int .i64 al] d (qgi d.heap.size (qae al aa) d):=fun d D=>
   qxt _ q q aa al d U (by omega) ((au.below (K.trans (D.mono K.size))).more (by have :=K.size;have :=D.size;omega)) bv X bf (by omega)
  have ⟨ar,a5⟩:=qE (qae al aa);rw [<- a5] at a3 G;have cq:=kG Q;have cr:=qH a1;have c6:=qH a3;have bn:=qH E;have R:=qH Q;have ac:=qH K;have d8:=qH au;have dm:=qH bx;have cj:=qH bt;have c3:=qH U;have ct:=qH a5;have d2:=qH a4;have a7:=qH ba;have cd:∀ d,wG W d->d.cell? ⟨B+1,0,none⟩=some (.pointer (some ⟨B,0,none⟩)):=fun d D=>(D.cell (p:=⟨B+1,0,none⟩) (mG R.o)).trans (kG R.o)
  have ea:=qH cd;clear a1 a3 E Q K au bx bt U a5 a4 ba bz br Z av bg cg bf cz ah b3 eh X cd
  gi_wp2_with (first
   |(refine ⟨trivial,?_⟩;gi_at_call 118;refine (CallsIn.inRound ae (uG.2 cr.o)).mono ?_;rintro e ed ⟨rfl,ag⟩;have af:=qH ag;clear ag)
   |(gi_at_call 118;refine (CallsIn.inRound ae (uG.2 cr.o)).mono ?_;rintro e ed ⟨rfl,ag⟩;have af:=qH ag;clear ag)
   |(refine ⟨trivial,?_⟩;gi_at_call 117;refine (CallsIn.inRound ae (uG.2 (c6.o _ af.o))).mono ?_)
   |(gi_at_call 117;refine (CallsIn.inRound ae (uG.2 (c6.o _ af.o))).mono ?_))
  rintro e J ⟨e2,rfl,cm,cp⟩;obtain ⟨eu,bp,rfl,en,ce⟩:=cm.row;have a9:0<ar.length:=by rw [ct.o];exact qyY (fun e=>by have :=c3.o;rw [e] at this;simp at this;omega)
  obtain ⟨bm,bc,rfl,_,b8⟩:=ce.at_ (by rw [Lib.byteCells_length];exact a9);have ad:=af.o.trans (cp.mono af.o.size);have dy:=bn.o.below ad;have eb:w.heap.size<=J.heap.size:=by have :=ad.size;have :=ac.o.size;omega
  have cb:=ea.o J ad;have aw:=(ad.block _ (mG R.o)).trans R.o;obtain ⟨c5,c1,ex,ca,T,cu⟩:=dy;rw [<- a7.o] at T;have ⟨M,Y⟩:=qE ar.length;rw [<- Y] at G a9 en;rw [<- Y];have ⟨g,H,z,c9,a2,a8,_,_⟩:=run_append_lies (P:=prog) J.drew 178 178 w.heap.size 5 ef _ 1 1 underlying178 dw dt du d9 rfl (by omega) c1 a (Lib.byteCells (qae (-1) I)) T ⟨bm,bc,none⟩ M bp (Lib.byteCells ar) (by rw [Lib.byteCells_length,Y];omega) (fun j u dv=>by rw [cC];exact b8 j u dv) (qke _) a9 (by unfold maxLen;omega) (by omega) eb J.heap.size rfl;have b0:=T;rw [a7.o] at b0 a2;have ⟨bd,be,bu⟩:=LAt.moreBytes c5 ca b0 cu (bA _ J).drew a8 Y.symm a2;have ⟨⟨dq,dl,ec,d6⟩,ds,d5,db,d0⟩:=qfQ bd;have d3:=(qfQ ca).1.1;rw [<- a7.o] at be bu;have dj:=qH be;have ax:=qH (((qa9.of_below ad ac.o.size)).trans bu);have ee:=qH Y;have ap:=ax.o.keep _ _ R.o (fun cs t fr e=>by cases e;unfold qe5;decide);have ci:(J.drew).cell? ⟨B+1,0,none⟩=some (.pointer (some ⟨B,0,none⟩)):=cb;have c2:z.cell? ⟨B+1,0,none⟩=some (.pointer (some ⟨B,0,none⟩)):=by
   have h1:z.heap[B+1]?=J.drew.heap[B+1]?:=a8.block (B+1) (mG (w:=J) aw) (fun e=>qan T aw (by decide) e.symm);exact kG (h1.trans aw)
  have cy:yG 119 #[.pointer (some ⟨B,0,none⟩),.slice (some ⟨b,m+8*k*2,none⟩) q q,.int .i64 ((a+M:Nat):Int)] ((z.setCell ⟨B,0,none⟩ (.slice (some ⟨g,0,none⟩) (a+M) H)).drew) fun e w'=>(∃ v,e= .returned v)/\LAt w' w.heap.size B (qae (-1) I++ar) (I++aa)/\qa9 w.heap.size ((z.setCell ⟨B,0,none⟩ (.slice (some ⟨g,0,none⟩) (a+M) H)).drew) w':=by
   have ⟨cs,h1,h2⟩:=d8.o;have cf:=ac.o.trans ax.o.below;have em:a+M=(qae (-1) (I++aa)).length:=by rw [G,ee.o]
   exact qxr w.heap.size B _ I aa k _ q q cs (a+M) _ (dj.o.below (bA _ _).drew) cj.o c3.o (aA _) (by unfold maxLen;omega) (h1.imp fun _ _ _=>trivial) (qe6.of_row (h2.below (cf.trans (bA _ _).drew)) (by have :=cf.size;simpa using this)) (by omega) (by omega) (by have :=cj.o;omega) (by omega) em (by omega)
  have bo:(z.setCell ⟨B,0,none⟩ (.slice (some ⟨g,0,none⟩) (a+M) H)).cell? ⟨B,0,none⟩=some (.slice (some ⟨g,0,none⟩) (a+M) H):=(qfQ (lB z B 0 _ _ _ bd)).1.1;have b1:=qH ci;have dn:=qH c2;have eg:qI ((z.setCell ⟨B,0,none⟩ (.slice (some ⟨g,0,none⟩) (a+M) H)).cell? ⟨B+1,0,none⟩=some (.pointer (some ⟨B,0,none⟩))):=qH (kG ap);have cv:qI ((z.setCell ⟨B,0,none⟩ (.slice (some ⟨g,0,none⟩) (a+M) H)).drew.cell? ⟨B+1,0,none⟩=some (.pointer (some ⟨B,0,none⟩))):=qH (kG (w:=(z.setCell ⟨B,0,none⟩ (.slice (some ⟨g,0,none⟩) (a+M) H)).drew) ap);have dc:qI ((z.setCell ⟨B,0,none⟩ (.slice (some ⟨g,0,none⟩) (a+M) H)).drew.heap[B+1]?=some (.cells #[.pointer (some ⟨B,0,none⟩)] 116 (0,0))):=qH ap;have dp:=qH cy;have d7:=qH c9;have df:=qH bo;clear be bu a2 a8 T b0 cu bd b8 ce cm cp Y c5 c9 ap ci c2 cy bo aw G;clear cq cb;gi_wp2;refine qh8 (S:=fun w'=>w'.cell? ⟨B+1,0,none⟩=some (.pointer (some ⟨B,0,none⟩))) (by kernel_rfl) (by kernel_rfl) b1.o (fun ep=> ?_)
  refine tk 0 (.pointer (some ⟨B,0,none⟩)) rfl (Or.inl ⟨by rfl,fun r y=>by go_simp⟩) ?_
  try simp only [Act.put,zA,zB,zD,zE,zF]
  refine tk 1 (.pointer (some ⟨B,0,none⟩)) rfl (Or.inl ⟨by rfl,fun r y=>by go_simp⟩) ?_
  try simp only [Act.put,zA,zB,zC,zD,zE,zF]
  refine tk 2 (.pointer (some ⟨B,0,none⟩)) rfl (Or.inl ⟨by rfl,fun r y=>by go_simp⟩) ?_
  try simp only [Act.put,zA,zB,zC,zD,zE,zF]
  refine tk 3 (.pointer (some ⟨B,0,none⟩)) rfl (Or.inl ⟨by rfl,fun r y=>by go_simp⟩) ?_
  try simp only [Act.put,zA,zB,zC,zD,zE,zF]
  refine tk 5 (.slice (some ⟨bm,bc,none⟩) M bp) rfl (Or.inl ⟨by rfl,fun r y=>by go_simp⟩) ?_
  try simp only [Act.put,zA,zB,zC,zD,zE,zF]
  refine tkr (rs:=[4]) (by kernel_rfl) (by simp) ?_;refine tkc rfl (fun F h=> ?_) tkn
  try simp only [zA,zB,zC]
  go_simp;refine h.out _ _ ?_ (fun d4=> ?_)
  ·exact b1.o
  clear h F
  try simp only [Act.put,zA,zB,zC,zD,zE,zF]
  refine tkr (rs:=[6]) (by kernel_rfl) (by simp) ?_;refine tkc rfl (fun F h=> ?_) tkn
  try simp only [zA,zB,zC]
  refine qgd (a:=⟨_,_⟩) ?_ (.tmp 24) (.tmp 25) 178 ?_ c1 (.slice (some ⟨bm,bc,none⟩) M bp) ?_ ?_ (.slice (some ⟨g,0,none⟩) (a+M) H) z ?_ ?_
  ·rfl
  ·rfl
  ·rfl
  ·rfl
  ·exact d7.o
  refine h.out _ _ dn.o (fun dg=> ?_)
  clear h F
  try simp only [Act.put,zD,zE,zF]
  refine tk 7 (.pointer (some ⟨B,0,none⟩)) rfl (Or.inl ⟨by rfl,fun r y=>by go_simp⟩) ?_
  try simp only [Act.put,zA,zB,zC,zD,zE,zF]
  refine tk 8 (.pointer (some ⟨B,0,none⟩)) rfl (Or.inl ⟨by rfl,fun r y=>by go_simp⟩) ?_
  try simp only [Act.put,zA,zB,zC,zD,zE,zF]
  refine tkr (rs:=[9]) (by kernel_rfl) (by simp) ?_;refine tkc rfl (fun F h=> ?_) tkn
  try simp only [zA,zB,zC]
  go_simp;refine h.out _ _ ?_ (fun eq=> ?_)
  ·exact eg.o
  clear h F
  try simp only [Act.put,zA,zB,zC,zD,zE,zF]
  refine tkd (by kernel_rfl) ?_ _;refine qck.fin ?_;gi_wp2;have bo:=df.o;clear dq dl ec d6 ds d5 db d0 d3;refine qh8 (S:=fun w'=>w'.cell? ⟨B+1,0,none⟩=some (.pointer (some ⟨B,0,none⟩))) (by kernel_rfl) (by kernel_rfl) cv.o (fun ep=> ?_)
  refine tk 0 (.pointer (some ⟨B,0,none⟩)) rfl (Or.inl ⟨by rfl,fun r y=>by go_simp⟩) ?_
  try simp only [Act.put,zA,zB,zD,zE,zF]
  refine tk 1 (.slice (some ⟨b,m+8*k*2,none⟩) q q) rfl (Or.inl ⟨by rfl,fun r y=>by go_simp⟩) ?_
  try simp only [Act.put,zA,zB,zC,zD,zE,zF]
  refine tk 2 (.pointer (some ⟨B,0,none⟩)) rfl (Or.inl ⟨by rfl,fun r y=>by go_simp⟩) ?_
  try simp only [Act.put,zA,zB,zC,zD,zE,zF]
  refine tk 3 (.pointer (some ⟨B,0,none⟩)) rfl (Or.inl ⟨by rfl,fun r y=>by go_simp⟩) ?_
  try simp only [Act.put,zA,zB,zC,zD,zE,zF]
  refine tk 4 (.pointer (some ⟨B,0,none⟩)) rfl (Or.inl ⟨by rfl,fun r y=>by go_simp⟩) ?_
  try simp only [Act.put,zA,zB,zC,zD,zE,zF]
  refine tkr (rs:=[5]) (by kernel_rfl) (by simp) ?_;refine tkc rfl (fun F h=> ?_) tkn
  try simp only [zA,zB,zC]
  go_simp;refine h.out _ _ ?_ (fun d4=> ?_)
  ·exact cv.o
  clear h F
  try simp only [Act.put,zA,zB,zC,zD,zE,zF]
  refine tk 6 (.int .i64 ((a+M:Nat):Int)) rfl (Or.inl ⟨by rfl,fun r y=>by go_simp⟩) ?_
  try simp only [Act.put,zA,zB,zC,zD,zE,zF]
  refine tkr (rs:=[7]) (by kernel_rfl) (by simp) ?_;refine tkc rfl (fun F h=> ?_) tkn
  try simp only [zA,zB,zC]
  go_simp
  go_at_call 119
  refine dp.o.mono ?_;rintro e dk ⟨⟨ez,rfl⟩,am,bk⟩;have dh:qI (dk.cell? ⟨B+1,0,none⟩=some (.pointer (some ⟨B,0,none⟩))):=qH (kG (bk.keep _ _ dc.o (fun cs t fr e=>by cases e;unfold qe5;decide)));have di:=qH am;have da:=qH bk;clear am bk
  go_wp2_with fail
  refine h.out _ _ ?_ (fun dg=> ?_)
  ·exact dh.o
  clear h F
  try simp only [Act.put,zA,zB,zC,zD,zE,zF]
  refine tkd (by kernel_rfl) ?_ _;refine qck.fin ?_;gi_wp2;have aq:=ax.o.trans ((qa9.of_below (bA _ _).drew (by have :=(ac.o.trans ax.o.below).size;omega)).trans da.o);have am:=di.o;rw [ct.o,d2.o,<- qfK] at am;have ⟨h1,h2⟩:=dm.o _ am (aq.keep _ _ R.o (fun cs t fr e=>by cases e;unfold qe5;decide)) (ac.o.trans aq.below) aq;exact ⟨aq.keepsOthers,h2,h1⟩
 case done=>
  rintro bw ys W ey rfl ⟨_,E,Q,K⟩ aj;rw [List.length_range,<- V.o,qkN] at E;have cq:=kG Q;have bn:=qH E;have dx:=qH K;clear E Q K;gi_wp2;refine ⟨by simp,.inl ⟨_,_,rfl,run_takeDeferred aj,?_⟩⟩;refine ⟨_,results_tmp2 rfl _ _ _,?_⟩;have ek:w.heap.size<=bw:=by have :=O.o;have :=ch.o;omega
  exact ⟨B,rfl,qaE.lat 0 _ _ _ _ W bw _ _ (kA _) aj rfl bn.o,qaE.belowW (N:=w.heap.size) (aA _) W bw _ _ ek aj rfl dx.o⟩
def qdd (zz:Nat) (w:World) (v:Value) (l:List Po):Prop:=∃ cs,w.ownsRow zz 74 2 v l.length cs/\qao (qcU 0 w) l cs
def qdd.nil:qdd zz w (.slice none 0 0) []:=⟨[],vA _ _ _ _,rfl⟩
def qdd.below {l:List Po} (a:qdd zz w v l) (b:wG w w'):qdd zz w' v l:=by
 obtain ⟨cs,h1,h2⟩:=a;exact ⟨cs,qaf h1 b,h2.imp fun _ _ a=>a.below b⟩
def qdd.push {l:List Po} (h1:w.ownsRow zz 74 2 v l.length cs) (h2:qao (qcU 0 w) l cs) {A:Option Addr} {c:Nat} {d:Int} {ps:List Int} (h:ps.length<=c) (j:c<=maxLen) (e:qcU 0 w A (qaa ps))
  (g:w'.ownsRow zz 74 2 v' (l.length+1) (cs++[.int .i64 d,.slice A ps.length c])) (a:w.grownBy w' v.ownBlock):qdd zz w' v' (l++[(d,ps)]):=by
 have b:=qbk h1 (kA zz);refine ⟨_,?_,(h2.imp fun _ _ i=>i.grown b (by decide) a).snoc h j (e.grown b (by decide) a)⟩;rw [iA,bB];exact g
def qp4 (l:List Po) (w:World) (e:Ending) (w':World):Prop:=∃ v,e= .returned v/\qdd w.heap.size w' v l/\wG w w'
def qy0 {z key:ByteArray} {t:Tm} (a:z.data.toList=qag t):(z.toList==key.toList)=decide (qag t=key.data.toList):=by
 rw [Lib.toList_data,Lib.toList_data,a,kD,pD,gC]
def qp5 (i:Nat) (d:List Fd) (ts:List Tm) (key:Nm):(qbb i d ts key).length<=ts.length:=by
 unfold qbb;rw [gB];exact wD _ _
def qlg:∀ {l:List En} {i:Nat} {key:Nm},(∀ q∈l,(qas q.2.1).length<=M)->(qak i l key).length<=l.length*M
 |[],i,key,_=>by simp [qak]
 |q::l,i,key,a=>by
  have h1:=qlg (l:=l) (i:=i+1) (key:=key) fun x b=>a x (oB _ b)
  have h2:=qp5 i q.2.1 (qas q.2.1) key;have h3:=a q (eB ..);rw [qak,iA,nA,Nat.add_mul,Nat.one_mul];omega
def qy1 (l:List En) (key:Nm) (w:World) (o i:Value) (wr:World):Prop:=∃ (k:Nat) (a:Value),a=o/\k<=l.length/\i= .int .i64 (k:Int)/\qdd w.heap.size wr a (qak 0 (l.take k) key)/\wG w wr
def qy2 (a:List Pn) (h:Nat) (d:List Fd) (ts:List Tm) (key:Nm) (b g:Nat) (k:World) (V:Value) (o i:Value) (c:World):Prop:=∃ (j:Nat) (e:Value),e=o/\j<=ts.length/\i= .int .i64 (j:Int)/\qdd b c e (a++qbb h d (ts.take j) key)/\qaR g c V ts/\Below b k c
def qy3 (A:Option Addr) (n c:Nat) (l:List En) (key:ByteArray) (w:World) (b3:l.length=n) (ca:qb9 enS w w.heap.size A l) (J:qcY l) (d8:n<=100):
    yG 36 #[.slice A n c,.string key] w (qp4 (qak 0 l key.data.toList) w):=by
  have ⟨df,c7,c3,c4,dc⟩:=lG qfN;have cz:=qH ca;have bp:=qH J;have bw:=qH b3;clear ca J b3
  go_enter func36,ntmps36
  go_wp2
  go_loopw [5,6,7,8] (fun o i t j wr=>qy1 l key.data.toList w o i wr) (fun _ i _ _ _=>n-(intOf i).toNat)
  case atStart=>exact ⟨0,_,rfl,kA _,rfl,qdd.nil,bA _ _⟩
  case round=>
    obtain ⟨k,d4,rfl,d2,rfl,Z,Q⟩:=hrel;obtain ⟨an,rfl⟩:=qE wr;by_cases c5:k<n
    · have ag:k<l.length:=by rw [bw.o];exact c5
      have b0:=qb9.below cz.o Q;have ⟨b,G,I,H,dp,cb,b4,a6,_,_,_,bk⟩:=qjb b0 ag;have ai:qap an w.heap.size I l[k].2.1:=bk;subst dp;have au:=qzs (key:=key.data.toList) ag;have O:=bp.o _ (pA ag);have a8:=qH (qq2 (id:=l[k].1) (c:=H) O rfl (ai.more Q.size));have ds:(qak 0 (l.take k) key.data.toList).length<=400000:=by
        have h1:=qlg (l:=l.take k) (i:=0) (key:=key.data.toList) (M:=4000) fun q X=>qgw (bp.o q (rF X))
        rw [sA] at h1;have h2:min k l.length*4000<=100*4000:=dE _ (by omega);omega
      have ⟨m,ab⟩:=qE (l[k].2.1.length);have ⟨q,X⟩:=qE (l[k].1);have ⟨d,cd⟩:=qE (l[k].2.1);rw [<- cd] at O ab au a8 ai a6;have a4:∀ t∈qas d,t.1.length<=12/\t.2.length<=4096:=fun t dh=>qlJ O dh
      have b5:=qgw O;have ⟨ts,av⟩:=qE (qas d);have ⟨a,bh⟩:=qE (qak 0 (l.take k) key.data.toList);rw [<- ab,<- X,<- av] at a8;rw [<- ab] at a6;rw [<- X] at b4;rw [<- bh] at Z ds;rw [<- bh,<- av] at au;rw [<- av] at a4 b5;have dv:=qH a4;have cp:=qH au;have dt:=qH Z;have bn:=qH O;have da:=qH ab;have cn:=qH ai;have aa:=qH cb;have dx:(0:Int)<=k:=by omega
      have dy:(k:Int)<n:=by omega
      clear b0 ai bk ab av bh X au a4 Z O cd cb
      go_wp2_with (go_at_call 76;(with_reducible refine a8.o.mono ?_);rintro e bi ⟨ea,rfl,az,ao⟩)
      obtain ⟨bx,a0,rfl,_,cx⟩:=az.row;have ⟨N,bg⟩:=qE ts.length;rw [<- bg] at b5 az ⊢;have bu:=qH bg;have ch:=qH (Q.trans (ao.mono Q.size));have c1:=qH (dt.o.below ao);have co:=qH az;have c9:qI (∀ B,Below w.heap.size bi B->B.cell? ⟨b,G+k*3,none⟩=some (.int .i64 q)/\B.cell? ⟨b,G+k*3+1,none⟩=some (.slice I m H)/\qap B w.heap.size I d):=qH fun B F=>by
        have h2:=(ao.mono Q.size).trans F;exact ⟨(h2.cell (p:=⟨b,_,none⟩) aa.o).trans b4,(h2.cell (p:=⟨b,_,none⟩) aa.o).trans a6,cn.o.below h2⟩
      have dl:=ch.o.size;clear az cx ao bg;go_wp2
      go_loopw [5,8] (fun o i B=>qy2 a k d ts key.data.toList w.heap.size an.heap.size bi (.slice bx N a0) o i B) (fun _ i _=>N-(intOf i).toNat)
      case atStart=>exact ⟨0,_,rfl,kA _,rfl,by simpa [qbb] using c1.o,co.o,bA _ _⟩
      case round=>
        obtain ⟨j,b9,rfl,d9,rfl,K,ad,ac⟩:=hrel;obtain ⟨B,rfl⟩:=qE wr;have ax:w.heap.size<=B.heap.size:=lA dl ac.size;by_cases de:j<N
        · have W:j<ts.length:=by rw [<- bu.o];exact de
          obtain ⟨h,cm⟩:∃ h,bx=some ⟨h,0,none⟩:=by
            rcases ad.2 with ⟨bq,d5⟩|⟨dq,S,d7,bq,_⟩
            · omega
            · injection bq with e
              exact ⟨dq,e⟩
          subst cm;have ⟨cv,dz,b8,_,al⟩:=qaR.row ad;have dj:cv=some ⟨h,0,none⟩:=by injection b8 with e _ _;exact e.symm
          clear b8;subst dj;have ⟨_,_,di,_,a3,ba⟩:=al.at_ W;cases di;rw [kB] at a3 ba;have ⟨x,a7,bf⟩:=qa8 ts[j].1;have ⟨y,a5,a2⟩:=qa8 ts[j].2;rw [<- a7] at a3;rw [<- a5] at ba;have du:=dv.o _ (pA W);have E:=qzr (i:=k) (d:=d) (key:=key.data.toList) W;have cc:=qp5 k d (ts.take j) key.data.toList;rw [sA] at cc;have bc:=qH (fun w'=>qh9 x y w' (by rw [a7,qdl];omega) (by rw [a5,qdl];omega));have qaD:(qcJ x y).data.toList=qag ts[j]:=by rw [qge,bf,a2];rfl
          have ci:(x.data.toList,y.data.toList)=ts[j]:=Prod.ext bf a2;have ⟨z,cg⟩:=qE (qcJ x y);rw [<- cg] at bc qaD;have bz:=qy0 (key:=key) qaD;have ⟨a9,b2⟩:=qE (qbb k d (ts.take j) key.data.toList);rw [<- b2] at E cc K;have ⟨c6,cu,c8⟩:=c9.o _ ac;have bm:qI (∀ w',wG B w'->yG 79 #[qb8 q I m H,.agg #[.string x,.string y]] w' (qhr (qaZ d ts[j]) w')):=qH fun w' F=>by
            have :=qAU (id:=q) (c:=H) bn.o da.o.symm ((qap.later (qap.more c8 ax) F)) x y;rwa [ci] at this
          have ar:=qH K;have bd:=qH ad;have ay:=qH E;have ah:=qH ac;have d6:(0:Int)<=j:=by omega
          have d0:(j:Int)<N:=by omega
          have eb:j<=4000:=by omega
          clear a7 bf a5 a2 du E qaD cg K ad ac b2 ci al;by_cases U:qag ts[j]=key.data.toList
          · rw [yA U] at bz
            have E:=ay.o;rw [eA U] at E;have a1:=qH E;clear U E ay;have dg:(qaZ d ts[j]).length<=500:=lA (qiD _ _ _) (bn.o.wordsS _);have ⟨r,ck⟩:=qE (qaZ d ts[j]);rw [<- ck] at dg bm a1;have ⟨cs,br,cj⟩:=ar.o;have aq:=qH br;have cy:=qH cj;have ⟨M,aw⟩:=qE ((a++a9).length);rw [<- aw] at aq;have dw:M<=404000:=by rw [aw,iA];omega
            have b7:=qH aw;have aj:qI (∀ w',wG B w'->w'.cell? ⟨b,G+k*3,none⟩=some (.int .i64 q)/\w'.cell? ⟨b,G+k*3+1,none⟩=some (.slice I m H)/\w'.cell? ⟨h,j*2,none⟩=some (.string x)/\w'.cell? ⟨h,j*2+1,none⟩=some (.string y)):=qH fun w' F=>by
              have bl:b<B.heap.size:=tB aa.o ax;have bo:=(bd.o.lt h rfl).2;exact ⟨(F.cell (p:=⟨b,_,none⟩) bl).trans c6,(F.cell (p:=⟨b,_,none⟩) bl).trans cu,(F.cell (p:=⟨h,_,none⟩) bo).trans a3,(F.cell (p:=⟨h,_,none⟩) bo).trans ba⟩
            clear br cj ck aw;have dk:qI (∀ (C:World) (D:Option Addr) (s:Nat),wG B C->(∃ ak,C.ownsRow ak 3 1 (.slice D r.length s) r.length (qaa r))->r.length<=s->s<=maxLen->∀ (ae S:Nat) (v:World),v.ownsRow w.heap.size 74 2 (.slice (some ⟨ae,0,none⟩) (M+1) S) (M+1) (cs++[.int .i64 k,.slice D r.length s])->(C.alloc (.cells #[.int .i64 k,.slice D r.length s] 74)).grownBy v b9.ownBlock->
                (v.cell? ⟨b,G+k*3,none⟩=some (.int .i64 q)/\v.cell? ⟨b,G+k*3+1,none⟩=some (.slice I m H)/\v.cell? ⟨h,j*2,none⟩=some (.string x)/\v.cell? ⟨h,j*2+1,none⟩=some (.string y))/\
                qdd w.heap.size v (.slice (some ⟨ae,0,none⟩) (M+1) S) (a++a9++[((k:Int),r)])/\qaR an.heap.size v (.slice (some ⟨h,0,none⟩) N a0) ts/\Below w.heap.size bi v):=qH fun C D s P ⟨ak,Y⟩ db cl ae S v af R=>by
              have V:wG B (C.alloc (.cells #[.int .i64 k,.slice D r.length s] 74)):=P.alloc P.size _;have h1:=V.size;have ce:=(qaf aq.o P).alloc (.cells #[.int .i64 k,.slice D r.length s] 74);have be:=qaf bd.o V;have bb:Below w.heap.size (C.alloc (.cells #[.int .i64 k,.slice D r.length s] 74)) v:=(bA _ _).grown R (by omega) fun g J=>(aq.o.lt g J).1
              have b1:∀ g,(Value.slice (some ⟨h,0,none⟩) N a0).ownBlock=some g->v.heap[g]?=(C.alloc (.cells #[.int .i64 k,.slice D r.length s] 74)).heap[g]?:=fun g J=>R.block g (be.lt g J).2 fun e=>qeU ce be (by decide) J e.symm
              have dr:qaR an.heap.size v (.slice (some ⟨h,0,none⟩) N a0) ts:=qaq be b1;have am:=aj.o _ V;have b6:=b1 h rfl;have dm:=qdd.push (zz:=w.heap.size) (l:=a++a9) (c:=s) (A:=D) (cs:=cs) (d:=(k:Int)) (ps:=r) (by rw [<- b7.o];exact ce) (cy.o.imp fun _ _ F=>F.below V) db cl ((qcU.of_own Y).below ((bA _ _).alloc (aA _) _)) (by rw [<- b7.o];exact af) R;exact ⟨⟨(bb.cell (p:=⟨b,_,none⟩) aa.o).trans am.1,(bb.cell (p:=⟨b,_,none⟩) aa.o).trans am.2.1,(tC (a:=⟨h,_,none⟩) b6).trans am.2.2.1,(tC (a:=⟨h,_,none⟩) b6).trans am.2.2.2⟩,dm,dr,ah.o.trans ((V.mono ax).trans bb)⟩
            go_upto_region 10 with (first
              | (go_at_call 78; (with_reducible refine (bc.o _).mono ?_); rintro e w3 ⟨rfl, L⟩
                 have ap:=qH L;clear L))
            go_region_held3 (fun w'=>w'.cell? ⟨b,G+k*3,none⟩=some (.int .i64 q)/\w'.cell? ⟨b,G+k*3+1,none⟩=some (.slice I m H)/\w'.cell? ⟨h,j*2,none⟩=some (.string x)/\w'.cell? ⟨h,j*2+1,none⟩=some (.string y))
              (first|exact aj.o _ ap.o.drew|exact aj.o _ T.o|exact aj.o _ (T.o.alloc T.o.size _)|exact dd.o)
              (first
                | (go_at_call 79; (with_reducible refine (bm.o _ ap.o.drew).mono ?_); rintro e C ⟨d3, rfl, Y, P⟩
                   obtain ⟨D,s,rfl,bt,al⟩:=qeo Y;have c2:qI (∃ ak,C.ownsRow ak 3 1 (.slice D r.length s) r.length (qaa r)):=qH ⟨_,Y⟩;have T:qI (wG B C):=qH (ap.o.drew.trans (P.mono ap.o.size));clear P Y al)
                | (refine step_append_lies _ (by rfl) _ _ _ (by rfl) w.heap.size 74 df _ 2 32 underlying71 c7 c3 c4 dc rfl (by omega) b9 M cs (by rfl) ((qaf aq.o T.o).alloc _)
                    ⟨C.heap.size,0,none⟩ 1 1 [.int .i64 k,.slice D r.length s] (by rfl) (by rfl) (World.news_of_block (cs:=#[.int .i64 k,.slice D r.length s]) (t:=74) (fr:=(0,0)) (jA C _)) (by intro u hu;simp at hu;rcases hu with hu|hu<;>(subst hu;rfl))
                    (by omega) (by unfold maxLen;omega) (by omega) (by have :=T.o.size;simp;omega) (C.heap.size+1) (by simp) ?_
                   intro ae S v af R cw d1;have ⟨bj,bs,cf,bv⟩:=dk.o C D s T.o c2.o bt.1 bt.2 ae S v af R;have dd:=qH bj;have cq:=qH bs;have dn:=qH cf;have c0:=qH bv;clear bj bs cf bv af R cw))
            all_goals
              go_wp2;refine ⟨⟨j+1,_,rfl,W,by go_num,?_,dn.o,c0.o⟩,by simp [intOf];omega⟩;rw [a1.o,<- iB];exact cq.o
          · rw [uA U] at bz
            have E:=ay.o;rw [dA U] at E;have a1:=qH E;clear U E ay
            go_wp2_with (go_at_call 78;(with_reducible refine (bc.o _).mono ?_);rintro e w3 ⟨rfl,L⟩)
            refine ⟨⟨j+1,_,rfl,W,by go_num,?_,?_,ah.o.trans (L.mono ax)⟩,by simp [intOf];omega⟩
            · rw [a1.o]
              exact ar.o.below L
            · exact bd.o.below L
        · have ct:j=ts.length:=by have :=bu.o;omega
          subst ct;rw [fC,<- cp.o] at K;have ar:=qH K;have ah:=qH (ch.o.trans ac);clear K ad;go_wp2;exact ⟨⟨k+1,_,rfl,ag,by go_num,ar.o,ah.o⟩,by simp [intOf];omega⟩
    · have cr:k=l.length:=by have :=bw.o;omega
      subst cr;rw [fC] at Z;go_wp2;go_ret;exact ⟨_,rfl,Z,Q⟩
structure qbM (S:Nat->Prop) (B M c:Nat) (q:En) (A:Option Addr) (cp:Nat) (v:Value) (L:List En) (x2 x3:Int) (g:List GP) (w wr:World):Prop where
 cells:wr.heap[B]?=some (.cells #[v,.map (some M),.int .i64 x2,.int .i64 x3] 126 (0,0))
 own:qa6 (fun k=>S k\/qbX w.heap.size wr k) wr v L
 map:qbP (fun k=>S k\/qbX w.heap.size wr k) wr M c g
 only:qcb S w wr
 ent:wr.heap[w.heap.size]?=some (.cells #[.int .i64 q.1,.slice A q.2.1.length cp,.int .i64 q.2.2] 61 (0,0))
 mine:S B
 flds:qap wr w.heap.size A q.2.1
 vE:v.ownBlock≠some w.heap.size
section
variable {S:Nat->Prop} {B M c cp:Nat} {q:En} {A:Option Addr} {v:Value} {L:List En} {x2 x3:Int} {g:List GP} {w wr w':World}
def qbX.later {a:Nat} (b:qbX a wr k) (c:wr.heap.size<=w'.heap.size):qbX a w' k:=⟨b.1,tB b.2 c⟩
def qbM.below (a:qbM S B M c q A cp v L x2 x3 g w wr) (d:wG wr w'):qbM S B M c q A cp v L x2 x3 g w w':=
  ⟨(d.block _ (mG a.cells)).trans a.cells, (a.own.keeps fun k _ b => d.block k b).imp fun k b => b.imp id fun b => b.later d.size, (a.map.keep fun k _ b => d.block k b).imp fun k b => b.imp id fun b => b.later d.size,
    a.only.trans (qcb.of_below d),(d.block _ (mG a.ent)).trans a.ent,a.mine,a.flds.below (d.mono a.only.size),a.vE⟩
def qbM.row (a:qbM S B M c q A cp v L x2 x3 g w wr):qap wr wr.heap.size A q.2.1:=a.flds.more a.only.size
def qbM.kept (a:qbM S B M c q A cp v L x2 x3 g w wr) (m:qa2 (fun k=>k<w.heap.size/\¬ S k) w A (Go.Proofs.YtpehcaidjlemiaaGreatDoor.flds q.2.1))
  (i:wr.heap.size<=w'.heap.size) (l:w'.os=wr.os) (j:w'.tape=wr.tape) (h:w'.output=wr.output) {R:Nat->Prop} (p:∀ k,R k->S k\/qbX w.heap.size wr k) (n:¬ R w.heap.size) (b:∀ k,k<wr.heap.size->¬ R k->w'.heap[k]?=wr.heap[k]?):
  qcb S w w'/\w'.heap[w.heap.size]?=some (.cells #[.int .i64 q.1,.slice A q.2.1.length cp,.int .i64 q.2.2] 61 (0,0))/\qap w' w.heap.size A q.2.1:=by
 have r:=a.only.size;have e:qcb S w w':=⟨l.trans a.only.os,j.trans a.only.tape,h.trans a.only.output,lA a.only.size i,fun k h1 h2=>(b k (by omega) fun d=>(p k d).elim h2 fun d=>by have :=d.1;omega).trans (a.only.block k h1 h2)⟩;exact ⟨e,(b _ (mG a.ent) n).trans a.ent,(m.keep fun k b=>e.block k b.1 b.2).imp fun k b=>b.1⟩
def qbP.keepT {g:List GP} (q:qbP S w M c g) (l:w'.heap[M]?=w.heap[M]?) (d:∀ (k:Nat) (cs:Array Value) (t:TypeId) (fr:Nat × Nat),w.heap[k]?=some (.cells cs t fr)->(t=74\/t=3)->w'.heap[k]?=w.heap[k]?):qbP S w' M c g:=by
 obtain ⟨m,h1,h2,h3,n,s⟩:=q;refine ⟨m,l.trans h1,h2,h3,fun i e p x y=> ?_,s⟩;have ⟨h,b⟩:=n i e p x y;refine ⟨h,b.keep (fun k r=> ?_) fun k j=> ?_⟩
 ·obtain ⟨cs,v,_⟩:=b
  have ⟨cs',fr,a⟩:=qfz v r;exact d k _ _ _ a (.inl rfl)
 ·obtain ⟨_,cs',fr,a,_⟩:=j
  exact d k _ _ _ a (.inr rfl)
def qbM.mapB (i:qbM S B M c q A cp v L x2 x3 g w wr) {k:Nat} {cs:Array Value} {t:TypeId} {fr:Nat × Nat} {T:Nat->Prop} (d:wr.heap[k]?=some (.cells cs t fr)) (h:t≠74):¬ qgu T wr M k:=fun e=>by
 rcases e with e|⟨_,cs',m,a,_⟩
 ·have ⟨l,j,b⟩:=i.map.map
  rw [<- e,d] at b;cases b
 ·rw [d] at a
  injection a with a
  injection a with _ h2 _
  exact h h2
def qbM.turned (a:qbM S B M c q A cp v L x2 x3 g w wr) (r:qa2 (fun k=>k<w.heap.size/\¬ S k) w A (Go.Proofs.YtpehcaidjlemiaaGreatDoor.flds q.2.1)) {d:World} {i:List GP}
  (l:qbP (fun k=>(S k\/qbX w.heap.size wr k)\/qbX wr.heap.size d k) d M c i) (b:qcb (qgu (fun k=>S k\/qbX w.heap.size wr k) wr M) wr d):qbM S B M c q A cp v L x2 x3 i w d:=by
 have z:=a.only.size;have p:(S M\/qbX w.heap.size wr M):=by have ⟨m,_,h2,_⟩:=a.map;exact h2
 have ⟨y,s,x⟩:=a.kept r b.size b.os b.tape b.output (R:=qgu (fun k=>S k\/qbX w.heap.size wr k) wr M) (fun k hk=>hk.elim (fun hk=>hk▸p) fun hk=>hk.1) (a.mapB a.ent (by decide)) b.block;have e:∀ (k:Nat) (cs:Array Value) (t:TypeId) (fr:Nat × Nat),wr.heap[k]?=some (.cells cs t fr)->t≠74->d.heap[k]?=wr.heap[k]?:=fun k cs t fr hk n=>b.block k (gA.1 hk).1 (a.mapB hk n)
 refine ⟨(e _ _ _ _ a.cells (by decide)).trans a.cells,(a.own.keep (fun k hk=> ?_) fun k hk=> ?_).imp fun k hk=>hk.imp id fun hk=>hk.later b.size,l.imp fun k hk=> ?_,y,s,a.mine,x,a.vE⟩
 ·have ⟨cs,j,_⟩:=a.own
  have ⟨cs',fr,h⟩:=qfz j hk;exact e _ _ _ _ h (by decide)
 ·obtain ⟨_,cs',fr,h,_⟩:=hk
  exact e _ _ _ _ h (by decide)
 ·rcases hk with (hk|hk)|hk
  ·exact .inl hk
  ·exact .inr (hk.later b.size)
  ·exact .inr ⟨by have :=hk.1;omega,hk.2⟩
def qbM.stored (b:qbM S B M c q A cp v L x2 x3 g w wr) (D:qa2 (fun k=>k<w.heap.size/\¬ S k) w A (Go.Proofs.YtpehcaidjlemiaaGreatDoor.flds q.2.1)) (F:B<w.heap.size) (m n:Int) (C:w'.heap[B]?=some (.cells #[v,.map (some M),.int .i64 m,.int .i64 n] 126 (0,0)))
  (a:∀ k,k≠B->w'.heap[k]?=wr.heap[k]?) (H:w'.heap.size=wr.heap.size) (y:w'.os=wr.os) (d:w'.tape=wr.tape) (x:w'.output=wr.output):qbM S B M c q A cp v L m n g w w':=by
 have i:∀ {k:Nat} {cs:Array Value} {t:TypeId} {fr:Nat × Nat},wr.heap[k]?=some (.cells cs t fr)->t≠126->k≠B:=fun a d e=>by
  rw [e,b.cells] at a;injection a with a
  injection a with _ h2 _
  exact d h2.symm
 have ⟨s,z,r⟩:=b.kept D (by omega) y d x (R:=fun k=>k=B) (fun k a=> .inl (a▸b.mine)) (by omega) (fun k _ h1=>a k h1);refine ⟨C,(b.own.keep (fun k h=> ?_) fun k h=> ?_).imp fun k a=>a.imp id fun a=>a.later (by omega),(b.map.keepT (a M fun e=> ?_) fun k cs t fr h1 h2=>a k (i h1 (by rcases h2 with rfl|rfl<;>decide))).imp fun k a=>a.imp id fun a=>a.later (by omega),s,z,b.mine,r,b.vE⟩
 ·have ⟨cs,p,_⟩:=b.own
  have ⟨cs',fr,j⟩:=qfz p h;exact a k (i j (by decide))
 ·obtain ⟨_,cs',fr,j,_⟩:=h
  exact a k (i j (by decide))
 ·have ⟨G,E,l⟩:=b.map.map
  rw [e,b.cells] at l;cases l
def qbM.push (i:qbM S B M c q A cp v L x2 x3 g w wr) (ae:qa2 (fun k=>k<w.heap.size/\¬ S k) w A (Go.Proofs.YtpehcaidjlemiaaGreatDoor.flds q.2.1)) (ai:B<w.heap.size) {x:Option Addr} {n:Nat} (aa:qa0 w.heap.size wr (.slice x q.2.1.length n) q.2.1) (Q:q.2.1.length<=n/\n<=maxLen):
  ∃ cs,wr.ownsRow 0 61 3 v L.length cs/\∀ (l p:Nat) (h:World),h.ownsRow 0 61 3 (.slice (some ⟨l,0,none⟩) (L.length+1) p) (L.length+1) (cs++[.int .i64 q.1,.slice x q.2.1.length n,.int .i64 q.2.2])->
   (wr.alloc (.cells #[.int .i64 q.1,.slice x q.2.1.length n,.int .i64 q.2.2] 61)).grownBy h v.ownBlock->(v.ownBlock=some l\/l=wr.heap.size+1)->l<h.heap.size->
   h.heap[B]?=some (.cells #[v,.map (some M),.int .i64 x2,.int .i64 x3] 126 (0,0))/\h.heap[w.heap.size]?=some (.cells #[.int .i64 q.1,.slice A q.2.1.length cp,.int .i64 q.2.2] 61 (0,0))/\
    qbM S B M c q A cp (.slice (some ⟨l,0,none⟩) (L.length+1) p) (L++[q]) x2 x3 g w (h.setCell ⟨B,0,none⟩ (.slice (some ⟨l,0,none⟩) (L.length+1) p)):=by
 have an:=i.only.size;have ⟨cs,D,V,ac⟩:=i.own;refine ⟨cs,D,fun l p h U r J am=> ?_⟩;have m:wG wr (wr.alloc (.cells #[.int .i64 q.1,.slice x q.2.1.length n,.int .i64 q.2.2] 61)):=(bA _ _).alloc (aA _) _;have al:=m.size;have ah:=r.size;have F:∀ k,k<wr.heap.size->v.ownBlock≠some k->h.heap[k]?=wr.heap[k]?:=fun k d z=>(r.block k (by omega) (fun e=>z e.symm)).trans (m.block k d)
 have O:∀ (k:Nat) (cs':Array Value) (t:TypeId) (fr:Nat × Nat),wr.heap[k]?=some (.cells cs' t fr)->t≠61->h.heap[k]?=wr.heap[k]?:=fun k cs' t fr d H=>F k (gA.1 d).1 (qan D d H)
 have G:=(O _ _ _ _ i.cells (by decide)).trans i.cells;have af:h.heap[w.heap.size]?=some (.cells #[.int .i64 q.1,.slice A q.2.1.length cp,.int .i64 q.2.2] 61 (0,0)):=(F _ (mG i.ent) i.vE).trans i.ent;refine ⟨G,af,?_⟩;have ⟨j,y⟩:=qE (h.setCell ⟨B,0,none⟩ (.slice (some ⟨l,0,none⟩) (L.length+1) p));rw [<- y];have ad:j.heap[B]?=some (.cells #[.slice (some ⟨l,0,none⟩) (L.length+1) p,.map (some M),.int .i64 x2,.int .i64 x3] 126 (0,0)):=by rw [y,qdo G];rfl
 have C:∀ k,k≠B->j.heap[k]?=h.heap[k]?:=fun k d=>by rw [y,qeh (Ne.symm d)]
 have aj:j.heap.size=h.heap.size:=by rw [y];simp
 have I:j.os=h.os/\j.tape=h.tape/\j.output=h.output:=by rw [y];exact ⟨rfl,rfl,rfl⟩
 have P:∀ k,v.ownBlock=some k->(S k\/qbX w.heap.size wr k):=fun k d=>V k d
 have ⟨X,ab,W⟩:=i.kept (w':=j) ae (by omega) (I.1.trans (r.os.trans m.os)) (I.2.1.trans (r.tape.trans m.tape)) (I.2.2.trans (r.output.trans m.output)) (R:=fun k=>k=B\/v.ownBlock=some k) (fun k d=>d.elim (fun d=> .inl (d▸i.mine)) fun d=>P k d) (fun e=>e.elim (fun e=>by omega) i.vE)
  (fun k h1 h2=>(C k fun e=>h2 (.inl e)).trans (F k h1 fun e=>h2 (.inr e)))
 have z:∀ {k:Nat} {cs:Array Value} {t:TypeId} {fr:Nat × Nat},h.heap[k]?=some (.cells cs t fr)->t≠126->k≠B:=fun d H e=>by
  rw [e,G] at d;injection d with d
  injection d with _ h2 _
  exact H h2.symm
 have K:∀ {A:Option Addr} {xs:List Value},qcB (fun k=>S k\/qbX w.heap.size wr k) wr A xs->qcB (fun k=>S k\/qbX w.heap.size j k) (wr.alloc (.cells #[.int .i64 q.1,.slice x q.2.1.length n,.int .i64 q.2.2] 61)) A xs:=fun i=>(i.keepO fun k d=>m.block k d.lt).impS fun k d=>d.imp id fun d=>d.later (by omega)
 have Z:=qa6.push (S:=fun k=>S k\/qbX w.heap.size j k) (q:=q) (qaf D m) (ac.imp fun _ _ i=>K i) Q.1 Q.2 (K (qcB.of_own aa fun k a b=> .inr ⟨a,b⟩)) U r fun k d=>by
  simp only [Value.ownBlock,jB] at d;subst d;rcases J with e|e
  ·exact (P _ e).imp id fun d=>d.later (by omega)
  ·exact .inr ⟨by omega,by omega⟩
 refine ⟨ad,Z.keep (fun k d=> ?_) (fun k d=> ?_),(i.map.keepT ?_ fun k cs t fr h1 h2=> ?_).imp fun k d=>d.imp id fun d=>d.later (by omega),X,ab,i.mine,W,fun e=> ?_⟩
 ·have ⟨cs',fr,s⟩:=qfz U d
  exact C k (z s (by decide))
 ·obtain ⟨_,cs',fr,s,_⟩:=d
  exact C k (z s (by decide))
 ·have ⟨ak,ag,E⟩:=i.map.map
  have T:h.heap[M]?=wr.heap[M]?:=F M (gA.1 E).1 fun e=>by
   have ⟨cs',fr,s⟩:=qfz D e;rw [E] at s;cases s
  have Y:M≠B:=fun e=>by
   rw [<- T,e,G] at E;cases E
  rw [C M Y,T]
 ·have N:=O _ _ _ _ h1 (by rcases h2 with rfl|rfl<;>decide)
  rw [C k (z (N.trans h1) (by rcases h2 with rfl|rfl<;>decide)),N]
 ·simp only [Value.ownBlock,jB] at e
  rcases J with e2|e2
  ·exact i.vE (by rw [e2,e])
  ·omega
def qbM.done (a:qbM S B M c q A cp v (L++[q]) (qdL (L++[q]):Int) q.2.2 (qcs L.length q.2.1 g (qas q.2.1)) w wr) (d:∀ k,S k->k<w.heap.size) (h:qes g L) (e:qcY L) (i:qc9 q.2.1) (j:0<=q.2.2):qdf (fun k=>S k\/qbX w.heap.size wr k) wr B (L++[q]) q.2.2:=
 ⟨v,M,c,_,a.cells,.inl a.mine,a.own,a.map,h.turned q,e.snoc i,by omega,fun _=>(qql L q).symm,fun k b=>b.elim (fun b=>tB (d k b) a.only.size) fun b=>b.2⟩
end
def qy4 {x y z:Value} (a:w.heap[b]?=some (.cells #[x,y,z] t (0,0))):w.frozen? ⟨b,0,none⟩=false/\w.frozen? ⟨b,1,none⟩=false/\w.frozen? ⟨b,2,none⟩=false:=by
 simp [World.frozen?,a]
def qp6 (id:Int) (l:List Fd) (seq:Int) (w:World) (e:Ending) (w':World):Prop:=
 ∃ A c,e= .returned (.agg #[.int .i64 id,.slice A l.length c,.int .i64 seq])/\(l.length<=c/\c<=maxLen)/\qa0 w.heap.size w' (.slice A l.length c) l/\wG w w'
def qy5 (id:Int) (A:Option Addr) (n c:Nat) (l:List Fd) (seq:Int) (w:World) (I:l.length=n) (D:qap w w.heap.size A l) (E:A=none\/∃ b o,A=some ⟨b,o,none⟩) (X:n<=1048576):
    yG 64 #[.agg #[.int .i64 id,.slice A n c,.int .i64 seq]] w (qp6 id l seq w):=by
  have ⟨d,m⟩:=qE ((w.alloc (.cells #[.int .i64 id,.slice A n c,.int .i64 seq] 61)).alloc (.cells #[.int .i64 0,.slice none 0 0,.int .i64 0] 61));have s:wG w d:=by rw [m];exact ((bA _ w).alloc (aA _) _).alloc (by simp) _
  have y:d.heap.size=w.heap.size+2:=by rw [m];simp
  have H:d.heap[w.heap.size]?=some (.cells #[.int .i64 id,.slice A n c,.int .i64 seq] 61 (0,0)):=by
    rw [m,pB _ _ _ (by simp)];exact jA w _
  have J:d.heap[w.heap.size+1]?=some (.cells #[.int .i64 0,.slice none 0 0,.int .i64 0] 61 (0,0)):=by
    rw [m];simpa using jA (w.alloc (.cells #[.int .i64 id,.slice A n c,.int .i64 seq] 61)) (.cells #[.int .i64 0,.slice none 0 0,.int .i64 0] 61)
  have C:qI (∀ w',wG d w'->w'.cell? ⟨w.heap.size,0,none⟩=some (.int .i64 id)/\w'.cell? ⟨w.heap.size,1,none⟩=some (.slice A n c)/\w'.cell? ⟨w.heap.size,2,none⟩=some (.int .i64 seq)):=qH fun w' p=>qfA ((p.block w.heap.size (by omega)).trans H)
  have z:qI (∀ w',wG d w'->w'.heap[w.heap.size+1]?=some (.cells #[.int .i64 0,.slice none 0 0,.int .i64 0] 61 (0,0))):=qH fun w' p=>(p.block _ (by omega)).trans J
  have V:qI (∀ w',wG d w'->yG 105 #[qb8 id A n c] w' fun e G=>∃ v,e= .returned (.agg #[.int .i64 id,v])/\qa0 w'.heap.size G v l/\wG w' G):=qH fun w' p=>qAT id A n c l w' I (D.later (s.trans (p.mono s.size))) E X
  have M:=qH m;have F:=qH s;have O:=qH y;clear m s y H J D E I
  go_enter func64,ntmps64
  go_wp2;rw [show (w.alloc _).alloc _=d from M.o.symm]
  go_region_held3 (fun w'=>w'.cell? ⟨w.heap.size,0,none⟩=some (.int .i64 id)/\w'.cell? ⟨w.heap.size,1,none⟩=some (.slice A n c)/\w'.cell? ⟨w.heap.size,2,none⟩=some (.int .i64 seq))
    (first|exact C.o _ (bA _ _).drew|exact C.o _ j.o|exact Q.o)
    (first
      | (go_at_call 105; (with_reducible refine (V.o _ (bA _ d).drew).mono ?_); rintro e i ⟨v, rfl, B, K⟩
         obtain ⟨g,h,rfl,N,_⟩:=qeo B;have j:qI (wG d i):=qH ((bA _ d).drew.trans K);have P:qI (qa0 d.heap.size i (.slice g l.length h) l):=qH B;have r:=qfA (z.o _ j.o);have t:=qy4 (z.o _ j.o);have ad:=r.1;have Z:=r.2.1;have aa:=r.2.2;have ac:=t.1;have ab:=t.2.1;have ae:=t.2.2;have Q:qI ((((i.setCell ⟨w.heap.size+1,0,none⟩ (.int .i64 id)).setCell ⟨w.heap.size+1,1,none⟩ (.slice g l.length h)).setCell ⟨w.heap.size+1,2,none⟩ (.int .i64 seq)).cell? ⟨w.heap.size,0,none⟩=some (.int .i64 id)/\(((i.setCell ⟨w.heap.size+1,0,none⟩ (.int .i64 id)).setCell ⟨w.heap.size+1,1,none⟩ (.slice g l.length h)).setCell ⟨w.heap.size+1,2,none⟩ (.int .i64 seq)).cell? ⟨w.heap.size,1,none⟩=some (.slice A n c)/\
             (((i.setCell ⟨w.heap.size+1,0,none⟩ (.int .i64 id)).setCell ⟨w.heap.size+1,1,none⟩ (.slice g l.length h)).setCell ⟨w.heap.size+1,2,none⟩ (.int .i64 seq)).cell? ⟨w.heap.size,2,none⟩=some (.int .i64 seq)):=qH (by
           have U:=C.o _ j.o;have R:∀ (u:World) (k:Nat) (v:Value) (o:Nat),(u.setCell ⟨w.heap.size+1,k,none⟩ v).cell? ⟨w.heap.size,o,none⟩=u.cell? ⟨w.heap.size,o,none⟩:=fun u k v o=>by
             simp only [World.cell?];rw [qeh (by omega)]
           simp only [R];exact U)
         clear B K r t))
  all_goals
    go_wp2;have ⟨x,q⟩:=qE (((i.setCell ⟨w.heap.size+1,0,none⟩ (.int .i64 id)).setCell ⟨w.heap.size+1,1,none⟩ (.slice g l.length h)).setCell ⟨w.heap.size+1,2,none⟩ (.int .i64 seq));have h3:x.heap[w.heap.size+1]?=some (.cells #[.int .i64 id,.slice g l.length h,.int .i64 seq] 61 (0,0)):=by rw [q,qdo (qdo (qdo (z.o _ j.o)))];rfl
    have W:wG w x:=by rw [q];exact (((F.o.trans (j.o.mono F.o.size)).setCell (by simp) _).setCell (by simp) _).setCell (by simp) _
    have y:=O.o;have S:qa0 w.heap.size x (.slice g l.length h) l:=by
      rw [q];exact (show qa0 d.heap.size _ _ _ from aF (aF (aF P.o (a:=⟨w.heap.size+1,0,none⟩) (by simp;omega) _) (a:=⟨w.heap.size+1,1,none⟩) (by simp;omega) _) (a:=⟨w.heap.size+1,2,none⟩) (by simp;omega) _).low (by omega)
    rw [<- q];have ⟨T,Y,L⟩:=qfA h3;exact pE (v:= .agg #[.int .i64 id,.slice g l.length h,.int .i64 seq]) (by simp [results,Tryz.results64,go_sem,T,Y,L]) rfl ⟨_,_,rfl,N,S,W⟩
def qy6 {z:ByteArray} {t:Nm} (a:z.data.toList=t):kV t= .string z:=by
 subst a;unfold kV;simp
def qlh (S:Nat->Prop) (M c i:Nat) (d:List Fd) (g:List GP) (w:World) (e:Ending) (w':World):Prop:=
 e= .returned (.tuple #[])/\qbP (fun k=>S k\/qbX w.heap.size w' k) w' M c (qcs i d g (qas d))/\qcb (qgu S w M) w w'
def qy7 (S:Nat->Prop) (M c i:Nat) (d:List Fd) (g:List GP) (ts:List Tm) (a b:Value) (w:World) (x:Value) (wr:World):Prop:=
 ∃ j:Nat,j<=ts.length/\x= .int .i64 (j:Int)/\qeP S M c i d g ts a b w j wr
def qy8 (S:Nat->Prop) (B M c:Nat) (g:List GP) (b0 bd a3:Value) (id:Int) (A:Option Addr) (n V:Nat) (d:List Fd) (i:Nat) (w:World)
    (Q:w.heap[B]?=some (.cells #[b0,.map (some M),bd,a3] 126 (0,0))) (aa:qbP S w M c g) (F:qc9 d) (cx:d.length=n) (b2:qap w w.heap.size A d) (ds:i<=1000) (bj:∀ key,(qb1 g key).length<=8000000):
    yG 63 #[.pointer (some ⟨B,0,none⟩),qb8 id A n V,.int .i64 (i:Int)] w (qlh S M c i d g w):=by
  have ⟨cc,cq,ck,cl,cy⟩:=lG qfN;have da:=aa.lt;have cv:=mG Q;have bg:B≠M:=fun e=>by
    have ⟨dn,dq,bu⟩:=aa.map;rw [<- e,Q] at bu;cases bu
  have cn:qI (∀ w',qcb (qgu S w M) w w'->w'.heap[B]?=some (.cells #[b0,.map (some M),bd,a3] 126 (0,0))):=qH fun w' C=>(C.block B cv fun e=>by
    rcases e with e|⟨_,cs,fr,Y,_⟩
    · exact bg e
    · rw [Q] at Y
      injection Y with Y
      injection Y with _ h2 _
      exact absurd h2 (by decide)).trans Q
  have T:=qgq w id A n V;have a0:=qH (qBv (id:=id) (c:=V) F cx (b2.later T));have aw:(qas d).length<=4000:=by
    have h1:=qhU (l:=d) (M:=500) F.wordsS d.length (aA _);rw [qje] at h1;exact lA h1 (lA (dE _ F.len) (by omega))
  have am:∀ t∈qas d,t.1.length<=12/\t.2.length<=4096:=fun t c3=>by
    have ⟨f,ag,h1,h2⟩:=(qgU t d).1 ((qhK F.apart t).1 c3);have :=F.names f ag;have :=F.texts f ag;have :=qif h2;rw [h1];omega
  have P:∀ t,(qaZ d t).length<=500:=fun t=>lA (qiD _ _ _) (F.wordsS _)
  have ⟨ts,ab⟩:=qE (qas d);have ac:∀ j key,(qb1 (qcs i d g (ts.take j)) key).length<=8004000:=fun j key=>by
    rw [qlr,iA];have h1:=bj key;have h2:(qbb i d (ts.take j) key).length<=(ts.take j).length:=by
      unfold qbb;rw [gB];exact wD _ _
    have h3:ts.length<=4000:=by rw [ab];exact aw
    rw [sA] at h2;omega
  have ce:qI (∀ e w',qlh S M c i d g w e w'↔(e= .returned (.tuple #[])/\qbP (fun k=>S k\/qbX w.heap.size w' k) w' M c (qcs i d g ts)/\qcb (qgu S w M) w w')):=qH fun e w'=>by rw [ab];rfl
  rw [<- ab] at a0 aw am;have cu:=qH am;have cd:=qH P;have c9:=qH ac;have c4:=qH aa;have Z:=qH T;clear aa F b2 bj am P ac ab bg Q T
  go_enter func63,ntmps63
  have ⟨cz,aq⟩:=qE (qbh w id A n V);rw [<- aq] at a0 Z
  go_wp2_with (first
    | (go_at_call 104; rw [show w.alloc _ = cz from aq.symm]; (with_reducible refine a0.o.mono ?_); rintro e dc ⟨dd, dm, rfl, aj, ae, bn⟩
       obtain ⟨ax,ai,rfl,cw,cj⟩:=aj.row;obtain ⟨au,az,rfl,a2,ct⟩:=ae.rows;clear cj ct;rw [gB] at a2 ⊢;have ⟨N,ay⟩:=qE ts.length;have bm:qeP S M c i d g ts (.slice ax ts.length ai) (.slice au ts.length az) w 0 dc:=by
         have bw:=Z.o.trans (bn.mono Z.o.size);have ah:=Z.o.size;rw [gB] at ae;exact ⟨(c4.o.keep fun k _ ap=>bw.block k ap).imp fun k ap=> .inl ap,qcb.of_below bw,aj.low ah,ae.low ah ah⟩
       have b5:=qH bm;have U:=qH ay;rw [<- ay] at b5 aw cw a2 ⊢;clear aj ae bn bm ay aq))
  go_loopw [18] (fun x wr=>qy7 S M c i d g ts (.slice ax N ai) (.slice au N az) w x wr) (fun x _=>N-(intOf x).toNat)
  case atStart=>exact ⟨0,kA _,rfl,b5.o⟩
  case round=>
    obtain ⟨j,dr,rfl,G⟩:=hrel;by_cases co:j<N
    · have L:j<ts.length:=by rw [<- U.o];exact co
      have ⟨c5,dl,bi,c2,bh⟩:=qaR.row G.terms;clear c2;rw [U.o] at G;have cf:c5=ax:=by injection bi with e _ _;exact e.symm
      clear bi;subst cf;obtain ⟨cb,ci,rfl,T,a8,bo⟩:=bh.at_ L;have ⟨x,ar,b4⟩:=qa8 ts[j].1;have ⟨y,an,a6⟩:=qa8 ts[j].2;rw [<- ar] at a8;rw [<- an] at bo;have ag:=cu.o _ (pA L);have bt:=qH (fun w'=>qk8 x y w' (by rw [ar,qdl];omega) (by rw [an,qdl];omega));have qaD:(qcJ x y).data.toList=qag ts[j]:=by rw [qge,b4,a6];rfl
      have ⟨z,b6⟩:=qE (qcJ x y);rw [<- b6] at bt qaD;have bq:=qy6 qaD;have dp:(0:Int)<=j:=by omega
      have di:(j:Int)<N:=by omega
      have c7:=qH G;have a9:=qH bq;clear G bh ar b4 an a6 ag qaD b6 bq
      go_upto_region 6 with (first
        | (go_at_call 58; (with_reducible refine (bt.o _).mono ?_); rintro e w3 ⟨rfl, bv⟩
           have cm:=qH bv.below;clear bv))
      have a4:wG wr w3:=((bA _ wr).alloc (aA _) _).trans (cm.o.mono (by simp));have W:=c7.o.below a4;have J:=cn.o w3 W.only;have ⟨h,I,s,q,⟨dg,a7⟩,⟨dj,dh,O⟩,R,ba,bz,bx⟩:=W.places L;have ca:au=some ⟨h,I,none⟩:=by injection a7
      clear a7;subst ca;have ⟨v,K,cs,m,ad,be,bl,X,a5⟩:=W.put L da;have av:=a5 s q bx ba bz;have ac:=c9.o j (qag ts[j]);rw [<- bl] at ac;have cr:=cd.o ts[j];have ⟨E,P⟩:=qE (qaZ d ts[j]);rw [<- P] at av cr R ba;have al:∀ w',qbm w' M c m->(Instr.lookup 124 (.map (some M)) (.string z) false).run prog w'= .ok v w':=fun w' C=>by
        rw [<- a9.o,be];exact qpO C _
      have df:=al w3.drew ad;have de:∀ o,_:=fun o=>al ((w3.alloc o).drew) ((((bA _ w3).alloc (aA _) o).block M (gA.1 ad).1).trans ad)
      have bb:qI (∀ w',wG w3 w'->w'.cell? ⟨B,1,none⟩=some (.map (some M))/\w'.cell? ⟨h,I+j,none⟩=some (.slice s E.length q)):=qH fun w' C=>
        ⟨(qcA ((C.block _ (mG J)).trans J)).2.1,(C.cell (p:=⟨h,_,none⟩) (mG O)).trans R⟩
      have c6:qI (∀ (r H:Nat) (b:World),b.ownsRow 0 74 2 (.slice (some ⟨r,0,none⟩) (K+1) H) (K+1) (cs++[.int .i64 i,.slice s E.length q])->
          (w3.drew.alloc (.cells #[.int .i64 i,.slice s E.length q] 74)).grownBy b v.ownBlock->(v.ownBlock=some r\/r=w3.heap.size+1)->r<b.heap.size->
          ∃ D,(Instr.mapUpdate 124 (.map (some M)) (.string z) (.slice (some ⟨r,0,none⟩) (K+1) H)).run prog b= .ok () D/\
            (b.cell? ⟨B,1,none⟩=some (.map (some M))/\b.cell? ⟨h,I+j,none⟩=some (.slice s E.length q))/\
            (D.cell? ⟨B,1,none⟩=some (.map (some M))/\D.cell? ⟨h,I+j,none⟩=some (.slice s E.length q))/\qeP S M c i d g ts (.slice (some ⟨cb,ci,none⟩) N ai) (.slice (some ⟨h,I,none⟩) N az) w (j+1) D):=qH fun r H b h1 h2 h3 cp=>by
        have ⟨ak,bp,dk,af⟩:=av r H b h1 h2 h3 cp;have ⟨D,b8,c8,bf⟩:=qyC ak (qag ts[j]) (.slice (some ⟨r,0,none⟩) (K+1) H);rw [a9.o] at b8;have ao:=(bp B (mG J) (qan X J (by decide))).trans J;have br:=bp h (mG O) (qan X O (by decide));have bc:∀ {k:Nat} {cs:Array Value} {t:TypeId} {fr:Nat × Nat},b.heap[k]?=some (.cells cs t fr)->D.heap[k]?=b.heap[k]?:=fun {k cs t fr} C=>bf.block k (gA.1 C).1 fun e=>by
          cases e;unfold qbm at ak;rw [ak] at C;cases C
        have b1:b.cell? ⟨h,I+j,none⟩=some (.slice s E.length q):=(tC (a:=⟨h,_,none⟩) br).trans R;exact ⟨D,b8,⟨(qcA ao).2.1,b1⟩,⟨(qcA ((bc ao).trans ao)).2.1,(tC (a:=⟨h,_,none⟩) (bc (br.trans O))).trans b1⟩,by rw [U.o];exact af D c8 bf⟩
      have db:=qH X;clear a4 W J O R bx ad be bl X a5 av P al bz a8 bo
      go_region_held3 (fun w'=>w'.cell? ⟨B,1,none⟩=some (.map (some M))/\w'.cell? ⟨h,I+j,none⟩=some (.slice s E.length q))
        (first|exact bb.o _ (bA _ _).drew|exact bb.o _ ((bA _ _).drew.alloc (aA _) _)|exact c0.o|exact b9.o)
        (first
          | (refine step_append_lies _ (by rfl) _ _ _ (by rfl) 0 74 cc _ 2 32 underlying71 cq ck cl cy rfl (by omega) v K cs (by rfl) ((qaf db.o ((bA _ w3).drew)).alloc _)
              ⟨w3.heap.size,0,none⟩ 1 1 [.int .i64 i,.slice s E.length q] (by rfl) (by rfl) (World.news_of_block (cs:=#[.int .i64 i,.slice s E.length q]) (t:=74) (fr:=(0,0)) (jA w3.drew _)) (by intro u hu;simp at hu;rcases hu with hu|hu<;>(subst hu;rfl))
              (by omega) (by unfold maxLen;omega) (by omega) (by simp) (w3.heap.size+1) (by simp) ?_
             intro r H b a1 b3 bs ch;have ⟨D,dt,b7,bk,af⟩:=c6.o r H b a1 b3 bs ch;have c0:=qH b7;have b9:=qH bk;have cg:=qH af;clear b7 bk af a1 b3 bs))
      all_goals
        go_wp2;exact ⟨⟨j+1,L,by go_num,cg.o⟩,by simp [intOf];omega⟩
    · have c1:j=ts.length:=by have :=U.o;omega
      subst c1;have h1:=G.map;have h2:=G.only;rw [fC] at h1;clear G;go_wp2
      go_end0
      exact (ce.o _ _).2 ⟨rfl,h1,h2⟩
def qp7 {R:Option Addr->List Value->Prop}:∀ {l:List Pn} {cs:List Value},qao R l cs->∀ u∈cs,u.oneCell'=true
 |[],cs,a,u,hu=>by simp only [qao] at a;subst a;cases hu
 |q::l,cs,a,u,hu=>by
  obtain ⟨A,c,cs',rfl,_,_,_,b⟩:=a;simp only [wA] at hu;rcases hu with rfl|rfl|hu
  ·rfl
  ·rfl
  ·exact qp7 b u hu
def qy9 {ρ:Go.Shelf.Ren} (h:SlLaysE0.n41 prog ρ) {a:TypeInfo} {z:Value} {size c:Nat} (q:prog.info? (ρ.t 23)=some a) (x:a.zero=some z) (y:a.size=size) (s:a.bytes=c) (l:z.cells.size=size) (B:0<size)
  (p:∀ w,(Go.sizeOf (ρ.t 23)).run prog w= .ok size w) {zz:Nat} {e:TypeId} {v:Value} {n:Nat} {cs:List Value} {w:World} (b:w.ownsRow zz e size v n cs) (A:n<=maxLen) (m:n*c<=140737488355328) (h1:∀ u∈cs,u.oneCell'=true):
  yG (ρ.f 41) #[v] w fun e w'=>∃ v',e= .returned v'/\w'.ownsRow w.heap.size (ρ.t 23) size v' n cs/\wG w w':=by
 rcases b.2 with ⟨rfl,d⟩|⟨g,i,D,rfl,_⟩
 ·have r:cs=[]:=sB (by rw [b.1,d];simp)
  subst r d;refine (AnyE.slices_Clone_nil h 0 0 w).mono ?_;rintro e w' ⟨rfl,rfl⟩;exact ⟨_,rfl,vA _ _ _ _,bA _ _⟩
 ·refine (AnyE.slices_Clone h a z size c q x y s l B p g 0 n i cs w b.1 A m (fun j u C=> ?_) h1).mono ?_
  ·have :=b.cells (g:=g) rfl j u C
   simpa [cC] using this
  ·rintro e w' ⟨v',rfl,t,_,k⟩
   exact ⟨v',rfl,t,k⟩
def qza (b:w.ownsRow zz 74 2 v n cs) (h:n<=100000000) (h1:∀ u∈cs,u.oneCell'=true):
  yG 68 #[v] w fun e w'=>∃ v',e= .returned v'/\w'.ownsRow w.heap.size 74 2 v' n cs/\wG w w':=by
 have ⟨i,g,c,d,a⟩:=lG qfN;exact qy9 qs6 g c d a rfl (by decide) Tryz.sizeOf74 b (by unfold maxLen;omega) (by omega) h1
def qzb {l:List Int} (a:l.length=n) (q:Row w B A (qaa l)) (t:0<n) (v:n<=100000000):
  yG 53 #[.slice A n c] w fun e w'=>∃ v',e= .returned v'/\w'.ownsRow w.heap.size 3 1 v' n (qaa l)/\wG w w':=by
 have ⟨r,s,m,p,h⟩:=lG qc4;rcases q with d|⟨b,g,rfl,_,i⟩
 ·have :=congrArg List.length d
  simp [qaa] at this;subst this;simp at a;omega
 ·refine (AnyE.slices_Clone qs8 r _ 1 8 s m p h rfl (by decide) Tryz.sizeOf3 b g n c (qaa l) w (by simp [qaa,a]) (by unfold maxLen;omega) (by omega) i (tG _ _)).mono ?_
  rintro e w' ⟨v',rfl,k,_,j⟩;exact ⟨v',rfl,k,j⟩
def qp8 (l:List Pn) (w:World) (e:Ending) (w':World):Prop:=∃ v,e= .returned v/\qbW (fun k=>w.heap.size<=k) w' v l/\wG w w'
def qli (l:List Pn) (N:Nat) (V:Value) (w:World) (x:Value) (wr:World):Prop:=∃ (j:Nat) (cs:List Value),j<=l.length/\x= .int .i64 (j:Int)/\wr.ownsRow w.heap.size 74 2 V N cs/\
 qei (Row wr w.heap.size) (qa2 (Of (fun k=>w.heap.size<=k) 3 wr) wr) l j cs/\wG w wr
def qzc {l:List En} {up:Int} (i:qdf S w B l up) (key:ByteArray) (a:List Pn) (an:a=qak 0 l key.data.toList) (bn:a.length<=10000000) (D:∀ p∈a,0<p.2.length/\p.2.length<=100000):
    yG 32 #[.pointer (some ⟨B,0,none⟩),.string key] w (qp8 a w):=by
  obtain ⟨v,M,c,g,i⟩:=i;have b2:=(qcA i.cells).2.1;have ⟨bz,⟨m,aw,af⟩,ae⟩:=i.map.look key.data.toList;rw [i.stand.posts,<- an] at ae;have am:kV key.data.toList= .string key:=by simp [kV]
  obtain ⟨cs,ai,bh,U⟩:=ae;have ar:=qza ai (by omega) (qp7 U);have a9:qI (qbm w M c m):=qH aw;have ah:=qH ar;have a7:qI (qao (Row w w.heap.size) a cs):=qH (U.imp fun _ _ i=>qa2.row i fun b av=>av.lt);have bi:=qH D;have a4:=qH af;have a6:=qH am;have ⟨N,ab⟩:=qE a.length;rw [<- ab] at ah bn;have E:=qH ab;clear i an aw af ai bh U ar D ab am
  go_enter func32,ntmps32
  go_wp2_with (first
    | (refine qyD _ (by rfl) _ _ (by rfl) M c m key.data.toList (by rfl) a9.o (by rw [a6.o]; rfl) ?_
       rw [a4.o])
    | (go_at_call 68; (with_reducible refine ah.o.mono ?_); rintro e bm ⟨b0, rfl, T, R⟩
       obtain ⟨L,Q,rfl,cg,be⟩:=qeo T;clear be;have br:qI (qli a N (.slice L N Q) w (.int .i64 ((0:Nat):Int)) bm):=qH (by
         exact ⟨0,cs,kA _,rfl,T,(qei.of a7.o).imp (fun _ _ i=>i.below R) fun _ _ i=>i,R⟩)
       clear T R))
  go_loopw [17] (fun x wr=>qli a N (.slice L N Q) w x wr) (fun x _=>N-(intOf x).toNat)
  case atStart=>exact br.o
  case round=>
    obtain ⟨j,Y,ce,rfl,s,H,y⟩:=hrel;by_cases bj:j<N
    · have J:j<a.length:=by rw [<- E.o];exact bj
      obtain ⟨d,rfl⟩:∃ d,L=some ⟨d,0,none⟩:=by
        rcases s.2 with ⟨ag,b7⟩|⟨bs,cb,b9,ag,_⟩
        · have :=E.o;omega
        · injection ag with e
          exact ⟨bs,e⟩
      have ⟨aq,a0,Z,ay,a3,bc,bp,au⟩:=H.each j J;have D:=bi.o _ (pA J);have bu:wr.cell? ⟨d,j*2,none⟩=some (.int .i64 a[j].1):=by have :=s.cells (g:=d) rfl _ _ aq;simpa [cC] using this
      have bk:wr.cell? ⟨d,j*2+1,none⟩=some (.slice a0 a[j].2.length Z):=by have :=s.cells (g:=d) rfl _ _ ay;simpa [cC] using this
      have bd:=s.lt d rfl;have al:=au (aA _);have ⟨ax,aj,aa⟩:=qfz s rfl;have ⟨I,C⟩:=qE (wr.alloc (.cells #[.int .i64 a[j].1,.slice a0 a[j].2.length Z] 74));have K:wG wr I:=by rw [C];exact (bA _ _).alloc (aA _) _
      have bl:=y.size;have cd:I.heap.size=wr.heap.size+1:=by rw [C];simp
      have V:=qzb (n:=a[j].2.length) (c:=Z) rfl (Row.below al (K.mono bl)) D.1 (by omega);have ao:qI (∀ (h:World) (r:Option Addr) (q:Nat),h.ownsRow I.heap.size 3 1 (.slice r a[j].2.length q) a[j].2.length (qaa a[j].2)->a[j].2.length<=q/\q<=maxLen->wG I h->
          (∃ u,h.cell? ⟨d,j*2+1,none⟩=some u)/\h.frozen? ⟨d,j*2+1,none⟩=false/\qli a N (.slice (some ⟨d,0,none⟩) N Q) w (.int .i64 ((j:Int)+1)) (h.setCell ⟨d,j*2+1,none⟩ (.slice r a[j].2.length q))):=qH fun h r q G W F=>by
        have z:=K.trans (F.mono K.size);have ac:=qaf s z;have ⟨a5,bv⟩:=qA7 (k:=j*2+1) ac (by omega);have ch:=F.size;have X:∀ k,k<wr.heap.size->k≠d->(h.setCell ⟨d,j*2+1,none⟩ (.slice r a[j].2.length q)).heap[k]?=wr.heap[k]?:=fun k h1 h2=>(qeh (Ne.symm h2)).trans (z.block k h1)
        have ak:∀ {k:Nat} {u:World},u.heap[d]?=some (.cells ax 74 aj)->Of (fun k=>w.heap.size<=k) 3 u k->k≠d:=fun {k u} h1 ⟨_,cs',b1,O,_⟩ e=>by
          subst e;rw [h1] at O;injection O with O
          injection O with _ h2 _
          exact absurd h2 (by decide)
        have bq:h.heap[d]?=some (.cells ax 74 aj):=(z.block _ bd.2).trans aa;have a2:qa2 (Of (fun k=>w.heap.size<=k) 3 h) h r (qaa a[j].2):=qq5 G fun k h1 _=>by omega
        have bw:qa2 (Of (fun k=>w.heap.size<=k) 3 (h.setCell ⟨d,j*2+1,none⟩ (.slice r a[j].2.length q))) (h.setCell ⟨d,j*2+1,none⟩ (.slice r a[j].2.length q)) r (qaa a[j].2):=a2.keepO fun k t=>qeh (Ne.symm (ak bq t))
        have a8:qei (Row (h.setCell ⟨d,j*2+1,none⟩ (.slice r a[j].2.length q)) w.heap.size) (qa2 (Of (fun k=>w.heap.size<=k) 3 (h.setCell ⟨d,j*2+1,none⟩ (.slice r a[j].2.length q))) (h.setCell ⟨d,j*2+1,none⟩ (.slice r a[j].2.length q))) a j Y:=H.imp (fun A xs i=>qa2.keep i fun b av=>X b (by omega) (by omega)) fun A xs i=>i.keepO fun k t=>X k t.lt (ak aa t)
        refine ⟨a5,bv,j+1,Y.set (j*2+1) (.slice r a[j].2.length q),J,by push_cast;rfl,qA6 ac,a8.put J W bw,⟨?_,?_,?_,?_,fun k t=> ?_⟩⟩
        · exact z.os.trans y.os
        · exact z.tape.trans y.tape
        · exact z.output.trans y.output
        · simp;omega
        · rw [X k (by omega) (by omega)]
          exact y.block k t
      have ⟨b4,ad⟩:=qE (a[j].1);have ⟨P,ap⟩:=qE (a[j].2);rw [<- ad] at bu C;rw [<- ap] at bk C V ao D a3;have bt:=qH V;have bo:=qH C;have b8:(0:Int)<=j:=by omega
      have b6:(j:Int)<N:=by omega
      obtain ⟨b5,cc⟩:=D;clear s H y aa al aq ay bc bp au V C ad ap K
      go_wp2_with (first
        | (go_at_call 53; rw [show wr.alloc _ = I from bo.o.symm]; (with_reducible refine bt.o.mono ?_); rintro e h ⟨b3, rfl, G, F⟩
           obtain ⟨r,q,rfl,W,ba⟩:=qeo G;have ⟨⟨u5,ca⟩,cf,az⟩:=ao.o h r q G W F;have bf:=qH az;clear ba G F az))
      exact ⟨bf.o,by simp [intOf];omega⟩
    · have bx:j=a.length:=by have :=E.o;omega
      subst bx;have a1:qbW (fun k=>w.heap.size<=k) wr (.slice L N Q) a:=by
        rw [E.o] at s;rw [E.o];exact ⟨Y,qbk s (kA _),fun k t=>(s.lt k t).1,H.all⟩
      have bb:=qH a1;have bg:=qH y;clear a1 s H y;go_wp2;go_ret;exact ⟨_,rfl,bb.o,bg.o⟩
structure qbz (G:List En):Prop where
 may:∀ q∈G,qbC q.2.1=0/\∀ f∈q.2.1,f.1.length<=1024/\f.2.length<=1024
 rise:qal (-1) (G.map (·.2.2))=true
 few:G.length<=100
def qbz.good (a:qbz G):qcY G:=fun q b=>qk5 (a.may q b).1 fun f c=>((a.may q b).2 f c).2
def qp9 {key:Nm} {p:Pn}:∀ {l:List En} {i:Nat},p∈qak i l key->(i:Int)<=p.1/\p.1<(i+l.length:Nat)
 |[],i,h=>by simp [qak] at h
 |q::l,i,h=>by
  rw [qak] at h;rcases aC.1 h with h|h
  ·unfold qbb at h
   obtain ⟨t,_,rfl⟩:=tA.1 h;simp only [nA];omega
  ·have :=qp9 h
   simp only [nA];omega
def qzd {l:List En} {key:Nm} (b:key∈qah l):0<(qak 0 l key).length:=by
 have ⟨q,a,t,c,e⟩:=qef.1 b;exact qls ⟨q,a,t,c,e⟩
def qqa (a:qbz G):qeK (qac G)=true:=by
 refine qfy.2 ⟨by simp [qac],by simp [qac],a.rise,qgx.2 (qgW G),fun l e=> ?_⟩;obtain ⟨key,g,rfl⟩:=tA.1 e;have c:(qac G).ids.length=G.length:=by simp [qac]
 have h:=qzd g;have b:=qlv (key:=key) (i:=0) (last:= -1) a.good (by omega) (by have :=a.few;omega);unfold qcZ;rw [b,c,sD,xA,gC,gC];refine ⟨by omega,fun p d=> ?_⟩;have :=(qp9 (List.mem_of_getLast? d)).2;simpa using this
def qlj (b:qbz G):(qah G).length<=400000:=by
 have h1:=qhP (l:=G) (a:=[]) (M:=4000) fun q c=>qgw (b.good q c)
 have h2:(qah G).length<=G.length*4000+([]:List Nm).length:=h1;have :=b.few;simp only [vB] at h2;omega
def qiY (a:qbz G):qg0 (qac G):=by
 refine ⟨by have :=a.few;simp [qac];omega,by have :=qlj a;simp only [qac];omega,fun l c=> ?_⟩;obtain ⟨key,e,rfl⟩:=tA.1 c;have h1:=qhQ a.good (key:=key) G 0 (fun q d=>d);have h2:=qnA (l:=qak 0 G key) (n:=500) fun p b=>(qlt a.good p b).2
 have :=a.few;exact ⟨by omega,by omega⟩
def qlk (b:qbz G):qg1 (qac G):=by
 have a:=qiY b;have d:=a.keys;have e:=a.ids;refine ⟨by omega,by simp [qac] at e ⊢;omega,by omega,by simp [qac] at d ⊢;omega,fun l c=>⟨by have :=(a.lists l c).1;omega,fun p g=> ?_⟩⟩;obtain ⟨key,d,rfl⟩:=tA.1 c;have :=(qlt b.good p g).2;omega
def qqb (S:Nat->Prop) (B:Nat) (l:List En) (up:Int) (q:En) (w:World) (e:Ending) (w':World):Prop:=
 e= .returned (.int .i64 (qhO up q))/\(qhO up q≠0->wG w w')/\(qhO up q=0->∃ a,qdf a w' B (l++[q]) q.2.2/\(∀ k,a k->S k\/w.heap.size<=k)/\qcb S w w')
def qze {l:List En} {up:Int} (G:qdf S w B l up) (q:En) (A:Option Addr) (n r:Nat) (aq:q.2.1.length=n) (dz:n<=r) (ah:qa2 (fun k=>k<w.heap.size/\¬ S k) w A (flds q.2.1)) (dm:A=none\/∃ b o,A=some ⟨b,o,none⟩)
    (ds:n<=1048576) (bx:∀ f∈q.2.1,f.1.length<=1024/\f.2.length<=1024) (dd:l.length<=1000):
    yG 30 #[.pointer (some ⟨B,0,none⟩),.agg #[.int .i64 q.1,.slice A n r,.int .i64 q.2.2]] w (qqb S B l up q w):=by
  have ⟨b4,ce,b9,ca,cg⟩:=lG qlD;obtain ⟨v,M,c,g,aa⟩:=G;obtain ⟨id,h,seq⟩:=q;simp only at aq ah bx ⊢;have bq:=mG aa.cells;have ⟨bt,bl⟩:=qE (w.alloc (.cells #[.int .i64 id,.slice A n r,.int .i64 seq] 61));have ac:wG w bt:=by rw [bl];exact (bA _ _).alloc (aA _) _
  have b6:qap w w.heap.size A h:=ah.imp fun k D=>D.1
  have cd:qbM S B M c (id,h,seq) A r v l (qdL l) up g w bt:=by
    refine ⟨(ac.block _ bq).trans aa.cells,(aa.own.keeps fun k _ D=>ac.block k D).imp fun k D=> .inl D,(aa.map.keep fun k _ D=>ac.block k D).imp fun k D=> .inl D,qcb.of_below ac,?_,aa.mine,b6.below ac,fun e=> ?_⟩
    · rw [bl,aq]
      exact jA w _
    · have ⟨cs,dk,_⟩:=aa.own
      exact absurd (dk.lt _ e).2 (Nat.lt_irrefl _)
  have cx:qI (∀ w',wG bt w'->yG 62 #[qb8 id A n r] w' fun e dn=>e= .returned (.int .i64 (qbC h))/\wG w' dn):=qH fun w' G=>qAI id A n r h w' aq ((b6.later ac).later G) (by omega) dz fun f ah=>by have :=bx f ah;omega
  have ap:qI (∀ e w',qqb S B l up (id,h,seq) w e w'↔(e= .returned (.int .i64 (if qbC h≠0 then qbC h else if seq<0\/seq<=up then 12 else 0))/\((if qbC h≠0 then qbC h else if seq<0\/seq<=up then 12 else 0)≠0->wG w w')/\((if qbC h≠0 then qbC h else if seq<0\/seq<=up then 12 else 0)=0->∃ cp,qdf cp w' B (l++[(id,h,seq)]) seq/\(∀ k,cp k->S k\/w.heap.size<=k)/\qcb S w w'))):=qH fun e w'=>Iff.rfl
  have cz:qbC h=0->qc9 h:=fun G=>qk5 G fun f ah=>(bx f ah).2
  have d3:=aa.up1;have c5:=qH cz;have du:=qH cd;have ao:=qH aa;have bk:=qH ah;have af:=qH aq;have c7:=qH ac;have ⟨Q,P,q2⟩:=qfA cd.ent;simp only [aq] at Q P q2;have c6:=qH bl;clear cz cd aa ah aq ac bx b6 bl;have ⟨E,c2⟩:=qE (qbC h);rw [<- c2] at cx ap c5;clear c2
  go_enter func30,ntmps30
  rw [c6.o] at Q P q2
  go_upto_region 2 with (first
    | (go_at_call 62; rw [show w.alloc _ = bt from c6.o.symm]; (with_reducible refine (cx.o _ (bA _ _)).mono ?_); rintro e d2 ⟨rfl, cb⟩
       have bp:=qH (du.o.below cb);have ci:=qH (c7.o.trans (cb.mono c7.o.size));clear cb))
  by_cases aw:E=0
  · subst aw
    clear Q P q2;have ⟨Q,P,q2⟩:=qfA bp.o.ent;have ⟨bc,be,b1,bm,bg,bf,b2,bh⟩:=qcA bp.o.cells;simp only [af.o] at Q P q2;by_cases c0:seq<=up
    · have a9:(if (0:Int)≠0 then 0 else if seq<0\/seq<=up then (12:Int) else 0)=12:=by rw [dA (by decide),eA (.inr c0)]
      have dq:=qH a9;clear a9
      go_upto_region 4 with fail
      go_quiet (fail)
      go_wp2;go_ret;rw [dq.o] at ap;exact (ap.o _ _).2 ⟨rfl,fun _=>ci.o.trans ((qdt _ _).mono ci.o.size),fun G=>absurd G (by decide)⟩
    · have d4:up<seq:=by omega
      have a9:(if (0:Int)≠0 then 0 else if seq<0\/seq<=up then (12:Int) else 0)=0:=by rw [dA (by decide),dA (by omega)]
      rw [a9] at ap;have c1:=c5.o rfl;have bo:=qH c1;have ⟨R,U,dg,d7,_⟩:=bp.o.own.nest;subst dg;clear c0 a9 c1
      go_upto_region 4 with fail
      go_quiet (fail)
      generalize cr:World.drewN _ nq=w3;have cm:wG d2 w3:=by rw [<- cr];exact qdt _ _
      have cc:=qH (bp.o.below cm);clear cr cm Q P q2 bc be b1 bm bg bf b2 bh;have b3:qI (qbM S B M c (id,h,seq) A r (.slice R l.length U) l (qdL l) up g w w3.drew):=qH (cc.o.below (bA _ w3).drew);have dw:qI (yG 63 #[.pointer (some ⟨B,0,none⟩),qb8 id A n r,.int .i64 (l.length:Int)] w3.drew (qlh (fun k=>S k\/qbX w.heap.size w3.drew k) M c l.length h g w3.drew)):=qH (qy8 _ B M c g _ _ _ id A n r h l.length w3.drew b3.o.cells b3.o.map bo.o af.o b3.o.row dd fun key=>by
        rw [ao.o.stand.posts key];have h1:=qlg (l:=l) (i:=0) (key:=key) (M:=4000) fun q dh=>qgw (ao.o.good q dh)
        omega)
      have ⟨Q,P,q2⟩:=qfA cc.o.ent;have ⟨bc,be,b1,bm,bg,bf,b2,bh⟩:=qcA cc.o.cells;simp only [af.o] at Q P q2
      go_upto_region 6 with fail
      go_region_held3 (fun w'=>w'.cell? ⟨w.heap.size,0,none⟩=some (.int .i64 id)/\w'.cell? ⟨w.heap.size,1,none⟩=some (.slice A n r)/\w'.cell? ⟨w.heap.size,2,none⟩=some (.int .i64 seq)/\w'.cell? ⟨B,0,none⟩=some (.slice R l.length U))
        (first|exact ⟨Q,P,q2,bc⟩|exact Y.o)
        (first
          | (go_at_call 63; (with_reducible refine dw.o.mono ?_); rintro e L ⟨rfl, ct, cw⟩
             have bn:=b3.o.turned bk.o ct cw;have bb:=qH bn;have Y:qI (L.cell? ⟨w.heap.size,0,none⟩=some (.int .i64 id)/\L.cell? ⟨w.heap.size,1,none⟩=some (.slice A n r)/\L.cell? ⟨w.heap.size,2,none⟩=some (.int .i64 seq)/\L.cell? ⟨B,0,none⟩=some (.slice R l.length U)):=qH (by
               have ⟨Q,P,q2⟩:=qfA bn.ent;simp only [af.o] at Q P q2;exact ⟨Q,P,q2,(qcA bn.cells).1⟩)
             clear ct cw bn))
      clear Q P q2 bc be b1 bm bg bf b2 bh;have de:=bb.o.only.size;have ⟨bj,b7⟩:=qE (qcs l.length h g (qas h));rw [<- b7] at bb;have df:=qH b7;clear b7;have dp:=(qcA bb.o.cells).1;have cy:qI (L.cell? ⟨w.heap.size,0,none⟩=some (.int .i64 id)/\L.cell? ⟨w.heap.size,1,none⟩=some (.slice A n r)/\L.cell? ⟨w.heap.size,2,none⟩=some (.int .i64 seq)):=qH ⟨Y.o.1,Y.o.2.1,Y.o.2.2.1⟩;clear Y;have Y:=cy;clear cy;have b8:qI (yG 64 #[.agg #[.int .i64 id,.slice A n r,.int .i64 seq]] L.drew (qp6 id h seq L.drew)):=qH (qy5 id A n r h seq L.drew af.o bb.o.row dm ds);have ch:qI (∀ (s:World) (O:Option Addr) (H:Nat),h.length<=H/\H<=maxLen->qa0 L.drew.heap.size s (.slice O h.length H) h->Below L.drew.heap.size L.drew s->
          s.cell? ⟨B,0,none⟩=some (.slice R l.length U)/\(∀ o,(s.alloc o).cell? ⟨B,0,none⟩=some (.slice R l.length U))/\(s.cell? ⟨w.heap.size,0,none⟩=some (.int .i64 id)/\s.cell? ⟨w.heap.size,1,none⟩=some (.slice A n r)/\s.cell? ⟨w.heap.size,2,none⟩=some (.int .i64 seq))/\(∀ o,((s.alloc o).cell? ⟨w.heap.size,0,none⟩=some (.int .i64 id)/\(s.alloc o).cell? ⟨w.heap.size,1,none⟩=some (.slice A n r)/\(s.alloc o).cell? ⟨w.heap.size,2,none⟩=some (.int .i64 seq)))/\
          (∃ cs,s.ownsRow 0 61 3 (.slice R l.length U) l.length cs/\∀ (F N:Nat) (C:World),C.ownsRow 0 61 3 (.slice (some ⟨F,0,none⟩) (l.length+1) N) (l.length+1) (cs++[.int .i64 id,.slice O h.length H,.int .i64 seq])->
            (s.alloc (.cells #[.int .i64 id,.slice O h.length H,.int .i64 seq] 61)).grownBy C (Value.slice R l.length U).ownBlock->((Value.slice R l.length U).ownBlock=some F\/F=s.heap.size+1)->F<C.heap.size->
            C.heap[B]?=some (.cells #[.slice R l.length U,.map (some M),.int .i64 (qdL l:Int),.int .i64 up] 126 (0,0))/\(C.cell? ⟨w.heap.size,0,none⟩=some (.int .i64 id)/\C.cell? ⟨w.heap.size,1,none⟩=some (.slice A n r)/\C.cell? ⟨w.heap.size,2,none⟩=some (.int .i64 seq))/\((C.setCell ⟨B,0,none⟩ (.slice (some ⟨F,0,none⟩) (l.length+1) N)).cell? ⟨w.heap.size,0,none⟩=some (.int .i64 id)/\(C.setCell ⟨B,0,none⟩ (.slice (some ⟨F,0,none⟩) (l.length+1) N)).cell? ⟨w.heap.size,1,none⟩=some (.slice A n r)/\(C.setCell ⟨B,0,none⟩ (.slice (some ⟨F,0,none⟩) (l.length+1) N)).cell? ⟨w.heap.size,2,none⟩=some (.int .i64 seq))/\
            qbM S B M c (id,h,seq) A r (.slice (some ⟨F,0,none⟩) (l.length+1) N) (l++[(id,h,seq)]) (qdL l) up bj w (C.setCell ⟨B,0,none⟩ (.slice (some ⟨F,0,none⟩) (l.length+1) N)))/\True):=qH fun s O H ax an am=>by
        have a0:=bb.o.below ((bA _ L).drew.trans am);have Z:∀ {p:World},p.heap[w.heap.size]?=some (.cells #[.int .i64 id,.slice A h.length r,.int .i64 seq] 61 (0,0))->(p.cell? ⟨w.heap.size,0,none⟩=some (.int .i64 id)/\p.cell? ⟨w.heap.size,1,none⟩=some (.slice A n r)/\p.cell? ⟨w.heap.size,2,none⟩=some (.int .i64 seq)):=fun {p} G=>by
          have :=qfA G;rw [af.o] at this;exact this
        have cq:∀ o,wG s (s.alloc o):=fun o=>(bA _ _).alloc (aA _) o
        have ⟨cs,aj,X⟩:=a0.push bk.o bq (an.low de) ax;refine ⟨(qcA a0.cells).1,fun o=>(qcA (a0.below (cq o)).cells).1,Z a0.ent,fun o=>Z (a0.below (cq o)).ent,⟨cs,aj,fun F N C h1 h2 h3 dj=> ?_⟩,trivial⟩;have ⟨dv,dy,cn⟩:=X F N C h1 h2 h3 dj;exact ⟨dv,Z dy,Z cn.ent,cn⟩
      go_upto_region 7 with fail
      go_cut [] from 28 to 38 (fun p=>∃ (V:Value),qbM S B M c (id,h,seq) A r V (l++[(id,h,seq)]) (qdL l) up bj w p)
      case first=>
        refine wp_region_held_drew (S:=(fun w'=>w'.cell? ⟨w.heap.size,0,none⟩=some (.int .i64 id)/\w'.cell? ⟨w.heap.size,1,none⟩=some (.slice A n r)/\w'.cell? ⟨w.heap.size,2,none⟩=some (.int .i64 seq))) (by kernel_rfl) Y.o (fun d0=> ?_)
        refine tk 0 (.pointer (some ⟨B,0,none⟩)) rfl (Or.inl ⟨by rfl,fun p j=>by obtain ⟨z,y,x⟩:=j;go_simp⟩) ?_
        try simp only [Act.put,zA,zB,zD,zE,zF]
        refine tk 1 (.pointer (some ⟨B,0,none⟩)) rfl (Or.inl ⟨by rfl,fun p j=>by obtain ⟨z,y,x⟩:=j;go_simp⟩) ?_
        try simp only [Act.put,zA,zB,zC,zD,zE,zF]
        refine tk 2 (.pointer (some ⟨B,0,none⟩)) rfl (Or.inl ⟨by rfl,fun p j=>by obtain ⟨z,y,x⟩:=j;go_simp⟩) ?_
        try simp only [Act.put,zA,zB,zC,zD,zE,zF]
        refine tk 3 (.pointer (some ⟨B,0,none⟩)) rfl (Or.inl ⟨by rfl,fun p j=>by obtain ⟨z,y,x⟩:=j;go_simp⟩) ?_
        try simp only [Act.put,zA,zB,zC,zD,zE,zF]
        refine tk 5 (.agg #[.int .i64 id,.slice A n r,.int .i64 seq]) rfl (Or.inl ⟨by rfl,fun p j=>by obtain ⟨z,y,x⟩:=j;go_simp⟩) ?_
        try simp only [Act.put,zA,zB,zC,zD,zE,zF]
        refine tkr (rs:=[4,6]) (by kernel_rfl) (by simp) ?_;refine tkc rfl (fun m d=> ?_) (tkc rfl (fun m d=> ?_) tkn)
        · try simp only [zA,zB,zC]
          go_simp;refine d.out _ _ ?_ (fun cf=> ?_)
          · exact Y.o
          clear d m
          try simp only [Act.put,zA,zB,zC,zD,zE,zF]
          refine tkr (rs:=[6]) (by kernel_rfl) (by simp) ?_;refine tkc rfl (fun m d=> ?_) tkn
          try simp only [zA,zB,zC]
          go_simp
          go_at_call 64
          (with_reducible refine b8.o.mono ?_)
          rintro e s ⟨O,H,rfl,ax,an,am⟩;have ⟨b0,br,a8,a5,az,cl⟩:=ch.o s O H ax an am;have bu:=qH a8;have ar:=qH a5;have bs:=qH az;clear b0 br a8 a5 az cl an am
          go_wp2_with fail
          refine d.out _ _ ?_ (fun bi=> ?_)
          · exact bu.o
          clear d m
          try simp only [Act.put,zA,zB,zC,zD,zE,zF]
          refine tkr (rs:=[7]) (by kernel_rfl) (by simp) ?_;refine tkc rfl (fun m d=> ?_) tkn
          try simp only [zA,zB,zC]
          go_simp;refine d.out _ _ ?_ (fun bd=> ?_)
          · exact ar.o _
          clear d m
          try simp only [Act.put,zA,zB,zC,zD,zE,zF]
          refine tkr (rs:=[8]) (by kernel_rfl) (by simp) ?_;refine tkc rfl (fun m d=> ?_) tkn
          try simp only [zA,zB,zC]
          have ⟨cs,aj,X⟩:=bs.o;have au:=qH X;clear X;refine step_append_lies (a:=⟨_,_⟩) _ ?_ (.tmp 32) (.tmp 35) 27 ?_ 0 61 b4 _ 3 40 underlying27 ce b9 ca cg rfl (by omega) (.slice R l.length U) l.length cs ?_ (aj.alloc _)
            ⟨s.heap.size,0,none⟩ 1 1 [.int .i64 id,.slice O h.length H,.int .i64 seq] ?_ (by rfl) (World.news_of_block (cs:=#[.int .i64 id,.slice O h.length H,.int .i64 seq]) (t:=61) (fr:=(0,0)) (jA s _)) (by intro u hu;simp at hu;rcases hu with hu|hu|hu<;>(subst hu;rfl))
            (by omega) (by unfold maxLen;omega) (by omega) (by simp) (s.heap.size+1) (by simp) ?_
          · rfl
          · rfl
          · rfl
          · rfl
          intro F N C ab ad ai a7;have ⟨W,ag,ae,J⟩:=au.o F N C ab ad ai a7;have x:=(qcA W).1;have ba:=(qcA W).2.2.2.2.1;have a6:=qH J;clear ab ad ai W J;refine d.out _ _ ?_ (fun c8=> ?_)
          · exact ag
          clear d m
          try simp only [Act.put,zD,zE,zF]
          refine tk 9 (.pointer (some ⟨B,0,none⟩)) rfl (Or.inl ⟨by rfl,fun p j=>by obtain ⟨z,y,x⟩:=j;go_simp⟩) ?_
          try simp only [Act.put,zA,zB,zC,zD,zE,zF]
          refine tk 10 (.pointer (some ⟨B,0,none⟩)) rfl (Or.inl ⟨by rfl,fun p j=>by obtain ⟨z,y,x⟩:=j;go_simp⟩) ?_
          try simp only [Act.put,zA,zB,zC,zD,zE,zF]
          refine tkr (rs:=[11]) (by kernel_rfl) (by simp) ?_;refine tkc rfl (fun m d=> ?_) tkn
          try simp only [zA,zB,zC]
          go_simp;refine d.out _ _ ?_ (fun db=> ?_)
          · exact ae
          clear d m
          try simp only [Act.put,zA,zB,zC,zD,zE,zF]
          refine tkd (by kernel_rfl) ?_ _;clear ag ae x ba
          go_wp2_with fail
          go_meet;exact ⟨_,a6.o⟩
        · try simp only [zA,zB,zC]
          go_simp
          go_at_call 64
          (with_reducible refine b8.o.mono ?_)
          rintro e s ⟨O,H,rfl,ax,an,am⟩;have ⟨b0,br,a8,a5,az,cl⟩:=ch.o s O H ax an am;have eb:=b0;have d6:=br;have bu:=qH a8;have ar:=qH a5;have bs:=qH az;clear b0 br a8 a5 az cl an am
          go_wp2_with fail
          refine d.out _ _ ?_ (fun cf=> ?_)
          · exact bu.o
          clear d m
          try simp only [Act.put,zA,zB,zC,zD,zE,zF]
          refine tkr (rs:=[4,7]) (by kernel_rfl) (by simp) ?_;refine tkc rfl (fun m d=> ?_) (tkc rfl (fun m d=> ?_) tkn)
          · try simp only [zA,zB,zC]
            go_simp;refine d.out _ _ ?_ (fun bi=> ?_)
            · exact bu.o
            clear d m
            try simp only [Act.put,zA,zB,zC,zD,zE,zF]
            refine tkr (rs:=[7]) (by kernel_rfl) (by simp) ?_;refine tkc rfl (fun m d=> ?_) tkn
            try simp only [zA,zB,zC]
            go_simp;refine d.out _ _ ?_ (fun bd=> ?_)
            · exact ar.o _
            clear d m
            try simp only [Act.put,zA,zB,zC,zD,zE,zF]
            refine tkr (rs:=[8]) (by kernel_rfl) (by simp) ?_;refine tkc rfl (fun m d=> ?_) tkn
            try simp only [zA,zB,zC]
            have ⟨cs,aj,X⟩:=bs.o;have au:=qH X;clear X;refine step_append_lies (a:=⟨_,_⟩) _ ?_ (.tmp 32) (.tmp 35) 27 ?_ 0 61 b4 _ 3 40 underlying27 ce b9 ca cg rfl (by omega) (.slice R l.length U) l.length cs ?_ (aj.alloc _)
              ⟨s.heap.size,0,none⟩ 1 1 [.int .i64 id,.slice O h.length H,.int .i64 seq] ?_ (by rfl) (World.news_of_block (cs:=#[.int .i64 id,.slice O h.length H,.int .i64 seq]) (t:=61) (fr:=(0,0)) (jA s _)) (by intro u hu;simp at hu;rcases hu with hu|hu|hu<;>(subst hu;rfl))
              (by omega) (by unfold maxLen;omega) (by omega) (by simp) (s.heap.size+1) (by simp) ?_
            · rfl
            · rfl
            · rfl
            · rfl
            intro F N C ab ad ai a7;have ⟨W,ag,ae,J⟩:=au.o F N C ab ad ai a7;have x:=(qcA W).1;have ba:=(qcA W).2.2.2.2.1;have a6:=qH J;clear ab ad ai W J;refine d.out _ _ ?_ (fun c8=> ?_)
            · exact ag
            clear d m
            try simp only [Act.put,zD,zE,zF]
            refine tk 9 (.pointer (some ⟨B,0,none⟩)) rfl (Or.inl ⟨by rfl,fun p j=>by obtain ⟨z,y,x⟩:=j;go_simp⟩) ?_
            try simp only [Act.put,zA,zB,zC,zD,zE,zF]
            refine tk 10 (.pointer (some ⟨B,0,none⟩)) rfl (Or.inl ⟨by rfl,fun p j=>by obtain ⟨z,y,x⟩:=j;go_simp⟩) ?_
            try simp only [Act.put,zA,zB,zC,zD,zE,zF]
            refine tkr (rs:=[11]) (by kernel_rfl) (by simp) ?_;refine tkc rfl (fun m d=> ?_) tkn
            try simp only [zA,zB,zC]
            go_simp;refine d.out _ _ ?_ (fun db=> ?_)
            · exact ae
            clear d m
            try simp only [Act.put,zA,zB,zC,zD,zE,zF]
            refine tkd (by kernel_rfl) ?_ _;clear ag ae x ba
            go_wp2_with fail
            go_meet;exact ⟨_,a6.o⟩
          · try simp only [zA,zB,zC]
            go_simp;refine d.out _ _ ?_ (fun bi=> ?_)
            · exact ar.o _
            clear d m
            try simp only [Act.put,zA,zB,zC,zD,zE,zF]
            refine tkr (rs:=[4]) (by kernel_rfl) (by simp) ?_;refine tkc rfl (fun m d=> ?_) tkn
            try simp only [zA,zB,zC]
            go_simp;refine d.out _ _ ?_ (fun bd=> ?_)
            · exact ar.o _
            clear d m
            try simp only [Act.put,zA,zB,zC,zD,zE,zF]
            refine tkr (rs:=[8]) (by kernel_rfl) (by simp) ?_;refine tkc rfl (fun m d=> ?_) tkn
            try simp only [zA,zB,zC]
            have ⟨cs,aj,X⟩:=bs.o;have au:=qH X;clear X;refine step_append_lies (a:=⟨_,_⟩) _ ?_ (.tmp 32) (.tmp 35) 27 ?_ 0 61 b4 _ 3 40 underlying27 ce b9 ca cg rfl (by omega) (.slice R l.length U) l.length cs ?_ (aj.alloc _)
              ⟨s.heap.size,0,none⟩ 1 1 [.int .i64 id,.slice O h.length H,.int .i64 seq] ?_ (by rfl) (World.news_of_block (cs:=#[.int .i64 id,.slice O h.length H,.int .i64 seq]) (t:=61) (fr:=(0,0)) (jA s _)) (by intro u hu;simp at hu;rcases hu with hu|hu|hu<;>(subst hu;rfl))
              (by omega) (by unfold maxLen;omega) (by omega) (by simp) (s.heap.size+1) (by simp) ?_
            · rfl
            · rfl
            · rfl
            · rfl
            intro F N C ab ad ai a7;have ⟨W,ag,ae,J⟩:=au.o F N C ab ad ai a7;have x:=(qcA W).1;have ba:=(qcA W).2.2.2.2.1;have a6:=qH J;clear ab ad ai W J;refine d.out _ _ ?_ (fun c8=> ?_)
            · exact ag
            clear d m
            try simp only [Act.put,zD,zE,zF]
            refine tk 9 (.pointer (some ⟨B,0,none⟩)) rfl (Or.inl ⟨by rfl,fun p j=>by obtain ⟨z,y,x⟩:=j;go_simp⟩) ?_
            try simp only [Act.put,zA,zB,zC,zD,zE,zF]
            refine tk 10 (.pointer (some ⟨B,0,none⟩)) rfl (Or.inl ⟨by rfl,fun p j=>by obtain ⟨z,y,x⟩:=j;go_simp⟩) ?_
            try simp only [Act.put,zA,zB,zC,zD,zE,zF]
            refine tkr (rs:=[11]) (by kernel_rfl) (by simp) ?_;refine tkc rfl (fun m d=> ?_) tkn
            try simp only [zA,zB,zC]
            go_simp;refine d.out _ _ ?_ (fun db=> ?_)
            · exact ae
            clear d m
            try simp only [Act.put,zA,zB,zC,zD,zE,zF]
            refine tkd (by kernel_rfl) ?_ _;clear ag ae x ba
            go_wp2_with fail
            go_meet;exact ⟨_,a6.o⟩
      case rest=>
        obtain ⟨al,rfl⟩:=qE wc;obtain ⟨cv,J⟩:=hcut;have Z:∀ {p:World},p.heap[w.heap.size]?=some (.cells #[.int .i64 id,.slice A h.length r,.int .i64 seq] 61 (0,0))->(p.cell? ⟨w.heap.size,0,none⟩=some (.int .i64 id)/\p.cell? ⟨w.heap.size,1,none⟩=some (.slice A n r)/\p.cell? ⟨w.heap.size,2,none⟩=some (.int .i64 seq)):=fun {p} G=>by
          have :=qfA G;rw [af.o] at this;exact this
        have c9:=qzm ao.o.good;have d1:=bo.o.weight;have b5:=qH (qBw (id:=id) (c:=r) (w:=al.drew) bo.o af.o J.row);have bz:qdL (l++[(id,h,seq)])=qdL l+qft h:=by unfold qdL;simp
        have ⟨T,cu⟩:=qE (qdL l);have ⟨K,c4⟩:=qE (qft h);rw [<- cu] at c9 J bz;rw [<- c4] at d1 b5 bz;have ea:T<=500000:=by omega
        have dx:=qH bz;have d9:IntKind.i64.wrap ((T:Int)+(K:Int))=(T:Int)+(K:Int):=iG _ (by omega);have c3:qI (al.cell? ⟨w.heap.size,0,none⟩=some (.int .i64 id)/\al.cell? ⟨w.heap.size,1,none⟩=some (.slice A n r)/\al.cell? ⟨w.heap.size,2,none⟩=some (.int .i64 seq)):=qH (Z J.ent);have d8:=(qcA J.cells).2.2.1;have dc:qI (∀ I,Below al.drew.heap.size al.drew I->I.cell? ⟨B,2,none⟩=some (.int .i64 (T:Int))/\I.frozen? ⟨B,2,none⟩=false/\(I.cell? ⟨w.heap.size,0,none⟩=some (.int .i64 id)/\I.cell? ⟨w.heap.size,1,none⟩=some (.slice A n r)/\I.cell? ⟨w.heap.size,2,none⟩=some (.int .i64 seq))/\qbM S B M c (id,h,seq) A r cv (l++[(id,h,seq)]) ((T:Int)+(K:Int)) up bj w (I.setCell ⟨B,2,none⟩ (.int .i64 ((T:Int)+(K:Int))))/\((I.setCell ⟨B,2,none⟩ (.int .i64 ((T:Int)+(K:Int)))).cell? ⟨w.heap.size,0,none⟩=some (.int .i64 id)/\(I.setCell ⟨B,2,none⟩ (.int .i64 ((T:Int)+(K:Int)))).cell? ⟨w.heap.size,1,none⟩=some (.slice A n r)/\(I.setCell ⟨B,2,none⟩ (.int .i64 ((T:Int)+(K:Int)))).cell? ⟨w.heap.size,2,none⟩=some (.int .i64 seq))):=qH fun I ak=>by
          have a4:=J.below ((bA _ al).drew.trans ak);have co:=a4.stored (w':=I.setCell ⟨B,2,none⟩ (.int .i64 ((T:Int)+(K:Int)))) bk.o bq ((T:Int)+(K:Int)) up (by rw [qdo a4.cells];rfl) (fun k D=>qeh (Ne.symm D)) (by simp) rfl rfl rfl;exact ⟨(qcA a4.cells).2.2.1,(qcA a4.cells).2.2.2.2.2.2.1,Z a4.ent,co,Z co.ent⟩
        clear c9 cu c4 bz J dp Y b8 ch
        go_upto_region 8 with fail
        go_cut [] from 39 to 48 (fun p=>qbM S B M c (id,h,seq) A r cv (l++[(id,h,seq)]) ((T:Int)+(K:Int)) up bj w p)
        case first=>
          refine wp_region_held_drew (S:=(fun w'=>w'.cell? ⟨w.heap.size,0,none⟩=some (.int .i64 id)/\w'.cell? ⟨w.heap.size,1,none⟩=some (.slice A n r)/\w'.cell? ⟨w.heap.size,2,none⟩=some (.int .i64 seq))) (by kernel_rfl) c3.o (fun d0=> ?_)
          refine tk 0 (.pointer (some ⟨B,0,none⟩)) rfl (Or.inl ⟨by rfl,fun p j=>by obtain ⟨z,y,x⟩:=j;go_simp⟩) ?_
          try simp only [Act.put,zA,zB,zD,zE,zF]
          refine tk 1 (.pointer (some ⟨B,0,none⟩)) rfl (Or.inl ⟨by rfl,fun p j=>by obtain ⟨z,y,x⟩:=j;go_simp⟩) ?_
          try simp only [Act.put,zA,zB,zC,zD,zE,zF]
          refine tk 2 (.pointer (some ⟨B,2,none⟩)) rfl (Or.inl ⟨by rfl,fun p j=>by obtain ⟨z,y,x⟩:=j;go_simp⟩) ?_
          try simp only [Act.put,zA,zB,zC,zD,zE,zF]
          refine tk 4 (.pointer (some ⟨w.heap.size,0,none⟩)) rfl (Or.inl ⟨by rfl,fun p j=>by obtain ⟨z,y,x⟩:=j;go_simp⟩) ?_
          try simp only [Act.put,zA,zB,zC,zD,zE,zF]
          refine tk 5 (.agg #[.int .i64 id,.slice A n r]) rfl (Or.inl ⟨by rfl,fun p j=>by obtain ⟨z,y,x⟩:=j;go_simp⟩) ?_
          try simp only [Act.put,zA,zB,zC,zD,zE,zF]
          refine tkr (rs:=[3,6]) (by kernel_rfl) (by simp) ?_;refine tkc rfl (fun m d=> ?_) (tkc rfl (fun m d=> ?_) tkn)
          · try simp only [zA,zB,zC]
            go_simp;refine d.out _ _ ?_ (fun cf=> ?_)
            · exact c3.o
            clear d m
            try simp only [Act.put,zA,zB,zC,zD,zE,zF]
            refine tkr (rs:=[6]) (by kernel_rfl) (by simp) ?_;refine tkc rfl (fun m d=> ?_) tkn
            try simp only [zA,zB,zC]
            go_simp
            go_at_call 65
            (with_reducible refine b5.o.mono ?_)
            rintro e I ⟨rfl,ak⟩;have ⟨av,a2,a1,a3,ay⟩:=dc.o I ak;have dt:=av;have u9:=a2;have bv:=qH a1;have ck:=qH a3;have cj:=qH ay;clear av a2 a1 a3 ay ak
            go_wp2_with fail
            refine d.out _ _ ?_ (fun bi=> ?_)
            · exact bv.o
            clear d m
            try simp only [Act.put,zA,zB,zC,zD,zE,zF]
            refine tk 7 (.int .i64 ((T:Int)+(K:Int))) rfl (Or.inl ⟨by rfl,fun p j=>by obtain ⟨z,y,x⟩:=j;go_simp⟩) ?_
            try simp only [Act.put,zA,zB,zC,zD,zE,zF]
            refine tk 8 (.pointer (some ⟨B,0,none⟩)) rfl (Or.inl ⟨by rfl,fun p j=>by obtain ⟨z,y,x⟩:=j;go_simp⟩) ?_
            try simp only [Act.put,zA,zB,zC,zD,zE,zF]
            refine tk 9 (.pointer (some ⟨B,2,none⟩)) rfl (Or.inl ⟨by rfl,fun p j=>by obtain ⟨z,y,x⟩:=j;go_simp⟩) ?_
            try simp only [Act.put,zA,zB,zC,zD,zE,zF]
            refine tkr (rs:=[10]) (by kernel_rfl) (by simp) ?_;refine tkc rfl (fun m d=> ?_) tkn
            try simp only [zA,zB,zC]
            go_simp;refine d.out _ _ ?_ (fun bd=> ?_)
            · exact cj.o
            clear d m
            try simp only [Act.put,zA,zB,zC,zD,zE,zF]
            refine tkd (by kernel_rfl) ?_ _
            go_wp2_with fail
            go_meet;exact ck.o
          · try simp only [zA,zB,zC]
            go_simp
            go_at_call 65
            (with_reducible refine b5.o.mono ?_)
            rintro e I ⟨rfl,ak⟩;have ⟨av,a2,a1,a3,ay⟩:=dc.o I ak;have dt:=av;have u9:=a2;have bv:=qH a1;have ck:=qH a3;have cj:=qH ay;clear av a2 a1 a3 ay ak
            go_wp2_with fail
            refine d.out _ _ ?_ (fun cf=> ?_)
            · exact bv.o
            clear d m
            try simp only [Act.put,zA,zB,zC,zD,zE,zF]
            refine tkr (rs:=[3]) (by kernel_rfl) (by simp) ?_;refine tkc rfl (fun m d=> ?_) tkn
            try simp only [zA,zB,zC]
            go_simp;refine d.out _ _ ?_ (fun bi=> ?_)
            · exact bv.o
            clear d m
            try simp only [Act.put,zA,zB,zC,zD,zE,zF]
            refine tk 7 (.int .i64 ((T:Int)+(K:Int))) rfl (Or.inl ⟨by rfl,fun p j=>by obtain ⟨z,y,x⟩:=j;go_simp⟩) ?_
            try simp only [Act.put,zA,zB,zC,zD,zE,zF]
            refine tk 8 (.pointer (some ⟨B,0,none⟩)) rfl (Or.inl ⟨by rfl,fun p j=>by obtain ⟨z,y,x⟩:=j;go_simp⟩) ?_
            try simp only [Act.put,zA,zB,zC,zD,zE,zF]
            refine tk 9 (.pointer (some ⟨B,2,none⟩)) rfl (Or.inl ⟨by rfl,fun p j=>by obtain ⟨z,y,x⟩:=j;go_simp⟩) ?_
            try simp only [Act.put,zA,zB,zC,zD,zE,zF]
            refine tkr (rs:=[10]) (by kernel_rfl) (by simp) ?_;refine tkc rfl (fun m d=> ?_) tkn
            try simp only [zA,zB,zC]
            go_simp;refine d.out _ _ ?_ (fun bd=> ?_)
            · exact cj.o
            clear d m
            try simp only [Act.put,zA,zB,zC,zD,zE,zF]
            refine tkd (by kernel_rfl) ?_ _
            go_wp2_with fail
            go_meet;exact ck.o
        case rest=>
          obtain ⟨dl,rfl⟩:=qE wc;have q2:=(Z hcut.ent).2.2;have ⟨bc,be,b1,bm,bg,bf,b2,bh⟩:=qcA hcut.cells;have bw:=hcut.stored (w':=dl.setCell ⟨B,3,none⟩ (.int .i64 seq)) bk.o bq ((T:Int)+(K:Int)) seq (by rw [qdo hcut.cells];rfl) (fun k D=>qeh (Ne.symm D)) (by simp) rfl rfl rfl;rw [show (T:Int)+(K:Int)=((qdL (l++[(id,h,seq)]):Nat):Int) by rw [dx.o];push_cast;rfl,df.o] at bw;have da:=qbM.done bw ao.o.lt ao.o.stand ao.o.good bo.o (show (0:Int)<=seq by omega);have dr:=qH da;have di:=qH bw.only;clear hcut bw da;go_wp2;go_ret;exact (ap.o _ _).2 ⟨rfl,fun G=>absurd rfl G,fun _=>⟨_,dr.o,fun k D=>D.imp (fun G=>G) fun D=>D.1,di.o⟩⟩
  · have d5:(E != 0)=true:=by simpa using aw
    go_wp2;go_ret;refine (ap.o _ _).2 ⟨by rw [eA aw];rfl,fun _=>ci.o,fun G=>absurd G (by rw [eA aw];exact aw)⟩
def qzf {l:List Dc} {start step:Int} (a:i<(qcL l k start step).length):((qcL l k start step)[i]).2.2=start+step*(i:Int):=by
 simp [qcL]
structure qeJ (S:Nat->Prop) (B:Nat) (L:List En) (up:Int) (V:Value) (G:List En) (w wr:World):Prop where
 buf:qdf S wr B L up
 ge:∀ k,S k->w.heap.size<=k
 own:qa6 (fun k=>k<w.heap.size) wr V G
 bel:wG w wr
section
variable {S:Nat->Prop} {B:Nat} {L:List En} {up:Int} {V:Value} {G:List En} {w wr w':World}
def qeJ.keep (a:qeJ S B L up V G w wr) (b:∀ k,S k->w'.heap[k]?=wr.heap[k]?) (c:Below w.heap.size wr w'):qeJ S B L up V G w w':=
 ⟨a.buf.keep b c.size,a.ge,a.own.keeps fun k b _=>c.block k b,a.bel.trans c⟩
def qeJ.below (a:qeJ S B L up V G w wr) (b:wG wr w'):qeJ S B L up V G w w':=a.keep (fun k c=>b.block k (a.buf.lt k c)) (b.mono a.bel.size)
def qeJ.add (j:qeJ S B L up V G w wr) (D:qbz G) (C:L.length<=1000) {i:Nat} (p:i<G.length) (Q:0<=G[i].2.2) (O:up<G[i].2.2):
  ∃ b l A c,V= .slice (some ⟨b,0,none⟩) G.length l/\b<wr.heap.size/\wr.cell? ⟨b,i*3,none⟩=some (.int .i64 G[i].1)/\wr.cell? ⟨b,i*3+1,none⟩=some (.slice A G[i].2.1.length c)/\wr.cell? ⟨b,i*3+2,none⟩=some (.int .i64 G[i].2.2)/\
   ∀ d,wG wr d->yG 30 #[.pointer (some ⟨B,0,none⟩),.agg #[.int .i64 G[i].1,.slice A G[i].2.1.length c,.int .i64 G[i].2.2]] d fun e w'=>e= .returned (.int .i64 0)/\∃ g,qeJ g B (L++[G[i]]) G[i].2.2 V G w w'/\(∀ k,g k->S k\/d.heap.size<=k)/\qcb S d w':=by
 have ⟨b,l,A,c,y,_,x,v,H,E,F,P,n⟩:=j.own.at_ p;refine ⟨b,l,A,c,y,x,v,H,E,fun d h=> ?_⟩;have h1:=j.below h;have ⟨t,q⟩:=D.may _ (pA p);have N:qc9 G[i].2.1:=qk5 t fun f M=>(q f M).2
 have I:qa2 (fun k=>k<d.heap.size/\¬ S k) d A (flds G[i].2.1):=by
  have h2:=qa2.keep (w':=d) n.1 fun k a=>h.block k a.lt
  exact h2.imp fun k a=>⟨by have :=a.lt;have :=h.size;omega,fun K=>by have :=j.ge k K;have :=a.1;omega⟩
 refine (qze h1.buf G[i] A _ c rfl F I n.2 (by have :=N.len;omega) q C).mono ?_;rintro e w' ⟨rfl,_,h2⟩;have J:qhO up G[i]=0:=by unfold qhO;rw [dA (by rw [t];decide),dA (by omega)]
 rw [J] at h2 ⊢;have ⟨g,z,m,s⟩:=h2 rfl;have r:=s.below h1.ge h1.bel.size;exact ⟨rfl,g,⟨z,fun k a=>(m k a).elim (h1.ge k) fun a=>by have :=h1.bel.size;omega,h1.own.keeps fun k a _=>r.block k a,h1.bel.trans r⟩,m,s⟩
end
def qqc:∀ {l:List Int} {x:Int} {i:Nat},qal x l=true->(a:i<l.length)->x<l[i]/\∀ j (b:j<l.length),j<i->l[j]<l[i]
 |[],_,_,_,a=>by simp at a
 |y::l,x,i,c,a=>by
  rw [qal,xA,gC] at c;cases i with
  |zero=>exact ⟨c.1,fun j _ b=>by omega⟩
  |succ i=>
   have d:=qqc (i:=i) c.2 (by simpa using a);refine ⟨by have :=d.1;simp only [zC];omega,fun j b e=> ?_⟩;cases j with
   |zero=>exact d.1
   |succ j=>exact d.2 j (by simpa using b) (by omega)
def qbz.next (c:qbz G) {i:Nat} (a:i<G.length):0<=G[i].2.2/\qfv (G.take i)<G[i].2.2:=by
 have d:i<(G.map (·.2.2)).length:=by simpa using a
 have ⟨h1,h2⟩:=qqc c.rise d;simp only [eC] at h1 h2;refine ⟨by omega,?_⟩;rcases sF i with rfl|hp
 ·simp [qzt];omega
 ·have b:0<(G.take i).length:=by rw [sA];omega
  rw [qzu b];have e:(G.take i).length=i:=by rw [sA];omega
  simp only [e,List.getElem_take];exact h2 (i-1) (by simp;omega) (by omega)
def qzg (l:List Dc) (b:Nat) (start step:Int) (r:b<=100) (p:0<=start) (h1:1<=step):qbz (qcL l b start step) where
 may q hq:=by
  have ⟨d,m⟩:=qzw l b start step q hq;rw [m];exact ⟨qxT d,fun f h=>⟨lA (qjc d _ f h) (by omega),lA (qiF d _ f h) (by omega)⟩⟩
 rise:=by
  have c:∀ (i:Nat) (g:i<((qcL l b start step).map (·.2.2)).length),((qcL l b start step).map (·.2.2))[i]=start+step*(i:Int):=fun i g=>by
   rw [eC];exact qzf (by simpa using g)
  refine qgr ?_ ?_
  ·refine dC.2 fun i j e k s=> ?_
   rw [c i e,c j k];have :step*(i:Int)<step*(j:Int):=Int.mul_lt_mul_of_pos_left (by omega) (by omega);omega
  ·intro a n
   obtain ⟨i,e,rfl⟩:=nC n;rw [c i e];have :0<=step*(i:Int):=Int.mul_nonneg (by omega) (by omega);omega
 few:=by rw [qln];omega
def qa6.small {l:List En} (e:qa6 S w v l):qa6 (fun k=>k<w.heap.size) w v l:=by
 obtain ⟨cs,h1,h2,h3⟩:=e;refine ⟨cs,h1,fun k a=>(h1.lt k a).2,h3.imp fun A xs b=>⟨qa2.imp b.1 fun k a=> ?_,b.2⟩⟩;obtain ⟨_,cs',fr,c,d⟩:=a;exact ⟨(gA.1 c).1,cs',fr,c,d⟩
def qa6.later {l:List En} (a:qa6 S w v l) (c:wG w w'):qa6 S w' v l:=a.keeps fun k _ b=>c.block k b
def LAt.low {bs:List UInt8} {l:List Po} (g:LAt w zz B bs l) (a:b<=zz):LAt w b B bs l:=by
 obtain ⟨h1,e,c,h2,h3,d⟩:=g;exact ⟨by omega,e,c,h2,qbk h3 a,qbk d a⟩
def LAt.kinds {bs:List UInt8} {l:List Po} (m:LAt w zz B bs l) (d:∀ (k:Nat) (cs:Array Value) (t:TypeId) (fr:Nat × Nat),w.heap[k]?=some (.cells cs t fr)->t=181\/t=5\/t=206->w'.heap[k]?=some (.cells cs t fr)):LAt w' zz B bs l:=by
 obtain ⟨h1,j,e,h2,h3,i⟩:=m;have key:∀ {E:TypeId} {size:Nat} {v:Value} {n:Nat} {xs:List Value},(E=181\/E=5\/E=206)->w.ownsRow zz E size v n xs->w'.ownsRow zz E size v n xs:=fun h c=>by
  refine qaq c fun g a=> ?_
  rcases c.2 with ⟨rfl,_⟩|⟨r,q,p,rfl,_,b,_⟩
  ·cases a
  ·simp only [Value.ownBlock,jB] at a
   subst a;rw [d _ _ _ _ b h,b]
 exact ⟨h1,j,e,d _ _ _ _ h2 (.inl rfl),key (.inr (.inl rfl)) h3,key (.inr (.inr rfl)) i⟩
def LAt.grown {bs:List UInt8} {l:List Po} {size:Nat} (g:LAt w zz B bs l) (h:w.ownsRow b E size v n xs) (h1:181≠E) (h2:5≠E) (h3:206≠E) (c:w.grownBy w' v.ownBlock):LAt w' zz B bs l:=
 g.kinds fun k cs t fr a d=>(c.block k (gA.1 a).1 (fun e=>qan h a (by rcases d with rfl|rfl|rfl<;>assumption) e.symm)).trans a
def qcC.grown {V:Array Value} {size:Nat} (g:qcC w B V wr) (c:wr.ownsRow w.heap.size E size v n xs) (d:62≠E) (a:wr.grownBy w' v.ownBlock):qcC w B V w':=by
 obtain ⟨b,h1,h2⟩:=g;exact ⟨b.grown a b.size fun k h=>(c.lt k h).1,h1,(a.block B (gA.1 h2).1 (fun e=>qan c h2 d e.symm)).trans h2⟩
structure qgp (w:World) (V:Array Value) (ls:List (List Pn)) (k:Nat) (vl:Value) (bl:List Nat) (wr:World):Prop where
 len:bl.length=k
 own:wr.ownsRow w.heap.size 116 1 vl k (qbD bl)
 at_:∀ j (h:j<ls.length),j<k->LAt wr 0 (bl.getD j 0) (qae (-1) ls[j]) ls[j]
 box:qcC w w.heap.size V wr
def qgp.below {V:Array Value} {ls:List (List Pn)} {bl:List Nat} (a:qgp w V ls k v bl wr) (b:wG wr w'):qgp w V ls k v bl w':=
 ⟨a.len,qaf a.own b,fun j c d=>(a.at_ j c d).below b,a.box.below b⟩
def qgp.push {V:Array Value} {ls:List (List Pn)} {bl:List Nat} (a:qgp w V ls k v bl wr) (n:k<ls.length) {B:Nat} (m:LAt wr 0 B (qae (-1) ls[k]) ls[k])
  (h:w'.ownsRow w.heap.size 116 1 v' (k+1) (qbD bl++[.pointer (some ⟨B,0,none⟩)])) (b:wr.grownBy w' v.ownBlock):qgp w V ls (k+1) v' (bl++[B]) w':=by
 refine ⟨by rw [iA,a.len];rfl,by simpa [qbD] using h,fun j g p=> ?_,a.box.grown a.own (by decide) b⟩;have c:∀ {B:Nat} {bs:List UInt8} {l:List Po},LAt wr 0 B bs l->LAt w' 0 B bs l:=fun i=>i.grown a.own (by decide) (by decide) (by decide) b
 by_cases e:j=k
 ·subst e
  have :(bl++[B]).getD j 0=B:=by rw [mA,oC (by rw [a.len];exact aA _),a.len];simp
  rw [this];exact c m
 ·have d:j<k:=by omega
  have :(bl++[B]).getD j 0=bl.getD j 0:=by rw [mA,fD (by rw [a.len];exact d),<- mA]
  rw [this];exact c (a.at_ j g d)
def qzh (w:World) (V:Array Value) (ls:List (List Pn)) (a i:Value) (wr:World):Prop:=∃ (k:Nat) (bl:List Nat),k<=ls.length/\i= .int .i64 (k:Int)/\qgp w V ls k a bl wr
def qgV (x:qai) (w:World) (e:Ending) (w':World):Prop:=∃ S,e= .returned (.tuple #[.pointer (some ⟨S,0,none⟩),.int .i64 0])/\qbN w' S x/\w.heap.size<=S/\wG w w'
def qzi (w:World) (e:Ending) (w':World):Prop:=e= .returned (.tuple #[.pointer none,.int .i64 1])/\wG w w'
theorem qzj:(prog.info? 116).map (fun i=>(i.zero,i.size,i.bytes))=some (some (.pointer none),1,8):=by kernel_rfl
structure qiZ (Ls:List (List En)):Prop where
 good:∀ L∈Ls,qcY L/\qd4 L/\L.length<=1000
 may:∀ L∈Ls,∀ q∈L,(qbC q.2.1=0/\∀ f∈q.2.1,f.1.length<=1024/\f.2.length<=1024)/\0<=q.2.2
 few:Ls.flatten.length<=100
def qqd (d:qbu Ls rs) {o:List Pl} (b:qbS ((qaT Ls rs).map qaz) o):qau Ls (qaj rs o)=o.map (qaV (qaT Ls rs)):=by
 have c:∀ p∈o,InE (qaT Ls rs) p:=fun p a=>qgY.1 ((b.mem p).1 a)
 unfold qau qaj;rw [List.map_map];exact List.map_congr_left fun p a=>(qi6 d (c p a)).2
def qi0 (d:qbu Ls rs) {o:List Pl} (a:qbS ((qaT Ls rs).map qaz) o) (e:∀ b∈Ls,qcY b/\qd4 b/\b.length<=1000):qdN Ls (qaj rs o):=by
 have h:∀ p∈o,InE (qaT Ls rs) p:=fun p c=>qgY.1 ((a.mem p).1 c)
 refine ⟨fun q g=> ?_,?_,e⟩
 ·obtain ⟨p,c,rfl⟩:=tA.1 g
  exact (qi6 d (h p c)).1
 ·have :=qqd d a
  unfold qau at this;rw [this];exact (qi3 a).1
def qll {α:Type} [BEq α] [LawfulBEq α]:∀ {a b:List α},a.Nodup->(∀ x∈a,x∈b)->a.length<=b.length
 |[],b,_,_=>kA _
 |x::a,b,i,c=>by
  have h:=c x (eB ..);have d:=List.nodup_cons.1 i;have h1:=qll (a:=a) (b:=b.erase x) d.2 fun y g=>(List.mem_erase_of_ne (fun e=>d.1 (by subst e;exact g))).2 (c y (oB _ g))
  have h2:=List.length_erase_of_mem h;have h3:=List.length_pos_of_mem h;rw [nA];omega
def qzk (c:qbu Ls rs) {o:List Pl} (b:qbS ((qaT Ls rs).map qaz) o) (a:qiZ Ls):o.length<=100:=by
 have e:=(qi0 c b a.good).nodup;have h:∀ p∈qaj rs o,p∈((List.range Ls.length).flatMap fun i=>(List.range (Ls.getD i []).length).map fun k=>(i,k)):=fun p j=>by
  have ⟨h1,h2⟩:=(qi0 c b a.good).ins p j;exact List.mem_flatMap.2 ⟨p.1,xE.2 h1,tA.2 ⟨p.2,xE.2 h2,rfl⟩⟩
 have h1:(qaj rs o).length<=((List.range Ls.length).flatMap fun i=>(List.range (Ls.getD i []).length).map fun k=>(i,k)).length:=qll e h;have h2:((List.range Ls.length).flatMap fun i=>(List.range (Ls.getD i []).length).map fun k=>(i,k)).length=Ls.flatten.length:=by
  rw [List.length_flatMap,List.length_flatten];congr 1;refine dD (by simp) fun i l g=> ?_
  have d:i<Ls.length:=by simpa using g
  simp only [eC,List.getElem_range,gB,List.length_range,qaI d]
 have h3:=a.few;have m:(qaj rs o).length=o.length:=by simp [qaj]
 omega
def qqe (h:qbu Ls rs) {o:List Pl} (g:qbS ((qaT Ls rs).map qaz) o) (d:qiZ Ls):qbz (qau Ls (qaj rs o)):=by
 have k:=qi0 h g d.good;have j:∀ q∈qau Ls (qaj rs o),∃ c∈Ls,q∈c:=fun q b=>by
  have ⟨i,m,b⟩:=qqO k b;exact ⟨_,pA m,b⟩
 refine ⟨fun q b=> ?_,?_,?_⟩
 ·have ⟨c,e,b⟩:=j q b
  exact (d.may c e q b).1
 ·have l:qd4 (qau Ls (qaj rs o)):=k.rise
  refine qgr (aD.2 l) fun a n=> ?_
  obtain ⟨q,b,rfl⟩:=tA.1 n;have ⟨c,e,b⟩:=j q b;have :=(d.may c e q b).2;omega
 ·have :=qzk h g d
  simp only [qau,qaj,gB];exact this
def qzl {x:qai} {bl:List Nat} (y:x.ids.length=k) (t:x.seqs.length=n) (B:x.keys.length=b) (d:wG w w') (h1:Row w' w'.heap.size A (qaa x.ids)) (z:k<=c) (h2:Row w' w'.heap.size A' (qaa x.seqs)) (l:n<=j)
  (h3:Row w' w'.heap.size C (qaY x.keys bl)) (v:bl.length=x.keys.length) (E:b<=m) (G:m<=maxLen) (q:C=none/\x.keys=[]/\m=0\/∃ g,C=some ⟨g,0,none⟩)
  (D:∀ i (N:i<x.lists.length),LAt w' 0 (bl.getD i 0) (qae (-1) x.lists[i]) x.lists[i]) (r:qeK x=true) (F:qg0 x) (I:qdv 3 w' A) (H:qdv 3 w' A') (p:qdv 177 w' C):
  qgV x w (.returned (.tuple #[.pointer (some ⟨w'.heap.size,0,none⟩),.int .i64 0])) (w'.alloc (.cells #[.slice A k c,.slice A' n j,.slice C b m] 110)):=by
 subst y t B;have a:wG w' (w'.alloc (.cells #[.slice A x.ids.length c,.slice A' x.seqs.length j,.slice C x.keys.length m] 110)):=(bA _ _).alloc (aA _) _;have h:=jA w' (.cells #[.slice A x.ids.length c,.slice A' x.seqs.length j,.slice C x.keys.length m] 110);refine ⟨_,rfl,⟨⟨A,c,A',j,C,m,h,z,l,Row.later h1 a,Row.later h2 a⟩,⟨bl,⟨by simp,v,C,m,(qfx h).2.2,E,G,Row.later h3 a,q⟩,fun i s=>⟨0,(D i s).below a⟩⟩,r,F,fun M O L k P n J b K e=> ?_⟩,d.size,d.trans (a.mono d.size)⟩;rw [h] at e;simp only [jB,Obj.cells.injEq,Array.mk.injEq,List.cons.injEq,mF] at e;obtain ⟨⟨⟨rfl,_⟩,⟨rfl,_⟩,⟨rfl,_⟩,_⟩,_⟩:=e;exact ⟨I.below a,H.below a,p.below a⟩
def qhC.rowT {vs:List Nat} (b:qhC w zz B l vs) (a:w.cell? ⟨B,0,none⟩=some (.slice A n c)):qdv 177 w A:=by
 obtain ⟨_,_,v,h3,d⟩:=b;rw [kG h3] at a;injection a with a
 subst a;exact qlB d
def qqf (h g z D:Option Addr) (av n a r Y C c I:Nat) (x:qai) (w:World)
    (X:x.ids.length=av) (a3:x.seqs.length=a) (ad:x.keys.length=Y) (ai:x.lists.length=c) (aw:PAt w w.heap.size h g z D x) (cg:qg1 x) (ac:qg0 x) (t:qeK x=true):
    yG 33 #[.agg #[.slice h av n,.slice g a r,.slice z Y C,.slice D c I]] w (qgV x w):=by
  have ⟨cf,b2,bt,bu,ca⟩:=lG qzj;have ⟨ds,dk,_,ck,bo⟩:=qfy.1 t;have S:Y<=1048576:=ad▸ac.keys;have df:c=Y:=by omega
  have dl:a=av:=by omega
  subst df dl;have ⟨V,a6⟩:=qE (#[.slice h a n,.slice g a r,.slice z c C,.slice D c I]:Array Value);have ⟨aa,T⟩:=qE (w.alloc (.cells #[.slice h a n,.slice g a r,.slice z c C,.slice D c I] 62));have al:wG w aa:=by rw [T];exact (bA _ w).alloc (aA _) _
  have a5:=qBG h g z D a n a r c C c I x aa X a3 ad ai (aw.later al) cg S;rw [t] at a5;have c9:=qH a5;have dp:qI (qcC w w.heap.size V aa):=qH (by rw [T,a6];exact qrk w _);have dm:=qH T;have N:=qH aw;have cp:=qH a6;have E:=qH X;have A:=qH a3;have J:=qH ad;have M:=qH ai;have dd:=qH bo;have de:=qH ck;have dg:=qH t;have bj:=qH ac;have d4:a<=1048576:=X▸ac.ids;clear a5 T al aw cg X a3 ad ai t ck bo ds dk a6 ac;have U:qI (∀ wr,qcC w w.heap.size V wr->wr.cell? ⟨w.heap.size,0,none⟩=some (.slice h a n)/\wr.cell? ⟨w.heap.size,1,none⟩=some (.slice g a r)/\wr.cell? ⟨w.heap.size,2,none⟩=some (.slice z c C)/\wr.cell? ⟨w.heap.size,3,none⟩=some (.slice D c I)):=qH fun wr d=>by
    obtain ⟨_,_,h2⟩:=d;rw [cp.o] at h2;exact qgZ h2
  go_enter func33,ntmps33
  go_wp2_with (go_at_call 69; rw [show w.alloc _ = aa from dm.o.symm]; refine c9.o.mono ?_; rintro e af ⟨rfl, bw⟩
               have a8:qI (qcC w w.heap.size V af):=qH (dp.o.below bw);clear bw;have ⟨ce,bq,q2,q3⟩:=U.o _ a8.o;have ⟨w3,dz,b6,be⟩:=run_make_own (P:=prog) af w.heap.size 136 116 cf _ 1 underlying136 b2 bt bu .i64 .i64 c (by rw [ca];omega) (by unfold maxLen;omega) a8.o.1.size;have bg:wG af w3:=(bA _ af).grown be (aA _) (fun k S=>by cases S);have bx:qI (qcC w w.heap.size V w3):=qH (a8.o.below bg);have c7:=qH b6;clear b6 be bg;have ⟨d2,d3,d6,ea⟩:=U.o _ bx.o)
  clear dz ce bq q2 q3
  go_loopw [4,21] (fun cv i wr=>qzh w V x.lists cv i wr) (fun _ i _=>c-(intOf i).toNat)
  case atStart=>exact ⟨0,[],kA _,rfl,rfl,c7.o,fun j _ d9=>by omega,bx.o⟩
  case round=>
    obtain ⟨k,bl,c1,rfl,l⟩:=hrel;rw [M.o] at c1;have dj:=l.box.1.size;by_cases c8:k<c
    · have K:k<x.lists.length:=by rw [M.o];exact c8
      obtain ⟨d1,d5,dv,dr,rfl,al,b8,H,az⟩:=(N.o.lists.below l.box.1).at_ K;have aj:=bj.o.lists _ (pA K);have d8:(0:Int)<=k:=by omega
      have eb:(k:Int)<c:=by omega
      have bc:=(qi8 (dd.o _ (pA K))).1;have ⟨bk,a0⟩:=qE (x.lists[k]);rw [<- a0] at b8 H az aj bc;have ⟨m,t⟩:=qE bk.length;rw [<- t] at b8 H;have db:=qH (qp3 dv m dr bk wr t.symm H.1 H.2 (by omega) (az.more dj) aj.2 bc);have bb:=qH l;have cw:=qH K;have c4:=qH a0;clear t aj bc H az l a0
      go_wp2_with (first
        | (go_at_call 70; refine db.o.mono ?_; rintro e b ⟨B, rfl, cj, G⟩
           have q:=qH (bb.o.below G);have cz:=qH (cj.low (kA _));clear cj G)
        |(at_builtin;refine wB _ rfl (.tmp 30) (.tmp 32) 136 rfl w.heap.size 116 cf _ 1 8 underlying136 b2 bt bu ca rfl (by omega) _ k (qbD bl) rfl (q.o.own.alloc _) ⟨b.heap.size,0,none⟩ 1 1 [.pointer (some ⟨B,0,none⟩)] rfl rfl (qaH b [.pointer (some ⟨B,0,none⟩)] 116) (by intro u b1;simp at b1;subst b1;rfl) (by unfold maxLen;omega) (by omega) (by have :=q.o.box.1.size;simp;omega) ?_))
      intro v' b5 b4 cm d0;clear d0;have a4:wG b (b.alloc (.cells #[.pointer (some ⟨B,0,none⟩)] 116)):=(bA _ _).alloc (aA _) _;have b9:=(q.o.below a4).push cw.o (B:=B) (by have :=cz.o.below a4;rwa [c4.o] at this) b4 cm;have dn:=qH b9;clear a4 b9 b4 cm;go_wp2;go_roundw
      case rel=>exact ⟨k+1,_,by rw [M.o];omega,by go_num,dn.o⟩
      case measure=>simp [intOf];omega
    · have cu:k=c:=by omega
      subst cu;have cb:=l.own;obtain ⟨da,cn,rfl,d7,cd⟩:=qaK cb;have bb:=qH l;have ah:=l.len;have c5:qI (bl.length=k):=qH ah;have dx:=qH (qvY z da k C cn x.keys bl wr ((N.o.later l.box.1).keys) J.o S cd ah de.o);have ⟨ce,bq,q2,q3⟩:=U.o _ l.box;clear l cb cd ah
      go_wp2_with (go_at_call 71; refine dx.o.mono ?_; rintro e b ⟨L, rfl, ci, G⟩
                   have q:=qH (bb.o.below G);have an:=qH ci;clear ci G)
      have ⟨a7,ao,R,ay,cl,b0,ch⟩:=an.o.read;rw [J.o] at R ay;have du:=qH (an.o.rowT R);have cr:=qH cl;have c6:=qH b0;have dc:=qH ch;have bf:L<b.heap.size:=by have ⟨_,_,v,d,_⟩:=an.o;exact mG d
      have y:qI (∀ w',wG b w'->(w'.cell? ⟨w.heap.size,0,none⟩=some (.slice h a n)/\w'.cell? ⟨w.heap.size,1,none⟩=some (.slice g a r))/\w'.cell? ⟨L,0,none⟩=some (.slice a7 k ao)):=qH fun w' d=>by
        have bv:=U.o _ (q.o.box.below d);exact ⟨⟨bv.1,bv.2.1⟩,(d.cell (p:=⟨L,0,none⟩) bf).trans R⟩
      have cc:qI (∀ w',wG b w'->yG 53 #[.slice h a n] w' (qhv x.ids w')):=qH fun w' d=>
        qin h a n x.ids w' E.o ((N.o.later (q.o.box.below d).1).ids) (by omega)
      have bp:qI (∀ w',wG b w'->yG 53 #[.slice g a r] w' (qhv x.seqs w')):=qH fun w' d=>
        qin g a r x.seqs w' A.o ((N.o.later (q.o.box.below d).1).seqs) (by omega)
      have F:qI (wG b b.drew):=qH (bA _ b).drew;have bs:qI (∀ s,wG b s->∀ bz bn ba O a2 Q,s.ownsRow bz 3 1 (.slice ba a O) a (qaa x.ids)->a<=O->s.ownsRow bn 3 1 (.slice a2 a Q) a (qaa x.seqs)->a<=Q->
          qgV x w (.returned (.tuple #[.pointer (some ⟨s.heap.size,0,none⟩),.int .i64 0])) (s.alloc (.cells #[.slice ba a O,.slice a2 a Q,.slice a7 k ao] 110))):=qH fun s d bz bn ba O a2 Q b3 co bi c0=>
        qzl (bl:=bl) E.o A.o J.o (q.o.box.below d).1 (qbx b3) co (qbx bi) c0 (Row.later c6.o d) (by rw [c5.o,J.o]) ay cr.o dc.o (fun i dt=>(q.o.at_ i dt (by have :=M.o;omega)).below d) dg.o bj.o (qlB b3) (qlB bi) (du.o.below d)
      clear R cl b0 ch bf ay
      go_region_held3 (fun w'=>(w'.cell? ⟨w.heap.size,0,none⟩=some (.slice h a n)/\w'.cell? ⟨w.heap.size,1,none⟩=some (.slice g a r))/\w'.cell? ⟨L,0,none⟩=some (.slice a7 k ao))
        (first|exact y.o _ F.o|exact y.o _ ab.o|exact y.o _ Z.o|exact y.o _ (Z.o.alloc Z.o.size _)|exact y.o _ W.o|exact y.o _ ae.o|exact y.o _ (ae.o.alloc ae.o.size _))
        (first
          | (go_at_call 53; (with_reducible refine (cc.o _ F.o).mono ?_); rintro e b5 ⟨di, cy, rfl, a9, au, b7⟩
             have ab:qI (wG b b5):=qH (F.o.trans b7);rw [E.o] at au a9;have dq:=qH au;have cx:=qH a9;clear au b7 a9;rw [E.o])
          | (go_at_call 53; (with_reducible refine (bp.o _ ab.o).mono ?_); rintro e bh ⟨cs, c2, rfl, ar, ag, ap⟩
             have Z:qI (wG b bh):=qH (ab.o.trans (ap.mono ab.o.size));rw [A.o] at ag ar;have br:=qH (bs.o bh Z.o _ _ di cy cs c2 (qaf dq.o ap) cx.o ag ar);clear ag ap ar;rw [A.o])
          | (go_at_call 53; (with_reducible refine (bp.o _ F.o).mono ?_); rintro e s ⟨c3, dy, rfl, a1, ax, bd⟩
             have W:qI (wG b s):=qH (F.o.trans bd);rw [A.o] at ax a1;have dw:=qH ax;have cq:=qH a1;clear ax bd a1;rw [A.o])
          | (go_at_call 53; (with_reducible refine (cc.o _ W.o).mono ?_); rintro e bm ⟨ct, dh, rfl, ak, aq, am⟩
             have ae:qI (wG b bm):=qH (W.o.trans (am.mono W.o.size));rw [E.o] at aq ak;have br:=qH (bs.o bm ae.o _ _ ct dh c3 dy aq ak (qaf dw.o am) cq.o);clear aq am ak;rw [E.o]))
      all_goals
        go_wp2;go_ret2;exact br.o
