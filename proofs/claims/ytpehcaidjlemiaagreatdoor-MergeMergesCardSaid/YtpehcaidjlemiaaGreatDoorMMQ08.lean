import Derived.Test.YtpehcaidjlemiaaGreatDoorMMQ06
import Derived.Sort.MapsRangeIn
set_option maxHeartbeats 8000000
set_option maxRecDepth 100000
set_option linter.all false
namespace Go.Proofs.YtpehcaidjlemiaaGreatDoor
open Go Go.RowKit Go.Proofs.Tryz
variable {w w' w'' W:World} {k n b c i zz B N D:Nat} {A:Option Addr} {v:Value} {xs:List Value} {t:TypeId} {a:Int} {fr:Nat × Nat} {R:Array Value}
def qyg (b:List UInt8) (x:Int) (a d:Nat) (w:World) (e:Ending) (w':World):Prop:=
  wG w w'/\
    ((∃ g v, g.length = d /\ qcn b x a g /\ (∀ c, c.length = d -> qcn b x a c -> c = g) /\ (∀ p ∈ g, p.2.length <= b.length) /\ e = .returned (.tuple #[v, .int .i64 ((a + (qae x g).length : Nat) : Int), .bool true]) /\ qbH w.heap.size w' v g) \/
     ((∀ c,c.length=d->¬ qcn b x a c)/\e= .returned (.tuple #[.slice none 0 0,.int .i64 0,.bool false])))
def qpt (b:List UInt8) (d:Int) (e h:Nat) (w:World) (n l j m last at_ i:Value) (wr:World):Prop:=
 n= .slice none 0 0/\l= .int .i64 0/\j= .bool false/\∃ (c:List Po) (k a:Nat) (x:Int),k<=h/\i= .int .i64 (k:Int)/\c.length=k/\last= .int .i64 x/\at_= .int .i64 (a:Int)/\x=qaP d c/\a=e+(qae d c).length/\a<=b.length/\
  qcn b d e c/\ -1<=x/\x<2147483648/\(∀ g,g.length=h->qcn b d e g->c=g.take k)/\(∀ p∈c,p.2.length<=b.length)/\qbH w.heap.size wr m c/\wG w wr
def qyh (A:Option Addr) (m c:Nat) (b:List UInt8) (l:Int) (n s:Nat) (w:World) (bq:Row w w.heap.size A (Lib.byteCells b)) (bs:b.length=m) (a9:m<=c) (bw:c<=maxLen) (c2:m<=400000000000) (c1:n<=m) (bv: -1<=l) (ck:l<2147483648) (c7:s<=1000):
  yG 176 #[.slice A m c,.agg #[.int .i64 l,.int .i64 (n:Int)],.int .i64 (s:Int)] w (qyg b l n s w):=by
 have ⟨cr,cl,ce,cf,B⟩:=lG qfN;have bc:=qH bq;clear bq
 go_enter func176,ntmps176
 go_wp2
 go_quiet (fail)
 go_wp2;have ⟨b3,a4⟩:=qE (World.drewN (w.alloc (.cells #[.int .i64 l,.int .i64 (n:Int)] 206)) nq);have bg:wG w b3:=by rw [a4];exact ((bA _ w).alloc (aA _) _).trans (quP _)
 rw [<- a4];have b6:=qH bg;clear a4 bg
 go_loopw [6,7,8,9,10,11,21] (fun cd b8 b5 cj last at_ i wr=>qpt b l n s w cd b8 b5 cj last at_ i wr) (fun _ _ _ _ _ _ i _=>s-(intOf i).toNat)
 case atStart=>exact ⟨rfl,rfl,rfl,[],0,n,l,by omega,rfl,rfl,rfl,rfl,rfl,by simp [qae],by omega,qcn.nil (by omega),bv,ck,fun g _ _=>by simp,(by intro p a3;cases a3),qbH.nil,b6.o⟩
 case round=>
  obtain ⟨rfl,rfl,rfl,E,k,a,x,bi,rfl,a5,rfl,rfl,R,T,cz,an,ct,cy,U,ak,ac,O⟩:=hrel;have af:=O.size;by_cases c0:k<s
  ·have bj:∀ g,g.length=s->qcn b l n g->∃ C:Nat,qbY b (a:Int)=((g.getD k (0,[])).1-(x+1),(C:Int),0)/\qdj b (C:Int)=((g.getD k (0,[])).2,(((n+(qae l (g.take (k+1))).length:Nat)):Int),0)/\
     x<(g.getD k (0,[])).1/\(g.getD k (0,[])).1<2147483648/\qdk (g.getD k (0,[])).2=true/\g.take (k+1)=E++[((g.getD k (0,[])).1,(g.getD k (0,[])).2)]:=fun g h1 h2=>by
    have ⟨C,j,t,ay,ah,aj,a1,be⟩:=qt5 h2 bv (k:=k) (by omega) (by omega);rw [<- U g h1 h2] at j ay ah be;rw [<- R,<- T] at j;rw [<- R] at ay ah;exact ⟨C,j,t,ah,aj,a1,be⟩
   have K:=qH bj;have ch:=qH U;have bu:=qH an;have ao:=qH R;have ca:=qH T;have ba:=qH ak;have a6:=qH ac;have ai:=qH a5;have a0:=qH O;have N:=qvI A m c (a:Int) b wr ((bc.o.below O).more af) bs a9 bw (by omega);clear bj U an R T ak ac a5 O;rcases qim b (a:Int) with ⟨e,H,ag⟩|⟨I,C,H,c5,b9⟩
   ·rw [H] at N
    have ae:=qH N;have G:qI (∀ r,r.length=s->¬ qcn b l n r):=qH fun g h1 h2=>by
     have ⟨q,j,_⟩:=K.o g h1 h2;rw [H] at j;simp only [lD] at j;omega
    have cw:e≠0:=by omega
    have cq:(e != 0)=true:=by rw [bne_iff_ne];exact cw
    clear N H ag
    go_wp2_with (go_at_call 216;refine ae.o.mono ?_)
    rintro am aw ⟨rfl,z⟩;have F:=qH (a0.o.trans (z.mono af));clear z;go_wp2
    go_ret3
    exact ⟨F.o,.inr ⟨G.o,rfl⟩⟩
   ·rw [H] at N
    have ae:=qH N;have P:=qH H;clear N H;by_cases b4:2147483648-(x+1)<=(I:Int)
    ·have G:qI (∀ r,r.length=s->¬ qcn b l n r):=qH fun g h1 h2=>by
      have ⟨q,j,_,ay,ah,_⟩:=K.o g h1 h2;rw [P.o] at j;simp only [lD] at j;omega
     clear b9
     go_wp2_with (go_at_call 216;refine ae.o.mono ?_)
     rintro am aw ⟨rfl,z⟩;have F:=qH (a0.o.trans (z.mono af));clear z;go_wp2
     go_ret3
     exact ⟨F.o,.inr ⟨G.o,rfl⟩⟩
    ·have c6:decide (2147483648-(x+1)<=(I:Int))=false:=uA b4
     go_wp2_with (go_at_call 216;refine ae.o.mono ?_)
     rintro am aw ⟨rfl,z⟩;have F:=qH (a0.o.trans (z.mono af));have ap:=F.o.size;have L:=qvJ A m c (C:Int) b aw ((bc.o.below F.o).more ap) bs a9 bw (by omega);have bm:=qH (a6.o.below z);clear z;rcases quQ b (C:Int) with ⟨e,B,ag⟩|⟨ps,aa,B,cb,br⟩
     ·rw [B] at L
      have az:=qH L;have G:qI (∀ r,r.length=s->¬ qcn b l n r):=qH fun g h1 h2=>by
       have ⟨q,j,t,_⟩:=K.o g h1 h2;rw [P.o] at j;simp only [lD] at j;rw [<- j.2.1,B] at t;simp only [lD] at t;exact ag t.2.2
      have cq:(e != 0)=true:=by rw [bne_iff_ne];exact ag
      clear L B
      go_wp2_with (go_at_call 217;refine az.o.mono ?_)
      rintro am D ⟨co,rfl,_,M⟩;have S:=qH (F.o.trans (M.mono ap));clear M;go_wp2
      go_ret3
      exact ⟨S.o,.inr ⟨G.o,rfl⟩⟩
     ·rw [B] at L
      have az:=qH L;have ad:=qH B;clear L B
      go_wp2_with (go_at_call 217;refine az.o.mono ?_)
      rintro am D ⟨co,rfl,Q,M⟩;simp only at Q;obtain ⟨X,J,rfl,bh,bd⟩:=qaK Q;have cn:J<=maxLen:=by
       rcases Q.2 with ⟨h,_⟩|⟨_,c4,_,h,_,_,_,ci,_⟩
       ·injection h with _ _ h;omega
       ·injection h with _ _ h;rw [h];exact ci
      have ⟨ab,W⟩:=qE ps.length;have bk:=qoA X ab J ps D bd W.symm (by omega);rw [<- W] at bh br;rw [<- W];have ax:=qH W;have al:=qH bk;have bl:=qH (qgO.of_own (zz:=w.heap.size) Q (by omega));have S:=qH (F.o.trans (M.mono ap));have cx:=S.o.size;have bn:=qH (bm.o.below M);clear Q M W bk bd;rcases hpb:qdk ps with _|_
      ·rw [hpb] at al
       have G:qI (∀ r,r.length=s->¬ qcn b l n r):=qH fun g h1 h2=>by
        have ⟨q,j,t,_,_,aj,_⟩:=K.o g h1 h2;rw [P.o] at j;simp only [lD] at j;rw [<- j.2.1,ad.o] at t;simp only [lD] at t;rw [<- t.1,hpb] at aj;cases aj
       clear hpb
       go_wp2_with (go_at_call 161;refine al.o.mono ?_;rintro e w' ⟨rfl,rfl⟩)
       go_ret3
       exact ⟨S.o,.inr ⟨G.o,rfl⟩⟩
      ·rw [hpb] at al
       have V:=qt6 bu.o (by rw [<- ao.o];exact ct) (d:=(I:Int)) (q2:=(C:Int)) (q3:=(aa:Int)) (ps:=ps) (by rw [<- ca.o];exact P.o) ad.o (by rw [<- ao.o];omega) hpb;rw [<- ao.o] at V;have ⟨y,bf⟩:=qE (x+1+(I:Int));rw [show (I:Int)+(x+1)=y by omega] at V;have bp:=V.1;have bo:aa=n+(qae l (E++[(y,ps)])).length:=by have :=V.2;omega
       have bz:∀ g,g.length=s->qcn b l n g->E++[(y,ps)]=g.take (k+1):=fun g h1 h2=>by
        have ⟨q,j,t,_,_,_,a1⟩:=K.o g h1 h2;rw [P.o] at j;simp only [lD] at j;rw [<- j.2.1,ad.o] at t;simp only [lD] at t;rw [a1,<- t.1,show y=(g.getD k (0,[])).1 by omega]
       have b0:∀ p∈E++[(y,ps)],p.2.length<=b.length:=fun p a3=>by
        rcases aC.1 a3 with h|h
        ·exact ba.o p h
        ·simp at h;rw [h];show ps.length<=b.length;rw [<- ax.o];exact br
       have a8: -1<=y/\y<2147483648:=by omega
       have b2:y=qaP l (E++[(y,ps)]):=qt7.symm;have ⟨cs,av,bx⟩:=bn.o;rw [ai.o] at av;have a2:=qH av;have cc:=qH bx;have cp:=qH bp;have cv:=qH bo;have cm:=qH bz;have cg:=qH b0;have cu:=qH b2;have b7:=qH bf;clear hpb V bp bo bz b0 b2 av bx bu K ch ba P ad bn bm a6;have c3:x+1+(I:Int)=y:=b7.o.symm;clear bf
       go_wp2_with (first
        |(go_at_call 161;refine al.o.mono ?_;rintro e w' ⟨rfl,rfl⟩)
        |(at_builtin;refine wB _ rfl (.tmp 58) (.tmp 62) 71 rfl w.heap.size 74 cr _ 2 32 underlying71 cl ce cf B rfl (by omega) _ k cs rfl (a2.o.alloc _) ⟨D.heap.size,0,none⟩ 1 1 [.int .i64 y,.slice X ab J] rfl rfl (qaH D [.int .i64 y,.slice X ab J] 74) (by intro u hu;simp at hu;rcases hu with hu|hu<;>(subst hu;rfl)) (by unfold maxLen;omega) (by omega) (by simp;omega) ?_))
       intro b1 aq a7 au _;have ar:=(bA D.heap.size D).alloc (aA _) (.cells #[.int .i64 y,.slice X ab J] 74);have bb:Below w.heap.size D aq:=((bA _ D).alloc cx _).grown au (by simp;omega) fun k bi=>(a2.o.lt k bi).1
       have bt:qbH w.heap.size aq b1 (E++[(y,ps)]):=
        qbH.push (c:=J) (A:=X) (cs:=cs) (by rw [ai.o];exact a2.o.alloc _) (cc.o.imp fun _ _ h=>⟨h.1.below ar,h.2⟩) (by rw [<- ax.o];exact bh) cn ⟨bl.o.1.below ar,bl.o.2⟩ (by rw [ai.o,<- ax.o];exact a7) au
       have Y:qpt b l n s w (.slice none 0 0) (.int .i64 0) (.bool false) b1 (.int .i64 y) (.int .i64 (aa:Int)) (.int .i64 ((k:Int)+1)) aq:=
        ⟨rfl,rfl,rfl,E++[(y,ps)],k+1,aa,y,by omega,by simp,by simp [ai.o],rfl,rfl,cu.o,cv.o,cb,cp.o,a8.1,a8.2,cm.o,cg.o,bt,S.o.trans bb⟩
       have Z:=qH Y;clear Y bb au a7 bt ar;go_wp2;go_roundw
       case rel=>exact Z.o
       case measure=>simp [intOf];omega
  ·obtain rfl:k=s:=by omega
   have Y:wG w wr/\((∃ g v,g.length=k/\qcn b l n g/\(∀ r,r.length=k->qcn b l n r->r=g)/\(∀ p∈g,p.2.length<=b.length)/\Ending.returned (.tuple #[u9,.int .i64 (a:Int),.bool true])= .returned (.tuple #[v,.int .i64 ((n+(qae l g).length:Nat):Int),.bool true])/\qbH w.heap.size wr v g)):=
    ⟨O,E,u9,a5,an,fun r h1 h2=>by rw [U r h1 h2,nB (by omega)],ak,by rw [T],ac⟩
   have Z:=qH Y;clear Y an U ak ac O R T;go_wp2
   go_ret3
   exact ⟨Z.o.1,.inl Z.o.2⟩
def qiK {e:TypeId} {size:Nat} (i:w.ownsRow b e size v n xs) (d:w.grownBy w' v.ownBlock) {k:Nat} {cs:Array Value} {t:TypeId} {fr:Nat × Nat} (c:w.heap[k]?=some (.cells cs t fr)) (g:t≠e):w'.heap[k]?=some (.cells cs t fr):=by
 rw [d.block k (gA.1 c).1 ?_,c];intro h;have ⟨cs',a⟩:=qfO i h.symm;rw [c] at a;injection a with a
 injection a with _ a
 exact g a
def qk6 {x y z:Value} (a:w.heap[b]?=some (.cells #[x,y,z] t (0,0))):w.cell? ⟨b,0,none⟩=some x/\w.cell? ⟨b,1,none⟩=some y/\w.cell? ⟨b,2,none⟩=some z:=by
 simp [World.cell?,a]
def HAt.other {H:List Hd} (k:HAt zz w B H) {b:Nat} {e:TypeId} {size n:Nat} {v:Value} {xs:List Value} (d:w.ownsRow b e size v n xs) (c:w.grownBy w' v.ownBlock) (h:¬ qeH e):HAt zz w' B H:=by
 obtain ⟨h1,u,h2,h3⟩:=k;refine ⟨h1,u,qiK d c h2 (fun a=>h (a▸ .inr rfl)),qaq h3 fun g j=> ?_⟩;have ⟨cs,i⟩:=qfO h3 j;rw [qiK d c i (fun a=>h (a▸ .inl rfl)),i]
def qyi (zz B:Nat) (H:List Hd) (x:Hd) (w:World) (d:HAt zz w B H) (a:H[0]?=some x) (h:H.length<=100000) (b:qb5 qaD H H.length):
  yG 94 #[ifH B] w fun e w'=>e= .returned (ifX x)/\∃ R,(x::R).Perm H/\qb5 qaD R R.length/\HAt zz w' B R/\qaQ zz w w':=by
 refine (qx1 zz B H w d (yC.1 a).1 h b).mono ?_;rintro e w' ⟨y,R,rfl,h1,h2,h3,c,g⟩;rw [a] at h2;injection h2 with h2
 subst h2;exact ⟨rfl,R,h1,h3,c,g⟩
structure qyj (l:List (List Int)) (w:World) (B:Nat) (a:List Nat) (o:List Pl) (last:Int) (H:List Hd) (vo:Value) (wr:World):Prop where
 mid:qdW l a o last
 cnt:o.length=a.sum
 heads:qdm l a H
 heap:qb5 qaD H H.length
 few:H.length<=l.length
 o:wr.ownsRow w.heap.size 88 2 vo o.length (plc o)
 at_:HAt w.heap.size wr B H
 below:wG w wr
def qiL (l:List (List Int)) (w:World) (B:Nat) (b c:Value) (wr:World):Prop:=∃ (a:List Nat) (o:List Pl) (last:Int) (H:List Hd),c= .int .i64 last/\qgk b=o.length/\qyj l w B a o last H b wr
def qpu (l:List (List Int)) (w:World) (e:Ending) (w':World):Prop:=∃ (a:Int) (o:List Pl) (v:Value),qea l a o/\e= .returned (.tuple #[v,.int .i64 a])/\w'.ownsRow w.heap.size 88 2 v o.length (plc o)/\wG w w'/\o.length<=1000000
def qpv (A:Option Addr) (m c:Nat) (l:List (List Int)) (w:World) (b2:Lol (Value.int .i64) w w.heap.size A l) (be:l.length=m) (eg:m<=1000) (dc:∀ s∈l,s.length<=1000):
    yG 47 #[.slice A m c] w (qpu l w):=by
  have ⟨dd,c0,dx,cs,cv⟩:=lG qn1;have c7:(l.map List.length).sum<=1000000:=qn2 be eg dc;have bc:=qH (qwp A m c l w be (by omega) b2);have c2:=qH b2;have aq:=qH be;have du:=qH c7;have ⟨z,t⟩:=qE (l.all (qal (-1)));rw [<- t] at bc;have di:=qH t;clear b2 dc be c7 t;have e6:=fun v w=>qo1 v w
  cases z with
  |false=>
    have c9:¬ ∀ s∈l,qal (-1) s=true:=fun cj=>by
      have :=nF.2 cj;rw [<- di.o] at this;cases this
    have eq:=qH c9;clear c9
    go_enter func47,ntmps47
    go_wp2_with (go_at_call 89;refine (bc.o).mono ?_;rintro e dh ⟨rfl,D⟩)
    go_ret2;exact ⟨1,[],_,.bad eq.o,rfl,vA _ _ _ _,D,kA _⟩
  |true=>
    have U:∀ s∈l,qal (-1) s=true:=fun s en=>nF.1 (di.o).symm s en
    have bq:=qH U;clear U
    go_enter func47,ntmps47
    go_wp2_with first
      |(go_at_call 92;rw [<- dl.o];refine (dm.o).mono ?_;rintro e ea ⟨⟨e2,rfl⟩,H,G,J,h,c8⟩)
      | (go_at_call 91; refine (ct.o).mono ?_; rintro e ah ⟨fb, br, rfl, dv, cy, b6, Q⟩
         obtain ⟨ee,eu,rfl,_,_,_⟩:=qaU b6;have ⟨w3,a7⟩:=qE (ah.alloc (.cells #[.slice ee br.length eu] 165));have ce:w.heap.size<=ah.heap.size:=lA (bd.o).size Q.size;have K:HAt w.heap.size w3 ah.heap.size br:=by
           rw [a7];exact ⟨ce,_,jA ah _,(qbk b6 (bd.o).size).alloc _⟩
         have dm:=qH (qxU w.heap.size ah.heap.size br w3 K (by have :=aq.o;omega));have dl:=qH a7;have c5:=qH (show wG w w3 by rw [a7];exact ((bd.o).trans (Q.mono (bd.o).size)).alloc ce _);have c1:=qH dv;have dn:=qH cy;clear a7 K b6 Q dv cy ce)
      | (go_at_call 89; refine (bc.o).mono ?_; rintro e dh ⟨rfl, D⟩
         have ct:=qH (qwy A m c l dh ((c2.o).later D) aq.o (by omega));have bd:=qH D;clear D)
    have ⟨B,cd⟩:=qE ah.heap.size;rw [<- cd] at h;have dw:qiL l w B (.slice none 0 0) (.int .i64 (-1)) ea:=
      ⟨List.replicate l.length 0,[], -1,H,rfl,rfl,qm1 bq.o,by simp,((c1.o).start).perm G,J,by rw [G.length_eq];exact dn.o,vA _ _ _ _,h,(c5.o).trans c8.below⟩
    have dt:=qH dw;clear dw h J G c8 c1 dn c5 dl dm ct bc
    try rw [<- cd]
    clear cd
    go_loopw [5,6,7,8] (fun b4 V ev ex wr=>qiL l w B b4 V wr) (fun b4 _ _ _ _=>1000001-qgk b4)
    case atStart=>exact dt.o
    case round=>
      clear dt;obtain ⟨a,o,last,H,rfl,aj,h⟩:=hrel;have fd:H.length<=1000:=by have h1:=h.few;have h2:=aq.o;omega
      have cu:=qhz h.mid.len h.mid.le;have dj:=h.cnt;have a0:o.length<=1000000:=by have :=du.o;omega
      have ⟨e5,ew,eb,_,_,_⟩:=h.at_.read;have U:=bq.o;cases H with
      |nil=>
        obtain ⟨ej,ei,rfl,eh,d6,d3⟩:=qaU h.o;have am:=qH (show qpu l w (.returned (.tuple #[.slice ej o.length ei,.int .i64 0])) wr from ⟨0,o,_,.ok U (h.heads.none h.mid),rfl,h.o,h.below,a0⟩)
        clear h dj cu U aj a0 d3 eh d6;simp only [vB] at eb
        go_wp2_with (go_at_call 93;refine (qgN _ _ _ _).mono ?_;rintro e av ⟨rfl,rfl⟩)
        go_ret2;exact am.o
      |cons x ba=>
        obtain ⟨i,g,d⟩:=x;have ⟨bo,T,bz⟩:=h.heads.ins _ (eB ..);simp only at bo T bz;have bk:InO l (g,d):=bo;have az:g<l.length:=bk.1;have bp:d<l[g].length:=(qcm.1 bk).2;clear bk;have ef:g<a.length:=by rw [h.mid.len];exact az
        have cn:∀ y∈ba,i<=y.1:=fun y a3=>by
          obtain ⟨j,es,rfl⟩:=nC a3;have :=h.heap.least (aA _) (j+1) (by simpa using es);simpa using this
        have ⟨D,Q⟩:=h.heads.least (x:=(i,g,d)) cn;simp only at D Q;rw [<- T] at D Q;have bw:=fun r=>h.mid.step U (b:=g) (by rw [<- T];exact D) (by rw [<- T];exact Q) r
        have cl:=fun ep=>h.mid.twice U (b:=g) (by rw [<- T];exact D) ep
        rw [<- T,<- bz] at bw cl;have cc:=qkB a g ef;rw [<- T] at cc;have dk:=qyi w.heap.size B _ (i,g,d) wr h.at_ rfl (by omega) h.heap;have ed:(((i,g,d)::ba:List Hd).length:Int)=(ba.length:Int)+1:=by simp
        have df:=h.below;have ck:=qH dk;have d1:=qH bw;have ec:=qH cl;have ch:=qH cc;have ab:=qH h;have E:=qH df;clear bw cl cc cn D Q bo dk h cu dj U T bz df ed;by_cases ag:i=last
        · have d4:=qH (ec.o ag)
          have d7:(i==last)=true:=by rw [ag];exact beq_self_eq_true _
          clear ag bp aj a0
          go_wp2_with (first
            |(go_at_call 94;refine (ck.o).mono ?_;rintro e w3 ⟨rfl,R,G,J,K,I⟩)
            |(go_at_call 93;refine (qgN _ _ _ _).mono ?_;rintro e av ⟨rfl,rfl⟩))
          go_ret2;exact ⟨5,[],_,.twice bq.o d4.o,rfl,vA _ _ _ _,((E.o).trans I.below).alloc (lA (E.o).size I.below.size) _,kA _⟩
        · have d7:(i==last)=false:=nD.2 ag
          have a5:=d1.o ag;have c4:=qhz a5.len a5.le;rw [ch.o] at c4;have d8:o.length+1<=1000000:=by have h1:=du.o;have h2:=(ab.o).cnt;omega
          have cz:=qH a5;obtain ⟨cq,c3,fa,dq,rfl,et,Y,⟨ek,cp⟩,b9⟩:=((c2.o).below (E.o)).at_ az;obtain ⟨ay,a6,rfl,eo,_⟩:=qbR b9 (k:=d) bp;have cw:∀ (r:d+1<l[g].length),l[g][d+1]=qaA l (g,d+1):=fun r=>(qeW az r).symm
          have bb:d+1<l[g].length->InO l (g,d+1):=fun r=>qcm.2 ⟨az,r⟩
          have a4:¬ d+1<l[g].length->¬ InO l (g,d+1):=fun r cj=>r (qcm.1 cj).2
          have bf:∀ (r:d+1<l[g].length),wr.cell? ⟨ay,a6+(d+1),none⟩=some (.int .i64 (qaA l (g,d+1))):=fun r=>by
            have ⟨ez,e0,an,_,dg⟩:=qbR b9 (k:=d+1) r;injection an with an
            injection an with an e4
            subst an e4;rw [cw r] at dg;exact dg
          have ⟨n,r⟩:=qE (l[g].length);rw [<- r] at Y ek bp bb a4 bf;have ⟨N,bg⟩:=qE o.length;rw [<- bg] at d8 aj;have bs:=(ab.o).o;rw [<- bg] at bs;have a8:=(ab.o).heads;have a1:=(ab.o).mid.len;have cb:=(ab.o).few;rw [nA] at cb;have e7:(g:Int)<(m:Int):=by have :=aq.o;omega
          have e9:n<=9223372036854775807:=by unfold maxLen at cp;omega
          have a2:=qH bg;have de:=qH aj;have cr:=qH bs;have cm:=qH cb;have db:∀ W,Below w.heap.size wr W->W.cell? ⟨cq,c3+g,none⟩=some (.slice (some ⟨ay,a6,none⟩) n dq):=fun W bl=>(bl.cell (p:=⟨cq,c3+g,none⟩) et).trans Y
          have cx:=qH db;unfold maxLen at cp;clear ag a5 c4 bg aj bs cb db Y b9 a0 cw r;by_cases bn:d+1<n
          · have ds:=bb bn
            have a9:=a8.next a1 ds;have bx:=bf bn;simp only at a9;have ⟨y,a3⟩:=qE (qaA l (g,d+1));rw [<- a3] at a9 bx;have d2:=qH a9;have d0:qI (∀ W,Below w.heap.size wr W->W.cell? ⟨ay,a6+(d+1),none⟩=some (.int .i64 y)):=qH fun W bl=>(bl.cell (p:=⟨ay,a6+(d+1),none⟩) eo).trans bx
            have e1:¬ dq=d+1:=by omega
            have e3:0<n-(d+1):=by omega
            clear a8 ds a9 bx bf bb a4 a3 a1
            go_wp2_with (first
              | (go_at_call 94; refine (ck.o).mono ?_; rintro e w3 ⟨rfl, R, G, J, K, I⟩
                 have ae:=qH (G.cons_inv);have b5:=qH J;have bv:=qH K;have ac:=qH I;have ai:=qH (I.owned cr.o (by unfold qeH;decide));clear G J K I)
              |(go_at_call 93;refine (qgN _ _ _ _).mono ?_;rintro e av ⟨rfl,b0⟩;obtain rfl:wr=av:=b0.symm)
              | (at_builtin; refine wB _ rfl (.tmp 27) (.tmp 33) 85 rfl w.heap.size 88 dd _ 2 16 underlying85 c0 dx cs cv rfl (by omega) _ N (plc o) rfl ((ai.o.alloc _).alloc _) ⟨w3.heap.size + 1, 0, none⟩ 1 1 [.int .i64 (g : Int), .int .i64 (d : Int)] rfl rfl (by simpa using qaH (w3.alloc _) [.int .i64 (g : Int), .int .i64 (d : Int)] 88) (by intro u ap; simp at ap; rcases ap with rfl | rfl <;> rfl) (by unfold maxLen; omega) (by omega) (by have h1 := (E.o).size; have h2 := (ac.o).below.size; simp; omega) ?_
                 intro V M Z L _))
            have F:wG w3 ((w3.alloc (.cells #[.int .i64 i,.int .i64 (g:Int),.int .i64 (d:Int)] 170)).alloc (.cells #[.int .i64 (g:Int),.int .i64 (d:Int)] 88)):=((bA _ w3).alloc (aA _) _).alloc (by simp) _;have ao:((w3.alloc (.cells #[.int .i64 i,.int .i64 (g:Int),.int .i64 (d:Int)] 170)).alloc (.cells #[.int .i64 (g:Int),.int .i64 (d:Int)] 88)).heap[w3.heap.size]?=some (.cells #[.int .i64 i,.int .i64 (g:Int),.int .i64 (d:Int)] 170 (0,0)):=by rw [pB _ _ _ (by simp)];exact jA w3 _
            have P:=qaf ai.o F;have ar:=((bv.o).below F).other P L (by unfold qeH;decide);have S:=qiK P L ao (by decide);have aa:w.heap.size<=w3.heap.size:=by have h1:=(E.o).size;have h2:=(ac.o).below.size;omega
            have O:Below w.heap.size wr M:=((ac.o).below.trans (F.mono aa)).grown L (lA aa F.size) (fun q bu=>(P.lt q bu).1);have ⟨d9,em,au,_,_,_⟩:=qaU Z;have aw:qgk V=N+1:=by rw [au];rfl
            have ⟨X,ad⟩:=qE w3.heap.size;rw [<- ad] at S
            try rw [<- ad]
            have ⟨bi,ca,cf⟩:=qk6 S;have Y:=cx.o M O;have al:=qH aw;have bt:=qH ar;have bm:=qH Z;have da:=qH S;have b8:=qH O;have bh:qI (w.heap.size<=M.heap.size):=qH (lA (E.o).size O.size);clear F ao P ar S O au aw Z L ad aa
            go_quiet (fail)
            generalize ak:World.drewN _ nq=C;have t:wG M C:=by rw [<- ak];exact ⟨rfl,rfl,rfl,aA _,fun _ _=>rfl⟩
            have af:Below w.heap.size wr C:=(b8.o).trans (t.mono bh.o);have b1:=qH ((bt.o).below t);have bj:=qH (qaf bm.o t);have b3:=qH af;have ⟨fe,e8,ey⟩:=qk6 ((t.block X (mG da.o)).trans da.o);have q2:=(d0.o) C af;clear ak t af bi ca cf Y;go_wp2;refine wp_region_still_tail 11 (by kernel_rfl) (by kernel_rfl) ?_;simp only [List.take_succ_cons,List.take_zero,sE,List.drop_zero]
            still_step
            still_step
            still_step
            still_step
            still_step
            still_step
            still_step
            still_step
            still_step
            still_step
            still_step
            refine wpStill_nil ?_;change wpList _ _ _ _ _ C.drew;have er:yG 95 #[ifH B,.iface 170 (.agg #[.int .i64 y,.int .i64 (g:Int),.int .i64 ((d:Int)+1)])] C.drew (qgl w.heap.size B (R++[(y,g,d+1)]) C.drew):=by
              have dz:=qxX w.heap.size B R (y,g,d+1) C.drew (b1.o).drew (by have h1:=(ae.o).length_eq;have h2:=cm.o;have h3:=aq.o;omega) b5.o;rw [show (d:Int)+1=((d+1:Nat):Int) by omega];exact dz
            go_wp2_with (go_at_call 95;refine er.mono ?_;rintro e d5 ⟨⟨ev,rfl⟩,dr,b7,c6,dy,cg⟩)
            have co:dr.length=ba.length+1:=by rw [b7.length_eq,iA,bB,(ae.o).length_eq]
            have dp:=cg.owned (show C.drew.ownsRow w.heap.size 88 2 V (N+1) _ from bj.o) (by unfold qeH;decide)
            have ax:qiL l w B V (.int .i64 i) d5:=by
              refine ⟨a.set g (d+1),o++[(g,d)],i,dr,rfl,by rw [al.o,iA,<- a2.o];rfl,cz.o,by rw [iA,ch.o,<- (ab.o).cnt];rfl,(d2.o).perm (b7.trans ((List.perm_append_singleton _ _).trans ((ae.o).cons _))),c6,by rw [co];exact cm.o,?_,dy,?_⟩
              · rw [iA,<- a2.o,qiu]
                exact dp
              · exact ((E.o).trans b3.o).trans (Below.trans (bA _ C).drew cg.below)
            have am:=qH ax;clear ax dp co b7 c6 dy cg;go_roundw
            case rel=>exact am.o
            case measure=>have h1:=al.o;have h2:=de.o;simp;omega
          · have ci:=a8.last a1 (a4 bn)
            simp only at ci;have el:=qH ci;have fc:decide (0<n-(d+1))=false:=uA (by omega);clear a8 ci bf bb a4 a1
            go_wp2_with (first
              | (go_at_call 94; refine (ck.o).mono ?_; rintro e w3 ⟨rfl, R, G, J, K, I⟩
                 have ae:=qH (G.cons_inv);have b5:=qH J;have bv:=qH K;have ac:=qH I;have ai:=qH (I.owned cr.o (by unfold qeH;decide));clear G J K I)
              |(go_at_call 93;refine (qgN _ _ _ _).mono ?_;rintro e av ⟨rfl,b0⟩;obtain rfl:wr=av:=b0.symm)
              | (at_builtin; refine wB _ rfl (.tmp 27) (.tmp 33) 85 rfl w.heap.size 88 dd _ 2 16 underlying85 c0 dx cs cv rfl (by omega) _ N (plc o) rfl ((ai.o.alloc _).alloc _) ⟨w3.heap.size + 1, 0, none⟩ 1 1 [.int .i64 (g : Int), .int .i64 (d : Int)] rfl rfl (by simpa using qaH (w3.alloc _) [.int .i64 (g : Int), .int .i64 (d : Int)] 88) (by intro u ap; simp at ap; rcases ap with rfl | rfl <;> rfl) (by unfold maxLen; omega) (by omega) (by have h1 := (E.o).size; have h2 := (ac.o).below.size; simp; omega) ?_
                 intro V M Z L _))
            have F:wG w3 ((w3.alloc (.cells #[.int .i64 i,.int .i64 (g:Int),.int .i64 (d:Int)] 170)).alloc (.cells #[.int .i64 (g:Int),.int .i64 (d:Int)] 88)):=((bA _ w3).alloc (aA _) _).alloc (by simp) _;have ao:((w3.alloc (.cells #[.int .i64 i,.int .i64 (g:Int),.int .i64 (d:Int)] 170)).alloc (.cells #[.int .i64 (g:Int),.int .i64 (d:Int)] 88)).heap[w3.heap.size]?=some (.cells #[.int .i64 i,.int .i64 (g:Int),.int .i64 (d:Int)] 170 (0,0)):=by rw [pB _ _ _ (by simp)];exact jA w3 _
            have P:=qaf ai.o F;have ar:=((bv.o).below F).other P L (by unfold qeH;decide);have S:=qiK P L ao (by decide);have aa:w.heap.size<=w3.heap.size:=by have h1:=(E.o).size;have h2:=(ac.o).below.size;omega
            have O:Below w.heap.size wr M:=((ac.o).below.trans (F.mono aa)).grown L (lA aa F.size) (fun q bu=>(P.lt q bu).1);have ⟨d9,em,au,_,_,_⟩:=qaU Z;have aw:qgk V=N+1:=by rw [au];rfl
            have ⟨X,ad⟩:=qE w3.heap.size;rw [<- ad] at S
            try rw [<- ad]
            have ⟨bi,ca,cf⟩:=qk6 S;have Y:=cx.o M O;have al:=qH aw;have bt:=qH ar;have bm:=qH Z;have b8:=qH O;have bh:qI (w.heap.size<=M.heap.size):=qH (lA (E.o).size O.size);clear F ao P ar S O au aw Z L ad aa
            go_quiet (fail)
            generalize ak:World.drewN _ nq=C;have t:wG M C:=by rw [<- ak];exact ⟨rfl,rfl,rfl,aA _,fun _ _=>rfl⟩
            have af:Below w.heap.size wr C:=(b8.o).trans (t.mono bh.o);have b1:=qH ((bt.o).below t);have bj:=qH (qaf bm.o t);have b3:=qH af;clear ak t af bi ca cf Y;go_wp2;have ax:qiL l w B V (.int .i64 i) C:=by
              refine ⟨a.set g (d+1),o++[(g,d)],i,R,rfl,by rw [al.o,iA,<- a2.o];rfl,cz.o,by rw [iA,ch.o,<- (ab.o).cnt];rfl,(el.o).perm ae.o,b5.o,by have h1:=(ae.o).length_eq;have h2:=cm.o;omega,?_,b1.o,(E.o).trans b3.o⟩;rw [iA,<- a2.o,qiu];exact bj.o
            have am:=qH ax;clear ax;go_roundw
            case rel=>exact am.o
            case measure=>have h1:=al.o;have h2:=de.o;simp;omega
def qpw (A:Option Addr) (m c:Nat) (l:List (List Int)) (w:World) (p:Lol (Value.int .i64) w w.heap.size A l) (b:l.length=m) (g:m<=1000) (n:∀ s∈l,s.length<=1000):
  yG 47 #[.slice A m c] w (qvR l w):=by
 refine (qpv A m c l w p b g n).mono ?_;rintro e w' ⟨q,o,v,h1,rfl,h2,h3,i⟩;obtain ⟨d,a,rfl,k,j,h⟩:=qaU h2;exact ⟨q,o,d,a,h1,rfl,⟨k,j⟩,h,h3,i⟩
def qyk (t:TypeId) (a b:ByteArray):binOp .gtr t (.string a) (.string b)=pure (.bool !(Op.bytesLess a.toList b.toList || a.toList==b.toList)):=by simp [binOp,Op.stringOp]
attribute [local go_sem] qyk
def qk7 (s:ByteArray) (w:World):yG 188 #[.string s] w fun e w'=>e= .returned (.bool false)/\w=w':=by
 go_enter func188,ntmps188
 go_wp2;go_ret;exact ⟨by simp,rfl⟩
def qyl (x y:ByteArray) (w:World):yG 153 #[.string x,.string y] w fun e w'=>e= .returned (.int .i64 (qaO x.data.toList y.data.toList))/\w=w':=by
 have c:Op.bytesLess x.toList y.toList=decide (x.data.toList<y.data.toList):=by rw [Lib.toList_data,Lib.toList_data,qhn]
 have b:(x.toList==y.toList)=decide (x.data.toList=y.data.toList):=by rw [Lib.toList_data,Lib.toList_data,kD];simp
 by_cases h1:x.data.toList<y.data.toList
 ·have a:qaO x.data.toList y.data.toList= -1:=by simp [qaO,h1]
  rw [yA h1] at c;rw [a];clear b a h1
  go_enter func153,ntmps153
  go_wp2_with (go_at_call 188;refine (qk7 _ _).mono ?_;rintro e w' ⟨rfl,rfl⟩)
  go_ret;exact ⟨rfl,rfl⟩
 ·rw [uA h1] at c
  by_cases h2:x.data.toList=y.data.toList
  ·have a:qaO x.data.toList y.data.toList=0:=by simp [qaO,h2]
   rw [yA h2] at b;rw [a];clear a h1 h2
   go_enter func153,ntmps153
   go_wp2_with (go_at_call 188;refine (qk7 _ _).mono ?_;rintro e w' ⟨rfl,rfl⟩)
   go_ret;exact ⟨rfl,rfl⟩
  ·have a:qaO x.data.toList y.data.toList=1:=by simp [qaO,h1,h2]
   rw [uA h2] at b;rw [a];clear a h1 h2
   go_enter func153,ntmps153
   go_wp2_with (go_at_call 188;refine (qk7 _ _).mono ?_;rintro e w' ⟨rfl,rfl⟩)
   go_ret;exact ⟨rfl,rfl⟩
open Go.Sort
def qb0 (w w':World):Prop:=∃ q os,w'=grow (w.drewN q) os
def qb0.alloc (a:qb0 w w') (o:Obj):qb0 w (w'.alloc o):=by
 obtain ⟨q,os,rfl⟩:=a;exact ⟨q,os++#[o],by rw [alloc_eq_grow,grow_grow]⟩
def qb0.refl (w:World):qb0 w w:=⟨0,#[],by rw [grow_empty];rfl⟩
def qb0.trans (a:qb0 w w') (k:qb0 w' w''):qb0 w w'':=by
 obtain ⟨q,os,rfl⟩:=a;obtain ⟨q2,b,rfl⟩:=k;refine ⟨q+q2,os++b,?_⟩;rw [<- grow_grow];congr 1;show grow ((w.drewN q).drewN q2) os=_;congr 1;exact World.drewN_drewN w q q2
def qb0.drew (a:qb0 w w'):qb0 w w'.drew:=a.trans ⟨1,#[],by rw [grow_empty];rfl⟩
def qb0.below (a:qb0 w w'):wG w w':=by
 obtain ⟨q,os,rfl⟩:=a;exact ⟨rfl,rfl,rfl,by simp [grow],fun k b=>heap_grow_old _ _ b⟩
def qk8 (f g:ByteArray) (w:World) (b:f.size<=140737488355328) (a:g.size<=140737488355328):
  yG 58 #[.agg #[.string f,.string g]] w fun e w'=>e= .returned (.string (qcJ f g))/\qb0 w w':=by
 go_enter func58,ntmps58
 go_wp2;go_ret;exact ⟨rfl,(qb0.refl w).alloc _⟩
def qym (a b c d:ByteArray) (w:World) (T:a.size<=1073741824) (M:b.size<=1073741824) (P:c.size<=1073741824) (O:d.size<=1073741824):
    yG 152 #[.agg #[.string a,.string b],.agg #[.string c,.string d]] w fun e w'=>e= .returned (.int .i64 (qaO (qdT a.data.toList b.data.toList) (qdT c.data.toList d.data.toList)))/\qb0 w w':=by
  have ⟨g,i⟩:=qE ((w.alloc (.cells #[.string a,.string b] 69)).alloc (.cells #[.string c,.string d] 69));have v:qb0 w g:=by rw [i];exact ((qb0.refl w).alloc _).alloc _
  have y:∀ w',wG g w'->w'.cell? ⟨w.heap.size,0,none⟩=some (.string a)/\w'.cell? ⟨w.heap.size,1,none⟩=some (.string b)/\w'.cell? ⟨w.heap.size+1,0,none⟩=some (.string c)/\w'.cell? ⟨w.heap.size+1,1,none⟩=some (.string d):=fun w' x=>by
    have L:g.heap.size=w.heap.size+2:=by rw [i];simp
    have F:g.heap[w.heap.size]?=some (.cells #[.string a,.string b] 69 (0,0)):=by rw [i,pB _ _ _ (by simp)];exact jA _ _
    have h1:g.heap[w.heap.size+1]?=some (.cells #[.string c,.string d] 69 (0,0)):=by
      rw [i];have :=jA (w.alloc (.cells #[.string a,.string b] 69)) (.cells #[.string c,.string d] 69);rwa [tE] at this
    have t:=(x.block _ (by omega)).trans F;have z:=(x.block _ (by omega)).trans h1;exact ⟨by simp [World.cell?,t],by simp [World.cell?,t],by simp [World.cell?,z],by simp [World.cell?,z]⟩
  have m:=fun w'=>qk8 a b w' (by omega) (by omega)
  have n:=fun w'=>qk8 c d w' (by omega) (by omega)
  have h:=fun w'=>qyl (qcJ a b) (qcJ c d) w'
  rw [qge,qge] at h;have ⟨Q,q⟩:=qE (qcJ a b);have ⟨S,s⟩:=qE (qcJ c d);have ⟨R,r⟩:=qE (qaO (qdT a.data.toList b.data.toList) (qdT c.data.toList d.data.toList));rw [<- q] at m h;rw [<- s] at n h;rw [<- r] at h ⊢;have I:=qH v;have p:=qH y;have D:=qH m;have H:=qH n;have G:=qH h;have C:=qH i;clear i v y m n h q s r
  go_enter func152,ntmps152
  go_wp2;rw [show (w.alloc _).alloc _=g from C.o.symm]
  have A:qb0 g g.drew:=(qb0.refl g).drew;have k:qI (qb0 g g.drew):=qH A;clear A
  go_region_held3 (fun w'=>(w'.cell? ⟨w.heap.size,0,none⟩=some (.string a)/\w'.cell? ⟨w.heap.size,1,none⟩=some (.string b)/\w'.cell? ⟨w.heap.size+1,0,none⟩=some (.string c)/\w'.cell? ⟨w.heap.size+1,1,none⟩=some (.string d))/\qb0 g w')
    (first|exact ⟨p.o _ k.o.below,k.o⟩|exact ⟨p.o _ j.o.below,j.o⟩|exact ⟨p.o _ l.o.below,l.o⟩)
    (first
      | (go_at_call 58; (with_reducible refine (D.o _).mono ?_); rintro e E ⟨rfl, K⟩
         have j:qI (qb0 g E):=qH (k.o.trans K))
      | (go_at_call 58; (with_reducible refine (H.o _).mono ?_); rintro e J ⟨rfl, B⟩
         have l:qI (qb0 g J):=qH (j.o.trans B))
      |(go_at_call 153;(with_reducible refine (G.o _).mono ?_);rintro e N ⟨rfl,rfl⟩))
  all_goals
    go_wp2;go_ret;exact ⟨rfl,I.o.trans l.o⟩
def qyn (B:Nat) (l:List Po) (w:World) (m:LIn w B (qae (-1) l) l) (s:qa5 (-1) l=true) (K:(qae (-1) l).length<=400000000000) (af:l.length<=1000000) (k:Int) (ac: -1<=k):
  yG 142 #[.pointer (some ⟨B,0,none⟩),.int .i64 k] w (qfR (qcd l k) w):=by
 have t:=qH (qw3 B _ l w m k ac);by_cases D:0<=k/\k<(qaN l.length:Int)
 ·obtain ⟨j,rfl⟩:∃ j:Nat,k=(j:Int):=⟨k.toNat,by omega⟩
  have H:j<qaN l.length:=by omega
  rw [yA D] at t;have r:=quc H s;have d:=qjT (l:=l) j;have W:=qii (l.take (8*j)) (-1) (by have :=s;rw [<- gD (8*j) l,qeX,xA] at this;exact this.1);have G:=qm7 (l.take (8*j)) (-1) (by have :=s;rw [<- gD (8*j) l,qeX,xA] at this;exact this.1) (by omega);have N:(qae (-1) (l.take (8*j))).length<=(qae (-1) l).length:=by have :=r.2.1;omega
  have J:=fun w' (b:wG w w')=>qor B _ l w' (m.below b) j (by omega) (by omega)
  have ⟨bs,y⟩:=qE (qae (-1) l);have ⟨L,E⟩:=qE (qcd l (j:Int));have ⟨x,c⟩:=qE (qaP (-1) (l.take (8*j)));have ⟨a,F⟩:=qE ((qae (-1) (l.take (8*j))).length);rw [<- c,<- F] at J;rw [<- y,<- E,<- c,<- F] at r;rw [<- c] at W G;rw [<- y] at m K;rw [<- y,<- F] at N;rw [<- E] at d;rw [<- E];have S:=m.1;obtain ⟨_,C,A,ax,aw,⟨X,ae,U,ai⟩,Q,aj,_,V,_⟩:=m;have ⟨n,P⟩:=qE l.length;rw [<- P] at U d af;have aq:8*j<n:=by rw [P];unfold qaN at H;omega
  have ⟨M,I⟩:=qE bs.length;rw [<- I] at X N K Q;have ⟨q,T⟩:=qE (min 8 (n-8*j):Nat);rw [<- T] at d;have ar:q<=8:=by omega
  have au:(if (8:Int)<(n:Int)-(j:Int)*8 then (8:Int) else (n:Int)-(j:Int)*8)=(q:Int):=by split<;>omega
  have av:min ((n:Int)-(j:Int)*8) 8=(q:Int):=by omega
  have an:min (8:Int) ((n:Int)-(j:Int)*8)=(q:Int):=by omega
  have ak:qI (∀ w',wG w w'->yG 176 #[.slice C M A,.agg #[.int .i64 x,.int .i64 (a:Int)],.int .i64 (q:Int)] w' fun e i=>
    ∃ (v:Value) (z:Int),e= .returned (.tuple #[v,.int .i64 z,.bool true])/\qbH w'.heap.size i v L/\wG w' i):=qH fun w' b=>
   (qyh C M A bs x a q w' ((V.below b).more b.size) I.symm Q aj K N (by omega) G (by omega)).mono fun e i=>by
    rintro ⟨h1,(⟨g,v,h2,h3,al,_,rfl,am⟩|⟨h2,_⟩)⟩
    ·exact ⟨v,_,rfl,by rw [al L d r];exact am,h1⟩
    ·exact absurd r (h2 L d)
  have aa:qI (∀ w',wG w w'->yG 165 #[.pointer (some ⟨B,0,none⟩),.int .i64 (j:Int)] w' fun e i=>
    e= .returned (.agg #[.int .i64 x,.int .i64 (a:Int)])/\wG w' i):=qH fun w' b=>J w' b
  have O:qI (∀ w',wG w w'->w'.cell? ⟨B,0,none⟩=some (.slice C M A)/\w'.cell? ⟨B,2,none⟩=some (.int .i64 (n:Int))):=qH fun w' b=>⟨(b.cell (p:=⟨B,0,none⟩) S).trans X,(b.cell (p:=⟨B,2,none⟩) S).trans U⟩
  have ap:IntKind.i64.wrap ((n:Int)-(j:Int)*8)=(n:Int)-(j:Int)*8:=iG _ (by omega);have ao:IntKind.i64.wrap ((j:Int)*8)=(j:Int)*8:=iG _ (by omega);clear r d V y E c F P I T J ae ai W G H D s
  go_enter func142,ntmps142
  go_wp2_with (go_at_call 175;refine t.o.mono ?_;rintro e w' ⟨rfl,rfl⟩)
  go_region_held3 (fun w'=>w'.cell? ⟨B,0,none⟩=some (.slice C M A)/\w'.cell? ⟨B,2,none⟩=some (.int .i64 (n:Int)))
   (first|exact O.o _ (bA _ _).drew|exact O.o _ h.o|exact O.o _ R.o)
   (first
    |(go_simp;go_at_call 165;(with_reducible refine (aa.o _ (bA _ _).drew).mono ?_);rintro e ah ⟨rfl,Z⟩;have h:qI (wG w ah):=qH ((bA _ w).drew.trans Z))
    |(go_simp;go_at_call 176;(with_reducible refine (ak.o _ h.o).mono ?_);rintro e ab ⟨v,z,rfl,Y,ad⟩;have R:qI (wG w ab):=qH (h.o.trans (ad.mono h.o.size))))
  all_goals
   go_wp2;go_ret;exact ⟨_,rfl,Y.low h.o.size,R.o⟩
 ·have c:qcd l k=[]:=by
   by_cases ag:k<0
   ·exact qtI ag
   ·obtain ⟨j,rfl⟩:∃ j:Nat,k=(j:Int):=⟨k.toNat,by omega⟩
    exact qtJ (by omega)
  rw [c];rw [uA D] at t;clear c D
  go_enter func142,ntmps142
  go_wp2_with (go_at_call 175;refine t.o.mono ?_;rintro e w' ⟨rfl,rfl⟩)
  go_ret;exact ⟨_,rfl,qbH.nil,bA _ _⟩
def qyo (zz B:Nat) (l:List Po) (w:World) (c:LAt w zz B (qae (-1) l) l) (a:qa5 (-1) l=true) (d:(qae (-1) l).length<=400000000000) (e:l.length<=1000000) (k:Int) (b: -1<=k):
  yG 142 #[.pointer (some ⟨B,0,none⟩),.int .i64 k] w (qfR (qcd l k) w):=qyn B l w c.in_ a d e k b
def qaR (zz:Nat) (w:World) (v:Value) (l:List Tm):Prop:=w.ownsRow zz 69 2 v l.length (flds l)
def qa0 (zz:Nat) (w:World) (v:Value) (l:List Fd):Prop:=w.ownsRow zz 121 2 v l.length (flds l)
def qaR.below {l:List Tm} (a:qaR zz w v l) (b:wG w w'):qaR zz w' v l:=qaf a b
def qaR.low {l:List Tm} (a:qaR zz w v l) (c:b<=zz):qaR b w v l:=qbk a c
def qaR.row {l:List Tm} (a:qaR zz w v l):∃ A c,v= .slice A l.length c/\l.length<=c/\qap w w.heap.size A l:=qaK a
def qaR.nil:qaR zz w (.slice none 0 0) []:=vA _ _ _ _
def qa0.below {l:List Fd} (a:qa0 zz w v l) (b:wG w w'):qa0 zz w' v l:=qaf a b
def qa0.low {l:List Fd} (a:qa0 zz w v l) (c:b<=zz):qa0 b w v l:=qbk a c
def qa0.row {l:List Fd} (a:qa0 zz w v l):∃ A c,v= .slice A l.length c/\l.length<=c/\qap w w.heap.size A l:=qaK a
def qa0.nil:qa0 zz w (.slice none 0 0) []:=vA _ _ _ _
def qap.cut {l:List Fd} (a:qap w B A l) (k:Nat):qap w B A (l.take k):=by
 have :=Row.cut a (k*2);rwa [<- qo2] at this
def qpx:∀ (l:List Fd) (k:Nat),flds (l.drop k)=(flds l).drop (k*2)
 |l,0=>by simp
 |[],k+1=>by simp [flds]
 |f::l,k+1=>by rw [show (k+1)*2=k*2+1+1 by omega];simp [flds,qpx l k]
def qap.dropped {l:List Fd} (a:qap w B (some ⟨b,n,none⟩) l) (k:Nat):qap w B (some ⟨b,n+k*2,none⟩) (l.drop k):=by
 unfold qap at a ⊢;rw [qpx];rcases a with a|⟨i,h,e,g,d⟩
 ·exact .inl (by rw [a];simp)
 ·injection e with e
  injection e with e1 e2
  subst e1 e2;refine .inr ⟨b,n+k*2,rfl,g,fun j u c=> ?_⟩;rw [List.getElem?_drop] at c;have :=d (k*2+j) u c;rwa [<- uB] at this
def qpy (w:World) (x:Fd) (t:TypeId):qap (w.alloc (.cells #[.string ⟨x.1.toArray⟩,.string ⟨x.2.toArray⟩] t)) (w.alloc (.cells #[.string ⟨x.1.toArray⟩,.string ⟨x.2.toArray⟩] t)).heap.size (some ⟨w.heap.size,0,none⟩) [x]:=by
 refine .inr ⟨w.heap.size,0,rfl,by simp,fun j u a=> ?_⟩;have :=qaH w (flds [x]) t j u a;rw [cC] at this;exact this
theorem qpz:(prog.info? 69).map (fun i=>(i.zero,i.size,i.bytes))=some (some (.agg #[.string ByteArray.empty,.string ByteArray.empty]),2,32):=by kernel_rfl
def qdJ {d:Array Oper} {rest:List Oper} {o:Oper} {a:Act} {Q:Exit->Act->World->Prop} (w:World) (i:o.guard=none) (s x:Operand)
  (r:o.op= .call {callee:= .builtin .append,args:=#[s,x],argTypes:=#[145,145]})
  (zz:Nat) (v:Value) (l:List Tm) (n:a.eval s=v) (e:qaR zz w v l) (A:Option Addr) (m c:Nat) (b:List Tm) (C:a.eval x= .slice A m c) (h:b.length=m) (j:qap w w.heap.size A b)
  (E:l.length+m<=1073741824) (g:zz<=w.heap.size)
  (z:∀ v' w',qaR zz w' v' (l++b)->Below zz w w'->wpList prog d Q rest (a.put o.dst v') w'):wpList prog d Q (o::rest) a w:=by
 have ⟨B,D,t,y,p⟩:=lG qpz;refine qf9 w i s x 145 r zz 69 B _ 2 32 underlying145 D t y p rfl (by decide) v l.length (flds l) n e w.heap.size A m c (flds b) C (by rw [qfW,h]) j (qiG _) (by unfold maxLen;omega) (by omega) g fun v' w' h1 h2=>z v' w' ?_ ?_
 ·unfold qaR
  rw [iA,h,qhI];exact h1
 ·exact (bA zz w).grown h2 g fun k q=>(e.lt k q).1
def qpA {d:Array Oper} {rest:List Oper} {o:Oper} {a:Act} {Q:Exit->Act->World->Prop} (w:World) (i:o.guard=none) (s x:Operand)
  (r:o.op= .call {callee:= .builtin .append,args:=#[s,x],argTypes:=#[57,57]})
  (zz:Nat) (v:Value) (l:List Fd) (n:a.eval s=v) (e:qa0 zz w v l) (A:Option Addr) (m c:Nat) (b:List Fd) (C:a.eval x= .slice A m c) (h:b.length=m) (j:qap w w.heap.size A b)
  (E:l.length+m<=1073741824) (g:zz<=w.heap.size)
  (z:∀ v' w',qa0 zz w' v' (l++b)->Below zz w w'->w.grownBy w' v.ownBlock->wpList prog d Q rest (a.put o.dst v') w'):wpList prog d Q (o::rest) a w:=by
 have ⟨B,D,t,y,p⟩:=lG qo3;refine qf9 w i s x 57 r zz 121 B _ 2 32 underlying57 D t y p rfl (by decide) v l.length (flds l) n e w.heap.size A m c (flds b) C (by rw [qfW,h]) j (qiG _) (by unfold maxLen;omega) (by omega) g fun v' w' h1 h2=>z v' w' ?_ ?_ h2
 ·unfold qa0
  rw [iA,h,qhI];exact h1
 ·exact (bA zz w).grown h2 g fun k q=>(e.lt k q).1
def qyp:qoc where
 order:=fun A m c l w s a g r=>(qpw A m c l w s a g r).mono fun _ _ ⟨t,o,h,p,h1,h2,h3,j,q,_⟩=>⟨t,o,h,p,h1,h2,h3,j,q⟩
 places:=fun A m c n o i w d a b k _ e=>qoO A m c n o i w d a b k e
open Go.ChangeMaps (setBlock)
def tV (t:Tm):Value:= .agg #[.string ⟨t.1.toArray⟩,.string ⟨t.2.toArray⟩]
def qiM (a b:Nm):((⟨a.toArray⟩:ByteArray)==⟨b.toArray⟩)=decide (a=b):=by
 have c:((⟨a.toArray⟩:ByteArray)==⟨b.toArray⟩)=(a.toArray==b.toArray):=rfl;rw [c,kD];simp
def qyq (s t:Tm) (w:World):(Op.equal 69 (tV s) (tV t)).run prog w= .ok (decide (s=t)) w:=by
 have c:∀ d:Nat,(Op.equalIn (d+2) 69 (tV s) (tV t)).run prog w= .ok (decide (s=t)) w:=fun d=>by
  simp only [Op.equalIn,tV,part];simp [rC underlying69,rC underlying9,Tryz.sizeOf9,Tryz.isAgg9,qiM];obtain ⟨b,a⟩:=s;obtain ⟨g,e⟩:=t;by_cases h1:b=g<;>by_cases h2:a=e<;>simp [h1,h2]
 exact c 9998
def qiN (a:Bool) (t:Tm) (w:World):(Instr.checkKey a 10000 69 (tV t)).run prog w= .ok () w:=by
 have b:∀ d:Nat,(Instr.checkKey a (d+2) 69 (tV t)).run prog w= .ok () w:=fun d=>by
  simp [Instr.checkKey,rC underlying69,rC underlying9,tV,part,Tryz.sizeOf9,Tryz.isAgg9]
 exact b 9998
def qyr (t:Tm) (w:World):(Instr.keyThatStays (tV t) (tV t)).run prog w= .ok (tV t) w:=by
 have a:∀ d:Nat,Instr.sameBits (d+2) (tV t) (tV t)=true:=fun d=>by simp [Instr.sameBits,tV,qiM]
 simp [Instr.keyThatStays,a 9998]
abbrev Ent:=Tm × Value
def qa4:Nat->List Ent->List MapEntry
 |_,[]=>[]
 |i,e::m=>{key:=tV e.1,val:=e.2,born:=i}::qa4 (i+1) m
def qiO:∀ (m:List Ent) (i:Nat),(qa4 i m).length=m.length
 |[],_=>rfl
 |e::m,i=>by simp [qa4,qiO m (i+1)]
def qhL:∀ {m:List Ent} {i k:Nat} (b:k<m.length),(qa4 i m)[k]?=some {key:=tV m[k].1,val:=m[k].2,born:=i+k}
 |[],_,_,a=>by simp at a
 |e::m,i,0,_=>rfl
 |e::m,i,k+1,a=>by
  have :=qhL (m:=m) (i:=i+1) (k:=k) (by simpa using a);simp only [qa4,dF,zC];rw [this,uB,Nat.add_comm 1 k]
def qpB:∀ (m:List Ent) (e:Ent) (i:Nat),qa4 i (m++[e])=qa4 i m++[{key:=tV e.1,val:=e.2,born:=i+m.length}]
 |[],e,i=>rfl
 |x::m,e,i=>by
  simp only [bC,qa4,qpB m e (i+1),nA];rw [uB,Nat.add_comm 1 m.length]
def qpC:∀ (m:List Ent) (e:Ent) (i k:Nat),qa4 i (m.set k e)=(qa4 i m).set k {key:=tV e.1,val:=e.2,born:=i+k}
 |[],e,i,k=>by simp [qa4]
 |x::m,e,i,0=>by simp [qa4]
 |x::m,e,i,k+1=>by
  simp only [zF,qa4,qpC m e (i+1) k];rw [uB,Nat.add_comm 1 k]
def qbj (w:World) (B:Nat) (m:List Ent):Prop:=w.heap[B]?=some (.map (qa4 0 m).toArray m.length)
def qav (m:List Ent) (t:Tm):Nat:=m.findIdx (fun e=>decide (e.1=t))
def qcq (m:List Ent) (t:Tm):Value:=if h:qav m t<m.length then m[qav m t].2 else .slice none 0 0
def qcr (m:List Ent) (t:Tm):List Ent:=if qav m t<m.length then m else m++[(t,.slice none 0 0)]
def qpD {m:List Ent} {t:Tm} (a:qav m t<m.length):m[qav m t].1=t:=by
 have :=List.findIdx_getElem (p:=fun e:Ent=>decide (e.1=t)) (xs:=m) (w:=a);exact mD this
def qpE (m:List Ent) (t:Tm):qav m t<(qcr m t).length/\(qcr m t)[qav m t]?=some (t,qcq m t):=by
 unfold qcr qcq;split
 ·rename_i a
  have e:=qpD a;refine ⟨a,?_⟩;rw [oA a];exact congrArg some (Prod.ext e rfl)
 ·rename_i a
  have b:qav m t<=m.length:=List.findIdx_le_length;have :qav m t=m.length:=by omega
  rw [this];simp
def qpF:∀ (m:List Ent) (t:Tm) (w:World) (k i:Nat),(Instr.findAsking 69 (tV t) (qa4 k m) i).run prog w= .ok (if a:qav m t<m.length then some (i+qav m t,m[qav m t].2) else none) w
 |[],t,w,k,i=>by simp [qa4,Instr.findAsking,qav]
 |e::m,t,w,k,i=>by
  have h:=qpF m t w (k+1) (i+1);rw [qa4,Instr.findAsking];simp only [Sem.run_bind,qyq,Result.andThen];by_cases c:t=e.1
  ·have b:qav (e::m) t=0:=by unfold qav;rw [mE];simp [c]
   simp only [b];simp [c]
  ·have g:¬ e.1=t:=fun a=>c a.symm
   have b:qav (e::m) t=qav m t+1:=by unfold qav;rw [mE];simp [g]
   simp only [c,decide_false,Bool.false_eq_true,if_false,h];rw [Result.ok.injEq];refine ⟨?_,rfl⟩;by_cases a:qav m t<m.length
   ·have d:qav (e::m) t<(e::m).length:=by rw [b];simpa using a
    rw [dif_pos a,dif_pos d];simp only [b,zC];rw [uB,Nat.add_comm 1]
   ·have d:¬ qav (e::m) t<(e::m).length:=by rw [b];simpa using a
    rw [dif_neg a,dif_neg d]
def qpG (m:List Ent) (t:Tm) (w:World) (k:Nat):(Instr.findKey 69 (tV t) (qa4 k m)).run prog w= .ok (if a:qav m t<m.length then some (qav m t,m[qav m t].2) else none) w:=by
 have h1:=qpF m t w k 0;rw [kB] at h1;cases m with
 |nil=>simp [Instr.findKey,rC underlying69,qa4,Instr.findNow,qav]
 |cons e m=>
  rw [<- h1];simp [Instr.findKey,rC underlying69,qa4,Instr.findNow,Instr.sameNow]
def qys {m:List Ent} (b:qbj w B m) (t:Tm):(Instr.lookup 248 (.map (some B)) (tV t) false).run prog w= .ok (qcq m t) w:=by
 unfold qbj at b;have a:=qpG m t w 0;unfold qcq;by_cases c:qav m t<m.length
 ·rw [dif_pos c] at a ⊢
  simp [Instr.lookup,rC underlying248,jF b,qiN,a,Result.andThen]
 ·rw [dif_neg c] at a ⊢
  simp [Instr.lookup,rC underlying248,jF b,qiN,a,Result.andThen,Tryz.zeroValue23]
def qyt {m:List Ent} (a:qbj w B m) (t:Tm):∃ w',(Instr.mapEntry 248 (.map (some B)) (tV t)).run prog w= .ok (.tuple #[qcq m t,.int .i64 (qav m t:Int)]) w'/\qbj w' B (qcr m t)/\w.grownBy w' (some B):=by
 unfold qbj at a;have d:=qpG m t w 0;unfold qcq qcr;by_cases b:qav m t<m.length
 ·rw [dif_pos b] at d ⊢
  rw [eA b];have c:=qpD b;have g:=qhL (i:=0) b;rw [c,kB] at g;have p:(qa4 0 m).modify (qav m t) (fun e=>{e with key:=tV t})=qa4 0 m:=by
   apply List.ext_getElem?;intro j;rw [List.getElem?_modify];by_cases h:qav m t=j
   ·subst h;simp [g]
   ·simp [h]
  refine ⟨setBlock w B (.map (qa4 0 m).toArray m.length),?_,dG a _,?_⟩
  ·simp [Instr.mapEntry,rC underlying248,jF a,qiN,d,Result.andThen,g,qyr,MapKept.run_setObj_map _ a,p,goInt,setBlock]
  ·exact ⟨rfl,rfl,rfl,by simp [setBlock],fun k _ c=>bG a _ (fun e=>c (by rw [e]))⟩
 ·rw [dif_neg b] at d ⊢
  rw [dA b];have q:qav m t<=m.length:=List.findIdx_le_length;have l:qav m t=m.length:=by omega
  have n:(qa4 0 m).toArray.push {key:=tV t,val:= .slice none 0 0,born:=m.length}=(qa4 0 (m++[(t,.slice none 0 0)])).toArray:=by
   rw [qpB,kB,jD]
  refine ⟨setBlock w B (.map (qa4 0 (m++[(t,Value.slice none 0 0)])).toArray (m++[(t,Value.slice none 0 0)]).length),?_,dG a _,?_⟩
  ·rw [l,<- n]
   simp [Instr.mapEntry,rC underlying248,jF a,qiN,d,Result.andThen,MapKept.run_setObj_map _ a,goInt,setBlock,Tryz.zeroValue23]
  ·exact ⟨rfl,rfl,rfl,by simp [setBlock],fun k _ c=>bG a _ (fun e=>c (by rw [e]))⟩
def qpH:∀ (m:List Ent) (i k:Nat),k<m.length->(qa4 i m).findIdx? (fun e=>((e.born:Nat):Int)==((i+k:Nat):Int))=some k
 |[],i,k,a=>by simp at a
 |e::m,i,0,_=>by rw [qa4,List.findIdx?_cons];simp
 |e::m,i,k+1,a=>by
  have b:=qpH m (i+1) k (by simpa using a);rw [qa4,List.findIdx?_cons,dA (by simp;omega)];rw [show i+(k+1)=i+1+k by omega,b];rfl
def qyu {m:List Ent} (a:qbj w B m) {k:Nat} (b:k<m.length) (v:Value):∃ w',(Instr.entryStore 248 (.map (some B)) (.int .i64 (k:Int)) v).run prog w= .ok () w'/\qbj w' B (m.set k (m[k].1,v))/\w.grownBy w' (some B):=by
 unfold qbj at a;have d:=qpH m 0 k b;rw [kB] at d;have g:=qhL (i:=0) b;rw [kB] at g;have h:(qa4 0 m).modify k (fun e=>{e with val:=v})=qa4 0 (m.set k (m[k].1,v)):=by
  rw [qpC,kB];apply List.ext_getElem?;intro j;rw [List.getElem?_modify,aE];by_cases c:k=j
  ·subst c
   have l:k<(qa4 0 m).length:=by rw [qiO];exact b
   rw [g,eA rfl,eA l];simp
  ·simp [c]
 refine ⟨setBlock w B (.map (qa4 0 (m.set k (m[k].1,v))).toArray (m.set k (m[k].1,v)).length),?_,dG a _,?_⟩
 ·rw [<- h]
  simp [Instr.entryStore,jF a,asInt,asIntOf,d,MapKept.run_setObj_map _ a,Result.andThen,setBlock]
 ·exact ⟨rfl,rfl,rfl,by simp [setBlock],fun k _ b=>bG a _ (fun e=>b (by rw [e]))⟩
section
variable {ops:Array Oper} {rest:List Oper} {o:Oper} {a:Act} {Q:Exit->Act->World->Prop}
def qyv (w:World) (b:o.guard=none) (x y:Operand) (h:o.op=Op.lookup 248 x y false) (B:Nat) (m:List Ent) (t:Tm) (i:a.eval x= .map (some B)) (c:qbj w B m) (e:a.eval y=tV t)
  (g:wpList prog ops Q rest (a.put o.dst (qcq m t)) w):wpList prog ops Q (o::rest) a w:=by
 refine wpList_plain b fun j d=> ?_
 unfold Oper.wp;simp [execOp,h,i,e,qys c,Result.andThen];exact d _ _ g
def qyw (w:World) (c:o.guard=none) (x y:Operand) (k:o.op=Op.mapEntry 248 x y) (B:Nat) (m:List Ent) (t:Tm) (l:a.eval x= .map (some B)) (d:qbj w B m) (i:a.eval y=tV t)
  (j:∀ w',qbj w' B (qcr m t)->w.grownBy w' (some B)->wpList prog ops Q rest (a.put o.dst (.tuple #[qcq m t,.int .i64 (qav m t:Int)])) w'):wpList prog ops Q (o::rest) a w:=by
 refine wpList_plain c fun n e=> ?_
 have ⟨w',h,b,g⟩:=qyt d t;unfold Oper.wp;simp [execOp,k,l,i,h,Result.andThen];exact e _ _ (j w' b g)
def qyx (w:World) (c:o.guard=none) (x y z:Operand) (l:o.op=Op.entryStore 248 x y z) (B:Nat) (m:List Ent) (k:Nat) (q:k<m.length) (v:Value) (n:a.eval x= .map (some B)) (d:qbj w B m) (i:a.eval y= .int .i64 (k:Int)) (p:a.eval z=v)
  (j:∀ w',qbj w' B (m.set k (m[k].1,v))->w.grownBy w' (some B)->wpList prog ops Q rest (a.put o.dst undef) w'):wpList prog ops Q (o::rest) a w:=by
 refine wpList_plain c fun r e=> ?_
 have ⟨w',h,b,g⟩:=qyu d q v;unfold Oper.wp;simp [execOp,l,n,i,p,h,Result.andThen];exact e _ _ (j w' b g)
end
attribute [local go_sem] gG
def qgo (zz a:Nat) (A B:World):Prop:=Below zz A B/\(a<A.heap.size->B.heap[a]?=A.heap[a]?)
def qgo.trans {A B C:World} (a:qgo zz D A B) (k:qgo zz D B C):qgo zz D A C:=
 ⟨a.1.trans k.1,fun e=>(k.2 (tB e a.1.size)).trans (a.2 e)⟩
def qiP (b:Nat) (l:List Po) (pre:List Value) (v:Value) (W:World):Prop:=pre.length<qaN l.length/\qbH b W v (qcd l (pre.length:Int))
def qyy (w0:World) (B a N:Nat) (b:List Value->World->Prop) (i:Value) (wr:World):Prop:=
 ∃ pre:List Value,pre.length<=N/\i= .int .i64 (pre.length:Int)/\b pre wr/\wG w0 wr/\wr.heap[a]?=some (.cells #[.pointer (some ⟨B,0,none⟩)] 116 (0,0))
def qyz (m a s B:Nat) (l:List Po) (w0 w:World) (av:1<=m) (t:LAt w0 s B (qae (-1) l) l) (L:qa5 (-1) l=true) (J:(qae (-1) l).length<=400000000000) (ak:l.length<=1000000) (j:wG w0 w)
  (p:w.heap[a]?=some (.cells #[.pointer (some ⟨B,0,none⟩)] 116 (0,0))):
  qij m prog 140 #[.pointer (some ⟨a,0,none⟩)] (fun v:Value=>#[v]) (qgo w0.heap.size a) (qiP w0.heap.size l) (fun ys=>ys.length=qaN l.length) w:=by
 intro ar ae W r Y I M;have q:W.heap[a]?=some (.cells #[.pointer (some ⟨B,0,none⟩)] 116 (0,0)):=(r.block a (mG p)).trans p;have y:=j.trans (r.mono j.size);refine vG func140 rfl trivial ?_ rfl;simp only [ntmps140,iD,nA,vB,Nat.reduceAdd,Nat.reduceSub,tD,uD,jD,vD,lC,bC];have x:=qH (qos s B _ l W (t.below y));have aj:qI (∀ w',wG w0 w'->∀ k:Nat,yG 142 #[.pointer (some ⟨B,0,none⟩),.int .i64 (k:Int)] w' (qfR (qcd l (k:Int)) w')):=qH fun w' aa k=>
  qyo s B l w' (t.below aa) L J ak k (by omega)
 have ai:=kG q;have ⟨N,d⟩:=qE (qaN l.length);rw [<- d] at x;have au:N<=1000000:=by rw [d];unfold qaN;omega
 have S:=qH d;have af:=qH I;have Z:=qH Y;have ah:=qH M;have ab:=qH q;have an:=qH y;clear I Y M r p q y t j d L J
 gi_wp2_with (first
  |(refine ⟨trivial,?_⟩;gi_at_call 141;refine (uG.2 x.o).mono ?_;rintro e w' ⟨rfl,rfl⟩)
  |(gi_at_call 141;refine (uG.2 x.o).mono ?_;rintro e w' ⟨rfl,rfl⟩))
 gi_loopw [6] (fun i wr=>qyy w0 B a N ae i wr) (fun i _=>N-(intOf i).toNat)
 case atStart=>exact ⟨[],kA _,rfl,ah.o,an.o,ab.o⟩
 case round=>
  obtain ⟨pre,al,rfl,F,O,n⟩:=hrel;have ⟨k,g⟩:=qE pre.length;rw [<- g] at al;rw [<- g];have ao:=kG n;have A:=qH F;have U:=qH n;have h:=qH g;have c:=qH O;clear F n g ai O;by_cases V:k<N
  ·have P:=aj.o wr c.o k
   have X:=qH P;clear P
   gi_wp2_with (first
    |(refine ⟨trivial,?_⟩;gi_at_call 142;refine (uG.2 X.o).mono ?_)
    |(gi_at_call 142;refine (uG.2 X.o).mono ?_))
   rintro e T ⟨v,rfl,D,b⟩;have H:qiP w0.heap.size l pre v T:=by
    unfold qiP;rw [<- h.o,<- S.o];exact ⟨V,D.low c.o.size⟩
   have ⟨fn,tmps,assign,body,ag,E⟩:=af.o pre v T (Z.o _ _ _ A.o b) H;have C:=(b.block _ (mG U.o)).trans U.o;have ac:=qH (c.o.trans (b.mono c.o.size));have Q:=qH C;clear H D b C;gi_wp2;refine E.mono ?_;rintro e aw ⟨rfl,G,z⟩;have K:=(z.2 (mG Q.o)).trans Q.o;have ap:=qH G;have aq:=qH K;have am:=qH (ac.o.trans z.1);clear G z K ag E ao;gi_wp2;go_roundw
   case rel=>exact ⟨pre++[v],by rw [iA,<- h.o];exact V,by rw [iA,<- h.o];simp,ap.o,am.o,aq.o⟩
   case measure=>simp [intOf];omega
  ·have R:pre.length=qaN l.length:=by rw [<- h.o,<- S.o];omega
   have ad:=qH R;clear R;gi_wp2
   go_end0
   exact ⟨⟨_,rfl⟩,_,ad.o,A.o⟩
def qpI (p:Addr) (w:World):
  yG 100 #[.pointer (some p)] w fun e w'=>e= .returned (.func (.func 140) #[] #[.pointer (some ⟨w.heap.size,0,none⟩)])/\
   w'.heap[w.heap.size]?=some (.cells #[.pointer (some p)] 116 (0,0))/\wG w w'/\w'.heap.size=w.heap.size+1:=by
 go_enter func100,ntmps100
 go_wp2;go_ret;exact ⟨rfl,jA w _,(bA _ w).alloc (aA _) _,by simp⟩
open Go.ChangeMaps (setBlock)
def kV (t:Nm):Value:= .string ⟨t.toArray⟩
def qiQ (a:Bool) (t:Nm) (w:World):(Instr.checkKey a 10000 9 (kV t)).run prog w= .ok () w:=by
 have b:∀ d:Nat,(Instr.checkKey a (d+1) 9 (kV t)).run prog w= .ok () w:=fun d=>by
  simp [Instr.checkKey,rC underlying9,kV]
 exact b 9999
def qyA (t:Nm) (w:World):(Instr.keyThatStays (kV t) (kV t)).run prog w= .ok (kV t) w:=by
 have a:∀ d:Nat,Instr.sameBits (d+2) (kV t) (kV t)=true:=fun d=>by simp [Instr.sameBits,kV,qiM]
 simp [Instr.keyThatStays,a 9998]
abbrev qaS:=Nm × Value
def qbt:Nat->List qaS->List MapEntry
 |_,[]=>[]
 |i,e::m=>{key:=kV e.1,val:=e.2,born:=i}::qbt (i+1) m
def qiR:∀ (m:List qaS) (i:Nat),(qbt i m).length=m.length
 |[],_=>rfl
 |e::m,i=>by simp [qbt,qiR m (i+1)]
def qiS:∀ {m:List qaS} {i k:Nat} (b:k<m.length),(qbt i m)[k]?=some {key:=kV m[k].1,val:=m[k].2,born:=i+k}
 |[],_,_,a=>by simp at a
 |e::m,i,0,_=>rfl
 |e::m,i,k+1,a=>by
  have :=qiS (m:=m) (i:=i+1) (k:=k) (by simpa using a);simp only [qbt,dF,zC];rw [this,uB,Nat.add_comm 1 k]
def qpJ:∀ (m:List qaS) (e:qaS) (i:Nat),qbt i (m++[e])=qbt i m++[{key:=kV e.1,val:=e.2,born:=i+m.length}]
 |[],e,i=>rfl
 |x::m,e,i=>by
  simp only [bC,qbt,qpJ m e (i+1),nA];rw [uB,Nat.add_comm 1 m.length]
def qpK:∀ (m:List qaS) (e:qaS) (i k:Nat),qbt i (m.set k e)=(qbt i m).set k {key:=kV e.1,val:=e.2,born:=i+k}
 |[],e,i,k=>by simp [qbt]
 |x::m,e,i,0=>by simp [qbt]
 |x::m,e,i,k+1=>by
  simp only [zF,qbt,qpK m e (i+1) k];rw [uB,Nat.add_comm 1 k]
def qbm (w:World) (B c:Nat) (m:List qaS):Prop:=w.heap[B]?=some (.map (qbt c m).toArray (c+m.length))
def qax (m:List qaS) (t:Nm):Nat:=m.findIdx (fun e=>decide (e.1=t))
def qda (m:List qaS) (t:Nm):Value:=if h:qax m t<m.length then m[qax m t].2 else .slice none 0 0
def qds (m:List qaS) (t:Nm):List qaS:=if qax m t<m.length then m else m++[(t,.slice none 0 0)]
def qpL {m:List qaS} {t:Nm} (a:qax m t<m.length):m[qax m t].1=t:=by
 have :=List.findIdx_getElem (p:=fun e:qaS=>decide (e.1=t)) (xs:=m) (w:=a);exact mD this
def qyB (m:List qaS) (t:Nm):qax m t<(qds m t).length/\(qds m t)[qax m t]?=some (t,qda m t):=by
 unfold qds qda;split
 ·rename_i a
  have e:=qpL a;refine ⟨a,?_⟩;rw [oA a];exact congrArg some (Prod.ext e rfl)
 ·rename_i a
  have b:qax m t<=m.length:=List.findIdx_le_length;have :qax m t=m.length:=by omega
  rw [this];simp
def qpM:∀ (m:List qaS) (t:Nm) (k i:Nat),Instr.findNow .string (kV t) (qbt k m) i=some (if a:qax m t<m.length then some (i+qax m t,m[qax m t].2) else none)
 |[],t,k,i=>by simp [qbt,Instr.findNow,qax]
 |e::m,t,k,i=>by
  have j:=qpM m t (k+1) (i+1);have g:Instr.sameNow .string (kV t) (kV e.1)=some (decide (t=e.1)):=by simp only [Instr.sameNow,kV,qiM]
  rw [qbt,Instr.findNow];simp only [g];by_cases c:t=e.1
  ·have b:qax (e::m) t=0:=by unfold qax;rw [mE];simp [c]
   simp only [b];simp [c]
  ·have h:¬ e.1=t:=fun a=>c a.symm
   have b:qax (e::m) t=qax m t+1:=by unfold qax;rw [mE];simp [h]
   simp only [c,decide_false,j];by_cases a:qax m t<m.length
   ·have d:qax (e::m) t<(e::m).length:=by rw [b];simpa using a
    rw [dif_pos a,dif_pos d];simp only [b,zC];rw [uB,Nat.add_comm 1]
   ·have d:¬ qax (e::m) t<(e::m).length:=by rw [b];simpa using a
    rw [dif_neg a,dif_neg d]
def qpN (m:List qaS) (t:Nm) (w:World) (k:Nat):(Instr.findKey 9 (kV t) (qbt k m)).run prog w= .ok (if a:qax m t<m.length then some (qax m t,m[qax m t].2) else none) w:=by
 have a:=qpM m t k 0;simp only [kB] at a;simp only [Instr.findKey,Sem.run_bind,rC underlying9,Result.andThen,a];simp [Sem.run_pure]
def qpO {m:List qaS} (b:qbm w B c m) (t:Nm):(Instr.lookup 124 (.map (some B)) (kV t) false).run prog w= .ok (qda m t) w:=by
 unfold qbm at b;have a:=qpN m t w c;unfold qda;by_cases d:qax m t<m.length
 ·rw [dif_pos d] at a ⊢
  simp [Instr.lookup,rC underlying124,jF b,qiQ,a,Result.andThen]
 ·rw [dif_neg d] at a ⊢
  simp [Instr.lookup,rC underlying124,jF b,qiQ,a,Result.andThen,Tryz.zeroValue71]
def qyC {m:List qaS} (a:qbm w B c m) (t:Nm) (v:Value):∃ w',(Instr.mapUpdate 124 (.map (some B)) (kV t) v).run prog w= .ok () w'/\qbm w' B c ((qds m t).set (qax m t) (t,v))/\w.grownBy w' (some B):=by
 unfold qbm at a;have g:=qpN m t w c;unfold qds;by_cases b:qax m t<m.length
 ·rw [dif_pos b] at g
  rw [eA b];have d:=qpL b;have h:=qiS (i:=c) b;rw [d] at h;have q:(qbt c m).modify (qax m t) (fun e=>{e with key:=kV t,val:=v})=qbt c (m.set (qax m t) (t,v)):=by
   rw [qpK];apply List.ext_getElem?;intro j;rw [List.getElem?_modify,aE];by_cases l:qax m t=j
   ·subst l
    have s:qax m t<(qbt c m).length:=by rw [qiR];exact b
    rw [h,eA rfl,eA s];simp
   ·simp [l]
  refine ⟨setBlock w B (.map (qbt c (m.set (qax m t) (t,v))).toArray (c+(m.set (qax m t) (t,v)).length)),?_,dG a _,?_⟩
  ·rw [<- q]
   simp [Instr.mapUpdate,rC underlying124,jF a,qiQ,g,Result.andThen,h,qyA,MapKept.run_setObj_map _ a,setBlock]
  ·exact ⟨rfl,rfl,rfl,by simp [setBlock],fun k _ d=>bG a _ (fun e=>d (by rw [e]))⟩
 ·rw [dif_neg b] at g
  rw [dA b];have x:qax m t<=m.length:=List.findIdx_le_length;have n:qax m t=m.length:=by omega
  have r:(m++[(t,Value.slice none 0 0)]).set (qax m t) (t,v)=m++[(t,v)]:=by
   rw [n];simp
  have p:(qbt c m).toArray.push {key:=kV t,val:=v,born:=c+m.length}=(qbt c (m++[(t,v)])).toArray:=by
   rw [qpJ,jD]
  rw [r];refine ⟨setBlock w B (.map (qbt c (m++[(t,v)])).toArray (c+(m++[(t,v)]).length)),?_,dG a _,?_⟩
  ·rw [<- p]
   simp [Instr.mapUpdate,rC underlying124,jF a,qiQ,g,Result.andThen,MapKept.run_setObj_map _ a,setBlock,uB]
  ·exact ⟨rfl,rfl,rfl,by simp [setBlock],fun k _ d=>bG a _ (fun e=>d (by rw [e]))⟩
section
variable {ops:Array Oper} {rest:List Oper} {o:Oper} {a:Act} {Q:Exit->Act->World->Prop}
def qyD (w:World) (b:o.guard=none) (x y:Operand) (i:o.op=Op.lookup 124 x y false) (B c:Nat) (m:List qaS) (t:Nm) (j:a.eval x= .map (some B)) (d:qbm w B c m) (g:a.eval y=kV t)
  (h:wpList prog ops Q rest (a.put o.dst (qda m t)) w):wpList prog ops Q (o::rest) a w:=by
 refine wpList_plain b fun k e=> ?_
 unfold Oper.wp;simp [execOp,i,j,g,qpO d,Result.andThen];exact e _ _ h
end
open Go.ChangeMaps (setBlock)
attribute [local go_sem] gG
def qiT (x:Tm):Array Value:=#[tV x]
def qfY (W:World) (r B:Nat) (m:List Ent) (pre:List Tm):Prop:=∃ a:List Nat,W.heap[r]?=some (.mapIter (some B) m.length a.toArray m.length)/\a.Nodup/\(∀ b∈a,b<m.length)/\pre=a.map fun b=>(m.map (·.1)).getD b ([],[])
def qpP {m:List Ent} {e:MapEntry} (b:e∈qa4 i m):∃ (k:Nat) (a:k<m.length),e={key:=tV m[k].1,val:=m[k].2,born:=i+k}:=by
 obtain ⟨k,a,rfl⟩:=nC b;rw [qiO] at a;refine ⟨k,a,?_⟩;have :=qhL (i:=i) a;rw [oA (by rw [qiO];exact a)] at this;exact Option.some.inj this
def qpQ:∀ (m:List Ent) (i:Nat),(qa4 i m).map (·.born)=List.range' i m.length
 |[],i=>rfl
 |e::m,i=>by rw [qa4,xB,qpQ m (i+1),nA,List.range'_succ]
def qk9:∀ (n:Nat) (l:List Nat),l.Nodup->(∀ b∈l,b<n)->l.length<=n
 |0,l,_,a=>by
  cases l with
  |nil=>exact aA _
  |cons x l=>exact absurd (a x (eB ..)) (by omega)
 |n+1,l,c,a=>by
  have h1:=qk9 n (l.erase n) (c.erase n) fun b e=>by
   have ⟨h2,h3⟩:=(c.mem_erase_iff).1 e;have :=a b h3;omega
  by_cases d:n∈l
  ·rw [List.length_erase_of_mem d] at h1
   omega
  ·rw [List.erase_of_not_mem d] at h1
   omega
def qfY.done {W:World} {r B:Nat} {m:List Ent} {a:List Nat} (h:a.Nodup) (d:∀ b∈a,b<m.length) (g:(leftOf (qa4 0 m).toArray a.toArray).size=0):(a.map fun b=>(m.map (·.1)).getD b ([],[])).Perm (m.map (·.1)):=by
 have j:=all_seen _ _ g;have l:a.Perm (List.range m.length):=by
  refine (List.perm_ext_iff_of_nodup h List.nodup_range).2 fun b=>⟨fun c=>xE.2 (d b c),fun c=> ?_⟩
  have c:=xE.1 c;have k:=qhL (i:=0) c;have :=j _ (iE (by simpa using k));simpa using this
 have h1:=l.map fun b=>(m.map (·.1)).getD b (([],[]):Tm)
 refine h1.trans (List.Perm.of_eq ?_)
 apply dD
 ·simp
 ·intro i h2 h3
  have e:i<m.length:=by simpa using h3
  simp [mA,e]
structure qdK (zz:Nat) (w w':World):Prop where
 below:Below zz w w'
 keep:∀ (k:Nat) (o:Obj),w.heap[k]?=some o->(∀ m s e c,o≠ .mapIter m s e c)->w'.heap[k]?=some o
def qdK.of (a:wG w w') (c:zz<=w.heap.size):qdK zz w w':=⟨a.mono c,fun k o b _=>(a.block k (gA.1 b).1).trans b⟩
structure qdb (zz:Nat) (w w':World):Prop where
 below:Below zz w w'
 keep:∀ (k:Nat) (o:Obj),w.heap[k]?=some o->((∃ m s e c,o= .mapIter m s e c)\/∃ es c,o= .map es c)->w'.heap[k]?=some o
theorem qpR {zz:Nat} {w w1:World} {r:Nat} {m:Option Nat} {s:Nat} {e:Array Nat} {c:Nat} (h1:w1=w\/w1=w.drew) (hr:w.heap[r]?=some (.mapIter m s e c)) (hb:zz<=r) (o:Obj):qdK zz w (setBlock w1 r o)/\(setBlock w1 r o).heap[r]?=some o:=by
 have hlt:=(gA.1 hr).1;have hh:w1.heap=w.heap:=by rcases h1 with rfl|rfl<;>rfl
 refine ⟨⟨⟨by rcases h1 with rfl|rfl<;>rfl,by rcases h1 with rfl|rfl<;>rfl,by rcases h1 with rfl|rfl<;>rfl,by simp [setBlock,hh],fun k hk=> ?_⟩,fun k o' hk hno=> ?_⟩,?_⟩
 ·show (w1.heap.setIfInBounds r o)[k]?=_
  rw [Array.getElem?_setIfInBounds_ne (by omega),hh]
 ·show (w1.heap.setIfInBounds r o)[k]?=_
  have hne:r≠k:=by rintro rfl;rw [hr] at hk;cases hk;exact hno _ _ _ _ rfl
  rw [Array.getElem?_setIfInBounds_ne hne,hh,hk]
 ·show (w1.heap.setIfInBounds r o)[r]?=_
  rw [Array.getElem?_setIfInBounds_self_of_lt (by rw [hh];exact hlt)]
section
variable {F:Fence} {n:Nat} (w:World) {ops:Array Oper} {rest:List Oper} {o:Oper} {a:Act} {Q:Exit->Act->World->Prop}
def qyE (d:o.guard=none) (x:Operand) (b:o.op=Op.range 248 x) (B:Nat) (m:List Ent) (k:a.eval x= .map (some B)) (e:qbj w B m)
  (i:wpListIn F n prog ops Q rest (a.put o.dst (.pointer (some ⟨w.heap.size,0,none⟩))) (w.alloc (.mapIter (some B) m.length #[] m.length))):
  wpListIn F n prog ops Q (o::rest) a w:=by
 refine wpListIn_plain d fun l g=> ?_
 have h:=run_range_map (P:=prog) w 248 _ _ B _ _ underlying248 e;unfold Oper.wpIn;refine ⟨by simp [Oper.about,b],?_⟩;rw [Oper.semAt_plain F _ _ (by rw [b];intro c j;cases j)];simp [execOp,b,k,h,Result.andThen];exact g _ _ i
theorem qyF (hg:o.guard=none) (it:Operand) (hop:o.op=Op.next it false) (zz r B:Nat) (m:List Ent) (pre:List Tm) (hit:a.eval it= .pointer (some ⟨r,0,none⟩)) (hm:qbj w B m) (hi:qfY w r B m pre) (hb:zz<=r)
  (hDone:pre.Perm (m.map (·.1))->wpListIn F n prog ops Q rest (a.put o.dst (.tuple #[.bool false])) w)
  (hMore:∀ (t:Tm) (v:Value) (w':World),pre.length<m.length->qdK zz w w'->qfY w' r B m (pre++[t])->(Instr.entry (.pointer (some ⟨r,0,none⟩))).run prog w'= .ok (.tuple #[tV t,v]) w'->wpListIn F n prog ops Q rest (a.put o.dst (.tuple #[.bool true,tV t,v])) w'):
  wpListIn F n prog ops Q (o::rest) a w:=by
 refine wpListIn_plain hg fun K' hK'=> ?_
 unfold Oper.wpIn;refine ⟨by simp [Oper.about,hop],?_⟩;rw [Oper.semAt_plain F _ _ (by rw [hop];intro c hc';cases hc')];obtain ⟨seen,hr,hn,hs,rfl⟩:=hi;have hold:∀ x∈(qa4 0 m).toArray.toList,x.born<m.length:=fun x hx=>by
  obtain ⟨k,hk,rfl⟩:=qpP (by simpa using hx);simpa using hk
 rcases run_next_at (P:=prog) w o.type r B m.length m.length seen.toArray (qa4 0 m).toArray m.length hr hm hold (aA _) with ⟨h0,hrun⟩|⟨e,he,w1,hw1,hrun⟩
 ·simp [execOp,hop,hit,hrun,Result.andThen]
  exact hK' _ _ (hDone (qfY.done (W:=w) (r:=r) (B:=B) hn hs h0))
 ·obtain ⟨he1,he2⟩:=mem_left he
  obtain ⟨k,hk,hek⟩:=qpP (m:=m) (i:=0) (e:=e) (by simpa using he1);have hbk:e.born=k:=by rw [hek];simp
  have hkk:e.key=tV m[k].1:=by rw [hek]
  rw [hbk] at he2 hrun;have hks:k∉seen:=by simpa using he2
  have hpush:seen.toArray.push k=(seen++[k]).toArray:=by simp
  rw [hpush] at hrun;obtain ⟨hmv,hr2⟩:=qpR (zz:=zz) hw1 hr hb (.mapIter (some B) m.length (seen++[k]).toArray m.length);have hm2:qbj (setBlock w1 r (.mapIter (some B) m.length (seen++[k]).toArray m.length)) B m:=hmv.keep _ _ hm (by simp);have hen:=run_entry_at (P:=prog) _ r B m.length seen.toArray (qa4 0 m).toArray m.length e (by rw [hbk,hpush];exact hr2) hm2 he1 (by simp [qpQ,List.nodup_range']);rw [hkk] at hen hrun;simp [execOp,hop,hit,hrun,Result.andThen];have hlen:seen.length<m.length:=by
   have h1:(seen++[k]).Nodup:=by rw [List.nodup_append];exact ⟨hn,by simp,fun x hx y hy e=>by rw [yB] at hy;subst hy;subst e;exact hks hx⟩
   have h2:(seen++[k]).length<=m.length:=by
    refine qk9 _ _ h1 fun b hb=> ?_
    rcases aC.1 hb with hb|hb
    ·exact hs b hb
    ·rw [yB.1 hb];exact hk
   rw [iA,bB] at h2;omega
  refine hK' _ _ (hMore m[k].1 e.val _ (by simpa using hlen) hmv ⟨seen++[k],hr2,?_,?_,?_⟩ hen)
  ·rw [List.nodup_append]
   exact ⟨hn,by simp,fun x hx y hy e=>by rw [yB] at hy;subst hy;subst e;exact hks hx⟩
  ·intro b hb
   rcases aC.1 hb with hb|hb
   ·exact hs b hb
   ·rw [yB.1 hb];exact hk
  ·rw [jC]
   congr 1;simp [mA,hk]
end
open Go.Shelf
abbrev Tm':={t:Tm//t.1.length<=536870912/\t.2.length<=536870912}
instance:Inhabited Tm':=⟨⟨([],[]),by simp,by simp⟩⟩
def qdc (x:Tm'):List Value:=[.string ⟨x.1.1.toArray⟩,.string ⟨x.1.2.toArray⟩]
def cfS (x y:Tm'):Int:=qaO (qag x.1) (qag y.1)
def qyG {x y:Nm}:qaO x y<0↔x<y:=by
 unfold qaO;by_cases a:x<y
 ·simp [a]
 ·rw [dA a]
  split<;>simp [a]
def qiU (x y:Tm'):ltOf cfS x y=decide (qag x.1<qag y.1):=by
 unfold ltOf cfS;rw [kD,gC,gC];exact qyG
def qyH:SWO (ltOf cfS):=by
 refine ⟨fun x=> ?_,fun x y z h1 h2=> ?_,fun x y z h1 h2=> ?_⟩
 ·rw [qiU];simp
 ·rw [qiU,gC] at*;exact qdq h1 h2
 ·rw [qiU,uF] at*
  intro h3;rcases qey (qag x.1) (qag y.1) with e|e|e
  ·exact h1 e
  ·rw [e] at h3;exact h2 h3
  ·exact h2 (qdq e h3)
def qyI (b c size:Nat) (w:World):CmpLays prog 152 #[] qdc 2 cfS b c size w:=by
 intro m os q r x y;obtain ⟨⟨j,e⟩,k,h⟩:=x;obtain ⟨⟨d,n⟩,p,g⟩:=y;have a:∀ l:Nm,(⟨l.toArray⟩:ByteArray).size=l.length:=fun l=>by simp [ByteArray.size]
 have i:=qym ⟨j.toArray⟩ ⟨e.toArray⟩ ⟨d.toArray⟩ ⟨n.toArray⟩ (sortWorldK qdc 2 w b c m q os) (by rw [a];simp at k;omega) (by rw [a];simp at h;omega) (by rw [a];simp at p;omega) (by rw [a];simp at g;omega);exact i
def qpS (ts:List Tm'):(flatK qdc 2 ts.toArray).toList=flds (ts.map (·.1)):=by
 apply List.ext_getElem?;intro j;have i:(flatK qdc 2 ts.toArray).toList.length=ts.length*2:=by rw [wC,size_flatK];simp
 have m:(flds (ts.map (·.1))).length=ts.length*2:=by rw [qfW,gB]
 by_cases b:j<ts.length*2
 ·have h1:=get_flatK qdc 2 ts.toArray j (by simpa using b)
  have c:j/2<ts.length:=by omega
  have ⟨h,g⟩:=qk0 (l:=ts.map (·.1)) (k:=j/2) (by simpa using c);have d:ts.toArray[j/2]! =ts[j/2]:=by rw [iF _ _ (by simpa using c)];simp
  rw [d] at h1;rw [oA (by omega)];have h2:(flatK qdc 2 ts.toArray).toList[j]'(by omega)=(flatK qdc 2 ts.toArray)[j]! :=by
   rw [iF _ _ (by rw [size_flatK];simpa using b)];simp
  rw [h2,h1];rcases Nat.mod_two_eq_zero_or_one j with e|e
  ·have a:(flds (ts.map (·.1)))[j]?=(flds (ts.map (·.1)))[j/2*2]?:=congrArg (fun k=>(flds (ts.map (·.1)))[k]?) (by omega)
   rw [a,h,e];simp [qdc]
  ·have a:(flds (ts.map (·.1)))[j]?=(flds (ts.map (·.1)))[j/2*2+1]?:=congrArg (fun k=>(flds (ts.map (·.1)))[k]?) (by omega)
   rw [a,g,e];simp [qdc]
 ·rw [sC (by omega),sC (by omega)]
def qyJ {g:Nat} {os:Array Obj} {e:TypeId} (a:Array Value) (b:w.heap[g]?=some (.cells R e fr)):
  (grow (putRow id (Sort.ahead w n) g 0 a) os).heap[g]?=some (.cells (putCells id 0 a R) e fr):=by
 have c:g<w.heap.size:=(gA.1 b).1;rw [heap_grow_old _ _ (by simpa using c)];simp [putRow,mapBlock,Sort.ahead,Array.getElem?_modify,b,onCells]
def qyK {g:Nat} {os:Array Obj} (b:Array Value):w.grownBy (grow (putRow id (Sort.ahead w n) g 0 b) os) (some g):=by
 refine ⟨rfl,rfl,rfl,by simp,fun k c a=> ?_⟩;rw [heap_grow_old _ _ (by simpa using c)];have :g≠k:=fun e=>a (by rw [e])
 simp [putRow,mapBlock,Sort.ahead,Array.getElem?_modify,this]
def qyL (b a:Array Value) (d:a.size<=b.size):(putCells id 0 a b).toList.take a.size=a.toList:=by
 apply List.ext_getElem?;intro j;by_cases c:j<a.size
 ·rw [List.getElem?_take_of_lt c,Array.getElem?_toList]
  simp [putCells,c,show j<b.size by omega]
 ·rw [List.getElem?_take_eq_none (by omega),sC (by simp;omega)]
def qyM (zz:Nat) (v:Value) (ts:List Tm) (w:World) (O:qaR zz w v ts) (G:zz<=w.heap.size) (S:∀ t∈ts,t.1.length<=536870912/\t.2.length<=536870912) (T:ts.length<=1073741824):
  yG 186 #[v,.func (.func 152) #[] #[]] w fun e w'=>e= .returned (.tuple #[])/\∃ q:List Tm,q.Perm ts/\(q.Pairwise fun s t=>¬ qag t<qag s)/\qaR zz w' v q/\Below zz w w':=by
 rcases O.2 with ⟨rfl,M⟩|⟨g,z,C,rfl,D,l,h1,h2,h3,R⟩
 ·obtain rfl:ts=[]:=sB M
  exact (AnyF.slices_SortFunc_none (ρ:=qjJ) qmK none 0 _ w).mono fun e w' ⟨r,k⟩=>⟨r,[],List.Perm.refl _,List.Pairwise.nil,by rw [k];exact qaR.nil,by rw [k];exact bA _ _⟩
 ·obtain ⟨b,m⟩:∃ b:List Tm',b.map (·.1)=ts:=⟨ts.attach.map fun x=>⟨x.1,S x.1 x.2⟩,by rw [List.map_map];exact List.attach_map_subtype_val ts⟩
  have d:b.length=ts.length:=by rw [<- m,gB]
  have N:HoldsK qdc 2 w g 0 b.toArray:=by
   unfold HoldsK;intro j c;rw [size_flatK] at c;have P:j<ts.length*2:=by simpa [d] using c
   refine ⟨?_,by simp [World.frozen?,l]⟩;have K:(flatK qdc 2 b.toArray)[j]?=(flds ts)[j]?:=by rw [<- Array.getElem?_toList,qpS,m]
   have H:(flds ts)[j]?=C[j]?:=by
    rw [<- R,List.getElem?_take_of_lt P,Array.getElem?_toList]
   have L:(flatK qdc 2 b.toArray)[j]?=some (flatK qdc 2 b.toArray)[j]! :=by rw [iF _ _ (by rw [size_flatK];exact c),Array.getElem?_eq_getElem]
   simp only [World.cell?,l,kB,Option.isSome_none,Bool.false_eq_true,if_false,id];rw [<- L,K,H]
  have B:=AnyQ.slices_SortFunc (ρ:=qjJ) qmK 2 Tryz.isAgg69 Tryz.sizeOf69 qdc (fun _=>rfl) (fun x u E=>by simp [qdc] at E;rcases E with rfl|rfl<;>rfl) cfS qyH 152 #[] g 0 z b.toArray w (enters_of func152 (by kernel_rfl) rfl) (qyI _ _ _ _) N (gA.1 l).1 (by simp [d];omega)
  rw [show b.toArray.size=ts.length by simp [d]] at B;refine B.mono fun e w' ⟨r,a,n,os,y,Q,k⟩=>⟨r,a.toList.map (·.1),?_,?_,?_,?_⟩
  ·obtain ⟨I,U,A⟩:=y
   have h:a.size=ts.length:=by rw [I];simp [d]
   rw [show a.extract 0 ts.length=a by rw [<- h];simp,show b.toArray.extract 0 ts.length=b.toArray by rw [<- d];simp] at A;rw [<- m];exact A.map _
  ·have h:a.size=ts.length:=by rw [y.1];simp [d]
   rw [aD,dC];intro i j J c F;have :=Q i j (kA _) F (by rw [<- h];simpa using c);rw [qiU,uF,iF a j (by simpa using c),iF a i (by simpa using J)] at this;simpa using this
  ·have h:a.size=ts.length:=by rw [y.1];simp [d]
   have q2:(flatK qdc 2 a).toList=flds (a.toList.map (·.1)):=by have :=qpS a.toList;simpa using this
   have q3:(flatK qdc 2 a).size=ts.length*2:=by rw [size_flatK,h]
   rw [k];have p:(a.toList.map (·.1)).length=ts.length:=by simp [h]
   refine ⟨by rw [qfW],.inr ⟨g,z,putCells id 0 (flatK qdc 2 a) C,by rw [p],D,qyJ _ l,by rw [p];exact h1,h2,by simp [putCells,h3],?_⟩⟩;rw [p,<- q3,qyL _ _ (by rw [q3,h3];exact dE _ h1),q2]
  ·rw [k]
   exact (bA zz w).grown (qyK _) G (fun j c=>by cases c;exact D)
def qcy (zz:Nat) (w:World) (v:Value) (l:List Int):Prop:=w.ownsRow zz 3 1 v l.length (qaa l)
def qcy.nil:qcy zz w (.slice none 0 0) []:=vA _ _ _ _
def qch (zz:Nat) (w:World) (B:Nat) (g:List Gr):Prop:=∃ m:List Ent,qbj w B m/\zz<=B/\m.length=g.length/\
 (∀ (i:Nat) (e:Ent) (p:Gr),m[i]?=some e->g[i]?=some p->e.1=p.1/\qcy zz w e.2 p.2)/\
 ∀ (i j:Nat) (e f:Ent) (k:Nat),i≠j->m[i]?=some e->m[j]?=some f->e.2.ownBlock=some k->f.2.ownBlock≠some k
def qpT {l:List Int} (h:qcy zz w v l) {B:Nat} {e:Array MapEntry} {c:Nat} (b:w.heap[B]?=some (.map e c)):v.ownBlock≠some B:=by
 intro a;rcases h.2 with ⟨rfl,_⟩|⟨g,j,i,rfl,_,d,_⟩
 ·cases a
 ·simp only [Value.ownBlock,jB] at a
  subst a;rw [d] at b;cases b
def qch.lt {g:List Gr} (a:qch zz w B g):B<w.heap.size:=by obtain ⟨m,h1,_⟩:=a;exact (gA.1 h1).1
def qch.made (w:World):qch w.heap.size (w.alloc (.map #[] 0)) w.heap.size []:=⟨[],jA w _,aA _,rfl,by simp,by simp⟩
def qch.below {g:List Gr} (c:qch zz w B g) (b:wG w w'):qch zz w' B g:=by
 have j:=c.lt;obtain ⟨m,h1,h2,h3,a,k⟩:=c;exact ⟨m,(b.block B j).trans h1,h2,h3,fun i e p d h=>⟨(a i e p d h).1,qaf (a i e p d h).2 b⟩,k⟩
def qla:∀ {m:List Ent} {g:List Gr} (t:Tm),m.length=g.length->(∀ (i:Nat) (e:Ent) (p:Gr),m[i]?=some e->g[i]?=some p->e.1=p.1/\qcy zz w e.2 p.2)->qcy zz w (qcq m t) (qbs g t)
 |[],g,t,c,d=>by
  cases g with
  |nil=>exact qcy.nil
  |cons p g=>cases c
 |e::m,g,t,c,d=>by
  cases g with
  |nil=>cases c
  |cons p g=>
   have ⟨h1,h2⟩:=d 0 e p rfl rfl;have j:=qla (m:=m) (g:=g) t (by simpa using c) fun i k l n a=>d (i+1) k l (by simpa using n) (by simpa using a)
   rw [qbs];by_cases b:e.1=t
   ·have a:qav (e::m) t=0:=by unfold qav;rw [mE];simp [b]
    have h:qcq (e::m) t=e.2:=by unfold qcq;simp [a]
    rw [eA (by rw [<- h1];exact b),h];exact h2
   ·have a:qav (e::m) t=qav m t+1:=by unfold qav;rw [mE];simp [b]
    have h:qcq (e::m) t=qcq m t:=by unfold qcq;simp [a]
    rw [dA (by rw [<- h1];exact b),h];exact j
def qch.look {g:List Gr} (a:qch zz w B g) (t:Tm):∃ v,(∃ m,qbj w B m/\qcq m t=v)/\qcy zz w v (qbs g t):=by
 obtain ⟨m,h1,h2,h3,b,c⟩:=a;exact ⟨_,⟨m,h1,rfl⟩,qla t h3 b⟩
def qpU:∀ {m:List Ent} {g:List Gr} {t:Tm} {a:Int},m.length=g.length->(∀ (i:Nat) (e:Ent) (p:Gr),m[i]?=some e->g[i]?=some p->e.1=p.1)->
  (qbT g t a).length=(qcr m t).length/\(qbT g t a)[qav m t]?=some (t,qbs g t++[a])/\∀ i p,i≠qav m t->(qbT g t a)[i]?=some p->g[i]?=some p
 |[],g,t,a,h,l=>by
  cases g with
  |nil=>refine ⟨by simp [qbT,qcr,qav],by simp [qbT,qav,qbs],fun i p k c=> ?_⟩;cases i with|zero=>simp [qav] at k|succ i=>simp [qbT] at c
  |cons p g=>cases h
 |e::m,g,t,a,h,l=>by
  cases g with
  |nil=>cases h
  |cons p g=>
   have h1:=l 0 e p rfl rfl;have ⟨s,r,x⟩:=qpU (m:=m) (g:=g) (t:=t) (a:=a) (by simpa using h) fun i w y n c=>l (i+1) w y (by simpa using n) (by simpa using c)
   have v:m.length=g.length:=by simpa using h
   rw [qbT];by_cases j:e.1=t
   ·have c:qav (e::m) t=0:=by unfold qav;rw [mE];simp [j]
    have d:p.1=t:=by rw [<- h1];exact j
    rw [eA d,c];refine ⟨by simp [qcr,c,v],by simp [qbs,d],fun i q k b=> ?_⟩;cases i with
    |zero=>exact absurd rfl k
    |succ i=>simpa using b
   ·have c:qav (e::m) t=qav m t+1:=by unfold qav;rw [mE];simp [j]
    have d:¬ p.1=t:=by rw [<- h1];exact j
    have n:(qcr (e::m) t).length=(qcr m t).length+1:=by
     unfold qcr;rw [c];by_cases b:qav m t<m.length
     ·rw [eA b,eA (by simpa using b)];rfl
     ·rw [dA b,dA (by simpa using b)];simp
    rw [dA d,c];refine ⟨by rw [n,nA,s],by rw [dF,r,qbs,dA d],fun i q k b=> ?_⟩;cases i with
    |zero=>simpa using b
    |succ i=>simpa using x i q (by omega) (by simpa using b)
def qch.added {w3:World} {g:List Gr} {m:List Ent} {t:Tm} {v':Value}
  (h1:qbj w B m) (h2:zz<=B) (h3:m.length=g.length) (C:∀ (i:Nat) (e:Ent) (p:Gr),m[i]?=some e->g[i]?=some p->e.1=p.1/\qcy zz w e.2 p.2)
  (L:∀ (i j:Nat) (e f:Ent) (k:Nat),i≠j->m[i]?=some e->m[j]?=some f->e.2.ownBlock=some k->f.2.ownBlock≠some k)
  (S:∀ (k:Nat),k<w.heap.size->k≠B->(qcq m t).ownBlock≠some k->w3.heap[k]?=w.heap[k]?)
  (Q:∀ n:qav m t<(qcr m t).length,qbj w3 B ((qcr m t).set (qav m t) ((qcr m t)[qav m t].1,v'))) (T:qcy zz w3 v' (qbs g t++[a])) (hn:v'.ownBlock=(qcq m t).ownBlock\/∀ k,v'.ownBlock=some k->w.heap.size<=k):qch zz w3 B (qbT g t a):=by
 have ⟨q,H⟩:=qpE m t;have ⟨P,q2,q3⟩:=qpU (a:=a) (t:=t) h3 fun i e p b n=>(C i e p b n).1
 have Z:B<w.heap.size:=(gA.1 h1).1;have U:(qcr m t)[qav m t]=(t,qcq m t):=by rw [oA q] at H;exact Option.some.inj H
 have D:=Q q;rw [U] at D;have N:qbj w3 B ((qcr m t).set (qav m t) (t,v')):=D;have r:∀ (i:Nat) (e:Ent),i≠qav m t->(qcr m t)[i]?=some e->m[i]?=some e:=fun i e c b=>by
  unfold qcr at b;split at b
  ·exact b
  ·rename_i J
   have Y:qav m t<=m.length:=List.findIdx_le_length;rw [List.getElem?_append] at b;split at b
   ·exact b
   ·rename_i aa
    have :i≠m.length:=by omega
    rw [sC (by simp;omega)] at b;cases b
 have E:∀ (i:Nat) (e:Ent) (k:Nat),i≠qav m t->m[i]?=some e->e.2.ownBlock=some k->(qcq m t).ownBlock≠some k:=fun i e k c b h=>by
  unfold qcq;split
  ·rename_i J
   exact L i (qav m t) e _ k c b (oA J) h
  ·intro V;cases V
 refine ⟨_,N,h2,by rw [uC,P],fun i e p b n=> ?_,fun i j e f k v b l h=> ?_⟩
 ·rw [aE] at b
  by_cases c:qav m t=i
  ·subst c
   rw [eA rfl,eA q] at b;rw [q2] at n;cases b;cases n;exact ⟨rfl,T⟩
  ·rw [dA c] at b
   have K:=r i e (fun d=>c d.symm) b;have O:=q3 i p (fun d=>c d.symm) n;have ⟨M,s⟩:=C i e p K O;refine ⟨M,qaq s fun k h=> ?_⟩;exact S k (s.lt k h).2 (fun e=>qpT s h1 (by rw [h,e])) (E i e k (fun d=>c d.symm) K h)
 ·rw [aE] at b l
  have I:∀ (x:Nat) (u:Ent),qav m t≠x->(qcr m t)[x]?=some u->∀ k,u.2.ownBlock=some k->v'.ownBlock≠some k:=fun x u G X k F y=>by
   have A:=r x u (fun d=>G d.symm) X;rcases hn with hn|hn
   ·rw [hn] at y
    exact E x u k (fun d=>G d.symm) A F y
   ·have R:x<g.length:=by rw [<- h3];exact (yC.1 A).1
    have :=((C x u _ A (oA R)).2.lt k F).2;have :=hn k y;omega
  by_cases c:qav m t=i
  ·subst c
   rw [eA rfl,eA q] at b;cases b;rw [dA v] at l;intro W;exact I j f v l k W h
  ·rw [dA c] at b
   by_cases z:qav m t=j
   ·subst z
    rw [eA rfl,eA q] at l;cases l;exact I i e c b k h
   ·rw [dA z] at l
    exact L i j e f k v (r i e (fun d=>c d.symm) b) (r j f (fun d=>z d.symm) l) h
attribute [local go_sem] gG
def qao.one {R:Option Addr->List Value->Prop}:∀ {l:List Po} {cs:List Value},qao R l cs->∀ u∈cs,u.oneCell'=true
 |[],cs,a,u,hu=>by simp only [qao] at a;subst a;cases hu
 |q::r,cs,a,u,hu=>by
  obtain ⟨A,c,cs',rfl,_,_,_,b⟩:=a;simp only [wA] at hu;rcases hu with rfl|rfl|hu
  ·rfl
  ·rfl
  ·exact qao.one b u hu
def qao.join {R:Option Addr->List Value->Prop}:∀ {a b:List Po} {cs cs':List Value},qao R a cs->qao R b cs'->qao R (a++b) (cs++cs')
 |[],b,cs,cs',d,k=>by simp only [qao] at d;subst d;exact k
 |q::r,b,cs,cs',d,k=>by
  obtain ⟨A,c,g,rfl,h1,h2,h3,e⟩:=d;exact ⟨A,c,g++cs',rfl,h1,h2,h3,qao.join e k⟩
def qiV (w:World) (R C a B:Nat) (l:List Po) (pre:List Value) (W:World):Prop:=
 W.heap[a]?=some (.cells #[.pointer (some ⟨B,0,none⟩)] 116 (0,0))/\W.heap[C]?=some (.cells #[.slice (some ⟨R,0,none⟩) (l.take (8*pre.length)).length l.length] 71 (0,0))/\
  qbH w.heap.size W (.slice (some ⟨R,0,none⟩) (l.take (8*pre.length)).length l.length) (l.take (8*pre.length))/\wG w W
def qpV (zz B:Nat) (l:List Po) (w:World) (b:LAt w zz B (qae (-1) l) l) (bd:qa5 (-1) l=true) (av:(qae (-1) l).length<=400000000000) (a7:l.length<=1000000):
  yG 55 #[.pointer (some ⟨B,0,none⟩)] w (qfR l w):=by
 have ⟨bb,a4,bx,a2,b6⟩:=lG qfN;refine (uG (n:=6)).1 ?_;have ⟨_,_,_,_,⟨_,_,S,_⟩,_⟩:=b.read;have ⟨n,P⟩:=qE l.length;rw [<- P] at S a7;have I:=qH P;have b9:qI (∀ (A:Nat) (w':World),wG w w'->w'.heap[A]?=some (.cells #[.pointer (some ⟨B,0,none⟩)] 116 (0,0))->qij 5 prog 140 #[.pointer (some ⟨A,0,none⟩)] (fun v:Value=>#[v]) (qgo w.heap.size A) (qiP w.heap.size l) (fun ys=>ys.length=qaN l.length) w'):=qH fun A w' y ca=>
  qyz 5 A zz B l w w' (by omega) b bd av (by rw [<- P];exact a7) y ca
 clear b bd av P;refine callsIn_of_wp_marks func55 rfl trivial ?_ rfl;simp only [ntmps55,iD,nA,vB,Nat.reduceAdd,Nat.reduceSub,tD,uD,jD,vD,lC,bC]
 gi_wp2_with (gi_at_make;refine wpListIn_make_own _ rfl _ _ 71 rfl w.heap.size 74 bb _ 2 underlying71 a4 bx a2 _ _ _ n rfl rfl rfl (by rw [b6];omega) (by unfold maxLen;omega) (aA _) ?_)
 intro F af a1;have V:wG w F:=(bA _ _).grown a1 (aA _) (fun k c=>by cases c);have ar:=V.size;have ce:=(af.lt w.heap.size rfl).2;have ⟨C,a⟩:=qE F.heap.size
 gi_wp2_with (first
  |(refine ⟨trivial,?_⟩;gi_at_call 100;refine (uG.2 (qpI _ _)).mono ?_)
  |(gi_at_call 100;refine (uG.2 (qpI _ _)).mono ?_))
 rintro e w3 ⟨rfl,R,T,ae⟩;rw [tE,<- a] at R ae;have ax:=(bA F.heap.size F).alloc (aA _) (.cells #[.slice (some ⟨w.heap.size,0,none⟩) 0 n] 71);have ab:=ax.trans (T.mono (by simp));have ad:=V.trans (ab.mono ar);have a8:w3.heap[C]?=some (.cells #[.slice (some ⟨w.heap.size,0,none⟩) 0 n] 71 (0,0)):=by rw [a];exact (T.block _ (by simp)).trans (jA F _)
 have a6:=qaf af ab;have bl:qiV w w.heap.size C (C+1) B l [] w3:=⟨R,by simpa [<- I.o] using a8,⟨[],by simpa [<- I.o] using a6,by simp [qao]⟩,ad⟩;have cg:=qH bl;have cc:=qH (b9.o (C+1) w3 ad R);have m:=qH ae;have t:qI (w.heap.size<C):=qH (by omega);gi_wp2;rw [<- a];clear bl a6 a8 ad ab ax R ae T af a1 V ar ce a S;refine qm9 (by omega) (gf:=140) (lb:=#[.pointer (some ⟨C+1,0,none⟩)]) rfl (enters_of func140 (by kernel_rfl) rfl)
  cc.o qgo.trans (fun W Y o cb ch bq bp=>⟨qaE.belowW (N:=w.heap.size) (aA _) W Y o cb (by have :=m.o;have :=t.o;omega) bq bp (bA _ _),fun _=>World.putObj_heap_other (by have :=m.o;omega)⟩) (fun _=>rfl)
  (qiV w w.heap.size C (C+1) B l) (fun s co B' b y=>⟨(y.block _ (mG b.1)).trans b.1,(y.block _ (mG b.2.1)).trans b.2.1,b.2.2.1.below y,b.2.2.2.trans (y.mono b.2.2.2.size)⟩)
  (fun s=>(qaE.block (by have :=m.o;omega) _).and ((qaE.block (by have :=m.o;omega) _).and ((qaE.newPo _ _ _ _).and (qaE.belowW (by have :=m.o;have :=t.o;omega)))))
  (fun s x=>qaE.pure.and (qaE.newPo _ _ _ _)) cg.o
  (fun v=>{tmps:=#[.pointer (some ⟨B,0,none⟩),undef,.slice none 0 0,.pointer (some ⟨C,0,none⟩),v,.pointer (some ⟨B,0,none⟩),.pointer (some ⟨B,0,none⟩),.pointer (some ⟨B,2,none⟩),.int .i64 (n:Int),.slice (some ⟨w.heap.size,0,none⟩) 0 n,.pointer (some ⟨B,0,none⟩),
   .func (.func 140) #[] #[.pointer (some ⟨C+1,0,none⟩)],v,undef,undef,undef,undef],defers:=[]}) ?assign ?body ?done
 case assign=>
  intro Y x W cj G;gi_wp2;exact G
 case body=>
  rintro Y pre v W ⟨ai,a,d,E⟩ ⟨Z,ak⟩;have ⟨k,c⟩:=qE pre.length;have h:∀ i,i.heap[C+1]?=some (.cells #[.pointer (some ⟨B,0,none⟩)] 116 (0,0))->i.heap[C]?=some (.cells #[.slice (some ⟨w.heap.size,0,none⟩) (l.take (8*(k+1))).length l.length] 71 (0,0))->qbH w.heap.size i (.slice (some ⟨w.heap.size,0,none⟩) (l.take (8*(k+1))).length l.length) (l.take (8*(k+1)))->wG w i->qiV w w.heap.size C (C+1) B l (pre++[v]) i:=fun i h1 h2 h3 b2=>by
   unfold qiV;rw [iA,bB,<- c];exact ⟨h1,h2,h3,b2⟩
  rw [<- c] at a d Z ak;have al:=qjU l k;have H:=qjT (l:=l) k;have D:(l.take (8*(k+1))).length<=l.length:=by rw [sA];omega
  have ⟨be,aq⟩:=qE (l.take (8*k));have ⟨am,ah⟩:=qE (qcd l (k:Int));rw [<- aq,<- ah] at al;rw [al] at h D;rw [<- aq] at a d;rw [<- ah] at H ak;rw [<- I.o] at a d D h H;have bv:0<am.length:=by rw [H,I.o];unfold qaN at Z;omega
  obtain ⟨aj,bf,O⟩:=ak;obtain ⟨cm,S,rfl,bn,ay⟩:=qaK bf;obtain ⟨bm,bz,rfl,b0,bi⟩:=ay.at_ (by rw [O.len];omega);obtain ⟨a9,X,a5⟩:=d;have ⟨g,L⟩:=qE be.length;have ⟨M,z⟩:=qE am.length;rw [iA] at D h;rw [<- L,<- z] at D h;rw [<- L] at a X;rw [<- z] at bv;rw [<- z];have bj:=kG a;have bo:=nG a;have b8:=qH h;have bk:=qH ai;have aa:=qH a;have au:=qH X;have b1:=qH a5;have a3:=qH O;have J:=qH E;have bu:=qH L;have b4:=qH z;have cf:=qH bi;have a0:aj.length=M*2:=by rw [O.len,z]
  have bt:=qH a0;clear h ai a X a5 O E L z c Z al aq ah H bf ay bi bn b0 a0
  gi_wp2_with (gi_at_builtin;refine wpListIn_append_fits _ rfl (.tmp 13) (.tmp 14) 71 rfl w.heap.size 74 bb 2 underlying71 a4 a2 w.heap.size g n a9 rfl au.o ⟨bm,bz,none⟩ M S aj rfl bt.o (fun j u b3=>by rw [cC];exact cf.o j u b3) (qao.one a3.o) D ?_)
  intro r ba q;have ⟨cl,ci,ao⟩:=qd0 au.o rfl;have bc:C≠w.heap.size:=by have :=t.o;omega
  have K:r.heap[C]?=some (.cells #[.slice (some ⟨w.heap.size,0,none⟩) g n] 71 (0,0)):=(q.block C (mG aa.o) (fun e=>bc (Option.some.inj e))).trans aa.o;have ck:=kG K;have cn:=nG K;have U:∀ (k:Nat) (cs:Array Value) (fr:Nat × Nat),W.heap[k]?=some (.cells cs 3 fr)->(r.setCell ⟨C,0,none⟩ (.slice (some ⟨w.heap.size,0,none⟩) (g+M) n)).heap[k]?=some (.cells cs 3 fr):=fun k cs fr c=>by
   have h1:k≠C:=fun e=>by rw [e,aa.o] at c;simp at c
   have h2:k≠w.heap.size:=fun e=>by rw [e,ao] at c;simp at c
   rw [rA _ _ _ _ h1,q.block k (gA.1 c).1 (fun e=>h2 (Option.some.inj e)),c]
  have aw:qbH w.heap.size (r.setCell ⟨C,0,none⟩ (.slice (some ⟨w.heap.size,0,none⟩) (g+M) n)) (.slice (some ⟨w.heap.size,0,none⟩) (g+M) n) (be++am):=by
   refine ⟨a9++aj,?_,(b1.o.imp fun _ _ b=>⟨b.1.moved U,b.2⟩).join (a3.o.imp fun _ _ b=>⟨b.1.moved U,b.2⟩)⟩;rw [iA,<- bu.o,<- b4.o];exact qfr ba (by simpa [Value.ownBlock] using bc.symm) _
  have ac:Below w.heap.size W (r.setCell ⟨C,0,none⟩ (.slice (some ⟨w.heap.size,0,none⟩) (g+M) n)):=
   ((bA _ W).grown q J.o.size (fun k e=>by injection e with e;omega)).setCell (p:=⟨C,0,none⟩) (by show w.heap.size<=C;have :=t.o;omega) _
  have bh:KeepsOthers W (r.setCell ⟨C,0,none⟩ (.slice (some ⟨w.heap.size,0,none⟩) (g+M) n)):=
   (KeepsOthers.of_grownBy q fun j o an Q=>by injection an with an;subst an;rw [ao] at Q;injection Q with Q;subst Q;rfl).trans (KeepsOthers.setCell _ _ _)
  have ag:(r.setCell ⟨C,0,none⟩ (.slice (some ⟨w.heap.size,0,none⟩) (g+M) n)).heap[C+1]?=W.heap[C+1]?:=by
   rw [rA _ _ _ _ (show C+1≠C by omega),q.block (C+1) (mG bk.o) (fun e=>by have :=Option.some.inj e;have :=t.o;omega)]
  have bg:=b8.o _ (ag.trans bk.o) (rG K) aw (J.o.trans ac);have bs:=qH bg;have br:=qH ac;have bw:=qH bh;have b5:=qH ag;clear U aw ac bh ag bg ba q K ao bj bo;gi_wp2;exact ⟨bw.o,⟨br.o,fun _=>b5.o⟩,bs.o⟩
 case done=>
  rintro ap ys W ai az ⟨_,a,d,E⟩ G;rw [az,qkN] at a d;have bj:=kG a;have b7:=qH d;have J:=qH E;clear a d E az;gi_wp2;refine ⟨by simp,.inl ⟨_,_,rfl,run_takeDeferred G,?_⟩⟩;refine ⟨_,results_tmp rfl _ _ _,?_⟩;have cd:w.heap.size<=ap:=by have :=m.o;have :=t.o;omega
  exact ⟨_,rfl,qaE.newPo 0 _ _ _ W ap _ _ (kA _) G rfl b7.o,qaE.belowW (N:=w.heap.size) (aA _) W ap _ _ cd G rfl J.o⟩
attribute [local go_sem] gG
def qyN (B:Nat) (w:World):
  yG 151 #[.map (some B)] w fun e w'=>e= .returned (.func (.func 187) #[] #[.pointer (some ⟨w.heap.size,0,none⟩)])/\w'=w.alloc (.cells #[.map (some B)] 248):=by
 go_enter func151,ntmps151
 go_wp2;go_ret;exact ⟨rfl,rfl⟩
def qlb (zz r B:Nat) (m:List Ent) (w0:World) (a:List Tm->World->Prop) (wr:World):Prop:=∃ pre:List Tm,qfY wr r B m pre/\qbj wr B m/\a pre wr/\w0.heap.size<=wr.heap.size
def qe8 (r n:Nat) (W:World):Nat:=match W.heap[r]? with|some (.mapIter _ _ a _)=>n-a.size|_=>0
def qpW {r:Nat} {m:List Ent} {pre:List Tm} (a:qfY W r B m pre):qe8 r m.length W=m.length-pre.length:=by
 obtain ⟨b,h1,_,_,rfl⟩:=a;simp [qe8,h1]
def qyO (q b E B:Nat) (m:List Ent) (w:World) (a6:1<=q) (a2:b<=w.heap.size) (I:qbj w B m) (L:w.cell? ⟨E,0,none⟩=some (.map (some B))):
  qjV q prog 187 #[.pointer (some ⟨E,0,none⟩)] qiT (qdK w.heap.size) (qdb b) (fun pre _ _=>pre.length<m.length) (fun xs=>xs.Perm (m.map (·.1))) w:=by
 intro a1 J W y S h ac;have O:qbj W B m:=(y.block B (gA.1 I).1).trans I;have a4:=(y.cell (p:=⟨E,0,none⟩) (vC w _ L)).trans L;have U:=qH S;have ar:=qH h;have ap:=y.size;have ⟨r,C⟩:=qE W.heap.size;have ⟨ai,A⟩:=qE (W.alloc (.mapIter (some B) m.length #[] m.length));have z:wG W ai:=by rw [A];exact (bA _ _).alloc (aA _) _
 have Z:qlb b r B m W J ai:=by
  refine ⟨[],⟨[],by rw [A,C];exact jA _ _,by simp,by simp,rfl⟩,(z.block B (gA.1 O).1).trans O,S _ _ _ ac (qdK.of z ap),z.size⟩
 have aw:=qH Z;have ak:=qH A;have ax:w.heap.size<=r:=by omega
 have am:=qH C;clear S h ac I L y Z A z C;refine vG func187 rfl trivial ?_ rfl;simp only [ntmps187,iD,nA,vB,Nat.reduceAdd,Nat.reduceSub,tD,uD,jD,vD,lC,bC]
 gi_wp2_with (first
  |(gi_at_range;refine qyE _ rfl _ rfl B m rfl O ?_;rw [<- ak.o,<- am.o])
  |gi_in)
 gi_loopw [3] (fun _ wr=>qlb b r B m W J wr) (fun _ wr=>qe8 r m.length wr)
 case atStart=>exact aw.o
 case round=>
  obtain ⟨pre,P,D,G,a7⟩:=hrel
  gi_wp2_with (first
   |(gi_at_next;refine qyF _ rfl _ rfl w.heap.size r B m pre rfl D P ax ?_ ?_)
   |gi_in)
  ·intro ay
   gi_wp2
   go_end0
   exact ⟨⟨_,rfl⟩,pre,ay,G⟩
  ·intro az a0 v w3 ao s Q ab
   have ⟨t,al⟩:=qE ((az,a0):Tm);rw [<- al] at Q ab ⊢;have T:=U.o _ _ _ G s;have M:qbj w3 B m:=s.keep _ _ D (by simp);have aa:=qpW P;have a3:=s.below.size;have ⟨X,ae⟩:=qE (⟨t.1.toArray⟩:ByteArray);have ⟨N,h⟩:=qE (⟨t.2.toArray⟩:ByteArray);have R:tV t= .agg #[.string X,.string N]:=by rw [ae,h];rfl
   rw [R] at ab ⊢;have ⟨a,x⟩:=qE (w3.alloc (.cells #[.string X,.string N] 69));have l:wG w3 a:=by rw [x];exact (bA _ _).alloc (aA _) _
   have ag:=ar.o pre t a (U.o _ _ _ T (qdK.of l (by omega))) ao;rw [show qiT t=#[.agg #[.string X,.string N]] by unfold qiT;rw [R]] at ag;obtain ⟨fn,tmps,assign,body,Y,K⟩:=ag;have aj:qbj a B m:=(l.block B (gA.1 M).1).trans M;have ah:qfY a r B m (pre++[t]):=by
    obtain ⟨i,c,g,j,d⟩:=Q;exact ⟨i,(l.block r (gA.1 c).1).trans c,g,j,d⟩
   have a5:=l.size;rw [x] at Y;have H:=qH x;have ad:=qH ah;have au:=qH aj;have av:=qH aa;clear ae h R x l ah aj P Q D M s G T aa;gi_wp2;rw [H.o] at K;refine K.mono ?_;rintro e k ⟨rfl,V,F⟩;have hrel:qlb b r B m W J k:=by
    have n:qdb b a k:=by rw [H.o];exact F
    have ⟨i,c,g,j,d⟩:=ad.o;exact ⟨pre++[t],⟨i,n.keep _ _ c (.inl ⟨_,_,_,_,rfl⟩),g,j,d⟩,n.keep _ _ au.o (.inr ⟨_,_,rfl⟩),V,by have :=n.below.size;omega⟩
   have af:qe8 r m.length k<qe8 r m.length wr:=by
    have n:qdb b a k:=by rw [H.o];exact F
    have ⟨i,c,g,j,d⟩:=ad.o;have :qfY k r B m (pre++[t]):=⟨i,n.keep _ _ c (.inl ⟨_,_,_,_,rfl⟩),g,j,d⟩;rw [av.o,qpW this,iA,bB];omega
   have aq:=qH hrel;have an:=qH af;clear hrel af V F Y K;gi_wp2;go_roundw
   case rel=>exact aq.o
   case measure=>exact an.o
open Go.ChangeMaps (setBlock)
attribute [local go_sem] gG
def qiW (x:Nm):Array Value:=#[kV x]
def ItK (W:World) (r B c:Nat) (m:List qaS) (pre:List Nm):Prop:=∃ a:List Nat,W.heap[r]?=some (.mapIter (some B) (c+m.length) (a.map (c+·)).toArray (c+m.length))/\a.Nodup/\(∀ b∈a,b<m.length)/\pre=a.map fun b=>(m.map (·.1)).getD b []
def qpX {m:List qaS} {e:MapEntry} (b:e∈qbt i m):∃ (k:Nat) (a:k<m.length),e={key:=kV m[k].1,val:=m[k].2,born:=i+k}:=by
 obtain ⟨k,a,rfl⟩:=nC b;rw [qiR] at a;refine ⟨k,a,?_⟩;have :=qiS (i:=i) a;rw [oA (by rw [qiR];exact a)] at this;exact Option.some.inj this
def qpY:∀ (m:List qaS) (i:Nat),(qbt i m).map (·.born)=List.range' i m.length
 |[],i=>rfl
 |e::m,i=>by rw [qbt,xB,qpY m (i+1),nA,List.range'_succ]
def ItK.done {m:List qaS} {a:List Nat} (j:a.Nodup) (e:∀ b∈a,b<m.length) (h:(leftOf (qbt c m).toArray (a.map (c+·)).toArray).size=0):(a.map fun b=>(m.map (·.1)).getD b []).Perm (m.map (·.1)):=by
 have k:=all_seen _ _ h;have n:a.Perm (List.range m.length):=by
  refine (List.perm_ext_iff_of_nodup j List.nodup_range).2 fun b=>⟨fun d=>xE.2 (e b d),fun d=> ?_⟩
  have d:=xE.1 d;have l:=qiS (i:=c) d;have :=k _ (iE (by simpa using l));simpa using this
 have h1:=n.map fun b=>(m.map (·.1)).getD b ([]:Nm)
 refine h1.trans (List.Perm.of_eq ?_)
 apply dD
 ·simp
 ·intro i h2 h3
  have g:i<m.length:=by simpa using h3
  simp [mA,g]
section
variable {F:Fence} {n:Nat} (w:World) {ops:Array Oper} {rest:List Oper} {o:Oper} {a:Act} {Q:Exit->Act->World->Prop}
def qyP (d:o.guard=none) (x:Operand) (b:o.op=Op.range 124 x) (B c:Nat) (m:List qaS) (k:a.eval x= .map (some B)) (e:qbm w B c m)
  (i:wpListIn F n prog ops Q rest (a.put o.dst (.pointer (some ⟨w.heap.size,0,none⟩))) (w.alloc (.mapIter (some B) (c+m.length) #[] (c+m.length)))):
  wpListIn F n prog ops Q (o::rest) a w:=by
 refine wpListIn_plain d fun l g=> ?_
 have h:=run_range_map (P:=prog) w 124 _ _ B _ _ underlying124 e;unfold Oper.wpIn;refine ⟨by simp [Oper.about,b],?_⟩;rw [Oper.semAt_plain F _ _ (by rw [b];intro c j;cases j)];simp [execOp,b,k,h,Result.andThen];exact g _ _ i
def qyQ (Z:o.guard=none) (J:Operand) (p:o.op=Op.next J false) (zz r B c:Nat) (m:List qaS) (pre:List Nm) (L:a.eval J= .pointer (some ⟨r,0,none⟩)) (G:qbm w B c m) (T:ItK w r B c m pre) (hb:zz<=r)
  (aa:pre.Perm (m.map (·.1))->wpListIn F n prog ops Q rest (a.put o.dst (.tuple #[.bool false])) w)
  (W:∀ (t:Nm) (v:Value) (w':World),pre.length<m.length->qdK zz w w'->ItK w' r B c m (pre++[t])->(Instr.entry (.pointer (some ⟨r,0,none⟩))).run prog w'= .ok (.tuple #[kV t,v]) w'->wpListIn F n prog ops Q rest (a.put o.dst (.tuple #[.bool true,kV t,v])) w'):
  wpListIn F n prog ops Q (o::rest) a w:=by
 refine wpListIn_plain Z fun ae A=> ?_
 unfold Oper.wpIn;refine ⟨by simp [Oper.about,p],?_⟩;rw [Oper.semAt_plain F _ _ (by rw [p];intro c ab;cases ab)];obtain ⟨d,z,s,q,rfl⟩:=T;have ac:∀ x∈(qbt c m).toArray.toList,x.born<c+m.length:=fun x l=>by
  obtain ⟨k,j,rfl⟩:=qpX (by simpa using l);simpa using j
 rcases run_next_at (P:=prog) w o.type r B (c+m.length) (c+m.length) (d.map (c+·)).toArray (qbt c m).toArray (c+m.length) z G ac (aA _) with ⟨U,g⟩|⟨e,ad,X,V,g⟩
 ·simp [execOp,p,L,g,Result.andThen]
  exact A _ _ (aa (ItK.done s q U))
 ·have ⟨I,N⟩:=mem_left ad
  have ⟨k,j,E⟩:=qpX (m:=m) (i:=c) (e:=e) (by simpa using I);have M:e.born=c+k:=by rw [E]
  have Y:e.key=kV m[k].1:=by rw [E]
  rw [M] at N g;have D:k∉d:=by simpa using N
  have H:(d.map (c+·)).toArray.push (c+k)=((d++[k]).map (c+·)).toArray:=by simp
  rw [H] at g;have ⟨O,C⟩:=qpR (zz:=zz) V z hb (.mapIter (some B) (c+m.length) ((d++[k]).map (c+·)).toArray (c+m.length));have R:qbm (setBlock X r (.mapIter (some B) (c+m.length) ((d++[k]).map (c+·)).toArray (c+m.length))) B c m:=O.keep _ _ G (by simp);have K:=run_entry_at (P:=prog) _ r B (c+m.length) (d.map (c+·)).toArray (qbt c m).toArray (c+m.length) e (by rw [M,H];exact C) R I (by simp [qpY,List.nodup_range']);rw [Y] at K g;simp only [execOp,p,L,g,Sem.run_bind,Sem.run_pure,Result.andThen];have S:d.length<m.length:=by
   have h1:(d++[k]).Nodup:=by rw [List.nodup_append];exact ⟨s,by simp,fun x l y h e=>by rw [yB] at h;subst h;subst e;exact D l⟩
   have h2:(d++[k]).length<=m.length:=by
    refine qk9 _ _ h1 fun b hb=> ?_
    rcases aC.1 hb with hb|hb
    ·exact q b hb
    ·rw [yB.1 hb];exact j
   rw [iA,bB] at h2;omega
  refine A _ _ (W m[k].1 e.val _ (by simpa using S) O ⟨d++[k],C,?_,?_,?_⟩ K)
  ·rw [List.nodup_append]
   exact ⟨s,by simp,fun x l y h e=>by rw [yB] at h;subst h;subst e;exact D l⟩
  ·intro b hb
   rcases aC.1 hb with hb|hb
   ·exact q b hb
   ·rw [yB.1 hb];exact j
  ·rw [jC]
   congr 1;simp [mA,j]
end
structure qci (zz:Nat) (w w':World):Prop where
 below:Below zz w w'
 keep:∀ (k:Nat) (cs:Array Value) (t:TypeId) (fr:Nat × Nat),w.heap[k]?=some (.cells cs t fr)->t≠3->w'.heap[k]?=some (.cells cs t fr)
def qci.refl (zz:Nat) (w:World):qci zz w w:=⟨bA _ _,fun _ _ _ _ a _=>a⟩
def qci.trans (b:qci zz w w') (k:qci zz w' w''):qci zz w w'':=⟨b.below.trans k.below,fun i cs t fr c a=>k.keep i cs t fr (b.keep i cs t fr c a) a⟩
def qci.of (a:wG w w') (c:zz<=w.heap.size):qci zz w w':=⟨a.mono c,fun k cs t fr b _=>(a.block k (gA.1 b).1).trans b⟩
def qci.owned {e:TypeId} {size:Nat} (h:qci zz w w') (a:w.ownsRow k e size v n xs) (i:e≠3):w'.ownsRow k e size v n xs:=by
 refine ⟨a.1,?_⟩;rcases a.2 with h1|⟨g,c,b,h1,h2,h3,d⟩
 ·exact .inl h1
 ·exact .inr ⟨g,c,b,h1,h2,h.keep g _ _ _ h3 i,d⟩
def qyR {row:Option Nat} (b:w.grownBy w' row) {p:Addr} {v:Value} (a:w.cell? p=some v) (d:row≠some p.block):w'.cell? p=some v:=by
 have c:=b.block p.block (vC w _ a) (fun e=>d e.symm);rw [<- a];simp [World.cell?,c]
def qyS (zz B:Nat) (g:List Gr) (w:World) (e:Ending) (w':World):Prop:=e= .returned (.tuple #[])/\qch zz w' B g/\qci zz w w'
def qyT (zz B K:Nat) (g:List Gr) (x y:ByteArray) (a:Int) (w:World) (W:qch zz w B g) (V:w.cell? ⟨K,0,none⟩=some (.map (some B))) (a7:zz<=w.heap.size) (R:(qbs g (x.data.toList,y.data.toList)).length<=1073741824):
    yG 184 #[.agg #[.string x,.string y],.int .i64 a,.pointer (some ⟨K,0,none⟩)] w (qyS zz B (qbT g (x.data.toList,y.data.toList) a) w):=by
  have ⟨a0,a1,ar,au,ao⟩:=lG qc4;have ag:=W.lt;obtain ⟨m,h1,h2,h3,M,X⟩:=W;have ⟨t,H⟩:=qE ((x.data.toList,y.data.toList):Tm);rw [<- H] at R ⊢;have r:qcy zz w (qcq m t) (qbs g t):=qla t h3 M;have ⟨S,aw⟩:=qpE m t;have N:=fun (w3:World) (v':Value)=>qch.added (w3:=w3) (a:=a) (v':=v') (t:=t) h1 h2 h3 M X
  have ⟨p,F⟩:=qE (qav m t);have ⟨l,C⟩:=qE (qbs g t);have ⟨v,s⟩:=qE (qcq m t);have ac:=qH N;have aj:=qH H;have O:=qH h1;have T:=qH F;have an:=qH C;have I:=qH s;have E:=qpT r h1;rw [<- s,<- C] at r;rw [<- s] at E;rw [<- C] at R;rw [<- F] at S;clear N H h1 h3 M X F C s aw;have az:=qH (fun w' (ab:wG w w')=>(ab.cell (p:=⟨K,0,none⟩) (vC w _ V)).trans V)
  go_enter func184,ntmps184
  have b0:wG w ((w.alloc (.cells #[.string x,.string y] 69)).alloc (.cells #[.int .i64 a] 3)):=((bA _ w).alloc (aA _) _).alloc (by simp) _;have ⟨b,q⟩:=qE ((w.alloc (.cells #[.string x,.string y] 69)).alloc (.cells #[.int .i64 a] 3));rw [<- q] at b0;have ai:qbj b B m:=(b0.block B ag).trans O.o;have a2:b.heap.size=w.heap.size+2:=by rw [q];simp
  have av:b.cell? ⟨w.heap.size+1,0,none⟩=some (.int .i64 a):=by
    rw [q];simp
  have ap:qcy zz b v l:=qaf r b0;have L:∀ k,k<w.heap.size->b.heap[k]?=w.heap[k]?:=fun k d=>b0.block k d
  have a6:=az.o _ ((bA _ w).alloc (aA _) (.cells #[.string x,.string y] 69));have U:Value.agg #[.string x,.string y]=tV t:=by rw [aj.o];rfl
  have P:=qH q;have ah:=qH U;clear q U
  go_wp2_with (first
    | (refine qyw _ (by rfl) _ _ (by rfl) B m t (by rfl) (by rw [<- P.o]; exact ai) (by rw [<- ah.o]; rfl) ?_
       rw [<- P.o,<- I.o,<- T.o];intro D af h;have aa:qcy zz D v l:=ap.kept h (.inr E);have a3:b.heap.size<=D.heap.size:=h.size;have ak:D.cell? ⟨w.heap.size+1,0,none⟩=some (.int .i64 a):=qyR h av (by simp;omega))
    | (at_builtin; refine wpList_append_own_at _ rfl _ _ 23 rfl zz 3 a0 _ 1 8 underlying23 a1 ar au ao rfl (by omega) v l.length (qaa l) (by rfl) aa ⟨w.heap.size + 1, 0, none⟩ 1 1 [.int .i64 a] (by rfl) rfl (by intro j u z; match j, z with | 0, z => (simp at z; subst z; simpa [Addr.add] using ak)) (by intro u Y; simp at Y; subst Y; rfl) (by unfold maxLen; omega) (by omega) (by omega) ?_
       intro v' w3 ad i _ Q;have ae:qbj w3 B (qcr m t):=(i.block B (by omega) (fun e=>E e.symm)).trans af)
    | (refine qyx _ (by rfl) _ _ _ (by rfl) B (qcr m t) p S v' (by rfl) ae (by rfl) (by rfl) ?_
       intro A Z n))
  have a4:D.heap.size<=w3.heap.size:=i.size;have a8:B<b.heap.size:=by omega
  have J:∀ (k:Nat),k<b.heap.size->k≠B->v.ownBlock≠some k->A.heap[k]?=b.heap[k]?:=fun k h6 c G=>by
    rw [n.block k (by omega) (fun e=>c (by cases e;rfl)),i.block k (by omega) (fun e=>G e.symm),h.block k h6 (fun e=>c (by cases e;rfl))]
  have al:Below zz w A:=⟨n.os.trans (i.os.trans (h.os.trans b0.os)),n.tape.trans (i.tape.trans (h.tape.trans b0.tape)),n.output.trans (i.output.trans (h.output.trans b0.output)),by have :=n.size;omega,fun k d=>by
    rw [J k (by omega) (by omega) (fun e=>by have :=(r.lt k e).1;omega),L k (by omega)]⟩
  have am:v'.ownBlock≠some B:=fun e=>by
    rcases Q with h6|h6
    · exact E (h6.symm.trans e)
    · rw [h6] at e;cases e;omega
  have ax:qcy zz A v' (l++[a]):=by
    have h6:=ad.kept n (.inr am);unfold qcy;rw [iA];simpa [qaa] using h6
  go_end0
  refine ⟨rfl,ac.o A v' (fun k h6 c G=>by rw [<- I.o] at G;rw [J k (by omega) c G,L k h6]) (fun F=> ?_) (by rw [<- an.o];exact ax) ?_,al,fun k cs a5 fr d aq=> ?_⟩
  · simp only [<- T.o]
    exact Z
  · rw [<- I.o]
    rcases Q with h6|h6
    · exact .inl h6
    · refine .inr fun k c=> ?_
      rw [h6] at c;cases c;omega
  · have ay:=(gA.1 d).1
    rw [J k (by omega) (fun e=> ?_) (fun e=> ?_),L k ay,d]
    · subst e
      have :=O.o;unfold qbj at this;rw [d] at this;cases this
    · exact qan r d aq e
attribute [local go_sem] gG
def qdb.trans (c:qdb b w w') (k:qdb b w' w''):qdb b w w'':=⟨c.below.trans k.below,fun i o d a=>k.keep i o (c.keep i o d a) a⟩
def qdb.of (a:wG w w') (d:b<=w.heap.size):qdb b w w':=⟨a.mono d,fun k o c _=>(a.block k (gA.1 c).1).trans c⟩
def qdb.loop (W:World) (l:Nat) (x:Loop) (d:Obj) (g:b<=l) (e:W.heap[l]?=some (.loop x)):qdb b W (W.putObj l d):=by
 refine ⟨⟨rfl,rfl,rfl,by simp,fun k c=>World.putObj_heap_other (by omega)⟩,fun k o c a=> ?_⟩;rw [World.putObj_heap_other,c];rintro rfl;rw [e] at c;cases c;rcases a with ⟨_,_,_,_,a⟩|⟨_,_,a⟩<;>cases a
def qfZ (zz B:Nat) (l:List Tm) (W:World):Prop:=∃ v,W.heap[B]?=some (.cells #[v] 145 (0,0))/\qaR zz W v l
def qlc {l:List Tm} (e:qaR zz w v l) {k:Nat} {o:Obj} (b:w.heap[k]?=some o) (d:o.isCells=false):v.ownBlock≠some k:=by
 intro a;rcases e.2 with ⟨rfl,_⟩|⟨g,i,h,rfl,_,c,_⟩
 ·cases a
 ·simp only [Value.ownBlock,jB] at a
  subst a;rw [c] at b;cases b;cases d
def qfZ.firm (N zz B:Nat) (l:List Tm):qgE N (qfZ zz B l):=fun W k o h _ a b ⟨v,h1,h2⟩=>by
 have d:B≠k:=fun e=>by subst e;rw [h1] at a;injection a with a;rw [<- a] at b;cases b
 exact ⟨v,(World.putObj_heap_other d).trans h1,qaq h2 fun g c=>World.putObj_heap_other fun e=>by subst e;exact qlc h2 a b c⟩
def qfZ.moved {l:List Tm} (d:qfZ zz B l w) (b:qdK k w w'):qfZ zz B l w':=by
 obtain ⟨v,h1,h2⟩:=d;refine ⟨v,b.keep _ _ h1 (by simp),qaq h2 fun g a=> ?_⟩;rcases h2.2 with ⟨rfl,_⟩|⟨i,h,e,rfl,_,c,_⟩
 ·cases a
 ·simp only [Value.ownBlock,jB] at a
  subst a;rw [b.keep _ _ c (by simp),c]
def Below.firm (d:b<=N):qgE N (fun W=>Below b w W):=fun W l o c e _ _ a=>a.trans ⟨rfl,rfl,rfl,by simp,fun k g=>World.putObj_heap_other (by omega)⟩
def qld (w:World) (pre:List Tm) (W:World):Prop:=qfZ w.heap.size w.heap.size pre W/\wG w W/\pre.length<=134217728
def qyU (f:Value) (w:World) (x:Tm) (a:Act) (W:World):Prop:=∃ b,W.heap[b]?=some (.cells #[.string ⟨x.1.toArray⟩,.string ⟨x.2.toArray⟩] 69 (0,0))/\a={tmps:=#[.slice none 0 0,f,.pointer (some ⟨w.heap.size,0,none⟩),undef,.slice none 0 0,.pointer (some ⟨b,0,none⟩),f,.agg #[.string ⟨x.1.toArray⟩,.string ⟨x.2.toArray⟩],undef,undef,undef,undef,undef],defers:=[]}
def qpZ (ks:List Tm) (w:World) (e:Ending) (w':World):Prop:=∃ v ts,e= .returned v/\ts.Perm ks/\qaR w.heap.size w' v ts/\wG w w'
def qyV (q B:Nat) (m:List Ent) (w:World) (V:qbj w B m) (i:w.cell? ⟨q,0,none⟩=some (.map (some B))) (bo:m.length<=134217727):
  yG 220 #[.slice none 0 0,.func (.func 187) #[] #[.pointer (some ⟨q,0,none⟩)]] w (qpZ (m.map (·.1)) w):=by
 have ⟨ba,a5,a1,a2,a8⟩:=lG qpz;refine (uG (n:=6)).1 ?_;have ⟨M,I⟩:=qE (w.alloc (.cells #[.slice none 0 0] 145));have F:wG w M:=by rw [I];exact (bA _ _).alloc (aA _) _
 have aj:qbj M B m:=(F.block B (gA.1 V).1).trans V;have aa:=(F.cell (p:=⟨q,0,none⟩) (vC w _ i)).trans i;have af:qfZ w.heap.size w.heap.size [] M:=⟨_,by rw [I];exact jA w _,qaR.nil⟩;have br:M.heap.size=w.heap.size+1:=by rw [I];simp
 have be:=qH (qyO 5 w.heap.size q B m M (by omega) F.size aj aa);have bb:=qH I;have bg:=qH F;have ar:=qH af;clear I F aj aa af V i;refine callsIn_of_wp_marks func220 rfl trivial ?_ rfl;simp only [ntmps220,iD,nA,vB,Nat.reduceAdd,Nat.reduceSub,tD,uD,jD,vD,lC,bC];gi_wp2;rw [<- bb.o];refine qna (by omega) (gf:=187) (lb:=#[.pointer (some ⟨q,0,none⟩)]) rfl (enters_of func187 (by kernel_rfl) rfl)
  be.o (fun y=>qdK.of y (aA _)) (fun {A B k o} N P b D=>P.keep _ _ b (by rcases D with ⟨x,rfl⟩|⟨x,rfl⟩<;>simp))
  (fun a k=>a.trans k) (fun W S x z bk b=>qdb.loop W S x z (by omega) b) (fun _=>rfl)
  (qld w) (fun s bu B' a P=>⟨a.1.moved P,a.2.1.trans (P.below.mono (by omega)),a.2.2⟩)
  (fun s=>fun W l o z h1 h2 h3 a=>⟨qfZ.firm _ _ _ _ W l o z h1 h2 h3 a.1,Below.firm (by omega) W l o z h1 h2 h3 a.2.1,a.2.2⟩)
  (fun s x W l o z _ _ _ a=>a) ⟨ar.o,bg.o,by simp⟩
  (qyU (.func (.func 187) #[] #[.pointer (some ⟨q,0,none⟩)]) w) (fun x ay W l o z _ b i a=> ?hAx) ?assign ?body ?done
 case hAx=>
  obtain ⟨au,h1,h2⟩:=a;exact ⟨au,(World.putObj_heap_other fun e=>by subst e;rw [h1] at b;injection b with b;rw [<- b] at i;cases i).trans h1,h2⟩
 case assign=>
  intro S pre x W bl K r J;unfold qiT tV;have y:wG W (W.alloc (.cells #[.string ⟨x.1.toArray⟩,.string ⟨x.2.toArray⟩] 69)):=(bA _ _).alloc (aA _) _;have al:=K.2.1.size;have ap:qld w pre (W.alloc (.cells #[.string ⟨x.1.toArray⟩,.string ⟨x.2.toArray⟩] 69)):=⟨K.1.moved (qdK.of y (aA _)),K.2.1.trans (y.mono al),K.2.2⟩;have ax:=qH ap;have ao:=qH y;clear K ap y;gi_wp2;exact J _ _ ⟨W.heap.size,jA _ _,rfl⟩ ax.o r ao.o (qdb.of ao.o al)
 case body=>
  rintro S pre x ay W ⟨ak,r,rfl⟩ ⟨⟨v,d,t⟩,H,bd⟩ a3;have ⟨X,Z⟩:=qE (⟨x.1.toArray⟩:ByteArray);have ⟨G,Y⟩:=qE (⟨x.2.toArray⟩:ByteArray);rw [<- Z,<- Y] at r ⊢;have ae:flds [x]=[.string X,.string G]:=by rw [Z,Y];rfl
  obtain ⟨bp,bq⟩:W.cell? ⟨ak,0,none⟩=some (.string X)/\W.cell? ⟨ak,1,none⟩=some (.string G):=⟨by simp [World.cell?,r],by simp [World.cell?,r]⟩;have aw:=kG d;have a7:=mG d;have ⟨k,N⟩:=qE pre.length;have ac:W.ownsRow w.heap.size 69 2 v k (flds pre):=by rw [N];exact t
  have bj:k<=134217727:=by omega
  have E:=qH ac;have aq:=qH t;have Q:=qH d;have T:=qH H;have am:=qH N;have az:=qH ae;clear d t H ac N ae Z Y a3 bd r
  gi_wp2_with (gi_at_builtin;refine wpListIn_append_own _ rfl (.tmp 8) (.tmp 10) 145 rfl w.heap.size 69 ba _ 2 32 underlying145 a5 a1 a2 a8 rfl (by omega) _ k (flds pre) rfl (E.o.alloc _) ⟨W.heap.size,0,none⟩ 1 1 [.string X,.string G] rfl rfl (qaH W [.string X,.string G] 69) (by intro u ai;simp at ai;rcases ai with rfl|rfl<;>rfl) (by unfold maxLen;omega) (by omega) (by simp;omega) ?_)
  intro v' c O h a4;clear a4;have ⟨bt,bv,av,_,_⟩:=O.form (by omega);have an:=qan aq.o Q.o (by decide);have C:wG W (W.alloc (.cells #[.string X,.string G] 69)):=(bA _ _).alloc (aA _) _;have L:c.heap[w.heap.size]?=some (.cells #[v] 145 (0,0)):=(h.block _ (by simp;omega) (fun e=>an e.symm)).trans ((C.block _ a7).trans Q.o);have bn:=kG L;have bm:=nG L;have ah:=qan O L (by decide);have ab:W.heap.size<=c.heap.size:=lA C.size h.size;have U:∀ (j:Nat),j<W.heap.size->j≠w.heap.size->v.ownBlock≠some j->(c.setCell ⟨w.heap.size,0,none⟩ v').heap[j]?=W.heap[j]?:=fun j h1 h2 h3=>by
   rw [rA _ _ _ _ h2,h.block j (tB h1 C.size) (fun e=>h3 e.symm),C.block j h1]
  have D:∀ (j:Nat) (o:Obj),W.heap[j]?=some o->o.isCells=false->(c.setCell ⟨w.heap.size,0,none⟩ v').heap[j]?=some o:=fun j o h1 h2=>by
   rw [U j (gA.1 h1).1 (fun e=> ?_) (qlc aq.o h1 h2),h1];subst e;have :=Q.o;rw [this] at h1;injection h1 with h1
   rw [<- h1] at h2;cases h2
  have R:Below w.heap.size W (c.setCell ⟨w.heap.size,0,none⟩ v'):=⟨h.os,h.tape,h.output,by simpa using ab,fun j bs=>U j (by omega) (by omega) (fun e=>by have :=(E.o.lt j e).1;omega)⟩;have ad:qld w (pre++[x]) (c.setCell ⟨w.heap.size,0,none⟩ v'):=by
   refine ⟨⟨v',rG L,?_⟩,T.o.trans R,by rw [iA,bB,<- am.o];omega⟩;have :=pG O (show v'.ownBlock≠some (⟨w.heap.size,0,none⟩:Addr).block from ah) v'
   unfold qaR;rw [iA,bB,<- am.o,qhI,az.o];exact this
  have a0:qI (KeepsOthers W (c.setCell ⟨w.heap.size,0,none⟩ v')):=qH ⟨by simpa using ab,D⟩;have a6:qI (qdb w.heap.size W (c.setCell ⟨w.heap.size,0,none⟩ v')):=qH ⟨R,fun j o h1 h2=>D j o h1 (by rcases h2 with ⟨_,_,_,_,rfl⟩|⟨_,_,rfl⟩<;>rfl)⟩
  have bc:=qH ad;subst av;clear U D R ad an ah C L h O;gi_wp2;exact ⟨a0.o,a6.o,bc.o⟩
 case done=>
  rintro bh ys W bf ag ⟨⟨v,d,t⟩,H,_⟩ J;have aw:=kG d;have E:=qH t;have T:=qH H;have a9:=qH ag;clear ag t H d;gi_wp2;refine ⟨by simp,.inl ⟨_,_,rfl,run_takeDeferred J,?_⟩⟩;refine ⟨_,results_tmp rfl _ _ _,?_⟩;refine ⟨v,ys,rfl,a9.o,qaq E.o fun g bi=>World.putObj_heap_other fun e=> ?_,Below.firm (by omega) W bh _ (.deferred none) bf J rfl T.o⟩;subst e;exact qlc E.o J rfl bi
attribute [local go_sem] gG
def qyW (B:Nat) (w:World):
  yG 67 #[.map (some B)] w fun e w'=>e= .returned (.func (.func 110) #[] #[.pointer (some ⟨w.heap.size,0,none⟩)])/\w'=w.alloc (.cells #[.map (some B)] 124):=by
 go_enter func67,ntmps67
 go_wp2;go_ret;exact ⟨rfl,rfl⟩
def qle (zz r B c:Nat) (m:List qaS) (w0:World) (a:List Nm->World->Prop) (wr:World):Prop:=∃ pre:List Nm,ItK wr r B c m pre/\qbm wr B c m/\a pre wr/\w0.heap.size<=wr.heap.size
def qp0 {r:Nat} {m:List qaS} {pre:List Nm} (a:ItK W r B c m pre):qe8 r m.length W=m.length-pre.length:=by
 obtain ⟨b,h1,_,_,rfl⟩:=a;simp [qe8,h1]
def qyX (q b l B c:Nat) (m:List qaS) (w:World) (aw:1<=q) (ar:b<=w.heap.size) (s:qbm w B c m) (y:w.cell? ⟨l,0,none⟩=some (.map (some B))):
  qjV q prog 110 #[.pointer (some ⟨l,0,none⟩)] qiW (qdK w.heap.size) (qdb b) (fun pre _ _=>pre.length<m.length) (fun xs=>xs.Perm (m.map (·.1))) w:=by
 intro aq x W g F M Q;have z:qbm W B c m:=(g.block B (gA.1 s).1).trans s;have av:=(g.cell (p:=⟨l,0,none⟩) (vC w _ y)).trans y;have aa:=qH F;have ag:=qH M;have ae:=g.size;have ⟨r,j⟩:=qE W.heap.size;have ⟨Y,i⟩:=qE (W.alloc (.mapIter (some B) (c+m.length) #[] (c+m.length)));have h:wG W Y:=by rw [i];exact (bA _ _).alloc (aA _) _
 have N:qle b r B c m W x Y:=by
  refine ⟨[],⟨[],by rw [i,j];exact jA _ _,by simp,by simp,rfl⟩,(h.block B (gA.1 z).1).trans z,F _ _ _ Q (qdK.of h ae),h.size⟩
 have al:=qH N;have Z:=qH i;have an:w.heap.size<=r:=by omega
 have ab:=qH j;clear F M Q s y g N i h j;refine vG func110 rfl trivial ?_ rfl;simp only [ntmps110,iD,nA,vB,Nat.reduceAdd,Nat.reduceSub,tD,uD,jD,vD,lC,bC]
 gi_wp2_with (first
  |(gi_at_range;refine qyP _ rfl _ rfl B c m rfl z ?_;rw [<- Z.o,<- ab.o])
  |gi_in)
 gi_loopw [] (fun wr=>qle b r B c m W x wr) (fun wr=>qe8 r m.length wr)
 case atStart=>exact al.o
 case round=>
  obtain ⟨pre,A,k,n,ax⟩:=hrel
  gi_wp2_with (first
   |(gi_at_next;refine qyQ _ rfl _ rfl w.heap.size r B c m pre rfl k A an ?_ ?_)
   |gi_in)
  ·intro ao
   gi_wp2
   go_end0
   exact ⟨⟨_,rfl⟩,pre,ao,n⟩
  ·intro t v w3 ad d S ai
   have G:=aa.o _ _ _ n d;have L:qbm w3 B c m:=d.keep _ _ k (by simp);have O:=qp0 A;have au:=d.below.size;have ⟨X,T⟩:=qE (⟨t.toArray⟩:ByteArray);have C:kV t= .string X:=by rw [T];rfl
   rw [C] at ai ⊢;have V:=ag.o pre t w3 G ad;rw [show qiW t=#[.string X] by unfold qiW;rw [C]] at V;obtain ⟨fn,tmps,assign,body,ah,J⟩:=V;have ap:=qH S;have am:=qH L;have aj:=qH O;clear T C A S k L d n G O;gi_wp2;refine J.mono ?_;rintro e D ⟨rfl,I,a⟩;have ⟨ak,P,K,R,H⟩:=ap.o;have E:ItK D r B c m (pre++[t]):=⟨ak,a.keep _ _ P (.inl ⟨_,_,_,_,rfl⟩),K,R,H⟩;have hrel:qle b r B c m W x D:=⟨pre++[t],E,a.keep _ _ am.o (.inr ⟨_,_,rfl⟩),I,by have :=a.below.size;omega⟩;have U:qe8 r m.length D<qe8 r m.length wr:=by
    rw [aj.o,qp0 E,iA,bB];omega
   have af:=qH hrel;have ac:=qH U;clear hrel U E I a ah J P K R H;gi_wp2;go_roundw
   case rel=>exact af.o
   case measure=>exact ac.o
