import Derived.Test.YtpehcaidjlemiaaGreatDoorMMQ15
set_option maxHeartbeats 16000000
set_option maxRecDepth 100000
set_option linter.all false
namespace Go.Proofs.YtpehcaidjlemiaaGreatDoor
open Go Go.RowKit Go.Proofs.Tryz
variable {w w':World} {k n b c i B:Nat} {A A':Option Addr} {v:Value} {xs:List Value} {t:TypeId} {L:List (Int × List (List UInt8 × List UInt8) × Int)} {Ls:List (List (Int × List (List UInt8 × List UInt8) × Int))} {rs:List (List Bool)} {fr:Nat × Nat}
theorem qCv {P:Program} {fn:Func} {p u:Tmp} {ty:TypeId} (h:fn.results=#[.cell p ty,.tmp u]) (tmps:Array Value) (w:World) (g:Nat) (t:TypeId) (cs:Array Value) (fr:Nat × Nat) (d:TypeDesc)
  (hp:tmps.getD p undef= .pointer (some ⟨g,0,none⟩)) (hg:w.heap[g]?=some (.cells cs t fr))
  (hu:P.underlying ty=some d) (hd:(match d with| .struct _| .array _ _=>true|_=>false)=true) (hi:(P.info? ty).map (·.size)=some cs.size):
  (results fn tmps).run P w= .ok (.tuple #[.agg cs,tmps.getD u undef]) w:=by
 have hp':tmps[p]?.getD undef= .pointer (some ⟨g,0,none⟩):=by simpa using hp
 rw [results_cell_tmp h];simp [hp',asAddr,run_loadVar_row w g t ty cs fr d hg hu hd hi,Result.andThen]
def qrZ:∀ {ps:List qai} {rs:List (List Bool)} {k:Nat} (h1:k<ps.length) (h2:k<rs.length),qbI (ps.take (k+1)) (rs.take (k+1))=qbI (ps.take k) (rs.take k)++[qeL ps[k] rs[k]]
 |[],_,k,a,_=>by simp at a
 |x::ps,[],k,_,a=>by simp at a
 |x::ps,r::rs,0,_,_=>by simp [qbI]
 |x::ps,r::rs,k+1,h1,h2=>by
  simp only [List.take_succ_cons,qbI,bC,zC];rw [qrZ (by simpa using h1) (by simpa using h2)]
def qhX:∀ {ps:List qai} {rs:List (List Bool)},ps.length=rs.length->(qbI ps rs).length=ps.length
 |[],[],_=>rfl
 |[],r::rs,a=>by simp at a
 |x::ps,[],a=>by simp at a
 |x::ps,r::rs,a=>by rw [qbI,nA,nA,qhX (by simpa using a)]
def ql9:∀ {ps:List qai} {rs:List (List Bool)} {k:Nat} (h1:k<ps.length) (h2:k<rs.length) (h3:k<(qbI ps rs).length),(qbI ps rs)[k]=qeL ps[k] rs[k]
 |[],_,k,a,_,_=>by simp at a
 |x::ps,[],k,_,a,_=>by simp at a
 |x::ps,r::rs,0,_,_,_=>rfl
 |x::ps,r::rs,k+1,h1,h2,h3=>by
  simp only [qbI,zC];exact ql9 (by simpa using h1) (by simpa using h2) _
def qma (x:qai) (r:List Bool):(qeL x r).length=(qa1 r).length:=by simp [qeL]
def qr0 (r:List Bool):(qa1 r).length<=r.length:=lA (wD _ _) (by simp)
def qCw (l:List Nat) (k:Nat):qaL (l++[k])=qaL l++[(k:Int)]:=by simp [qaL]
def qhY (l:List Nat):(qaL l).length=l.length:=by simp [qaL]
def qjn {g:Nat} {o:Obj} (a:(Value.slice (some ⟨k,0,none⟩) n b).ownBlock=some g) (c:v.ownBlock=some k\/k=w.heap.size+1):v.ownBlock=some g\/(w.alloc o).heap.size<=g:=by
 injection a with a
 subst a;exact c.imp id fun c=>by rw [c];simp
def qjo (w:World) (m:Nat):wG w (w.drewN m):=⟨rfl,rfl,rfl,aA _,fun _ _=>rfl⟩
structure qr1 (ps:List qai) (rs:List (List Bool)):Prop where
 few:ps.length<=1000
 same:rs.length=ps.length
 rows:∀ i (h1:i<ps.length) (h2:i<rs.length),rs[i].length=ps[i].seqs.length/\ps[i].ids.length=ps[i].seqs.length/\ps[i].seqs.length<=1000/\ps[i].keys.length=ps[i].lists.length/\ps[i].keys.length<=100000
 keys:(ps.map (·.keys)).flatten.length<=100000/\∀ a∈ps.map (·.keys),∀ x∈a,x.length<=1048576
 posts:∀ x∈ps,∀ l∈x.lists,l.length<=1000000
 ok:∀ err o,qea (qbI ps rs) err o->err=0/\qbS (qbI ps rs) o
def qCx (A i6:Option Addr) (m c my:Nat) (ps:List qai) (rs:List (List Bool)) (w:World) (jy:ql3 w A ps) (c0:Lol Value.bool w w.heap.size i6 rs) (fd:ps.length=m) (ep:qr1 ps rs):
    yG 15 #[.slice A m c,.slice i6 m my] w (qrI ps rs w):=by
  have ⟨j4,ih,js,kb,jh⟩:=lG qis;have ⟨fa,e7,ej,ex,d6⟩:=lG qc4;have ⟨k7,k5,nn,nz,l4⟩:=lG qoh;have ⟨l8,n5,k4,ng,li⟩:=lG qfh;have ⟨og,le,nw,k9,mo⟩:=lG qhT;have ⟨f0,ni,nl,lb,l6⟩:=lG qfN;have jk:m<=1000:=by rw [<- fd];exact ep.few
  have kp:rs.length=m:=ep.same.trans fd;have f3:=qH jy;have l9:=qH c0;have Y:=qH fd;have bk:=qH kp;have a2:=qH ep;have ⟨g7,gm,ei,gq⟩:=qrC w;have ⟨b8,fn⟩:=qE ((w.alloc (.cells qb4 43)).alloc (.cells qb4 43));rw [<- fn] at g7 gm ei gq;have ⟨P,gy⟩:=qE (w.heap.size+1);rw [<- gy] at ei;have a8:qrJ ps rs b8 (.slice none 0 0) (.slice none 0 0) (.slice none 0 0) (.int .i64 0) b8:=⟨0,kA _,rfl,by simpa [qbI,qb2] using qB2 b8⟩;have ij:=qH a8;have fc:=qH g7;have md:=qH gm;have lm:=qH ei;have e1:=qH gq;have c9:=qH gy;have nk:=qH fn;clear jy c0 fd kp ep g7 gm ei gq a8 gy fn
  go_enter func15,ntmps15
  go_wp2;rw [<- c9.o,show (w.alloc _).alloc _=b8 from nk.o.symm]
  go_loopw [7,8,9,10,11,12,13] (fun vs nv n7 i _ _ _ wr=>qrJ ps rs b8 vs nv n7 i wr) (fun _ _ _ i _ _ _ _=>m-(intOf i).toNat)
  case atStart=>exact ij.o
  case round=>
    clear ij;obtain ⟨k,kj,rfl,a7⟩:=hrel;rw [Y.o] at kj;have ⟨ai,mj⟩:=qE wr;subst mj;have e9:wG w ai:=fc.o.trans (a7.below.mono fc.o.size);by_cases ga:k<m
    · have d0:k<ps.length:=by rw [Y.o];exact ga
      have dq:k<rs.length:=by rw [bk.o];exact ga
      obtain ⟨b,bd,ak,ac,ag,X,N,Q,ap,aj,rfl,a4,⟨-,ab,a9, -⟩,⟨-, -,fs, -,la⟩,au⟩:=f3.o k d0;obtain ⟨jz,m0,ma,me,rfl,ln,d9, -,gf⟩:=l9.o.at_ dq;obtain ⟨bz, -,ez, -, -⟩:=a2.o.rows k d0 dq;have ey:=qrZ d0 dq;have fu:rs.take (k+1)=rs.take k++[rs[k]]:=aB dq;have hi:ps.take (k+1)=ps.take k++[ps[k]]:=aB d0;have m9:(rs.take k).length=k:=by rw [sA];omega
      have gp:(ps.take k).length=k:=by rw [sA];omega
      have ds:(qbI (ps.take k) (rs.take k)).length=k:=by rw [qhX (by omega),gp]
      have ⟨x,hx⟩:=qE (ps[k]);have ⟨r,j5⟩:=qE (rs[k]);rw [<- hx] at ab a9 fs au bz ez ey hi;rw [<- j5] at d9 gf bz ey fu;have ⟨n,S⟩:=qE x.seqs.length;rw [<- S] at ab bz ez;rw [bz] at d9;have ⟨bh,b5⟩:=qE x.keys.length;rw [<- b5] at a9 fs;have c7:qb2 (rs.take (k+1))=qb2 (rs.take k)++[qaL (qa1 r)]:=by rw [fu];simp [qb2]
      have bf:(ps.take (k+1)).map (·.keys)=(ps.take k).map (·.keys)++[x.keys]:=by rw [hi];simp
      have lp:=qH ey;have mv:=qH c7;have mh:=qH bf;have hg:=qH a7;have c5:=qH e9;have d3:=qH au;have mc:=qH gf;have g2:=qH bz;have cq:=qH S;have dk:=qH b5;have io:=qH ds;have ju:qI ((qb2 (rs.take k)).length=k):=qH (by simp [qb2];omega);have hq:qI (((ps.take k).map (·.keys)).length=k):=qH (by rw [gB,gp]);have ci:qI (∀ W,wG w W->W.cell? ⟨b,bd+k*4+1,none⟩=some (.slice ag n X)/\W.cell? ⟨b,bd+k*4+2,none⟩=some (.slice N bh Q)/\W.cell? ⟨jz,m0+k,none⟩=some (.slice ma n me)):=qH fun W h=>⟨(h.cell (p:=⟨b,_,none⟩) a4).trans ab,(h.cell (p:=⟨b,_,none⟩) a4).trans a9,(h.cell (p:=⟨jz,_,none⟩) ln).trans d9⟩
      have j1:qI (qrK x r n ai (.slice none 0 0) (.slice none 0 0) (.int .i64 0) ai):=qH ⟨0,kA _,rfl,qB3 ai⟩;have mp:(k:Int)<(m:Int):=by omega
      clear ey c7 bf a7 e9 au gf bz S b5 ds fu hi m9 gp ab a9 d9 hx j5 d0 dq;go_wp2
      go_loopw [11,12,13] (fun cy c3 i bp=>qrK x r n ai cy c3 i bp) (fun _ _ i _=>n-(intOf i).toNat)
      case atStart=>exact j1.o
      case round=>
        clear j1;obtain ⟨j,je,rfl,bx⟩:=hrel;have R:wG w wr:=c5.o.trans (bx.below.mono c5.o.size);have ⟨iy,q2,q3⟩:=ci.o wr R;by_cases ee:j<n
        · have i7:j<x.seqs.length:=by rw [<- cq.o];exact ee
          have mi:j<r.length:=by rw [g2.o];exact ee
          obtain ⟨o7,om,rfl,b7,mm⟩:=qbR (d3.o.seqs.row.below R) i7;obtain ⟨o4,op,rfl,aq,nt⟩:=qol (mc.o.below R) mi;have I:qcQ r (j+1)=if r.getD j false=true then qcQ r j++[j] else qcQ r j:=qB4 r j
          have ⟨y,az⟩:=qE (x.seqs[j]);rw [<- az] at mm;have g0:x.seqs.getD j 0=y:=by rw [az,mA,oA i7];rfl
          have ⟨lg,kc⟩:=qE (r.getD j false);rw [<- kc] at nt I;have b9:=qB6 r j;have f4:(qex x r j).length=(qcQ r j).length:=by simp [qex]
          have ⟨a,ck⟩:=qE ((qcQ r j).length);rw [<- ck] at b9 f4;have p1:(j:Int)<(n:Int):=by omega
          have mz:=bx.below.size;have f7:=qH bx;have j0:=qH f4;have i1:qI ((qaL (qcQ r j)).length=a):=qH (by rw [qhY,ck]);clear bx R az kc ck je f4;cases lg with
          |true=>
            rw [eA rfl] at I;have bw:qI (qex x r (j+1)=qex x r j++[y]/\qaL (qcQ r (j+1))=qaL (qcQ r j)++[(j:Int)]):=qH ⟨by unfold qex;rw [I,jC];simp only [xB,List.map_nil,g0],by rw [I,qCw]⟩;clear I g0
            go_wp2_with (first
              | (at_builtin; refine wpList_append_lies _ rfl (.tmp 48) (.tmp 57) 23 rfl ai.heap.size 3 fa _ 1 8 underlying23 e7 ej ex d6 rfl (by omega) u11 a (qaa (qex x r j)) rfl (by have := f7.o.fst.alloc (.cells #[.int .i64 y] 3); rwa [j0.o] at this) ⟨wr.heap.size, 0, none⟩ 1 1 [.int .i64 y] rfl rfl (qaH wr [.int .i64 y] 3) (by intro u hu; simp at hu; subst hu; rfl) (by omega) (by unfold maxLen; omega) (by omega) (by simp; omega) (wr.heap.size + 1) (by simp) ?_
                 intro lc mr D c4 db dm gt;have z:=(bA wr.heap.size wr).alloc (aA _) (.cells #[.int .i64 y] 3);have gd:=(f7.o.later z).one j0.o.symm c4 db (fun g L=>qjn L dm);have ik:=qH gd;have oc:=gd.below.size;clear c4 db dm gt z gd)
              | (at_builtin; refine wpList_append_lies _ rfl (.tmp 59) (.tmp 61) 23 rfl ai.heap.size 3 fa _ 1 8 underlying23 e7 ej ex d6 rfl (by omega) u12 a (qaa (qaL (qcQ r j))) rfl (by have := ik.o.snd.alloc (.cells #[.int .i64 (j : Int)] 3); rwa [i1.o] at this) ⟨D.heap.size, 0, none⟩ 1 1 [.int .i64 (j : Int)] rfl rfl (qaH D [.int .i64 (j : Int)] 3) (by intro u hu; simp at hu; subst hu; rfl) (by omega) (by unfold maxLen; omega) (by omega) (by simp; omega) (D.heap.size + 1) (by simp) ?_
                 intro nb m5 bu c8 d2 dr g1;have z:=(bA D.heap.size D).alloc (aA _) (.cells #[.int .i64 (j:Int)] 3);have fo:=(ik.o.later z).two i1.o.symm c8 d2 (fun g L=>qjn L dr);rw [<- bw.o.1,<- bw.o.2] at fo;have nx:=qH fo;clear c8 d2 dr g1 z fo))
            go_roundw
            case rel=>exact ⟨j+1,ee,by go_num,nx.o⟩
            case measure=>simp [intOf];omega
          |false=>
            rw [dA Bool.false_ne_true] at I;have bw:qI (qex x r (j+1)=qex x r j/\qaL (qcQ r (j+1))=qaL (qcQ r j)):=qH ⟨by unfold qex;rw [I],by rw [I]⟩;clear I g0;go_wp2;go_roundw
            case rel=>exact ⟨j+1,ee,by go_num,by rw [bw.o.1,bw.o.2];exact f7.o⟩
            case measure=>simp [intOf];omega
        · have l0:j=n:=by omega
          subst l0;have U:qcQ r j=qa1 r:=by have :=qB5 r;rwa [g2.o] at this
          have T:qex x r j=qeL x r:=by unfold qex qeL;rw [U]
          rw [U,T] at bx;have cd:=bx.fst;have cb:=bx.snd;have af:=qma x r;have i5:=qr0 r;rw [g2.o] at i5;have ⟨a,ck⟩:=qE ((qa1 r).length);obtain ⟨bc,bo,n1,km,lx, -⟩:=qaU cd;obtain ⟨du,fi,od,c6,dv, -⟩:=qaU cb;have z:(qaL (qa1 r)).length=a:=by rw [qhY,ck]
          rw [<- ck] at af i5;subst n1 od;rw [z] at cb c6 ⊢;rw [af] at cd km ⊢;have fe:=hg.o.later bx.below;have ⟨gr,ao,a6⟩:=fe.seqs;rw [io.o] at ao;have nm:qI (qat 0 3 wr bc (qaa (qeL x r))):=qH (.of_own cd);have mf:qI (qat 0 3 wr du (qaa (qaL (qa1 r)))):=qH (.of_own cb);have kk:=qH z;have kg:=qH af;have cj:=qH fe;have bw:=qH ao;have nf:=qH a6;have mz:=fe.below.size;clear cd cb z af fe ao a6 R bx U T ck q3 je
          go_wp2_with (first
            | (at_builtin; refine wpList_append_lies _ rfl (.tmp 63) (.tmp 65) 92 rfl b8.heap.size 23 j4 _ 1 24 underlying92 ih js kb jh rfl (by omega) u7 k gr rfl (bw.o.alloc _) ⟨wr.heap.size, 0, none⟩ 1 1 [.slice bc a bo] rfl rfl (qaH wr [.slice bc a bo] 23) (by intro u hu; simp at hu; subst hu; rfl) (by omega) (by unfold maxLen; omega) (by omega) (by simp; omega) (wr.heap.size + 1) (by simp) ?_
               intro lc mr D c4 db dm gt;have z:=(bA wr.heap.size wr).alloc (aA _) (.cells #[.slice bc a bo] 23);rw [show a=(qeL x r).length from kg.o.symm] at c4
               have eu:=(cj.o.later z).seq io.o.symm ⟨by rw [kg.o];exact km,lx⟩ (nm.o.keepT (.of_below z)) (bw.o.alloc _) (nf.o.keepT (.of_below z)) c4 db (fun g L=>qjn L dm);have ⟨ea,bg,l2⟩:=eu.left;rw [ju.o] at bg;have mk:=qH eu;have j2:=qH bg;have mq:=qH l2;have lh:qI (qat 0 3 D du (qaa (qaL (qa1 r)))):=qH ((mf.o.keepT (.of_below z)).keepT ((qar.grown (bw.o.alloc _) db).keptT (by decide)));have oc:=eu.below.size;clear c4 db dm gt z eu bg l2)
            | (at_builtin; refine wpList_append_lies _ rfl (.tmp 67) (.tmp 69) 92 rfl b8.heap.size 23 j4 _ 1 24 underlying92 ih js kb jh rfl (by omega) u8 k ea rfl (j2.o.alloc _) ⟨D.heap.size, 0, none⟩ 1 1 [.slice du a fi] rfl rfl (qaH D [.slice du a fi] 23) (by intro u hu; simp at hu; subst hu; rfl) (by omega) (by unfold maxLen; omega) (by omega) (by simp; omega) (D.heap.size + 1) (by simp) ?_
               intro nb m5 bu c8 d2 dr g1;have z:=(bA D.heap.size D).alloc (aA _) (.cells #[.slice du a fi] 23);rw [show a=(qaL (qa1 r)).length from kk.o.symm] at c8
               have dl:=(mk.o.later z).lft ju.o.symm ⟨by rw [kk.o];exact c6,dv⟩ (lh.o.keepT (.of_below z)) (j2.o.alloc _) (mq.o.keepT (.of_below z)) c8 d2 (fun g L=>qjn L dr);have aq:wG w bu:=fc.o.trans (dl.below.mono fc.o.size);have o0:=(ci.o bu aq).2.1;have ⟨e6,K,Z⟩:=dl.keys;rw [hq.o] at K;have n2:=qH dl;have j8:=qH K;have fj:=qH Z;have ns:qI (qat 0 9 bu N (qad x.keys)):=qH (d3.o.keys.keepT (.of_below aq));have oq:=dl.below.size;clear c8 d2 dr g1 z dl K Z aq)
            | (at_builtin; refine wpList_append_lies _ rfl (.tmp 71) (.tmp 77) 93 rfl b8.heap.size 40 k7 _ 1 24 underlying93 k5 nn nz l4 rfl (by omega) u9 k e6 rfl (j8.o.alloc _) ⟨bu.heap.size, 0, none⟩ 1 1 [.slice N bh Q] rfl rfl (qaH bu [.slice N bh Q] 40) (by intro u hu; simp at hu; subst hu; rfl) (by omega) (by unfold maxLen; omega) (by omega) (by simp; omega) (bu.heap.size + 1) (by simp) ?_
               intro ou pu J gj jf l3 oh;have z:=(bA bu.heap.size bu).alloc (aA _) (.cells #[.slice N bh Q] 40);rw [dk.o] at gj;have fv:=(n2.o.later z).key hq.o.symm ⟨by rw [<- dk.o];exact fs,la⟩ (ns.o.keepT (.of_below z)) (j8.o.alloc _) (fj.o.keepT (.of_below z)) gj jf;rw [<- lp.o,<- mv.o,<- mh.o] at fv;have ne:=qH fv;clear gj jf l3 oh z fv))
          go_roundw
          case rel=>exact ⟨k+1,by rw [Y.o];exact ga,by go_num,ne.o⟩
          case measure=>simp [intOf];omega
    · have l7:k=m:=by omega
      subst l7;rw [nB (l:=ps) (by rw [Y.o];exact aA _),nB (l:=rs) (by rw [bk.o];exact aA _)] at a7;have ⟨gr,ao,a6⟩:=a7.seqs;have af:(qbI ps rs).length=k:=by rw [qhX (by rw [Y.o,bk.o]),Y.o]
      rw [af] at ao;obtain ⟨lz,cs',n6, -, -,kn⟩:=qaU ao;subst n6;have c7:(qb2 rs).length=k:=by rw [qb2,gB,bk.o]
      have bf:(ps.map (·.keys)).length=k:=by rw [gB,Y.o]
      have ⟨ea,bg,l2⟩:=a7.left;obtain ⟨lo,pr,i8, -, -, -⟩:=qaU bg;rw [c7] at i8;have ⟨e6,K,Z⟩:=a7.keys;obtain ⟨j7,n9,jt, -, -, -⟩:=qaU K;rw [bf] at jt;subst i8 jt;have kw:∀ s∈qbI ps rs,s.length<=1000:=fun s ls=>by
        obtain ⟨i,bv,rfl⟩:=nC ls;have h1:i<ps.length:=by rw [Y.o,<- af];exact bv
        have h2:i<rs.length:=by rw [bk.o,<- af];exact bv
        obtain ⟨bn, -,a9, -, -⟩:=a2.o.rows i h1 h2;rw [ql9 h1 h2 bv,qma];have :=qr0 rs[i];omega
      have ka:=qH (qxz lz k cs' (qbI ps rs) ai ⟨gr,a6.lol,kn⟩ af jk kw);have hg:=qH a7;have c5:=qH e9;have pa:=a7.below.size;have n3:=qH c7;have kf:=qH bf;clear a7 ao a6 bg l2 K Z af kn kw e9 kj c7 bf
      go_wp2_with (go_at_call 42; (with_reducible refine ka.o.mono ?_); rintro e w3 ⟨pd, o, pv, jd, rfl, e8, fh, jp⟩
                   obtain ⟨rfl,ic⟩:=a2.o.ok _ _ jd;obtain ⟨em,cr,rfl, -, -, -⟩:=qaU e8;have ⟨M,hh⟩:=qE o.length;rw [<- hh] at e8 jp ⊢;have hl:=qH ic;have ef:=qH e8;have cj:=qH (hg.o.later fh);have i4:=qH (c5.o.trans (fh.mono c5.o.size));have c2:=qH hh;clear jd e8 fh ic hh)
      have er:w3.heap[P]?=some (.cells qb4 tP (0,0)):=(cj.o.below.block P (by rw [e1.o,c9.o];omega)).trans lm.o;have kl:qrL ps (qaj rs o) o M P ai.heap.size (.slice em M cr) w3 (.int .i64 0) w3:=⟨0,_,_,kA _,rfl,by rw [show qc3 ps ((qaj rs o).take 0)=⟨[],[],[],[]⟩ by simp [qc3]];exact qrq er (.inr (.inl rfl)) (aA _) (qb3.refl _ _ _),by simpa using ef.o⟩;have jc:=qH kl;have pw:=qH er;have jj:(qaj rs o).length=M:=by rw [c2.o];simp [qaj]
      have cv:=qH jj;have eh:qI (∀ (t:TypeId) (wr:World),qb3 w3.heap.size (fun k=>k=P\/(Value.slice em M cr).ownBlock=some k) w3 wr->t≠tP->t≠88->qfB t w3 wr):=qH fun t wr h h1 h2=>h.keptT fun eo cs fr hx e=>by
        rcases hx with rfl|hx
        · rw [er] at e;injection e with e;injection e with _ e _;exact h1 e.symm
        · have ⟨px,pm,T⟩:=qd0 ef.o hx
          rw [T] at e;injection e with e;injection e with _ e _;exact h2 e.symm
      have dj:qI (∀ wr:World,qb3 w3.heap.size (fun k=>k=P\/(Value.slice em M cr).ownBlock=some k) w3 wr->wG w wr):=qH fun wr h=>i4.o.trans (h.to (by have :=i4.o.size;omega) fun eo fm hx=>by
        rcases hx with rfl|hx
        · rw [c9.o] at fm;omega
        · have :=(ef.o.lt eo hx).1
          have :=c5.o.size;omega)
      clear er kl jj ka
      go_loopw [16,17,18] (fun i _ _ wr=>qrL ps (qaj rs o) o M P ai.heap.size (.slice em M cr) w3 i wr) (fun i _ _ _=>M-(intOf i).toNat)
      case atStart=>exact jc.o
      case round=>
        clear jc;obtain ⟨q,cy,c3,nd,rfl,B,a5⟩:=hrel;have b2:=dj.o wr B.stay;by_cases gb:q<M
        · have f8:q<o.length:=by rw [<- c2.o];exact gb
          have gg:q<(qaj rs o).length:=by rw [cv.o];exact gb
          have d5:q<((qaj rs o).take q++o.drop q).length:=by simp;omega
          rcases a5.2 with ⟨bs,mx⟩|⟨g,lw,lu,bs,gv,e2, -, -, -, -⟩
          · injection bs with _ bs _
            omega
          injection bs with hv1 _ hv3
          subst hv1 hv3;have fp:=qrf (by rw [cv.o,c2.o]) f8 d5;have iz:=qre (a:=qaj rs o) (b:=o) (by rw [cv.o,c2.o]) gg;have ⟨ay,a1⟩:=qhx d5
          replace ay:=(a5.cellAt (q*2) (by omega)).trans ay
          replace a1:=(a5.cellAt (q*2+1) (by omega)).trans a1
          have j9:=a5.frozenAt (q*2+1);rw [fp] at ay a1;have ⟨bv,eb⟩:=qcm.1 ((hl.o.mem o[q]).1 (pA f8));have bj:(qaj rs o)[q]=(o[q].1,(qa1 (rs.getD o[q].1 [])).getD o[q].2 0):=by simp [qaj]
          have ⟨i,bb⟩:=qE (o[q].1);have ⟨d,ce⟩:=qE (o[q].2);have fy:i<(qbI ps rs).length:=by rw [bb];exact bv
          have cz:d<(qbI ps rs)[i].length:=by subst bb ce;exact eb
          rw [<- bb] at ay bj;rw [<- ce] at a1 bj;have af:(qbI ps rs).length=ps.length:=qhX (by rw [Y.o,bk.o]);have a0:i<ps.length:=by rw [<- af];exact fy
          have ct:i<rs.length:=by rw [bk.o,<- Y.o];exact a0
          rw [ql9 a0 ct fy,qma] at cz;have ⟨y,az⟩:=qE ((qa1 rs[i])[d]);have iu:rs.getD i []=rs[i]:=by rw [mA,oA ct];rfl
          rw [iu,show (qa1 rs[i]).getD d 0=y by rw [az,mA,oA cz];rfl] at bj;have oi:y<rs[i].length:=by rw [az];exact qi4 (pA _)
          have ⟨ea,bg,l2⟩:=cj.o.left;have gc:=eh.o 23 wr B.stay (by decide) (by decide);have hd:=eh.o 3 wr B.stay (by decide) (by decide);rw [n3.o] at bg;have ku:=qbx (qf6 bg gc);have ks:Lol (Value.int .i64) wr wr.heap.size lo (qb2 rs):=⟨ea,(l2.keepT hd).lol,ku⟩;have hy:i<(qb2 rs).length:=by simpa [qb2] using ct
          have ji:(qb2 rs)[i]=qaL (qa1 rs[i]):=by simp [qb2]
          obtain ⟨bl,o5,pq,pp,rfl,pb,es, -,gx⟩:=ks.at_ hy;rw [ji] at es gx;obtain ⟨o9,pj,rfl,oj,kq⟩:=qbR gx (k:=d) (by rw [qhY];exact cz);rw [show (qaL (qa1 rs[i]))[d]'(by rw [qhY];exact cz)=(y:Int) by rw [az];simp [qaL]] at kq;rw [qhY] at es;obtain ⟨b,bd,ak,ac,ag,X,N,Q,ap,aj,rfl,a4,⟨bn,ab, -, -⟩,⟨e0,fg, -, -, -⟩,au⟩:=f3.o i a0;obtain ⟨bz,m4,ez, -, -⟩:=a2.o.rows i a0 ct;have c6:y<ps[i].ids.length:=by omega
          have dv:y<ps[i].seqs.length:=by omega
          obtain ⟨g5,hw,rfl,m3,U⟩:=qbR au.ids.row c6;obtain ⟨gh,jv,rfl,lk,T⟩:=qbR au.seqs.row dv;have G:(qd8 ps i).ids.getD y 0=ps[i].ids[y]/\(qd8 ps i).seqs.getD y 0=ps[i].seqs[y]:=by
            rw [ql5 a0];simp [mA,oA c6,oA dv]
          have ⟨da,cd⟩:=qE (ps[i].ids[y]);have ⟨dt,cb⟩:=qE (ps[i].seqs[y]);rw [<- cd,<- cb] at G;rw [<- cd] at U;rw [<- cb] at T;have ⟨aw,bi⟩:=qE (ps[i].ids.length);have ⟨am,bq⟩:=qE (ps[i].seqs.length);have ⟨b6,cu⟩:=qE ((qa1 rs[i]).length);rw [<- bi] at bn c6;rw [<- bq] at ab dv;rw [<- cu] at es cz;have f9:qc3 ps ((qaj rs o).take (q+1))=⟨(qc3 ps ((qaj rs o).take q)).ids++[da],(qc3 ps ((qaj rs o).take q)).seqs++[dt],[],[]⟩:=by
            rw [aB gg,bj,qCc,G.1,G.2]
          have av:q=(qc3 ps ((qaj rs o).take q)).ids.length:=by simp [qc3];omega
          have H:q=(qc3 ps ((qaj rs o).take q)).seqs.length:=by simp [qc3];omega
          have ⟨x,hx⟩:=qE (qc3 ps ((qaj rs o).take q));have ie:x.keys=[]:=by rw [hx];rfl
          have jr:x.lists=[]:=by rw [hx];rfl
          rw [<- hx] at B f9 av H;obtain ⟨kr,ig,dn, -⟩:=qaU B.ids;obtain ⟨ha,g6,ky, -⟩:=qaU B.seqs;rw [<- av] at dn;rw [<- H] at ky;subst dn ky;have a8:∀ n,((wr.drewN n).setCell ⟨g,q*2+1,none⟩ (.int .i64 (y:Int))).ownsRow ai.heap.size 88 2 (.slice (some ⟨g,0,none⟩) M cr) M (plc ((qaj rs o).take (q+1)++o.drop (q+1))):=fun n=>by
            have a8:=((qaf a5 (qjo wr n)).stored (q*2+1) (.int .i64 (y:Int))).1;rw [qlS _ q d5] at a8;simp only [fp] at a8;rw [<- bb,<- bj,iz] at a8;exact a8
          have jx:=fun n=>(B.later (qjo wr n)).other (O:=g) (by exact e2) (by unfold NoP;decide) (by decide) (.inr (.inr rfl)) (q*2+1) (.int .i64 (y:Int))
          have mp:(i:Int)<(k:Int):=by have :=Y.o;omega
          have pn:(q:Int)<(M:Int):=by omega
          have p0:(d:Int)<(b6:Int):=by omega
          have pc:(y:Int)<(aw:Int):=by omega
          have o3:(y:Int)<(am:Int):=by omega
          have ci:qI (∀ W,wG w W->W.cell? ⟨b,bd+i*4,none⟩=some (.slice (some ⟨g5,hw,none⟩) aw ac)/\W.cell? ⟨b,bd+i*4+1,none⟩=some (.slice (some ⟨gh,jv,none⟩) am X)/\W.cell? ⟨g5,hw+y,none⟩=some (.int .i64 da)/\W.cell? ⟨gh,jv+y,none⟩=some (.int .i64 dt)):=qH fun W h=>⟨(h.cell (p:=⟨b,_,none⟩) a4).trans bn,(h.cell (p:=⟨b,_,none⟩) a4).trans ab,(h.cell (p:=⟨g5,_,none⟩) m3).trans U,(h.cell (p:=⟨gh,_,none⟩) lk).trans T⟩
          have k1:=qH jx;have j6:=qH a8;have n4:=qH f9;have fb:=qH av;have e3:=qH H;have f2:=qH ie;have hj:=qH jr;clear bb ce fy a8 jx f9 av H ie jr hx B a5 e2 bn ab U T au cd cb G bi bq cu gx ks ku gc hd bg l2 bj oi az cz eb bv fp iz d5 f8 gg b2 hy ji bz m4 ez af iu gv;go_wp2
          go_quiet (fail)
          go_wp2;have ⟨ws,h7⟩:=qE ((wr.drewN nq).setCell ⟨g,q*2+1,none⟩ (.int .i64 (y:Int)));have co:=k1.o nq;have f6:=j6.o nq;rw [<- h7] at co f6 ⊢;have f0:=(qaw co.cell).1.1;have m6:∀ o,(ws.alloc o).cell? ⟨P,0,none⟩=some (.slice kr q ig):=fun o=>(qaw (co.later ((bA ws.heap.size ws).alloc (aA _) o)).cell).1.1
          obtain ⟨d7, -,et, -⟩:=ci.o ws (dj.o ws co.stay);have hr:=qH co;have hp:=qH f6;have pz:=co.size;clear k1 j6 h7 co f6 ay a1 j9 es kq
          go_cut [] from 115 to 127 (fun bp=>∃ h5,qa3 tP (fun k=>k=P\/(Value.slice (some ⟨g,0,none⟩) M cr).ownBlock=some k) w3.heap.size w3.heap.size P h5 (.slice ha q g6) (.slice none 0 0) (.slice none 0 0) ⟨x.ids++[da],x.seqs,x.keys,x.lists⟩ w3 bp/\bp.ownsRow ai.heap.size 88 2 (.slice (some ⟨g,0,none⟩) M cr) M (plc ((qaj rs o).take (q+1)++o.drop (q+1))))
          case first=>
            go_region_law (first
              | (refine step_append_lies _ (by rfl) _ _ _ (by rfl) w3.heap.size 3 fa _ 1 8 underlying23 e7 ej ex d6 rfl (by omega) (.slice kr q ig) q (qaa x.ids) (by rfl) (by have := hr.o.ids; rw [<- fb.o] at this; exact this.drew.alloc _)
                  ⟨ws.drew.heap.size,0,none⟩ 1 1 [.int .i64 da] (by rfl) (by rfl) (World.news_of_block (cs:=#[.int .i64 da]) (t:=3) (fr:=(0,0)) (jA ws.drew _)) (by intro u hu;simp at hu;subst hu;rfl)
                  (by omega) (by unfold maxLen;omega) (by omega) (by simp;omega) (ws.heap.size+1) (by simp) ?_
                 intro dc cx cl al aa br cn;have z:=(bA ws.heap.size ws).drew.alloc (aA _) (.cells #[.int .i64 da] 3);have G:=hr.o.later z;have ⟨⟨fl,g3⟩,ad⟩:=G.id noP f2.o hj.o fb.o al aa (fun g L=>by
                   injection L with L
                   subst L;rcases br with h|h
                   · exact .inl h
                   · exact .inr (by simp;omega))
                 have a3:=qar.grown G.ids aa;have dh:=qf6 (qf6 (qaf hp.o z) (a3.keptT (by decide))) ((qar.cell (i:=0) (a3.kinds _ _ _ _ G.cell (by decide)) (.slice (some ⟨dc,0,none⟩) (q+1) cx)).keptT (by decide));have cm:=qH ad;have gk:=qH dh;clear al aa br cn ad dh z G a3))
            all_goals
              go_wp2_with fail
              go_meet;exact ⟨_,cm.o,gk.o⟩
          case rest=>
            obtain ⟨h5,an,k0⟩:=hcut;have pt:=(qaw an.cell).1.2.1;have po:∀ o,(wc.alloc o).cell? ⟨P,1,none⟩=some (.slice ha q g6):=fun o=>(qaw (an.later ((bA wc.heap.size wc).alloc (aA _) o)).cell).1.2.1
            obtain ⟨-,fz, -,ki⟩:=ci.o wc (dj.o wc an.stay);have e5:=qH an;have eq:=qH k0;have oe:=an.size;clear an k0 f0 m6 d7 et;go_wp2
            go_region_law (first
              | (refine step_append_lies _ (by rfl) _ _ _ (by rfl) w3.heap.size 3 fa _ 1 8 underlying23 e7 ej ex d6 rfl (by omega) (.slice ha q g6) q (qaa x.seqs) (by rfl) (by have := e5.o.seqs; rw [<- e3.o] at this; exact this.drew.alloc _)
                  ⟨wc.drew.heap.size,0,none⟩ 1 1 [.int .i64 dt] (by rfl) (by rfl) (World.news_of_block (cs:=#[.int .i64 dt]) (t:=3) (fr:=(0,0)) (jA wc.drew _)) (by intro u hu;simp at hu;subst hu;rfl)
                  (by omega) (by unfold maxLen;omega) (by omega) (by simp;omega) (wc.heap.size+1) (by simp) ?_
                 intro dc cx cl al aa br cn;have z:=(bA wc.heap.size wc).drew.alloc (aA _) (.cells #[.int .i64 dt] 3);have G:=e5.o.later z;have ⟨⟨fl,g3⟩,ad⟩:=G.seq noP f2.o hj.o e3.o al aa (fun g L=>by
                   injection L with L
                   subst L;rcases br with h|h
                   · exact .inl h
                   · exact .inr (by simp;omega))
                 have a3:=qar.grown G.seqs aa;have dh:=qf6 (qf6 (qaf eq.o z) (a3.keptT (by decide))) ((qar.cell (i:=1) (a3.kinds _ _ _ _ G.cell (by decide)) (.slice (some ⟨dc,0,none⟩) (q+1) cx)).keptT (by decide));rw [f2.o,hj.o,<- n4.o] at ad;have cm:=qH ad;have gk:=qH dh;clear al aa br cn ad dh z G a3))
            all_goals
              go_wp2;go_roundw
              case rel=>exact ⟨q+1,_,_,gb,by go_num,cm.o,gk.o⟩
              case measure=>simp [intOf];omega
        · have m1:q=M:=by omega
          subst m1;rw [nB (l:=qaj rs o) (by rw [cv.o];exact aA _)] at B a5;rw [eE (by rw [<- c2.o];exact aA _),mC] at a5;have ⟨e6,K,Z⟩:=cj.o.keys;rw [kf.o] at K;have ds:qco wr wr.heap.size j7 (ps.map (·.keys)):=qoj ⟨e6,(Z.keepT (eh.o 9 wr B.stay (by decide) (by decide))).lol,qbx (qf6 K (eh.o 40 wr B.stay (by decide) (by decide)))⟩;have jl:=qH (qxM j7 k n9 (ps.map (·.keys)) wr kf.o ds a2.o.keys.1 jk a2.o.keys.2);have d1:=qH B;have i2:=qH a5;have ba:=qH b2;clear B a5 b2 K Z ds nd
          go_wp2_with (go_at_call 43; (with_reducible refine jl.o.mono ?_); rintro e V ⟨pi, rfl, H, dw⟩
                       obtain ⟨oo,o6,rfl, -, -, -⟩:=qaU H;have ⟨F,ek⟩:=qE (qbo (ps.map (·.keys)));have ⟨b1,el⟩:=qE F.length;unfold qaB at H;rw [<- ek,<- el] at H ⊢;have e3:=qH H;have ko:=qH (d1.o.later dw);have nc:=qH (qaf i2.o dw);have im:=qH (ba.o.trans (dw.mono ba.o.size));have hs:V.heap[w.heap.size]?=some (.cells qb4 tP (0,0)):=by
                         have U:=cj.o.below.size;rw [e1.o] at U;have h1:=(cj.o.below.block w.heap.size (by rw [e1.o];omega)).trans md.o;have h2:=(d1.o.stay.block w.heap.size (by omega) (by
                           rintro (h|h)
                           · rw [c9.o] at h;omega
                           · have :=(ef.o.lt _ h).1
                             have :=e1.o;omega)).trans h1
                         exact (dw.block _ (gA.1 h2).1).trans h2
                       have h8:=qH hs;have pe:b1<=100000:=by
                         rw [el,ek];exact lA (qkW _) a2.o.keys.1
                       have kt:=qH ek;have dk:=qH el;clear H dw ek el hs)
          clear d1 i2 ba jl;have h9:qrM ps (qaj rs o) F b1 P w3.heap.size cy c3 V (.int .i64 0) V:=⟨0,_,_,kA _,rfl,by rw [qCe];exact ko.o.rebase⟩;have kh:=qH h9;have kz:V.heap[P]?=some (.cells #[cy,c3,.slice none 0 0,.slice none 0 0] tP (0,0)):=ko.o.cell;have iw:qI (∀ (t:TypeId) (wr:World),qb3 V.heap.size (fun k=>k=P) V wr->t≠tP->qfB t V wr):=qH fun t wr h h1=>h.keptT fun eo cs fr hx e=>by
            subst hx;rw [kz] at e;injection e with e;injection e with _ e _;exact h1 e.symm
          have lq:qI (∀ wr:World,qb3 V.heap.size (fun k=>k=P) V wr->wG w wr):=qH fun wr h=>im.o.trans (h.to im.o.size fun eo fm hx=>by
            rw [hx,c9.o] at fm;omega)
          clear h9 kz
          go_loopw [20,21,22,23,24] (fun i _ _ _ _ wr=>qrM ps (qaj rs o) F b1 P w3.heap.size cy c3 V i wr) (fun i _ _ _ _ _=>b1-(intOf i).toNat)
          case atStart=>exact kh.o
          case round=>
            clear kh;obtain ⟨C,n8,n0,ov,rfl,B⟩:=hrel;have b2:=lq.o wr B.stay;by_cases gn:C<b1
            · have bf:C<F.length:=by rw [<- dk.o];exact gn
              have ⟨kv,ob,l5,ir,gz⟩:=qdr (qbx (qf6 e3.o (iw.o 9 wr B.stay (by decide)))) bf;subst l5;have b3:=qf6 nc.o (iw.o 88 wr B.stay (by decide));have ⟨key,qaD⟩:=qE (F[C]);rw [<- qaD] at gz;have ⟨D,ly⟩:=qE wr;subst ly;have ht:qI (∀ W,wG D W->W.cell? ⟨kv,ob+C,none⟩=some (.string ⟨key.toArray⟩)):=qH fun W h=>(h.cell (p:=⟨kv,_,none⟩) ir).trans gz
              have ge:qcE ps key (qaj rs o)=[]->qbE ps (qaj rs o) F (C+1)=qbE ps (qaj rs o) F C:=fun h=>qCg bf (by rw [<- qaD];exact h)
              have fq:qcE ps key (qaj rs o)≠[]->qbE ps (qaj rs o) F (C+1)=⟨(qbE ps (qaj rs o) F C).ids,(qbE ps (qaj rs o) F C).seqs,(qbE ps (qaj rs o) F C).keys++[key],(qbE ps (qaj rs o) F C).lists++[qcE ps key (qaj rs o)]⟩:=fun h=>by
                rw [qCf bf (by rw [<- qaD];exact h),<- qaD]
              have dg:(qbE ps (qaj rs o) F C).keys.length<=C/\(qbE ps (qaj rs o) F C).lists.length<=C:=by
                have :(qfD ps (qaj rs o) F C).length<=C:=lA (wD _ _) (by rw [sA];omega);exact ⟨this,by simpa [qbE] using this⟩
              have ⟨x,hx⟩:=qE (qbE ps (qaj rs o) F C);rw [<- hx] at B ge fq dg;have d1:=qH B;have ba:=qH b2;have m2:=qH b3;have nj:=qH ge;have ms:=qH fq;have h0:qI (qrN ps (qaj rs o) key q D (.slice none 0 0) (.int .i64 0) D):=qH ⟨0,kA _,rfl,by rw [List.take_zero];exact qdd.nil,bA _ _⟩;have o2:(C:Int)<(b1:Int):=by omega
              clear B b2 b3 qaD ge fq hx gz ir;go_wp2
              go_loopw [21,22,23,24] (fun v i _ _ wr=>qrN ps (qaj rs o) key q D v i wr) (fun _ i _ _ _=>q-(intOf i).toNat)
              case atStart=>exact h0.o
              case round=>
                clear h0;obtain ⟨t,pl,rfl,ar,b7⟩:=hrel;have ⟨J,l1⟩:=qE wr;subst l1;have R:wG w J:=ba.o.trans (b7.mono ba.o.size);by_cases he:t<q
                · have ib:t<o.length:=by rw [<- c2.o];exact he
                  have fk:t<(qaj rs o).length:=by rw [cv.o];exact he
                  have b3:=m2.o;rcases b3.2 with ⟨bs,mx⟩|⟨g,lw,lu,bs,gv,e2, -, -, -, -⟩
                  · injection bs with _ bs _
                    omega
                  injection bs with hv1 _ hv3
                  subst hv1 hv3;have ⟨ay,a1⟩:=qhx fk
                  replace ay:=(b3.cellAt (t*2) (by omega)).trans ay
                  replace a1:=(b3.cellAt (t*2+1) (by omega)).trans a1
                  have ⟨bv,eb⟩:=qcm.1 ((hl.o.mem o[t]).1 (pA ib));have bj:(qaj rs o)[t].1=o[t].1:=by simp [qaj]
                  have ⟨i,bb⟩:=qE ((qaj rs o)[t].1);have ⟨d,ce⟩:=qE ((qaj rs o)[t].2);rw [<- bb] at ay;rw [<- ce] at a1;have a0:i<ps.length:=by
                    rw [bb,bj,<- qhX (ps:=ps) (rs:=rs) (by rw [Y.o,bk.o])];exact bv
                  have ct:i<rs.length:=by rw [bk.o,<- Y.o];exact a0
                  obtain ⟨b,bd,ak,ac,ag,X,N,Q,ap,aj,rfl,a4,⟨bn,ab,a9,ew⟩, -,au⟩:=f3.o i a0;obtain ⟨-, -, -,eg,g9⟩:=a2.o.rows i a0 ct;have ec:qd8 ps i=ps[i]:=ql5 a0;have b9:=qrQ a2.o.posts i key;rw [ec] at b9;have ⟨y,az⟩:=qE (ps[i]);rw [<- az] at bn ab a9 ew au eg g9 ec b9;have ⟨aw,bi⟩:=qE y.ids.length;have ⟨am,bq⟩:=qE y.seqs.length;have ⟨bm,av⟩:=qE y.keys.length;have ⟨bt,H⟩:=qE y.lists.length;rw [<- bi] at bn;rw [<- bq] at ab;rw [<- av] at a9 eg g9;rw [<- H] at ew eg;have ⟨l,ah⟩:=qE (qcM y key);have k8:qI (∀ W,wG w W->yG 44 #[.agg #[.slice ak aw ac,.slice ag am X,.slice N bm Q,.slice ap bt aj],.string ⟨key.toArray⟩] W (qru l w W)):=qH fun W h=>by
                    have :=qBW ak ag N ap aw ac am X bm Q bt aj y ⟨key.toArray⟩ w W h av.symm H.symm au.keys.row au.lpg (by omega) (by omega);rwa [show (⟨key.toArray⟩:ByteArray).data.toList=key from rfl,<- ah] at this
                  have ⟨n,S⟩:=qE l.length;rw [<- ah,<- S] at b9;have h4:qI (qcE ps key ((qaj rs o).take (t+1))=qcE ps key ((qaj rs o).take t)++qdO l t d n):=qH (by
                    rw [qCj (by omega),aB fk,qCd,<- bb,<- ce,sA,eD (by omega),qjl,ec,<- ah])
                  have f5:=qrS a2.o.posts key (E:=(qaj rs o).take t) (by rw [sA];omega);have ⟨dy,iv⟩:=qE (qcE ps key ((qaj rs o).take t));rw [<- iv] at h4 ar f5;have cq:=qH S;have ci:qI (∀ W,wG w W->W.cell? ⟨b,bd+i*4,none⟩=some (.slice ak aw ac)/\W.cell? ⟨b,bd+i*4+1,none⟩=some (.slice ag am X)/\W.cell? ⟨b,bd+i*4+2,none⟩=some (.slice N bm Q)/\W.cell? ⟨b,bd+i*4+3,none⟩=some (.slice ap bt aj)):=qH fun W h=>⟨(h.cell (p:=⟨b,_,none⟩) a4).trans bn,(h.cell (p:=⟨b,_,none⟩) a4).trans ab,(h.cell (p:=⟨b,_,none⟩) a4).trans a9,(h.cell (p:=⟨b,_,none⟩) a4).trans ew⟩
                  have g8:=(b3.lt g rfl).2;have eq:qI (∀ W,wG D W->W.cell? ⟨g,t*2,none⟩=some (.int .i64 (i:Int))/\W.cell? ⟨g,t*2+1,none⟩=some (.int .i64 (d:Int))):=qH fun W h=>⟨(h.cell (p:=⟨g,_,none⟩) g8).trans ay,(h.cell (p:=⟨g,_,none⟩) g8).trans a1⟩
                  have hp:=qH ar;have ix:=qH b7;have dj:=qH R;have pf:(i:Int)<(k:Int):=by have :=Y.o;omega
                  have o1:(t:Int)<(q:Int):=by omega
                  have ⟨d7,fz,et,ki⟩:=ci.o J R;have ⟨ao,a6⟩:=eq.o J b7;have hm:=ht.o J b7;clear b3 bv eb bj bb ce a0 ct bn ab a9 ew au eg g9 ec az bi bq av H ah S iv ar b7 R ay a1 gv e2 ib fk g8 a4;go_wp2
                  go_cut [23] from 155 to 167 (fun s bp=>∃ be ca,s= .slice be n ca/\qbn 0 w be l/\wG J bp)
                  case first=>
                    go_region_law (first
                      | (go_simp; go_at_call 44; (with_reducible refine (k8.o _ dj.o.drew).mono ?_); rintro e cl ⟨be, ca, rfl, -, cc, ax⟩
                         rw [<- cq.o];have dz:=qH cc;have gu:=qH ((bA J.heap.size J).drew.trans ax);clear cc ax))
                    all_goals
                      go_wp2_with fail
                      go_meet;exact ⟨be,ca,rfl,dz.o,gu.o⟩
                  case rest=>
                    obtain ⟨be,ca,rfl,cc,ax⟩:=hcut;have ⟨cl,mw⟩:=qE wc;subst mw;have dz:=qH cc;have gu:qI (wG D cl):=qH (ix.o.trans (ax.mono ix.o.size));have jw:qI (qrO dy l t d n D u21 (.int .i64 0) cl):=qH ⟨0,kA _,rfl,by rw [show qdO l t d 0=[] by simp [qdO],mC];exact hp.o.below ax,gu.o⟩;clear cc ax d7 fz et ki ao a6 hm;go_wp2
                    go_loopw [21,24] (fun v i wr=>qrO dy l t d n D v i wr) (fun _ i _=>n-(intOf i).toNat)
                    case atStart=>exact jw.o
                    case round=>
                      clear jw;obtain ⟨ae,ph,rfl,ar,aq⟩:=hrel;have ⟨b4,nr⟩:=qE wr;subst nr;have R:wG w b4:=ba.o.trans (aq.mono ba.o.size);by_cases fx:ae<n
                      · have il:ae<l.length:=by rw [<- cq.o];exact fx
                        obtain ⟨gl,k6,bc,bo,rfl,ax,K,Z,ff,e4⟩:=dz.o.at_ il;have I:=qCi (q:=t) (d:=d) il;have ⟨U,ii⟩:=qE (l[ae].1);have ⟨T,j3⟩:=qE (l[ae].2);rw [<- ii] at K I;rw [<- j3] at Z ff e4 I;have ⟨c1,ed⟩:=qE T.length;rw [<- ed] at Z
                        replace K:=(R.cell (p:=⟨gl,_,none⟩) ax).trans K
                        have ⟨ao,a6⟩:=eq.o b4 aq;have ox:(ae:Int)<(n:Int):=by omega
                        have oz:(t:Int)<(q:Int):=by omega
                        have d8:=qH R;have ch:=qH aq;have dp:=qH ar;have py:=aq.size;clear ar aq R ii j3;by_cases di:U=(d:Int)
                        · rw [eA di] at I
                          have gi:=qH I;rw [di] at K;have jn:∀ W,wG b4 W->W.cell? ⟨gl,k6+ae*2+1,none⟩=some (.slice bc c1 bo):=fun W h=>((d8.o.trans (h.mono d8.o.size)).cell (p:=⟨gl,_,none⟩) ax).trans Z
                          have fj:=qH jn;have lr:=qH ed;have jb:=qH ff;have mt:=qH e4;have iq:(dy++qdO l t d ae).length<=1000001000000:=by
                            have :=qCm l t d ae;rw [iA];omega
                          have ⟨dx,f1⟩:=qE (dy++qdO l t d ae);rw [<- f1] at dp iq;have nh:qI (dy++qdO l t d (ae+1)=dx++[((t:Int),T)]):=qH (by rw [gi.o,f1,iB]);have ⟨cs,e0,fg⟩:=dp.o;have ⟨g4,hc⟩:=qE dx.length;rw [<- hc] at e0 iq;have ft:=qH e0;have lf:=qH fg;have kx:=qH hc;clear I di jn ed ff e4 f1 e0 fg hc Z ax;go_wp2
                          go_quiet (fail)
                          generalize de:World.drewN _ _=cg;have cw:wG b4 cg:=by rw [<- de];exact qjo b4 _
                          have Z:=fj.o cg cw;have cp:=qH cw;have pg:=cw.size;clear de cw K ao a6
                          go_wp2_with (at_builtin; refine wB _ rfl (.tmp 185) (.tmp 193) 71 rfl D.heap.size 74 f0 _ 2 32 underlying71 ni nl lb l6 rfl (by omega) u21 g4 cs rfl ((qaf ft.o cp.o).alloc _) ⟨cg.heap.size, 0, none⟩ 1 1 [.int .i64 (t : Int), .slice bc c1 bo] rfl rfl (qaH cg [.int .i64 (t : Int), .slice bc c1 bo] 74) (by intro u hu; simp at hu; rcases hu with hu | hu <;> (subst hu; rfl)) (by unfold maxLen; omega) (by omega) (by simp; omega) ?_
                                       intro o8 m7 hf hn lj;have z:wG b4 (cg.alloc (.cells #[.int .i64 (t:Int),.slice bc c1 bo] 74)):=cp.o.alloc cp.o.size _;have fw:=(qaf ft.o cp.o).alloc (.cells #[.int .i64 (t:Int),.slice bc c1 bo] 74);have ja:wG D m7:=(ch.o.trans (z.mono ch.o.size)).grown hn (lA ch.o.size z.size) fun g L=>(ft.o.lt g L).1
                                       rw [show c1=T.length from lr.o,show g4=dx.length from kx.o] at hf
                                       rw [show g4=dx.length from kx.o] at fw
                                       have gs:=qdd.push (zz:=D.heap.size) (l:=dx) fw (lf.o.imp fun _ _ h=>h.below z) jb.o.1 jb.o.2 ((mt.o.keepT (.of_below (d8.o.trans (z.mono d8.o.size)))).safe) hf hn;rw [<- nh.o] at gs;have dd:=qH gs;have mg:=qH ja;clear hf hn lj z fw ja gs)
                          go_roundw
                          case rel=>exact ⟨ae+1,fx,by go_num,dd.o,mg.o⟩
                          case measure=>simp [intOf];omega
                        · rw [dA di] at I
                          have gi:=qH I;have pk:(U==(d:Int))=false:=by simpa using di
                          clear I Z ed ff e4 ax;go_wp2
                          go_quiet (fail)
                          generalize de:World.drewN _ _=cg;have cw:wG b4 cg:=by rw [<- de];exact qjo b4 _
                          have cp:=qH cw;clear de cw K ao a6;go_wp2;go_roundw
                          case rel=>exact ⟨ae+1,fx,by go_num,by rw [gi.o];exact dp.o.below cp.o,ch.o.trans (cp.o.mono ch.o.size)⟩
                          case measure=>simp [intOf];omega
                      · obtain rfl:n=ae:=by omega
                        have dp:=qH ar;have ch:=qH aq;clear ar aq R;go_wp2;go_roundw
                        case rel=>exact ⟨t+1,he,by go_num,by rw [h4.o];exact dp.o,ch.o⟩
                        case measure=>simp [intOf];omega
                · obtain rfl:q=t:=by omega
                  rw [nB (l:=qaj rs o) (by rw [cv.o];exact aA _)] at ar;have f5:=qrS a2.o.posts key (E:=qaj rs o) (by rw [cv.o];exact jp);have ⟨be,ca,ke,en,d4⟩:=qbn.of_p0 (b0:=0) ar;have ⟨l,ah⟩:=qE (qcE ps key (qaj rs o));have ⟨n,S⟩:=qE l.length;rw [<- ah,<- S] at ke en;rw [<- ah] at d4;rw [<- ah,<- S] at f5;subst ke;have cf:=qH (d1.o.later b7);have os:=cf.o.size;by_cases ev:n=0
                  · have b9:l=[]:=sB (by rw [<- S];exact ev)
                    have dd:qI (qbE ps (qaj rs o) F (C+1)=x):=qH (nj.o (by rw [<- ah];exact b9));subst ev;clear ar d4 en ah b9 S R;go_wp2;go_roundw
                    case rel=>exact ⟨C+1,n8,n0,gn,by go_num,by rw [dd.o];exact cf.o⟩
                    case measure=>simp [intOf];omega
                  · have dd:qI (qbE ps (qaj rs o) F (C+1)=⟨x.ids,x.seqs,x.keys++[key],x.lists++[l]⟩):=qH (by
                      have :=ms.o (by rw [<- ah];intro h;rw [h] at S;exact ev S);rwa [<- ah] at this)
                    have bi:(0:Int)<(n:Int):=by omega
                    have ⟨bh,b5⟩:=qE x.keys.length;have ⟨b6,cu⟩:=qE x.lists.length;rw [<- b5,<- cu] at dg;obtain ⟨Ak3,hb,jm, -⟩:=qaU cf.o.keys;rw [<- b5] at jm;subst jm;obtain ⟨ho,df, -⟩:=cf.o.lists;obtain ⟨Al4,gw,k3, -⟩:=qaU df;rw [<- cu] at k3;subst k3;have ia:qI (∀ W,wG J W->W.cell? ⟨P,2,none⟩=some (.slice Ak3 bh hb)):=qH fun W h=>(qaw (cf.o.later h).cell).1.2.2.1
                    have mn:=ia.o J (bA _ _);have oa:∀ o,(J.alloc o).cell? ⟨P,2,none⟩=some (.slice Ak3 bh hb):=fun o=>ia.o _ ((bA _ J).alloc (aA _) o)
                    have hm:=ht.o J b7;have hv:=qH b5;have jg:=qH cu;have cq:=qH S;have it:=qH en;have m8:=qH d4;have gc:=dg.1;have hd:=dg.2;clear ar d4 en ah S R b5 cu df dg ev;go_wp2
                    go_cut [] from 143 to 212 (fun bp=>∃ i3,qa3 tP (fun k=>k=P) w3.heap.size V.heap.size P cy c3 i3 (.slice Al4 b6 gw) ⟨x.ids,x.seqs,x.keys++[key],x.lists⟩ V bp/\qbn 0 bp be l)
                    case first=>
                      go_region_law (first
                        | (refine step_append_lies _ (by rfl) _ _ _ (by rfl) V.heap.size 9 l8 _ 1 16 underlying40 n5 k4 ng li rfl (by omega) (.slice Ak3 bh hb) bh (qad x.keys) (by rfl) (by have := cf.o.keys; rw [<- hv.o] at this; exact this.drew.alloc _)
                            ⟨J.drew.heap.size,0,none⟩ 1 1 [.string ⟨key.toArray⟩] (by rfl) (by rfl) (World.news_of_block (cs:=#[.string ⟨key.toArray⟩]) (t:=9) (fr:=(0,0)) (jA J.drew _)) (by intro u hu;simp at hu;subst hu;rfl)
                            (by omega) (by unfold maxLen;omega) (by omega) (by simp;omega) (J.heap.size+1) (by simp) ?_
                           intro dc cx cl al aa br cn;have z:=(bA J.heap.size J).drew.alloc (aA _) (.cells #[.string ⟨key.toArray⟩] 9);have G:=cf.o.later z;have ⟨⟨fl,g3⟩,ad⟩:=G.key noP hv.o al aa;have a3:=qar.grown G.keys aa;have cc:=((m8.o.keep (.of_below z (kA _))).keep (a3.keptG (by unfold PoK;decide))).keep ((qar.cell (i:=2) (a3.kinds _ _ _ _ G.cell (by decide)) (.slice (some ⟨dc,0,none⟩) (bh+1) cx)).keptG (by unfold PoK;decide));have cm:=qH ad;have dz:=qH cc;clear al aa br cn ad z G a3 cc))
                      all_goals
                        go_wp2_with fail
                        go_meet;exact ⟨_,cm.o,dz.o⟩
                    case rest=>
                      obtain ⟨i3,an,h6⟩:=hcut;have ⟨ho,df,hz⟩:=an.lists;have ot:=(qaw an.cell).1.2.2.2;have e5:=qH an;have mu:=qH h6;have ll:=qH df;have nu:=qH hz;have oe:=an.size;clear an h6 df hz mn oa hm;have kd:qI (wc.ownsRow V.heap.size 71 1 (.slice Al4 b6 gw) b6 ho):=qH (by have :=ll.o;rwa [show ({ids:=x.ids,seqs:=x.seqs,keys:=x.keys++[key],lists:=x.lists}:qai).lists.length=b6 from jg.o.symm] at this)
                      go_wp2_with (at_builtin; refine wpList_append_lies _ rfl (.tmp 208) (.tmp 210) 41 rfl V.heap.size 71 og _ 1 24 underlying41 le nw k9 mo rfl (by omega) (.slice Al4 b6 gw) b6 ho rfl (kd.o.alloc _) ⟨wc.heap.size, 0, none⟩ 1 1 [.slice be n ca] rfl rfl (qaH wc [.slice be n ca] 71) (by intro u hu; simp at hu; subst hu; rfl) (by omega) (by unfold maxLen; omega) (by omega) (by simp; omega) (wc.heap.size + 1) (by simp) ?_
                                   intro dc cx cl al aa br cn;have z:=(bA wc.heap.size wc).alloc (aA _) (.cells #[.slice be n ca] 71);rw [show n=l.length from cq.o] at al
                                   have ⟨⟨fl,g3⟩,ad⟩:=(e5.o.later z).list noP jg.o ⟨by rw [<- cq.o];exact it.o.1,it.o.2⟩ (mu.o.keep (.of_below z (kA _))) (qaf kd.o z) (nu.o.keep (.of_below z (kA _))) al aa;rw [show (⟨x.ids,x.seqs,x.keys++[key],x.lists++[l]⟩:qai)=qbE ps (qaj rs o) F (C+1) from dd.o.symm] at ad
                                   have cm:=qH ad;clear al aa br cn ad z)
                      go_roundw
                      case rel=>exact ⟨C+1,_,_,gn,by go_num,cm.o⟩
                      case measure=>simp [intOf];omega
            · obtain rfl:b1=C:=by omega
              have hx:qbE ps (qaj rs o) F b1=qd3 ps (qaj rs o):=by
                rw [kt.o];exact qCh ps _ (by rw [<- kt.o,<- dk.o];exact aA _)
              rw [hx] at B;have ⟨x,hk⟩:=qE (qd3 ps (qaj rs o));rw [<- hk] at B;obtain ⟨ak,ac,ag,X,N,Q,ap,aj,rfl,rfl,rfl,rfl, -,jq⟩:=B.typ;obtain ⟨⟨lv,iy,q2,q3⟩, -⟩:=qaw B.cell;have c0:=(B.stay.block w.heap.size (gA.1 h8.o).1 (by intro h;rw [c9.o] at h;omega)).trans h8.o;have ⟨⟨ow,d7,fz,et⟩,ol,ok,j9,oy⟩:=qaw c0;have ⟨aw,bi⟩:=qE x.ids.length;have ⟨am,bq⟩:=qE x.seqs.length;have ⟨bm,av⟩:=qE x.keys.length;have ⟨bt,H⟩:=qE x.lists.length;rw [<- bi] at lv;rw [<- bq] at iy;rw [<- av] at q2;rw [<- H] at q3;have d3:=qH jq;have i9:=qH c0;have ny:=qH bi;have mb:=qH bq;have fb:=qH av;have np:=qH H;have k2:=qH hk;have ba:=qH b2;clear B jq c0 hx bi bq av H hk b2;go_wp2;have dn:=lB wr w.heap.size 0 _ _ (.slice ak aw ac) i9.o;have U:=lB _ w.heap.size 1 _ _ (.slice ag am X) dn;have T:=lB _ w.heap.size 2 _ _ (.slice N bm Q) U;have i0:=lB _ w.heap.size 3 _ _ (.slice ap bt aj) T;have jo:=(((qar.cell (i:=0) i9.o (.slice ak aw ac)).trans (qar.cell (i:=1) dn (.slice ag am X))).trans (qar.cell (i:=2) U (.slice N bm Q))).trans (qar.cell (i:=3) T (.slice ap bt aj));have ip:=((((ba.o).setCell (p:=⟨w.heap.size,0,none⟩) (aA _) (.slice ak aw ac)).setCell (p:=⟨w.heap.size,1,none⟩) (aA _) (.slice ag am X)).setCell (p:=⟨w.heap.size,2,none⟩) (aA _) (.slice N bm Q)).setCell (p:=⟨w.heap.size,3,none⟩) (aA _) (.slice ap bt aj);have ⟨ml,ld⟩:=qE ((((wr.setCell ⟨w.heap.size,0,none⟩ (.slice ak aw ac)).setCell ⟨w.heap.size,1,none⟩ (.slice ag am X)).setCell ⟨w.heap.size,2,none⟩ (.slice N bm Q)).setCell ⟨w.heap.size,3,none⟩ (.slice ap bt aj));rw [<- ld] at i0 jo ip ⊢;have na:ml.heap[w.heap.size]?=some (.cells #[.slice ak aw ac,.slice ag am X,.slice N bm Q,.slice ap bt aj] 43 (0,0)):=i0;refine pE (qCv (P:=prog) rfl _ _ w.heap.size 43 _ (0,0) _ rfl na underlying43 rfl (by kernel_rfl)) rfl ?_;refine ⟨o,ak,ac,ag,X,N,Q,ap,aj,hl.o,?_,?_,ip⟩
              · rw [<- k2.o,<- ny.o,<- mb.o,<- fb.o,<- np.o]
                rfl
              · rw [<- k2.o]
                exact d3.o.keepN jo (by decide) (by decide) (by decide) (by decide)
abbrev PT:TypeId:=43
abbrev BT:TypeId:=24
def PsC (w:World) (ps:List qai) (cs:List Value):Prop:=cs.length=ps.length*4/\∀ i (k:i<ps.length),∃ e h g j c a b d,
 (cs[i*4]?=some (.slice e ps[i].ids.length h)/\cs[i*4+1]?=some (.slice g ps[i].seqs.length j)/\cs[i*4+2]?=some (.slice c ps[i].keys.length a)/\cs[i*4+3]?=some (.slice b ps[i].lists.length d))/\
 (ps[i].ids.length<=h/\ps[i].seqs.length<=j/\ps[i].keys.length<=a/\ps[i].lists.length<=d/\a<=maxLen)/\qdg w e g c b ps[i]
section
variable {E:TypeId} {w w':World} {ps:List qai} {cs:List Value}
def PsC.nil:PsC w [] []:=⟨rfl,fun i a=>by simp at a⟩
def PsC.keepN (a:PsC w ps cs) (r:qar E w w') (h1:3≠E) (h2:9≠E) (h3:71≠E) (j:74≠E):PsC w' ps cs:=⟨a.1,fun i e=>by
 have ⟨m,p,n,q,k,d,b,l,g,h,c⟩:=a.2 i e;exact ⟨m,p,n,q,k,d,b,l,g,h,c.keepN r h1 h2 h3 j⟩⟩
def PsC.snoc (a:PsC w ps cs) {x:qai} {k m d c:Option Addr} {j l b h:Nat} (B:x.ids.length<=j/\x.seqs.length<=l/\x.keys.length<=b/\x.lists.length<=h/\b<=maxLen) (D:qdg w k m d c x):
  PsC w (ps++[x]) (cs++[.slice k x.ids.length j,.slice m x.seqs.length l,.slice d x.keys.length b,.slice c x.lists.length h]):=by
 refine ⟨by simp [a.1];omega,fun i z=> ?_⟩;rw [iA,bB] at z;by_cases n:i<ps.length
 ·have ⟨C,F,E,r,A,s,q,t,g,v,p⟩:=a.2 i n
  rw [cF n];rw [fD (by rw [a.1];omega),fD (by rw [a.1];omega),fD (by rw [a.1];omega),fD (by rw [a.1];omega)];exact ⟨C,F,E,r,A,s,q,t,g,v,p⟩
 ·have e:i=ps.length:=by omega
  subst e;rw [oC (by rw [a.1];omega),oC (by rw [a.1];omega),oC (by rw [a.1];omega),oC (by rw [a.1];omega),a.1,
   bE,show ps.length*4+1-ps.length*4=1 by omega,show ps.length*4+2-ps.length*4=2 by omega,show ps.length*4+3-ps.length*4=3 by omega]
  have y:(ps++[x])[ps.length]'(by simp)=x:=by simp
  rw [y];exact ⟨k,j,m,l,d,b,c,h,⟨rfl,rfl,rfl,rfl⟩,B,D⟩
def PsC.ins (c:PsC w ps cs) {A:Option Addr} (g:Row w w.heap.size A cs):ql3 w A ps:=fun i n=>by
 have ⟨v,r,z,x,l,y,d,m,⟨s,q,t,j⟩,p,e⟩:=c.2 i n;obtain ⟨b,h,rfl,k,a⟩:=g.at_ (by rw [c.1];omega);exact ⟨b,h,v,r,z,x,l,y,d,m,rfl,k,⟨a _ _ s,a _ _ q,a _ _ t,a _ _ j⟩,p,e⟩
end
structure qcF (lo:Nat) (Ls Lp:List (List En)) (rs rt:List (List Bool)) (Ss Bs:List Nat) (vs vb vp vt:Value) (w0 w:World):Prop where
 run:qdi lo Ls rs Ss Bs vs vb w0 w
 parts:∃ cs,w.ownsRow lo PT 4 vp Lp.length cs/\PsC w (Lp.map qac) cs
 truths:∃ cs,w.ownsRow lo BT 1 vt rt.length cs/\LT 4 Value.bool w rt cs
section
variable {lo:Nat} {Ls Lp:List (List En)} {rs rt:List (List Bool)} {Ss Bs:List Nat} {vs vb vp vt v':Value} {w0 w w':World} {E:TypeId} {cs:List Value}
def qCy (w:World):qcF w.heap.size [] [] [] [] [] [] (.slice none 0 0) (.slice none 0 0) (.slice none 0 0) (.slice none 0 0) w w:=⟨qCs w,⟨[],vA _ _ _ _,PsC.nil⟩,[],vA _ _ _ _,LT.nil⟩
def qcF.later (b:qcF lo Ls Lp rs rt Ss Bs vs vb vp vt w0 w) (a:wG w w'):qcF lo Ls Lp rs rt Ss Bs vs vb vp vt w0 w':=by
 have ⟨c,h1,g⟩:=b.parts;have ⟨e,h2,d⟩:=b.truths;exact ⟨b.run.later a,⟨c,qaf h1 a,g.keepN (E:=PT) (qar.of_below a) (by decide) (by decide) (by decide) (by decide)⟩,e,qaf h2 a,d.keepT (.of_below a)⟩
def qcF.seg (a:qcF lo Ls Lp rs rt Ss Bs vs vb vp vt w0 w) {S:Nat} {d:List En} (e:qbN w S (qac d)) (g:w'.ownsRow lo 33 1 v' (Ls.length+1) (qbD Ss++[.pointer (some ⟨S,0,none⟩)])) (c:w.grownBy w' vs.ownBlock):qcF lo (Ls++[d]) Lp rs rt (Ss++[S]) Bs v' vb vp vt w0 w':=by
 have b:=qar.grown a.run.segs c;have ⟨h,h1,k⟩:=a.parts;have ⟨j,h2,i⟩:=a.truths;exact ⟨a.run.seg e g c,⟨h,qaM h1 b (by decide),k.keepN b (by decide) (by decide) (by decide) (by decide)⟩,j,qaM h2 b (by decide),i.keepT (b.keptT (by decide))⟩
def qcF.set (a:qcF lo Ls Lp rs rt Ss Bs vs vb vp vt w0 w) {B zz:Nat} {r:List Bool} (d:qbd w zz B r) (e:w'.ownsRow lo 37 1 v' (rs.length+1) (qbD Bs++[.pointer (some ⟨B,0,none⟩)])) (c:w.grownBy w' vb.ownBlock):qcF lo Ls Lp (rs++[r]) rt Ss (Bs++[B]) vs v' vp vt w0 w':=by
 have b:=qar.grown a.run.sets c;have ⟨g,h1,j⟩:=a.parts;have ⟨i,h2,h⟩:=a.truths;exact ⟨a.run.set d e c,⟨g,qaM h1 b (by decide),j.keepN b (by decide) (by decide) (by decide) (by decide)⟩,i,qaM h2 b (by decide),h.keepT (b.keptT (by decide))⟩
def qdi.keptN (a:qdi lo Ls rs Ss Bs vs vb w0 w) (c:qar E w w') (h:Below lo w w') (h1:¬ qfd E) (h2:33≠E) (h3:37≠E) (g:101≠E) (j:104≠E):qdi lo Ls rs Ss Bs vs vb w0 w':=
 ⟨qaM a.segs c h2,qaM a.sets c h3,a.slen,a.blen,fun i d=>(a.at_ i d).keptN c h1,fun i d=>by have ⟨b,e⟩:=a.is_ i d;exact ⟨b,e.keptN c g j⟩,lA a.size c.size,a.below.trans h⟩
def qcF.part (i:qcF lo Ls Lp rs rt Ss Bs vs vb vp vt w0 w) {a:List En} {n:Nat} (z:n=Lp.length) {j m e d:Option Addr} {h l c g:Nat} (s:(qac a).ids.length<=h/\(qac a).seqs.length<=l/\(qac a).keys.length<=c/\(qac a).lists.length<=g/\c<=maxLen) (x:qdg w j m e d (qac a))
  (p:w.ownsRow lo PT 4 vp n cs) (t:PsC w (Lp.map qac) cs)
  (v:w'.ownsRow lo PT 4 v' (n+1) (cs++[.slice j (qac a).ids.length h,.slice m (qac a).seqs.length l,.slice e (qac a).keys.length c,.slice d (qac a).lists.length g])) (q:w.grownBy w' vp.ownBlock):qcF lo Ls (Lp++[a]) rs rt Ss Bs vs vb v' vt w0 w':=by
 subst z;have b:=qar.grown p q;have ⟨A,h2,y⟩:=i.truths;have r:Below lo w w':=(bA lo w).grown q i.run.size fun k b=>(p.lt k b).1
 refine ⟨i.run.keptN b r (by unfold qfd;decide) (by decide) (by decide) (by decide) (by decide),⟨cs++[.slice j (qac a).ids.length h,.slice m (qac a).seqs.length l,.slice e (qac a).keys.length c,.slice d (qac a).lists.length g],?_,?_⟩,A,qaM h2 b (by decide),y.keepT (b.keptT (by decide))⟩
 ·rw [iA,bB]
  exact v
 ·rw [jC]
  exact (t.snoc s x).keepN b (by decide) (by decide) (by decide) (by decide)
def qcF.truth (b:qcF lo Ls Lp rs rt Ss Bs vs vb vp vt w0 w) {r:List Bool} {n:Nat} (g:n=rt.length) {A:Option Addr} {c:Nat} (i:r.length<=c/\c<=maxLen) (q:qat 0 4 w A (r.map Value.bool))
  (e:w.ownsRow lo BT 1 vt n cs) (j:LT 4 Value.bool w rt cs) (m:w'.ownsRow lo BT 1 v' (n+1) (cs++[.slice A r.length c])) (d:w.grownBy w' vt.ownBlock):qcF lo Ls Lp rs (rt++[r]) Ss Bs vs vb vp v' w0 w':=by
 subst g;have a:=qar.grown e d;have ⟨p,h1,h⟩:=b.parts;have l:Below lo w w':=(bA lo w).grown d b.run.size fun k a=>(e.lt k a).1
 refine ⟨b.run.keptN a l (by unfold qfd;decide) (by decide) (by decide) (by decide) (by decide),⟨p,qaM h1 a (by decide),h.keepN a (by decide) (by decide) (by decide) (by decide)⟩,cs++[.slice A r.length c],?_,(j.snoc i q).keepT (a.keptT (by decide))⟩;rw [iA,bB];exact m
def qcF.ins (a:qcF lo Ls Lp rs rt Ss Bs vs vb (.slice A n c) (.slice A' k b) w0 w):ql3 w A (Lp.map qac)/\Lol Value.bool w w.heap.size A' rt:=by
 have ⟨g,h1,e⟩:=a.parts;have ⟨b,h2,d⟩:=a.truths;exact ⟨e.ins (qbx h1),b,d.lol,qbx h2⟩
def qcF.lens (d:qcF lo Ls Lp rs rt Ss Bs vs vb vp vt w0 w):∃ A c b a,vp= .slice A Lp.length c/\vt= .slice b rt.length a:=by
 have ⟨h,h1,j⟩:=d.parts;have ⟨a,h2,i⟩:=d.truths;have ⟨A,c,e,_⟩:=qaK h1;have ⟨b,a,g,_⟩:=qaK h2;exact ⟨A,c,b,a,e,g⟩
end
def qdQ (z:List Bool) (Ls:List (List En)):List (List Bool):=(List.range Ls.length).map fun i=>qeQ (z.drop (4*i)) (Ls.getD i []).length
def qhZ (z:List Bool) (Ls:List (List En)):(qdQ z Ls).length=Ls.length:=by simp [qdQ]
def qr2 {z:List Bool} (a:i<Ls.length) (h2:i<(qdQ z Ls).length):(qdQ z Ls)[i]=qeQ (z.drop (4*i)) Ls[i].length:=by
 simp [qdQ,mA,oA a]
def qr3:∀ {Ls:List (List En)} {rs:List (List Bool)},rs.length=Ls.length->(∀ i (a:i<Ls.length) (h2:i<rs.length),rs[i].length=Ls[i].length)->qbu Ls rs
 |[],[],_,_=> .nil
 |[],_::_,a,_=>by simp at a
 |_::_,[],a,_=>by simp at a
 |L::Ls,r::rs,a,b=> .cons (b 0 (by simp) (by simp)) (qr3 (by simpa using a) fun i h1 h2=>b (i+1) (by simpa using h1) (by simpa using h2))
def qCz (z:List Bool) (Ls:List (List En)):qbu Ls (qdQ z Ls):=qr3 (qhZ z Ls) fun i a h2=>by rw [qr2 a h2,qrv]
def qr4:∀ {Ls:List (List En)} {rs:List (List Bool)},qbu Ls rs->rs.length=Ls.length/\∀ i (h1:i<Ls.length) (h2:i<rs.length),rs[i].length=Ls[i].length
 |_,_,.nil=>⟨rfl,fun i a=>by simp at a⟩
 |_,_,.cons a hs=>by
  have ⟨e,b⟩:=qr4 hs;refine ⟨by simp [e],fun i h1 h2=> ?_⟩;cases i with
  |zero=>exact a
  |succ i=>simpa using b i (by simpa using h1) (by simpa using h2)
def qCA (b:qbz L) {k:Nm} (d:k∈qah L):k.length<=1048576:=by
 obtain ⟨q,c,t,a,rfl⟩:=qef.1 d;have :=qlJ (b.good q c) a;unfold qag qdT;simp;omega
def qCB (h:qbu Ls rs) (e:∀ a∈Ls,qbz a):∀ s∈(qaT Ls rs).map qaz,qal (-1) s=true:=fun s g=>by
 obtain ⟨a,i,rfl⟩:=tA.1 g;have ⟨c,b,d⟩:=qi5 (x:=(0,[],0)) h a i;exact (qbz.of_mem (e c b) ((qjm (e c b)).sublist d) d.subset).rise
def qCC (c:qbu Ls rs) (e:∀ d∈Ls,qbz d) (m:Ls.length<=1000) (s:Ls.flatten.length<=25) (p:(qaz Ls.flatten).Nodup):qr1 (Ls.map qac) rs:=by
 have ⟨q,n⟩:=qr4 c;have t:=ql8 e;have k:(Ls.map qac).map (·.keys)=Ls.map qah:=by rw [List.map_map];rfl
 refine ⟨by simpa using m,by simpa using q,fun i h1 h2=> ?_,⟨by rw [k];omega,fun a b x j=> ?_⟩,fun x j l r=> ?_,fun y o b=> ?_⟩
 ·have h:i<Ls.length:=by simpa using h1
  have g:=e _ (pA h);have w:(qah Ls[i]).length<=(Ls.map qah).flatten.length:=(List.sublist_flatten_of_mem (tA.2 ⟨_,pA h,rfl⟩)).length_le;have v:=g.few;rw [eC];exact ⟨by rw [n i h h2];simp [qac],by simp [qac],by simp [qac];omega,by simp [qac],by show (qah Ls[i]).length<=_;omega⟩
 ·rw [k] at b
  obtain ⟨d,g,rfl⟩:=tA.1 b;exact qCA (e d g) j
 ·obtain ⟨d,g,rfl⟩:=tA.1 j
  have :=((qiY (e d g)).lists l r).1;omega
 ·rw [qf1 c] at b
  cases b with
  |bad b=>exact absurd (qCB c e) b
  |twice _ b=>exact absurd b (by have :=qqE c p;rwa [qf1 c] at this)
  |ok _ b=>exact ⟨rfl,by rw [qf1 c];exact b⟩
def qCD (ps:List qai) (rs:List (List Bool)) (w:World) (e:Ending) (w':World):Prop:=∃ o S,qbS (qbI ps rs) o/\qg1 (qd3 ps (qaj rs o))/\e= .returned (.tuple #[.pointer (some ⟨S,0,none⟩),.int .i64 0])/\qbN w' S (qd3 ps (qaj rs o))/\wG w w'
def qCE (A A2:Option Addr) (m c g l:Nat) (Ls:List (List En)) (rs:List (List Bool)) (w:World) (n:qet w A Ls) (r:qfa w A2 rs) (s:Ls.length=m) (q:rs.length=g) (x:m<=1000) (h:∀ B∈Ls,qbz B) (C:Ls.flatten.length<=25) (p:Tab w)
  (b:qbu Ls rs) (y:(qaz Ls.flatten).Nodup):yG 14 #[.slice A m c,.slice A2 g l] w (qCD (Ls.map qac) rs w):=
 (qCo A A2 m c g l Ls rs w n r s q x (qrW h (by omega)) (lA (ql8 h) (by omega)) p).mono fun e w' a=>by
  rcases a with ⟨a,_⟩|⟨_,a,_⟩|⟨_,o,d,a⟩
  ·exact absurd b a
  ·exact absurd a (qCp b y)
  ·have i:=qqe b d (qrW h (by omega))
   have k:qbS (qbI (Ls.map qac) rs) o:=by rw [qf1 b];exact d
   have ⟨v,t⟩:=qi3 d;have j:=qzX b k v t;rw [qqd b d] at a i;rw [<- j] at a;obtain ⟨S,h1,h2,_,z⟩:=a;exact ⟨o,S,k,by rw [j];exact qlk i,h1,h2,z⟩
def Row.clear {B' R:Nat} (i:Row w B A xs) (n:∀ o u,w.cell? ⟨R,o,none⟩=some u->u= .slice none 0 0) (m:∀ u,xs[0]?=some u->u≠ .slice none 0 0) (g:∀ b,b≠R->b<B->w'.heap[b]?=w.heap[b]?) (h:B<=B'):Row w' B' A xs:=by
 rcases i with rfl|⟨b,c,rfl,e,d⟩
 ·exact .inl rfl
 ·cases xs with
  |nil=>exact .inl rfl
  |cons u xs=>
   have l:b≠R:=by rintro rfl;exact m u rfl (n _ u (d 0 u rfl))
   exact .inr ⟨b,c,rfl,tB e h,fun j v k=>by rw [tC (a:=⟨b,c+j,none⟩) (g b l e)];exact d j v k⟩
def qmb (l:List Int):∀ u,(qaa l)[0]?=some u->u≠ .slice none 0 0:=fun u b=>by
 cases l with
 |nil=>cases b
 |cons a l=>injection b with b;subst b;intro e;cases e
section
variable {w w':World} {B B' R:Nat} {A A1 A2 A3 A4:Option Addr} {x:qai}
def qao.clear (g:∀ o u,w.cell? ⟨R,o,none⟩=some u->u= .slice none 0 0) (d:∀ b,b≠R->b<B->w'.heap[b]?=w.heap[b]?) (e:B<=B'):∀ {l:List Pn} {cs:List Value},qao (Row w B) l cs->qao (Row w' B') l cs
 |[],_,a=>a
 |q::r,cs,a=>by
  obtain ⟨A,c,cs',rfl,h1,h2,h3,h⟩:=a;exact ⟨A,c,cs',rfl,h1,h2,h3.clear g (qmb _) d e,qao.clear g d e h⟩
def qbf.clear {l:List Pn} (i:qbf w B A l) (h:∀ o u,w.cell? ⟨R,o,none⟩=some u->u= .slice none 0 0) (d:∀ b,b≠R->b<B->w'.heap[b]?=w.heap[b]?) (g:B<=B'):qbf w' B' A l:=by
 obtain ⟨cs,h1,h2⟩:=i;refine ⟨cs,h1.clear h d g,h2.clear h (fun u a=> ?_) d g⟩;cases l with
 |nil=>simp only [qao] at h1;subst h1;cases a
 |cons q r=>
  obtain ⟨A,c,cs',rfl,_⟩:=h1;injection a with a;subst a;intro e;cases e
def PAt.clear (k:PAt w B A1 A2 A3 A4 x) (n:∀ l∈x.lists,l≠[]) (j:∀ o u,w.cell? ⟨R,o,none⟩=some u->u= .slice none 0 0) (g:∀ b,b≠R->b<B->w'.heap[b]?=w.heap[b]?) (h:B<=B'):PAt w' B' A1 A2 A3 A4 x:=by
 have ⟨cs,⟨h1,h2⟩,h3⟩:=k.lists;refine ⟨k.ids.clear j (qmb _) g h,k.seqs.clear j (qmb _) g h,k.keys.clear j (fun u d=> ?_) g h,cs,⟨h1,fun i m=> ?_⟩,h3.clear j (fun u d=> ?_) g h⟩
 ·cases hk:x.keys with
  |nil=>rw [hk] at d;cases d
  |cons a l=>rw [hk] at d;injection d with d;subst d;intro e;cases e
 ·have ⟨A,c,e,p,q⟩:=h2 i m
  exact ⟨A,c,e,p,q.clear j g h⟩
 ·have ⟨r,_⟩:=yC.1 d
  have ⟨A,c,e,_⟩:=h2 0 (by omega);rw [d] at e;injection e with e
  subst e;intro e;injection e with _ e _
  exact n _ (pA (by omega:0<x.lists.length)) (sB e)
end
def qCF {R:Nat} (b:w.heap[R]?=some (.cells qb4 t fr)):∀ o u,w.cell? ⟨R,o,none⟩=some u->u= .slice none 0 0:=fun o u a=>by
 match o with
 |0|1|2|3=>simp [World.cell?,b] at a;exact a.symm
 |o+4=>simp [World.cell?,b] at a
def qCG {S:Nat} {x:qai} (t:qbN w S x):yG 17 #[.pointer (some ⟨S,0,none⟩)] w (qhW x w):=by
  have ⟨m,D⟩:=qE x.ids.length;have ⟨n,z⟩:=qE x.seqs.length;have ⟨j,F⟩:=qE x.keys.length;have ⟨k,C⟩:=qE x.lists.length;have ad:qI (∀ W,wG w W->yG 23 #[.pointer (some ⟨S,0,none⟩)] W fun e w'=>∃ A1 g A2 h A3 i A4 d,e= .returned (.agg #[.slice A1 m g,.slice A2 n h,.slice A3 j i,.slice A4 k d])/\PAt w' w'.heap.size A1 A2 A3 A4 x/\wG W w'):=qH fun W Z=>by
    have :=qBS (t.below Z);unfold qhW at this;rwa [<- D,<- z,<- F,<- C] at this
  have K:=(bA w.heap.size w).alloc (aA _) (.cells qb4 43);have H:(w.alloc (.cells qb4 43)).heap[w.heap.size]?=some (.cells qb4 43 (0,0)):=jA w _;unfold qhW;rw [<- D,<- z,<- F,<- C];have v:=qH K;have aa:qI (∀ l∈x.lists,l≠[]):=qH fun l U=>(qi8 ((qfy.1 t.may).2.2.2.2 l U)).2
  have s:=qH H;clear t D z F C K H
  go_enter func17,ntmps17
  go_wp2_with (go_at_call 23; (with_reducible refine (ad.o _ v.o).mono ?_); rintro e a ⟨A1, g, A2, h, A3, i, A4, d, rfl, G, y⟩
               have c:∀ o,(a.alloc o).heap[w.heap.size]?=some (.cells qb4 43 (0,0)):=fun o=>(((bA a.heap.size a).alloc (aA _) o).block _ (tB (gA.1 s.o).1 y.size)).trans ((y.block _ (gA.1 s.o).1).trans s.o)
               have am:=fun o=>(qaw (c o)).1.1
               have af:=fun o=>(qaw (c o)).1.2.1
               have ag:=fun o=>(qaw (c o)).1.2.2.1
               have ak:=fun o=>(qaw (c o)).1.2.2.2
               have ai:=fun o=>(qaw (c o)).2.1
               have ah:=fun o=>(qaw (c o)).2.2.1
               have al:=fun o=>(qaw (c o)).2.2.2.1
               have aj:=fun o=>(qaw (c o)).2.2.2.2
               have N:=qH G;have B:=qH y;have Q:=qH c;clear G y c)
  have ⟨q,r⟩:=qE (a.alloc (.cells #[.slice A1 m g,.slice A2 n h,.slice A3 j i,.slice A4 k d] 62));have M:wG w q:=by rw [r];exact (v.o.trans (B.o.mono v.o.size)).alloc (lA v.o.size B.o.size) _
  have ab:q.heap[w.heap.size]?=some (.cells qb4 43 (0,0)):=by rw [r];exact Q.o _
  have V:∀ b,b<a.heap.size->q.heap[b]?=a.heap[b]?:=fun b t=>by rw [r];exact ((bA a.heap.size a).alloc (aA _) _).block b t
  have R:a.heap.size<=q.heap.size:=by rw [r];simp
  have Y:a.heap[w.heap.size]?=some (.cells qb4 43 (0,0)):=(B.o.block _ (gA.1 s.o).1).trans s.o;rw [<- r];have L:=lB q w.heap.size 0 _ _ (.slice A1 m g) ab;have T:=lB _ w.heap.size 1 _ _ (.slice A2 n h) L;have O:=lB _ w.heap.size 2 _ _ (.slice A3 j i) T;have J:=lB _ w.heap.size 3 _ _ (.slice A4 k d) O;have I:=(((M.setCell (p:=⟨w.heap.size,0,none⟩) (aA _) (.slice A1 m g)).setCell (p:=⟨w.heap.size,1,none⟩) (aA _) (.slice A2 n h)).setCell (p:=⟨w.heap.size,2,none⟩) (aA _) (.slice A3 j i)).setCell (p:=⟨w.heap.size,3,none⟩) (aA _) (.slice A4 k d);have ⟨A,E⟩:=qE ((((q.setCell ⟨w.heap.size,0,none⟩ (.slice A1 m g)).setCell ⟨w.heap.size,1,none⟩ (.slice A2 n h)).setCell ⟨w.heap.size,2,none⟩ (.slice A3 j i)).setCell ⟨w.heap.size,3,none⟩ (.slice A4 k d));have ac:a.heap.size<=A.heap.size:=by rw [E];simpa using R
  have ae:∀ b,b≠w.heap.size->b<a.heap.size->A.heap[b]?=a.heap[b]?:=fun b h1 h2=>by
    rw [E,rA _ _ _ _ h1,rA _ _ _ _ h1,rA _ _ _ _ h1,rA _ _ _ _ h1];exact V b h2
  rw [<- E] at J I ⊢;have X:A.heap[w.heap.size]?=some (.cells #[.slice A1 m g,.slice A2 n h,.slice A3 j i,.slice A4 k d] 43 (0,0)):=J;refine pE (aG (P:=prog) rfl _ _ w.heap.size 43 _ (0,0) _ rfl X underlying43 rfl (by kernel_rfl)) rfl ?_;exact ⟨A1,g,A2,h,A3,i,A4,d,rfl,N.o.clear aa.o (qCF Y) ae ac,I⟩
