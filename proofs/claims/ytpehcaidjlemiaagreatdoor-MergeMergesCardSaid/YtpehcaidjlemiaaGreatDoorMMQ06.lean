import Derived.Test.YtpehcaidjlemiaaGreatDoorMMQ07
import Derived.Deep.SlicePairs
import Derived.ProofKit
import Derived.OpenShut
set_option maxHeartbeats 4000000
set_option maxRecDepth 100000
set_option linter.all false
namespace Go.Proofs.YtpehcaidjlemiaaGreatDoor
open Go Go.RowKit Go.Proofs.Tryz
variable {w w' W w0:World} {k n b c i j m zz B:Nat} {A:Option Addr} {v v':Value} {xs:List Value} {l:List (List UInt8)}
def qkS {o:List (List Int)} {n l:List Int} (a:k<l.length):qcT (o,n) (l.drop k)=qcT (step (o,n) l[k]) (l.drop (k+1)):=by
 rw [yD a,qjO]
def qxw {o:List (List Int)} {n l:List Int} (b:l.length<=k) (a:n≠[]):qcT (o,n) (l.drop k)=qcT (o++[n],[]) (l.drop (k+1)):=by
 rw [pC b,pC (by omega),qjP a,qib]
def qoG {o:List (List Int)} {n l:List Int} (b:n≠[]) (c:(a:k<l.length)->qbq l[k]=false):qcT (o,n) (l.drop k)=qcT (o++[n],[]) (l.drop (k+1)):=by
 by_cases a:k<l.length
 ·rw [qkS a,qhk (c a) b]
 ·exact qxw (by omega) b
def qxx (l:List Int) (b:World) (o i:Value) (wr:World):Prop:=
 ∃ (k:Nat) (a:List (List Int)) (c:Value),c=o/\k<=l.length+1/\i= .int .i64 k/\a.length<=k/\wr.ownsRow b.heap.size 9 1 o a.length (qad (a.map text))/\wG b wr/\qcT (a,[]) (l.drop k)=qeV l
def qxy (l:List Int) (b:World) (a:List (List Int)) (o:Value) (c:Nat) (i n:Value) (wr:World):Prop:=
 ∃ (k:Nat) (own:List Int) (d:Value),d=n/\k<=l.length/\c<=k/\i= .int .i64 k/\own.length<=k/\(own=[]->k=c)/\wr.ownsRow b.heap.size 9 1 o a.length (qad (a.map text))/\wr.ownsRow b.heap.size 3 1 n own.length (qaa own)/\wG b wr/\qcT (a,own) (l.drop k)=qeV l
def qoH (s:ByteArray) (w:World) (bw:s.size<=268435456):
  yG 144 #[.string s] w (qgJ (qaX s.data.toList) w):=by
 have ⟨bj,bg,bb,bc,bh⟩:=lG qc4;have ⟨ax,a3,a5,ap,ar⟩:=lG qfh;have aw:=qh5 s.data.toList;have bk:s.data.toList.length=s.size:=wC;rw [bk] at aw;have an:(qeV (qcH s.data.toList)).map text=qaX s.data.toList:=rfl
 go_enter func144,ntmps144
 go_wp2_with (go_at_call 179;refine (qun s _ (by omega)).mono ?_)
 rintro e C ⟨v,rfl,ay,a1⟩;obtain ⟨A,c,rfl,_,ak⟩:=qaK ay;have ⟨l,aj⟩:=qE (qcH s.data.toList);rw [<- aj] at ak aw an;rw [<- aj];have am:=qH a1;have au:=qH ak;have bn:=qH an;clear aj a1 ay ak an;go_wp2
 go_loopw [4,5] (fun o i wr=>qxx l C o i wr) (fun _ i _=>l.length+1-(intOf i).toNat)
 case atStart=>exact ⟨0,[],_,rfl,by omega,rfl,by simp,vA _ _ _ _,bA _ _,rfl⟩
 case round=>
  obtain ⟨k,a,bf,rfl,bs,rfl,bz,P,X,B⟩:=hrel;by_cases av:k<l.length
  ·have ⟨br,bt,bo,_,R⟩:=qbR (au.o.below X) av
   subst bo;by_cases L:qbq l[k]=true
   ·have r:=fun w=>qio l[k] w
    rw [L] at r;have U:=qH r;have a0:qI (qbq l[k]=true):=qH L;have ah:=qH B;have ad:=qH P;have ⟨x,I⟩:=qE (l[k]);rw [<- I] at R U a0;have a7:=qH I;clear r L B P I
    go_wp2_with (go_at_call 180;refine (U.o _).mono ?_;rintro e w' ⟨rfl,rfl⟩)
    go_loopw [5,7] (fun i n wr=>qxy l C a bf k i n wr) (fun i _ _=>l.length-(intOf i).toNat)
    case atStart=>exact ⟨k,[],_,rfl,by omega,by omega,rfl,by simp,fun _=>rfl,ad.o,vA _ _ _ _,X,ah.o⟩
    case round=>
     obtain ⟨j,own,bv,rfl,J,b0,rfl,bx,aa,H,t,S,G⟩:=hrel;have E:(k<j\/j=l.length\/(∃ a4:j<l.length,qbq l[j]=false))->own≠[]:=by
      intro hh bl;have a8:=aa bl;subst a8;rcases hh with hh|hh|⟨_,hh⟩
      ·omega
      ·omega
      ·rw [<- a7.o,a0.o] at hh;cases hh
     by_cases ab:j<l.length
     ·have ⟨bq,bu,aq,_,ao⟩:=qbR (au.o.below S) ab
      simp at aq;obtain ⟨rfl,rfl⟩:=aq;by_cases V:qbq l[j]=true
      ·have d:=fun w=>qio l[j] w
       rw [V] at d;have ac:=fun w=>qtx l[j] w
       have T:=qkS (o:=a) (n:=own) ab;rw [G,qia V] at T;have ⟨y,N⟩:=qE (l[j]);rw [<- N] at ao d ac T;have ⟨z,a2⟩:=qE (qcj y);rw [<- a2] at ac T;have Y:=qH d;have ba:=qH ac;have bi:=qH T;have K:=qH H;have b1:=S.size;clear d ac T V G N a2 E aa H R
       go_wp2_with (first
        |(go_at_call 180;refine (Y.o _).mono ?_;rintro e w' ⟨rfl,rfl⟩)
        |(go_at_call 181;refine (ba.o _).mono ?_;rintro e w' ⟨rfl,rfl⟩)
        |(at_builtin;refine wB _ rfl (.tmp 34) (.tmp 40) 23 rfl C.heap.size 3 bj _ 1 8 underlying23 bg bb bc bh rfl (by omega) _ own.length (qaa own) rfl (t.alloc _) ⟨_,0,none⟩ 1 1 [.int .i64 z] rfl rfl (qaH _ [.int .i64 z] 3) (by intro u g;simp at g;subst g;rfl) (by unfold maxLen;omega) (by omega) (by simp;omega) ?_))
       intro v' az h b _;have W:=(S.alloc (by omega) _).grown b (by simp;omega) (fun j J=>(t.lt j J).1);have bp:=(K.o.alloc _).kept b (qmR K.o t (by decide));clear b;go_wp2;go_roundw
       case rel=>
        refine ⟨j+1,own++[z],_,rfl,by omega,by omega,by go_num,by simp;omega,by simp,bp,?_,W,bi.o.symm⟩;simpa [qaa] using h
       case measure=>simp [intOf];omega
      ·have Z:qbq l[j]=false:=by simpa using V
       have d:=fun w=>qio l[j] w
       rw [Z] at d;have E:=E (.inr (.inr ⟨ab,Z⟩));have a9:=qH Z;obtain ⟨bm,be,rfl,_,M⟩:=qaK t;have ag:=qH M;have Y:=qH d;have ai:=qH G;have K:=qH H;have Q:=qH S;have ⟨y,N⟩:=qE (l[j]);rw [<- N] at ao Y;clear d V Z G H M t aa R N
       go_wp2_with (first
        |(go_at_call 180;refine (Y.o _).mono ?_;rintro e w' ⟨rfl,rfl⟩)
        |(go_at_call 182;refine (qnF _ _ _ own _ rfl ag.o (by omega)).mono ?_))
       rintro e m ⟨rfl,q⟩;have ⟨O,D⟩:=qE (⟨(text own).toArray⟩:ByteArray);rw [<- D];have F:=qaf K.o q;have p:wG C m:=Q.o.trans (q.mono Q.o.size);have al:=qH D;clear D q;have bd:=p.size
       go_wp2_with (at_builtin;refine wB _ rfl (.tmp 44) (.tmp 47) 40 rfl C.heap.size 9 ax _ 1 16 underlying40 a3 a5 ap ar rfl (by omega) _ a.length (qad (a.map text)) rfl (F.alloc _) ⟨m.heap.size,0,none⟩ 1 1 [.string O] rfl rfl (qaH m [.string O] 9) (by intro u g;simp at g;subst g;rfl) (by unfold maxLen;omega) (by omega) (by simp;omega) ?_)
       intro v' az h b _;have W:=(p.alloc (by omega) _).grown b (by simp;omega) (fun j J=>(F.lt j J).1);clear b F p;go_wp2;go_roundw
       case rel=>
        refine ⟨j+1,a++[own],_,rfl,by omega,by go_num,by simp;omega,?_,W,?_⟩
        ·rw [al.o] at h;simpa [qad] using h
        ·rw [<- qoG E (fun _=>a9.o)];exact ai.o
       case measure=>simp [intOf];omega
     ·have E:=E (.inr (.inl (by omega)))
      obtain ⟨bm,be,rfl,_,M⟩:=qaK t;have ag:=qH M;have ai:=qH G;have K:=qH H;have Q:=qH S;clear G H M t aa R
      go_wp2_with (first
       |(go_at_call 182;refine (qnF _ _ _ own _ rfl ag.o (by omega)).mono ?_))
      rintro e m ⟨rfl,q⟩;have ⟨O,D⟩:=qE (⟨(text own).toArray⟩:ByteArray);rw [<- D];have F:=qaf K.o q;have p:wG C m:=Q.o.trans (q.mono Q.o.size);have al:=qH D;clear D q;have bd:=p.size
      go_wp2_with (at_builtin;refine wB _ rfl (.tmp 44) (.tmp 47) 40 rfl C.heap.size 9 ax _ 1 16 underlying40 a3 a5 ap ar rfl (by omega) _ a.length (qad (a.map text)) rfl (F.alloc _) ⟨m.heap.size,0,none⟩ 1 1 [.string O] rfl rfl (qaH m [.string O] 9) (by intro u g;simp at g;subst g;rfl) (by unfold maxLen;omega) (by omega) (by simp;omega) ?_)
      intro v' az h b _;have W:=(p.alloc (by omega) _).grown b (by simp;omega) (fun j J=>(F.lt j J).1);clear b F p;go_wp2;go_roundw
      case rel=>
       refine ⟨j+1,a++[own],_,rfl,by omega,by go_num,by simp;omega,?_,W,?_⟩
       ·rw [al.o] at h;simpa [qad] using h
       ·rw [<- qoG E (fun a4=>absurd a4 ab)];exact ai.o
      case measure=>simp [intOf];omega
   ·have ae:qbq l[k]=false:=by simpa using L
    have r:=fun w=>qio l[k] w
    rw [ae] at r;have af:=qkS (o:=a) (n:=[]) av;rw [B,qhj ae] at af;have U:=qH r;have ad:=qH P;have a6:=qH af;have ⟨x,I⟩:=qE (l[k]);rw [<- I] at R U;clear r L ae B P I af
    go_wp2_with (go_at_call 180;refine (U.o _).mono ?_;rintro e w' ⟨rfl,rfl⟩)
    go_roundw
    case rel=>exact ⟨k+1,a,_,rfl,by omega,by go_num,by omega,ad.o,X,a6.o.symm⟩
    case measure=>simp [intOf];omega
  ·rw [pC (by omega),qib] at B
   have ah:=qH B;clear B;go_wp2;go_ret;refine ⟨_,rfl,?_,am.o.trans (X.mono am.o.size)⟩;have :=bn.o;rw [<- ah.o] at this;rw [<- this,gB];exact qbk P am.o.size
def qxz (A:Option Addr) (m c:Nat) (l:List (List Int)) (w:World) (ct:Lol (Value.int .i64) w w.heap.size A l) (b1:l.length=m) (d2:m<=1000) (bs:∀ s∈l,s.length<=1000):
  yG 42 #[.slice A m c] w (qvS l w):=by
 have ⟨d6,d0,dv,dw,d4⟩:=lG qc4;have ⟨d3,dr,eg,c9,db⟩:=lG qn1;have cr:(l.map List.length).sum<=1000000:=qn2 b1 d2 bs;have a2:=qH ct;have a4:=qH bs;have d:=qH b1;have c3:=qH cr;clear ct bs b1 cr
 go_enter func42,ntmps42
 go_wp2
 go_loopw [2,3,4,5] (fun bf bh i u wr=>qvU l w bf bh i u wr) (fun _ _ i _ _=>m-(intOf i).toNat)
 case atStart=>exact ⟨rfl,rfl,0,kA _,rfl,fun j _ D=>by omega,bA _ _⟩
 case round=>
  obtain ⟨rfl,rfl,k,bo,rfl,a7,I⟩:=hrel;rw [d.o] at bo;by_cases al:k<m
  ·have ⟨ae,ak,bc,a9,b3,_,ap,⟨av,dh⟩,F⟩:=(a2.o.below I).at_ (i:=k) (by rw [d.o];exact al)
   subst b3;have an:=a4.o _ (pA (l:=l) (n:=k) (by rw [d.o];exact al));have c8:k<l.length:=by rw [d.o];exact al
   have ⟨s,ar⟩:=qE (l[k]);rw [<- ar] at ap av F an;have ⟨n,v⟩:=qE s.length;rw [<- v] at ap av an;have bu:=qH (qvo bc n a9 s wr (F.more I.size) v.symm (by omega));have ⟨z,b4⟩:=qE (qal (-1) s);rw [<- b4] at bu;have cx:qI (z=qal (-1) l[k]):=qH (by rw [b4,ar]);have dn:=qH a7;have bd:=qH I;clear v ar b4 a7 F I av an;cases z with
   |true=>
    go_wp2_with (go_at_call 88;refine (bu.o).mono ?_;rintro e aq ⟨rfl,Q⟩)
    go_roundw
    case rel=>exact ⟨rfl,rfl,k+1,by rw [d.o];omega,by go_num,fun j ac cl=>by
     by_cases e:j=k
     ·subst e;exact cx.o.symm
     ·exact dn.o j ac (by omega),bd.o.trans (Q.mono bd.o.size)⟩
    case measure=>simp [intOf];omega
   |false=>
    go_wp2_with (go_at_call 88;refine (bu.o).mono ?_;rintro e aq ⟨rfl,Q⟩)
    go_ret2;exact ⟨1,[],_,.bad (fun D=>by have :=D _ (pA c8);rw [<- cx.o] at this;cases this),rfl,vA _ _ _ _,bd.o.trans (Q.mono bd.o.size),kA _⟩
  ·have cy:k=m:=by omega
   have bw:∀ s∈l,qal (-1) s=true:=fun s ar=>by
    obtain ⟨j,ac,rfl⟩:=nC ar;exact a7 j ac (by rw [cy,<- d.o];exact ac)
   have ⟨bt,ef,b6,cm⟩:=tF (P:=prog) wr w.heap.size 23 3 d6 _ 1 underlying23 d0 dv dw .i64 .i64 m (by rw [d4];omega) (by unfold maxLen;omega) I.size;have c2:(madeCells #[Value.int .i64 0] m).toList=qaa (qaL (List.replicate m 0)):=by rw [pF];simp [qaa,qaL]
   rw [Nat.mul_one] at b6;have cf:bt.ownsRow w.heap.size 3 1 (.slice (some ⟨wr.heap.size,0,none⟩) m m) m (qaa (qaL (List.replicate m 0))):=by rw [<- c2];exact b6
   have ch:wG wr bt:=(bA _ wr).grown cm (aA _) (fun k bo=>by cases bo);have ⟨g,b2⟩:=qE wr.heap.size;have c6:qkC l w g m (.slice none 0 0) (.int .i64 0) (.slice none 0 0) (.int .i64 (-1)) bt:=
    ⟨rfl,rfl,List.replicate l.length 0,[], -1,rfl,rfl,qm1 bw,by simp,vA _ _ _ _,by rw [b2,d.o];exact cf,I.trans (ch.mono I.size)⟩
   have c1:=qH c6;have ay:=qH bw;clear b6 cf ch cm c2 c6 bw a7 I;have er:¬ (k:Int)<m:=by omega
   subst cy;go_wp2;rw [<- b2];clear ef b2
   go_loopw [2,3,7,8,9,10,11] (fun bf bh ca dd c0 i n L=>qkC l w g k bf bh ca dd L) (fun _ _ ca _ _ _ _ _=>1000001-qgk ca)
   case atStart=>exact c1.o
   case round=>
    clear c1;obtain ⟨rfl,rfl,a,o,last,rfl,ce,ah⟩:=hrel;have ⟨L,eb⟩:=qE wr;subst eb;have ea:=qH ah;have cv:=qH ce;clear ah ce;go_wp2
    go_loopw [9,10] (fun c0 i r=>qhB l a L c0 i r) (fun _ i _=>k-(intOf i).toNat)
    case atStart=>exact ⟨0, -1,kA _,rfl,rfl,.inl ⟨rfl,fun j D=>by omega⟩,bA _ _⟩
    case round=>
     obtain ⟨j,bj,ac,rfl,rfl,ad,af⟩:=hrel;rw [d.o] at ac;have h:=ea.o.later af;by_cases al:j<k
     ·have aj:j<l.length:=by rw [d.o];exact al
      have bk:=qkD h aj;have ⟨ae,ak,bc,a9,b3,_,ap,⟨av,dh⟩,F⟩:=(a2.o.below h.below).at_ aj;subst b3;have an:=a4.o _ (pA aj);have R:InO l (j,a.getD j 0)↔a.getD j 0<l[j].length:=⟨fun D=>(qcm.1 D).2,fun D=>qcm.2 ⟨aj,D⟩⟩;have ⟨n,v⟩:=qE (l[j].length);rw [<- v] at ap av an R;by_cases ag:a.getD j 0<n
      ·have ax:=R.2 ag
       have ⟨ek,eu,da,_,be⟩:=qbR F (k:=a.getD j 0) (by omega);subst da;have az:qaA l (j,a.getD j 0)=l[j][a.getD j 0]:=qeW aj _;rw [<- az] at be;have ⟨x,H⟩:=qE (qaA l (j,a.getD j 0));rw [<- H] at be;have ck:=qH H;have bn:=qH ad;have cz:=qH ax;have ⟨a0,T⟩:=qE (a.getD j 0);rw [<- T] at bk be ag;by_cases br:bj= -1
       ·subst br
        have p:∀ q,qhB l a L (.int .i64 (j:Int)) (.int .i64 ((j:Int)+1)) (wr.drewN q):=fun q=>⟨j+1,(j:Int),by rw [d.o];omega,by go_num,rfl,bn.o.first cz.o,af.trans ⟨rfl,rfl,rfl,aA _,fun _ _=>rfl⟩⟩
        have E:=qH p;clear ad ax R H az T v F h p;go_wp2
        go_quiet (fail)
        go_wp2;go_roundw
        case rel=>exact E.o _
        case measure=>simp [intOf];omega
       ·rcases ad with ⟨h1,_⟩|⟨b,rfl,J,ao⟩
        ·exact absurd h1 br
        ·clear br
         have ⟨B,U⟩:=qcm.1 J;have am:=qkD h B;have ⟨eo,ep,d9,dx,O,_,a5,⟨b9,ee⟩,X⟩:=(a2.o.below h.below).at_ B;injection O with O
         injection O with O e4
         subst O e4;have bg:=a4.o _ (pA B);have ⟨cu,V⟩:=qE (l[b].length);rw [<- V] at a5 b9 bg U;have ⟨ec,dp,ab,_,G⟩:=qbR X (k:=a.getD b 0) (by omega);subst ab;have aa:qaA l (b,a.getD b 0)=l[b][a.getD b 0]:=qeW B _;rw [<- aa] at G;have ⟨y,a1⟩:=qE (qaA l (b,a.getD b 0));rw [<- a1] at G;have cg:=qH a1;have ⟨C,M⟩:=qE (a.getD b 0);rw [<- M] at am G U;have dj:decide ((b:Int)<0)=false:=uA (by omega);have ed:b<k:=by rw [<- d.o];exact B
         by_cases ba:x<y
         ·have dm:decide (x<y)=true:=yA ba
          have p:∀ q,qhB l a L (.int .i64 (j:Int)) (.int .i64 ((j:Int)+1)) (wr.drewN q):=fun q=>⟨j+1,(j:Int),by rw [d.o];omega,by go_num,rfl,bn.o.take cz.o (by rw [<- ck.o,<- cg.o];exact ba),af.trans ⟨rfl,rfl,rfl,aA _,fun _ _=>rfl⟩⟩
          have E:=qH p;clear J ao ax R H az T v F h p a1 aa M V X;go_wp2
          go_quiet (fail)
          go_wp2;go_roundw
          case rel=>exact E.o _
          case measure=>simp [intOf];omega
         ·have dm:decide (x<y)=false:=uA ba
          have p:∀ q,qhB l a L (.int .i64 (b:Int)) (.int .i64 ((j:Int)+1)) (wr.drewN q):=fun q=>⟨j+1,(b:Int),by rw [d.o];omega,by go_num,rfl,bn.o.stay (by rw [<- ck.o,<- cg.o];omega),af.trans ⟨rfl,rfl,rfl,aA _,fun _ _=>rfl⟩⟩
          have E:=qH p;clear J ao ax R H az T v F h p a1 aa M V X ba;go_wp2
          go_quiet (fail)
          go_wp2;go_roundw
          case rel=>exact E.o _
          case measure=>simp [intOf];omega
      ·have p:∀ q,qhB l a L (.int .i64 bj) (.int .i64 ((j:Int)+1)) (wr.drewN q):=fun q=>⟨j+1,bj,by rw [d.o];omega,by go_num,rfl,ad.skip fun D=>ag (R.1 D),af.trans ⟨rfl,rfl,rfl,aA _,fun _ _=>rfl⟩⟩
       have E:=qH p;have ⟨a0,T⟩:=qE (a.getD j 0);rw [<- T] at bk ag;have d5:qI (n<=a0):=qH (by omega);clear ad R v F h p T ag
       go_upto_region 14 with fail
       refine wp_region_noPanic ?_;refine wp_region_held_drew (S:=fun w'=>w'.cell? ⟨g,j,none⟩=some (.int .i64 (a0:Int))/\w'.cell? ⟨ae,ak+j,none⟩=some (.slice bc n a9)) (by kernel_rfl) (⟨bk,ap⟩) (fun em=> ?_)
       refine tk 0 (.slice (some ⟨g,0,none⟩) k k) rfl (Or.inl ⟨by rfl,fun r t=>by go_simp⟩) ?_
       try simp only [Act.put,zA,zB,zD,zE,zF]
       refine tk 1 (.int .i64 (j:Int)) rfl (Or.inl ⟨by rfl,fun r t=>by go_simp⟩) ?_
       try simp only [Act.put,zA,zB,zC,zD,zE,zF]
       refine tk 2 (.pointer (some ⟨g,j,none⟩)) rfl (Or.inl ⟨by rfl,fun r t=>by go_simp⟩) ?_
       try simp only [Act.put,zA,zB,zC,zD,zE,zF]
       refine tk 3 (.int .i64 (a0:Int)) rfl (Or.inl ⟨by rfl,fun r t=>by obtain ⟨dy,di⟩:=t;go_simp⟩) ?_
       try simp only [Act.put,zA,zB,zC,zD,zE,zF]
       refine tk 4 (.slice (some ⟨ae,ak,none⟩) k c) rfl (Or.inl ⟨by rfl,fun r t=>by go_simp⟩) ?_
       try simp only [Act.put,zA,zB,zC,zD,zE,zF]
       refine tk 5 (.int .i64 (j:Int)) rfl (Or.inl ⟨by rfl,fun r t=>by go_simp⟩) ?_
       try simp only [Act.put,zA,zB,zC,zD,zE,zF]
       refine tk 6 (.pointer (some ⟨ae,ak+j,none⟩)) rfl (Or.inl ⟨by rfl,fun r t=>by go_simp⟩) ?_
       try simp only [Act.put,zA,zB,zC,zD,zE,zF]
       refine tk 7 (.slice bc n a9) rfl (Or.inl ⟨by rfl,fun r t=>by obtain ⟨dy,di⟩:=t;go_simp⟩) ?_
       try simp only [Act.put,zA,zB,zC,zD,zE,zF]
       refine tk 8 (.int .i64 (n:Int)) rfl (Or.inl ⟨by rfl,fun r t=>by go_simp⟩) ?_
       try simp only [Act.put,zA,zB,zC,zD,zE,zF]
       refine tk 9 (.bool false) rfl (Or.inl ⟨by rfl,fun r t=>by go_simp;exact d5.o⟩) ?_
       try simp only [Act.put,zA,zB,zC,zD,zE,zF]
       refine tk 10 (.bool false) rfl (Or.inl ⟨by rfl,fun r t=>by go_simp⟩) ?_
       try simp only [Act.put,zA,zB,zC,zD,zE,zF]
       refine tk 11 undef rfl (Or.inr ⟨by rfl,rfl⟩) ?_
       try simp only [Act.put,zA,zB,zC,zD,zE,zF]
       refine tk 12 undef rfl (Or.inr ⟨by rfl,rfl⟩) ?_
       try simp only [Act.put,zA,zB,zC,zD,zE,zF]
       refine tk 13 undef rfl (Or.inr ⟨by rfl,rfl⟩) ?_
       try simp only [Act.put,zA,zB,zC,zD,zE,zF]
       refine tk 14 undef rfl (Or.inr ⟨by rfl,rfl⟩) ?_
       try simp only [Act.put,zA,zB,zC,zD,zE,zF]
       refine tk 15 undef rfl (Or.inr ⟨by rfl,rfl⟩) ?_
       try simp only [Act.put,zA,zB,zC,zD,zE,zF]
       refine tk 16 undef rfl (Or.inr ⟨by rfl,rfl⟩) ?_
       try simp only [Act.put,zA,zB,zC,zD,zE,zF]
       refine tk 17 undef rfl (Or.inr ⟨by rfl,rfl⟩) ?_
       try simp only [Act.put,zA,zB,zC,zD,zE,zF]
       refine tk 18 undef rfl (Or.inr ⟨by rfl,rfl⟩) ?_
       try simp only [Act.put,zA,zB,zC,zD,zE,zF]
       refine tk 19 undef rfl (Or.inr ⟨by rfl,rfl⟩) ?_
       try simp only [Act.put,zA,zB,zC,zD,zE,zF]
       refine tk 20 undef rfl (Or.inr ⟨by rfl,rfl⟩) ?_
       try simp only [Act.put,zA,zB,zC,zD,zE,zF]
       refine tk 21 undef rfl (Or.inr ⟨by rfl,rfl⟩) ?_
       try simp only [Act.put,zA,zB,zC,zD,zE,zF]
       refine tk 22 undef rfl (Or.inr ⟨by rfl,rfl⟩) ?_
       try simp only [Act.put,zA,zB,zC,zD,zE,zF]
       refine tk 23 undef rfl (Or.inr ⟨by rfl,rfl⟩) ?_
       try simp only [Act.put,zA,zB,zC,zD,zE,zF]
       refine tk 24 undef rfl (Or.inr ⟨by rfl,rfl⟩) ?_
       try simp only [Act.put,zA,zB,zC,zD,zE,zF]
       refine tk 25 undef rfl (Or.inr ⟨by rfl,rfl⟩) ?_
       try simp only [Act.put,zA,zB,zC,zD,zE,zF]
       refine tk 26 undef rfl (Or.inr ⟨by rfl,rfl⟩) ?_
       try simp only [Act.put,zA,zB,zC,zD,zE,zF]
       refine tk 27 undef rfl (Or.inr ⟨by rfl,rfl⟩) ?_
       try simp only [Act.put,zA,zB,zC,zD,zE,zF]
       refine tk 28 undef rfl (Or.inr ⟨by rfl,rfl⟩) ?_
       try simp only [Act.put,zA,zB,zC,zD,zE,zF]
       refine tk 29 undef rfl (Or.inr ⟨by rfl,rfl⟩) ?_
       try simp only [Act.put,zA,zB,zC,zD,zE,zF]
       refine tk 30 undef rfl (Or.inr ⟨by rfl,rfl⟩) ?_
       try simp only [Act.put,zA,zB,zC,zD,zE,zF]
       refine tk 31 undef rfl (Or.inr ⟨by rfl,rfl⟩) ?_
       try simp only [Act.put,zA,zB,zC,zD,zE,zF]
       refine tk 32 undef rfl (Or.inr ⟨by rfl,rfl⟩) ?_
       try simp only [Act.put,zA,zB,zC,zD,zE,zF]
       refine tk 33 undef rfl (Or.inr ⟨by rfl,rfl⟩) ?_
       try simp only [Act.put,zA,zB,zC,zD,zE,zF]
       refine tk 34 undef rfl (Or.inr ⟨by rfl,rfl⟩) ?_
       try simp only [Act.put,zA,zB,zC,zD,zE,zF]
       refine tk 35 undef rfl (Or.inr ⟨by rfl,rfl⟩) ?_
       try simp only [Act.put,zA,zB,zC,zD,zE,zF]
       refine tk 36 (.bool false) rfl (Or.inl ⟨by rfl,fun r t=>by go_simp⟩) ?_
       try simp only [Act.put,zA,zB,zC,zD,zE,zF]
       refine tkd (by kernel_rfl) ?_ _;refine NoPanic.normal ?_;go_wp2;go_roundw
       case rel=>exact E.o 1
       case measure=>simp [intOf];omega
     ·have cl:j=k:=by omega
      subst cl;have ai:=h.o;have K:=h.mid;have bb:=h.below;have ew:¬ (j:Int)<j:=by omega
      rcases ad with ⟨rfl,cp⟩|⟨b,rfl,J,ao⟩
      ·have ⟨es,e2,dq,ev,ey,ej⟩:=qaU ai
       subst dq;have d8:=qH ai;have cb:qea l 0 o:= .ok ay.o (K.done fun i au=>Nat.le_of_not_lt fun D=>cp i (by rw [<- d.o];exact au) (qcm.2 ⟨au,D⟩));have eh:=qH cb;have dg:qI (o.length<=1000000):=qH (by have h1:=qhz K.len K.le;have h2:=h.cnt;have h3:=c3.o;omega);clear cp cb K ai h;go_wp2;go_ret2;exact ⟨0,o,_,eh.o,rfl,d8.o,bb,dg.o⟩
      ·have ⟨B,U⟩:=qcm.1 J
       have ed:b<j:=by rw [<- d.o];exact B
       have bq:b<a.length:=by rw [K.len];exact B
       have am:=qkD h B;have ⟨ae,ak,d9,dx,O,_,a5,⟨b9,ee⟩,X⟩:=(a2.o.below bb).at_ B;subst O;have bg:=a4.o _ (pA B);have ⟨cu,V⟩:=qE (l[b].length);have ⟨ec,dp,ab,_,G⟩:=qbR X (k:=a.getD b 0) U;rw [<- V] at a5 b9 bg U;subst ab;have aa:qaA l (b,a.getD b 0)=l[b][a.getD b 0]:=qeW B _;rw [<- aa] at G;have cj:∀ i,InO l (i,a.getD i 0)->qaA l (b,a.getD b 0)<=qaA l (i,a.getD i 0):=fun i au=>ao i (by rw [<- d.o];exact au.1) au
       have a3:qaA l (b,a.getD b 0)≠last->qdW l (a.set b (a.getD b 0+1)) (o++[(b,a.getD b 0)]) (qaA l (b,a.getD b 0)):=fun v=>K.step ay.o J cj v
       have b8:qaA l (b,a.getD b 0)=last->qeD l:=fun v=>K.twice ay.o J v
       have b0:=qkB a b bq;have ⟨x,H⟩:=qE (qaA l (b,a.getD b 0));rw [<- H] at G a3 b8;have ah:=h.at_;have c5:=h.cnt;have b7:(qaa (qaL a))[b]?=some (.int .i64 (a.getD b 0:Int)):=by simp [qaa,qaL,oA bq,mA]
       have ⟨C,M⟩:=qE (a.getD b 0);rw [<- M] at b7;have ei:=qH b7;clear b7;rw [<- M] at am G U a3 b0;have dj:decide ((b:Int)<0)=false:=uA (by omega);have e3:(0:Int)<=b:=by omega
       have ex:(b:Int)<j:=by omega
       have e0:(C:Int)<cu:=by omega
       have el:(0:Int)<=C:=by omega
       have dc:=qH a3;have du:=qH b8;have c4:=qH b0;have dz:=qH ah;have cc:=qH ai;have c7:=qH c5;have bv:=qH bb;clear a3 b8 b0 ah ai c5 bb h J ao cj X V aa H M bq K;by_cases a8:x=last
       ·subst a8
        have de:=qH (du.o rfl);go_wp2
        go_quiet (fail)
        go_wp2;go_ret2;exact ⟨5,[],_,.twice ay.o de.o,rfl,vA _ _ _ _,bv.o.trans ⟨rfl,rfl,rfl,aA _,fun _ _=>rfl⟩,kA _⟩
       ·have bm:=qH (dc.o a8)
        have eq:(x==last)=false:=nD.2 a8;clear a8;have co:=qhz bm.o.len bm.o.le;rw [c4.o] at co;have dk:o.length+1<=1000000:=by have :=c3.o;have :=c7.o;omega
        have ⟨N,b5⟩:=qE o.length;rw [<- b5] at cc cv dk;have cn:=qH b5;clear b5 co;go_wp2
        go_quiet (fail)
        generalize bi:World.drewN _ nq=W;have a6:wG wr W:=by rw [<- bi];exact ⟨rfl,rfl,rfl,aA _,fun _ _=>rfl⟩
        have et:W.cell? ⟨g,b,none⟩=some (.int .i64 (C:Int)):=by rw [<- bi];exact am
        have bp:=qH (qaf cc.o a6);have bx:=qH (qaf dz.o a6);have cs:=qH (bv.o.trans (a6.mono bv.o.size));have d7:=cs.o.size;clear bi a6 am a5 G
        go_wp2_with (at_builtin;refine wB _ rfl (.tmp 89) (.tmp 96) 85 rfl w.heap.size 88 d3 _ 2 16 underlying85 dr eg c9 db rfl (by omega) _ N (plc o) rfl (bp.o.alloc _) ⟨W.heap.size,0,none⟩ 1 1 [.int .i64 (b:Int),.int .i64 (C:Int)] rfl rfl (qaH W [.int .i64 (b:Int),.int .i64 (C:Int)] 88) (by intro u cq;simp at cq;rcases cq with rfl|rfl<;>rfl) (by unfold maxLen;omega) (by omega) (by simp;omega) ?_)
        intro cw aq aw bz _;have Q:Below w.heap.size W aq:=((bA _ W).alloc (by omega) _).grown bz (by simp;omega) fun q Y=>(bp.o.lt q Y).1
        have Z:aq.ownsRow w.heap.size 3 1 (.slice (some ⟨g,0,none⟩) j j) j (qaa (qaL a)):=by
         refine qaq (bx.o.alloc (.cells #[.int .i64 (b:Int),.int .i64 (C:Int)] 88)) fun q Y=>bz.block q ?_ ?_
         ·exact ((bx.o.alloc _).lt q Y).2
         ·intro e
          exact qeU (bp.o.alloc (.cells #[.int .i64 (b:Int),.int .i64 (C:Int)] 88)) (bx.o.alloc _) (by decide) Y e.symm
        have ⟨ez,en,ab,ds,dt,_⟩:=qaU aw;have bl:qgk cw=N+1:=by rw [ab];rfl
        have ⟨cd,ci⟩:=Z.stored b (.int .i64 ((C:Int)+1));have d1:=Z.lt g rfl;have e1:=Z.frozenAt b;have df:=Z.cellAt b (by omega);rw [ei.o] at df;have p:qkC l w g j (.slice none 0 0) (.int .i64 0) cw (.int .i64 x) (aq.setCell ⟨g,b,none⟩ (.int .i64 ((C:Int)+1))):=by
         refine ⟨rfl,rfl,a.set b (C+1),o++[(b,C)],x,rfl,by rw [bl,iA,<- cn.o];rfl,bm.o,by rw [iA,c4.o,<- c7.o];rfl,?_,?_,?_⟩
         ·rw [iA,<- cn.o,qiu]
          exact quT aw (qeU aw Z (by decide) rfl) _
         ·rw [qvT]
          exact cd
         ·exact (cs.o.trans Q).grown ci (lA d7 Q.size) fun q Y=>by cases Y;exact d1.1
        have E:=qH p;have dl:=qH bl;clear p bl cd ci aw bz Q Z ab ds dt;go_wp2;go_roundw
        case rel=>exact E.o
        case measure=>have :=dl.o;have :=cv.o;simp;omega
def qhD:Value->Nat| .slice _ n _=>n|_=>0
def qkT {o:Nat} {x:Nm} {r:List Nm} {a:Addr} (e:Row w B (some ⟨b,o,none⟩) (qad (x::r))) (g:r.length+1<=c) (d:(if c=1 then some (⟨b,o,none⟩:Addr) else some ⟨b,o+1,none⟩)=some a):Row w B (some a) (qad r):=by
 by_cases h1:c=1
 ·have :r=[]:=sB (by omega)
  subst this;exact .inl rfl
 ·rw [dA h1] at d
  rw [<- d];have :=e.dropped 1;simpa using this
def qhE (e:List Nm) (N:Nat) (w:World) (u0 u1 u5:Value) (wr:World):Prop:=
 ∃ (a b done:List Nm) (A B:Option Addr) (d c:Nat),u0= .slice A a.length d/\u1= .slice B b.length c/\a.length<=d/\d<=maxLen/\b.length<=c/\c<=maxLen/\Row w w.heap.size A (qad a)/\Row w w.heap.size B (qad b)/\
  qaB w.heap.size wr u5 done/\wG w wr/\e=done++qcG a b/\done.length+a.length+b.length<=N
def qxA (A B:Option Addr) (c i g m:Nat) (a b:List Nm) (w:World) (j:a.length=c) (q:b.length=g) (bi:c<=i) (ax:i<=maxLen) (bc:g<=m) (ay:m<=maxLen) (D:Row w w.heap.size A (qad a)) (E:Row w w.heap.size B (qad b)) (ce:c+g<=1048576):
    yG 214 #[.slice A c i,.slice B g m] w (qeE (qcG a b) w):=by
  have ⟨a9,a5,a3,a4,a8⟩:=lG qfh;have ⟨N,bl⟩:=qE (c+g);have bs:∀ v wr,qaB w.heap.size wr v []->wG w wr->qhE (qcG a b) N w (.slice A c i) (.slice B g m) v wr:=fun v wr h1 h2=>
    ⟨a,b,[],A,B,i,m,by rw [j],by rw [q],by omega,ax,by omega,ay,D,E,h1,h2,rfl,by simp;omega⟩
  have a2:=qH bs;have cl:N<=1048576:=by omega
  have ⟨ac,d⟩:=qE (qcG a b);rw [<- d] at a2;rw [<- d];clear bs d D E j q;have ⟨ca,bw,bu,bm⟩:=run_make_own (P:=prog) w w.heap.size 40 9 a9 _ 1 underlying40 a5 a3 a4 .i64 .i64 (c+g) (by rw [a8];omega) (by unfold maxLen;omega) (aA _);rw [Int.natCast_add] at bw;have bz:(0:Int)<=(c:Int)+(g:Int):=by omega
  have cd:(c:Int)+(g:Int)<=1048576:=by omega
  have ad:wG w ca:=(bA _ w).grown bm (aA _) (fun k ai=>by cases ai);have b9:=qH (a2.o _ _ bu ad);have b7:=qH bl;clear bu bm ad a2 bl
  go_enter func214,ntmps214
  go_wp2;clear ce bi bc ax ay bw bz cd b7
  go_loopw [0,1,5] (qhE ac N w) (fun x y _ _=>qhD x+qhD y)
  case atStart=>exact b9.o
  case round=>
    obtain ⟨a,b,done,A,B,i,m,rfl,rfl,bi,ax,bc,ay,D,E,ab,F,d,b1⟩:=hrel;unfold maxLen at ax ay;have ⟨c,j⟩:=qE a.length;have ⟨g,q⟩:=qE b.length;rw [<- j,<- q] at b1;rw [<- j] at bi;rw [<- q] at bc;rw [<- j,<- q];have bq:=F.size;cases a with
    |nil=>
      have ⟨W,aa⟩:=qE (([]:List Nm));have ⟨ah,ae⟩:=qE b;rw [<- aa] at D j d;rw [<- ae] at E q d;have cb:c=0:=by rw [j,aa];rfl
      have V:=qH ab;have ak:=qH F;have l:=qH j;have C:=qH q;have U:=qH (D.later F);have bd:=qH E;have cc:done.length+(c+g)<=1048576:=by omega
      have a1:qI (ac=done++W++ah):=qH (by rw [d];rw [aa,qmp];simp);clear ab F j q D E d
      go_wp2_with (first
        | (at_builtin; refine qec _ rfl (.tmp 52) (.tmp 53) rfl w.heap.size _ done rfl V.o A c i W rfl l.o.symm U.o (by omega) ak.o.size ?_
           intro b0 h aq an;have O:=qH aq;have r:=qH (ak.o.trans an);clear aq an)
        | (at_builtin; refine qec _ rfl (.tmp 54) (.tmp 55) rfl w.heap.size _ (done ++ W) rfl O.o B g m ah rfl C.o.symm ((bd.o.below r.o).more r.o.size) (by rw [iA, <- l.o]; omega) r.o.size ?_
           intro cf b3 ar af;have az:=qH ar;have a7:=qH (r.o.trans af);clear ar af))
      go_ret;refine ⟨_,rfl,?_,a7.o⟩;rw [a1.o];exact az.o
    |cons x a=>
      cases b with
      |nil=>
        have ⟨W,aa⟩:=qE (x::a);have ⟨ah,ae⟩:=qE (([]:List Nm));rw [<- aa] at D j d;rw [<- ae] at E q d;have b8:g=0:=by rw [q,ae];rfl
        subst b8;have cb:0<c:=by rw [j,aa];simp
        have V:=qH ab;have ak:=qH F;have l:=qH j;have C:=qH q;have U:=qH (D.later F);have bd:=qH E;have cc:done.length+c<=1048576:=by omega
        have a1:qI (ac=done++W++ah):=qH (by rw [d];rw [ae,qmo];simp);clear ab F j q D E d
        go_wp2_with (first
          | (at_builtin; refine qec _ rfl (.tmp 52) (.tmp 53) rfl w.heap.size _ done rfl V.o A c i W rfl l.o.symm U.o (by omega) ak.o.size ?_
             intro b0 h aq an;have O:=qH aq;have r:=qH (ak.o.trans an);clear aq an)
          | (at_builtin; refine qec _ rfl (.tmp 54) (.tmp 55) rfl w.heap.size _ (done ++ W) rfl O.o B 0 m ah rfl C.o.symm ((bd.o.below r.o).more r.o.size) (by rw [iA, <- l.o]; omega) r.o.size ?_
             intro cf b3 ar af;have az:=qH ar;have a7:=qH (r.o.trans af);clear ar af))
        go_ret;refine ⟨_,rfl,?_,a7.o⟩;rw [a1.o];exact az.o
      |cons y b=>
        obtain ⟨H,K,rfl,ad,bp⟩:=D.at_ (by simp [qad]);obtain ⟨L,M,rfl,bn,bj⟩:=E.at_ (by simp [qad]);have br:w.cell? ⟨H,K,none⟩=some (.string ⟨x.toArray⟩):=bp 0 _ rfl;have bx:w.cell? ⟨L,M,none⟩=some (.string ⟨y.toArray⟩):=bj 0 _ rfl;have bo:=(F.cell (p:=⟨H,K,none⟩) ad).trans br;have bk:=(F.cell (p:=⟨L,M,none⟩) bn).trans bx;have cj:0<c:=by rw [j];simp
        have ch:0<g:=by rw [q];simp
        have ck:(0:Int)<(c:Int):=by omega
        have cn:(0:Int)<(g:Int):=by omega
        have ci:(1:Int)<=(c:Int):=by omega
        have cm:(1:Int)<=(g:Int):=by omega
        have cp:(c:Int)<=(i:Int):=by omega
        have co:(g:Int)<=(m:Int):=by omega
        have ⟨X,bh,bt⟩:=qa8 x;have ⟨R,be,bv⟩:=qa8 y;rw [<- bh] at bo;rw [<- be] at bk;have I:=fun w=>quF X R w
        rw [bt,bv] at I;rw [qcG] at d;have b4:=qH bh;have b2:=qH be;have l:=qH j;have C:=qH q;have U:=qH D;have bg:=qH E;have V:=qH ab;have a0:qI (∀ w',Below w.heap.size wr w'->w'.cell? ⟨H,K,none⟩=some (.string X)):=qH fun w' G=>(G.cell (p:=⟨H,K,none⟩) ad).trans bo
        have ba:qI (∀ w',Below w.heap.size wr w'->w'.cell? ⟨L,M,none⟩=some (.string R)):=qH fun w' G=>(G.cell (p:=⟨L,M,none⟩) bn).trans bk
        have cg:done.length<=1048576:=by omega
        clear bh bt be bv j q D E ab bp bj br bx;by_cases Y:x<y
        · have Q:qaO x y= -1:=by simp [qaO,Y]
          rw [Q] at I;rw [eA Y] at d;have au:=qH d;have am:qI (∀ n,yG 153 #[.string X,.string R] (wr.drewN n) fun e w'=>e= .returned (.int .i64 (-1))/\w'=wr.drewN n):=qH fun n=>(I _).mono fun _ _ G=>⟨G.1,G.2.symm⟩
          clear Q I d Y;go_wp2
          go_quiet ((go_at_call 153;exact Calls.quiet_of_same (am.o _)))
          go_wp2;have ⟨h,z⟩:=qE (wr.drewN nq);have J:Below w.heap.size wr h:=by rw [z];exact ⟨rfl,rfl,rfl,aA _,fun _ _=>rfl⟩
          have S:wG wr h:=by rw [z];exact ⟨rfl,rfl,rfl,aA _,fun _ _=>rfl⟩
          rw [<- z];have T:=qH J;have O:=qH (V.o.below S);have av:w.heap.size<=h.heap.size:=lA bq J.size;obtain ⟨s,aw⟩:∃ s:Addr,(if i=1 then some (⟨H,K,none⟩:Addr) else some ⟨H,K+1,none⟩)=some s:=by split<;>exact ⟨_,rfl⟩
          clear z J S
          go_region_held3 (fun w'=>w'.cell? ⟨H,K,none⟩=some (.string X))
            (first|exact a0.o _ (T.o.drew)|exact a0.o _ (T.o.drew.alloc av _)|exact a0.o _ r.o)
            (first
              | (refine step_append_lies _ (by rfl) _ _ _ (by rfl) w.heap.size 9 a9 _ 1 16 underlying40 a5 a3 a4 a8 rfl (by omega) _ done.length (qad done) (by rfl) ((O.o.alloc _).drew)
                  ⟨h.heap.size,0,none⟩ 1 1 [.string X] (by rfl) (by rfl) (World.news_of_block (cs:=#[.string X]) (t:=9) (fr:=(0,0)) (jA h.drew _)) (by intro u al;simp at al;subst al;rfl)
                  (by omega) (by unfold maxLen;omega) (by omega) (by simp;omega) (h.heap.size+1) (by simp) ?_
                 intro bf bb ap ao ag b5 b6;have a6:Below w.heap.size wr ap:=(T.o.drew.alloc av _).grown ag (by simp;omega) fun k ai=>(O.o.lt k ai).1
                 have r:=qH a6))
          have hrel:qhE ac N w (.slice (some s) (c-1) (i-1)) (.slice (some ⟨L,M,none⟩) g m) (.slice (some ⟨bf,0,none⟩) (done.length+1) bb) ap:=by
            refine ⟨a,y::b,done++[x],some s,_,i-1,m,by rw [l.o,nA,Nat.add_sub_cancel],by rw [C.o],?_,by unfold maxLen;omega,by rw [<- C.o];omega,by unfold maxLen;omega,qkT U.o (by have :=l.o;rw [nA] at this;omega) aw,bg.o,?_,F.trans r.o,?_,?_⟩
            · have :=l.o;rw [nA] at this;omega
            · exact qaB.push7 (by rw [<- b4.o];exact ao)
            · rw [au.o,iB];rfl
            · have h1:=l.o;have h2:=C.o;rw [nA] at h1 h2;simp only [iA,nA,vB];omega
          have aj:=qH hrel;clear hrel ao ag;go_wp2;go_roundw
          case rel=>exact aj.o
          case measure=>simp [qhD];omega
        · rw [dA Y] at d
          by_cases Z:x=y
          · have Q:qaO x y=0:=by simp [qaO,Z]
            rw [Q] at I;rw [eA Z] at d;have au:=qH d;have am:qI (∀ n,yG 153 #[.string X,.string R] (wr.drewN n) fun e w'=>e= .returned (.int .i64 0)/\w'=wr.drewN n):=qH fun n=>(I _).mono fun _ _ G=>⟨G.1,G.2.symm⟩
            clear Q I d Y Z;obtain ⟨s,aw⟩:∃ s:Addr,(if i=1 then some (⟨H,K,none⟩:Addr) else some ⟨H,K+1,none⟩)=some s:=by split<;>exact ⟨_,rfl⟩
            go_wp2
            go_quiet ((go_at_call 153;exact Calls.quiet_of_same (am.o _)))
            go_wp2;have ⟨h,z⟩:=qE (wr.drewN nq);have J:Below w.heap.size wr h:=by rw [z];exact ⟨rfl,rfl,rfl,aA _,fun _ _=>rfl⟩
            have S:wG wr h:=by rw [z];exact ⟨rfl,rfl,rfl,aA _,fun _ _=>rfl⟩
            try rw [<- z]
            have hrel:qhE ac N w (.slice (some s) (c-1) (i-1)) (.slice (some ⟨L,M,none⟩) g m) u5 h:=by
              refine ⟨a,y::b,done,some s,_,i-1,m,by rw [l.o,nA,Nat.add_sub_cancel],by rw [C.o],?_,by unfold maxLen;omega,by rw [<- C.o];omega,by unfold maxLen;omega,qkT U.o (by have :=l.o;rw [nA] at this;omega) aw,bg.o,V.o.below S,F.trans J,au.o,?_⟩
              · have :=l.o;rw [nA] at this;omega
              · have h1:=l.o;have h2:=C.o;rw [nA] at h1 h2;simp only [nA];omega
            have aj:=qH hrel;clear hrel z J S;go_roundw
            case rel=>exact aj.o
            case measure=>simp [qhD];omega
          · have Q:qaO x y=1:=by simp [qaO,Y,Z]
            rw [Q] at I;rw [dA Z] at d;have au:=qH d;have am:qI (∀ n,yG 153 #[.string X,.string R] (wr.drewN n) fun e w'=>e= .returned (.int .i64 1)/\w'=wr.drewN n):=qH fun n=>(I _).mono fun _ _ G=>⟨G.1,G.2.symm⟩
            clear Q I d Y Z;go_wp2
            go_quiet ((go_at_call 153;exact Calls.quiet_of_same (am.o _)))
            go_wp2;have ⟨h,z⟩:=qE (wr.drewN nq);have J:Below w.heap.size wr h:=by rw [z];exact ⟨rfl,rfl,rfl,aA _,fun _ _=>rfl⟩
            have S:wG wr h:=by rw [z];exact ⟨rfl,rfl,rfl,aA _,fun _ _=>rfl⟩
            rw [<- z];have T:=qH J;have O:=qH (V.o.below S);have av:w.heap.size<=h.heap.size:=lA bq J.size;obtain ⟨s,aw⟩:∃ s:Addr,(if m=1 then some (⟨L,M,none⟩:Addr) else some ⟨L,M+1,none⟩)=some s:=by split<;>exact ⟨_,rfl⟩
            clear z J S
            go_region_held3 (fun w'=>w'.cell? ⟨L,M,none⟩=some (.string R))
              (first|exact ba.o _ (T.o.drew)|exact ba.o _ (T.o.drew.alloc av _)|exact ba.o _ r.o)
              (first
                | (refine step_append_lies _ (by rfl) _ _ _ (by rfl) w.heap.size 9 a9 _ 1 16 underlying40 a5 a3 a4 a8 rfl (by omega) _ done.length (qad done) (by rfl) ((O.o.alloc _).drew)
                    ⟨h.heap.size,0,none⟩ 1 1 [.string R] (by rfl) (by rfl) (World.news_of_block (cs:=#[.string R]) (t:=9) (fr:=(0,0)) (jA h.drew _)) (by intro u al;simp at al;subst al;rfl)
                    (by omega) (by unfold maxLen;omega) (by omega) (by simp;omega) (h.heap.size+1) (by simp) ?_
                   intro bf bb ap ao ag b5 b6;have a6:Below w.heap.size wr ap:=(T.o.drew.alloc av _).grown ag (by simp;omega) fun k ai=>(O.o.lt k ai).1
                   have r:=qH a6))
            have hrel:qhE ac N w (.slice (some ⟨H,K,none⟩) c i) (.slice (some s) (g-1) (m-1)) (.slice (some ⟨bf,0,none⟩) (done.length+1) bb) ap:=by
              refine ⟨x::a,b,done++[y],_,some s,i,m-1,by rw [l.o],by rw [C.o,nA,Nat.add_sub_cancel],by rw [<- l.o];omega,by unfold maxLen;omega,?_,by unfold maxLen;omega,U.o,qkT bg.o (by have :=C.o;rw [nA] at this;omega) aw,?_,F.trans r.o,?_,?_⟩
              · have :=C.o;rw [nA] at this;omega
              · exact qaB.push7 (by rw [<- b2.o];exact ao)
              · rw [au.o,iB];rfl
              · have h1:=l.o;have h2:=C.o;rw [nA] at h1 h2;simp only [iA,nA,vB];omega
            have aj:=qH hrel;clear hrel ao ag;go_wp2;go_roundw
            case rel=>exact aj.o
            case measure=>simp [qhD];omega
def qfs (w:World) (zz B:Nat) (l:List Nm) (vs:List Nat):Prop:=
 zz<=B/\vs.length=l.length/\∃ v,w.heap[B]?=some (.cells #[v] 229 (0,0))/\w.ownsRow zz 232 2 v l.length (qaY l vs)
def qfs.read {vs:List Nat} (n:qfs w zz B l vs):
  ∃ A c,w.cell? ⟨B,0,none⟩=some (.slice A l.length c)/\l.length<=c/\c<=maxLen/\Row w w.heap.size A (qaY l vs)/\(A=none/\l=[]/\c=0\/∃ g,A=some ⟨g,0,none⟩):=by
 obtain ⟨h1,h2,v,h3,d⟩:=n;have k:=kG h3;obtain ⟨A,c,rfl,i,h⟩:=qaK d;refine ⟨A,c,k,i,?_,h,?_⟩
 ·rcases d.2 with ⟨a,_⟩|⟨g,m,j,b,_,_,_,e,_⟩
  ·injection a with _ _ a;omega
  ·injection b with _ _ b;omega
 ·rcases d.2 with ⟨a,e⟩|⟨g,m,j,b,_⟩
  ·injection a with a1 _ a3
   exact .inl ⟨a1,sB e,a3⟩
  ·injection b with a1
   exact .inr ⟨g,a1⟩
def qoI (l:List Nm) (vs:List Nat) (w:World) (e:Ending) (w':World):Prop:=∃ B,e= .returned (.tuple #[.pointer (some ⟨B,0,none⟩),.int .i64 0])/\qfs w' w.heap.size B l vs/\wG w w'
def qkU (B:Nat) (l:List Nm) (vs:List Nat) (w:World) (i:Value) (wr:World):Prop:=
 ∃ (k:Nat) (v:Value),k<=l.length/\i= .int .i64 (k:Int)/\wr.heap[B]?=some (.cells #[v] 229 (0,0))/\wr.ownsRow w.heap.size 232 2 v k (qaY (l.take k) (vs.take k))/\wG w wr
def qxB {ys:List Value} (a:w0.heap[B]?=some (.cells #[v] 229 (0,0))) (c:w0.ownsRow zz 232 2 v n xs) (b:w0.grownBy w v.ownBlock) (g:w.ownsRow zz 232 2 v' (n+1) ys) (h:zz<=w0.heap.size) (d:zz<=B):
  w.heap[B]?=some (.cells #[v] 229 (0,0))/\(w.setCell ⟨B,0,none⟩ v').heap[B]?=some (.cells #[v'] 229 (0,0))/\(w.setCell ⟨B,0,none⟩ v').ownsRow zz 232 2 v' (n+1) ys/\Below zz w0 (w.setCell ⟨B,0,none⟩ v'):=by
 have h1:w.heap[B]?=some (.cells #[v] 229 (0,0)):=(b.block B (mG a) (fun e=>qan c a (by decide) e.symm)).trans a;refine ⟨h1,by simpa using rG h1,qn4 g h1 (by decide) _ _,?_⟩;exact (((bA zz w0).grown b h fun k i=>(c.lt k i).1)).setCell d _
def qxC (A af:Option Addr) (n c az:Nat) (l:List Nm) (vs:List Nat) (w:World) (z:Row w w.heap.size A (qad l)) (K:l.length=n) (ba:n<=1048576) (T:Row w w.heap.size af (qbD vs)) (ab:vs.length=n) (ac:qdB l=true):
    yG 133 #[.slice A n c,.slice af n az] w (qoI l vs w):=by
  have ⟨ae,ag,Y,Z,V⟩:=lG qwG;have F:=qiv A n c l w z K (by omega);rw [ac] at F;have a0:=qH F;have an:=qH z;have am:=qH T;have a:=qH K;have r:=qH ab;clear F z T K ab ac
  go_enter func133,ntmps133
  go_wp2_with (go_at_call 120;refine (a0.o).mono ?_)
  rintro e I ⟨rfl,h⟩;have ⟨s,a3,R,Q⟩:=run_make_own (P:=prog) I w.heap.size 227 232 ae _ 2 underlying227 ag Y Z .i64 .i64 n (by rw [V];omega) (by unfold maxLen;omega) h.size;have j:wG w s:=h.grown Q h.size (fun k G=>by cases G);have ⟨B,q⟩:=qE s.heap.size;have ⟨w3,m⟩:=qE (s.alloc (.cells #[.slice (some ⟨I.heap.size,0,none⟩) 0 n] 229));have hrel:qkU B l vs w (.int .i64 ((0:Nat):Int)) w3:=by
    refine ⟨0,.slice (some ⟨I.heap.size,0,none⟩) 0 n,kA _,rfl,?_,?_,?_⟩
    · rw [m,q];exact jA s _
    · rw [m];simpa [qfM] using R.alloc _
    · rw [m];exact j.alloc j.size _
  have H:=qH hrel;have a1:=qH m;have ax:=qH q;have aa:qI (w.heap.size<=B):=qH (by rw [q];exact j.size);clear hrel R Q j h m q;go_wp2;rw [<- a1.o,<- ax.o];clear a3
  go_loopw [26] (qkU B l vs w) (fun i _=>n-(intOf i).toNat)
  case atStart=>exact H.o
  case round=>
    obtain ⟨k,v,G,rfl,g,d,b⟩:=hrel;rw [a.o] at G;have a4:=b.size;by_cases ad:k<n
    · have C:k<l.length:=by rw [a.o];exact ad
      have M:k<vs.length:=by rw [r.o];exact ad
      have ⟨a7,bb,au,h,av⟩:=qdr (an.o.below b) C;have ⟨a6,be,ap,j,ai⟩:=qiw (am.o.below b) M;subst au ap;have ⟨x,J⟩:=qE (⟨l[k].toArray⟩:ByteArray);have ⟨y,E⟩:=qE (vs[k]);rw [<- J] at av;rw [<- E] at ai;have L:qaY (l.take (k+1)) (vs.take (k+1))=qaY (l.take k) (vs.take k)++[.string x,.pointer (some ⟨y,0,none⟩)]:=by
        rw [aB C,aB M,qj7 (by simp only [sA];rw [a.o,r.o]),<- J,<- E]
      have ⟨cs,W⟩:=qE (qaY (l.take k) (vs.take k));rw [<- W] at d L;have ar:=kG g;have bf:(0:Int)<=(k:Int):=by omega
      have a8:(k:Int)<(n:Int):=by omega
      have N:=mG g;have bc:∀ o,((wr.alloc o).drew).cell? ⟨B,0,none⟩=some v:=fun o=>(((bA _ wr).alloc (aA _) o).cell (p:=⟨B,0,none⟩) N).trans ar
      have S:=qH d;have ao:=qH g;have al:=qH L;clear J E W d g L C M;go_wp2
      go_region_law (first
        | (refine step_append_lies _ (by rfl) _ _ _ (by rfl) w.heap.size 232 ae _ 2 24 underlying227 ag Y Z V rfl (by omega) v k cs (by rfl) ((S.o.alloc _).drew)
            ⟨wr.heap.size,0,none⟩ 1 1 [.string x,.pointer (some ⟨y,0,none⟩)] (by rfl) (by rfl) (World.news_of_block (cs:=#[.string x,.pointer (some ⟨y,0,none⟩)]) (t:=232) (fr:=(0,0)) (jA wr.drew _)) (by intro u hu;simp at hu;rcases hu with hu|hu<;>(subst hu;rfl))
            (by omega) (by unfold maxLen;omega) (by omega) (by simp;omega) (wr.heap.size+1) (by simp) ?_
           intro aw ak ay ah aj a5 a9;have ⟨D,X,O,U⟩:=qxB (((bA _ wr).alloc (aA _) _).drew.block B N |>.trans ao.o) ((S.o.alloc _).drew) aj ah (by simp;omega) aa.o
           have bd:=kG D;have bg:=nG D))
      all_goals
        have hrel:qkU B l vs w (.int .i64 ((k:Int)+1)) (ay.setCell ⟨B,0,none⟩ (.slice (some ⟨aw,0,none⟩) (k+1) ak)):=by
          refine ⟨k+1,_,by rw [a.o];omega,by go_num,X,?_,?_⟩
          · rw [al.o];exact O
          · exact b.trans ((((bA _ wr).alloc a4 _).drew).trans U)
        have H:=qH hrel;clear hrel X O U D;go_wp2;go_roundw
        case rel=>exact H.o
        case measure=>simp [intOf];omega
    · have a2:k=n:=by omega
      have aq:qI (qoI l vs w (.returned (.tuple #[.pointer (some ⟨B,0,none⟩),.int .i64 0])) wr):=qH ⟨B,rfl,⟨aa.o,by rw [a.o,r.o],v,g,by
        rw [a2,nB (by rw [a.o];omega),nB (by rw [r.o];omega)] at d;rw [a.o];exact d⟩,b⟩
      clear d g b;go_wp2;go_ret2;exact aq.o
def qbZ:Nat->List (List UInt8)->Int
 |_,[]=>0
 |i,w::ws=>if 30<w.length then 3 else if 500<=i then 7 else qbZ (i+1) ws
def qeq:Nat->List (List UInt8)->List Value
 |_,[]=>[]
 |i,w::ws=> .string ⟨w.toArray⟩:: .int .i64 i::qeq (i+1) ws
def qoJ:∀ (a:List (List UInt8)) (i:Nat) (b:List (List UInt8)),qeq i (a++b)=qeq i a++qeq (i+a.length) b
 |[],i,b=>by simp [qeq]
 |w::a,i,b=>by
  simp only [bC,qeq,qoJ a,nA];rw [show i+1+a.length=i+(a.length+1) by omega]
def qoK {ws:List (List UInt8)} (a:k<ws.length):qeq 0 (ws.take (k+1))=qeq 0 (ws.take k)++[.string ⟨ws[k].toArray⟩,.int .i64 k]:=by
 rw [aB a,qoJ,sA,kB,eD (by omega)];rfl
def qoL {ws:List (List UInt8)} (a:k<ws.length):qbZ k (ws.drop k)=if 30<ws[k].length then 3 else if 500<=k then 7 else qbZ (k+1) (ws.drop (k+1)):=by
 rw [yD a,qbZ]
theorem qoM:(prog.info? 245).map (fun i=>(i.zero,i.size,i.bytes))=some (some (.agg #[.string ByteArray.empty,.int .i64 0]),2,24):=by kernel_rfl
def qfS (ws:List (List UInt8)) (w:World) (e:Ending) (w':World):Prop:=
 ∃ v,e= .returned (.tuple #[v,.int .i64 (qbZ 0 ws)])/\(qbZ 0 ws=0->w'.ownsRow w.heap.size 245 2 v ws.length (qeq 0 ws))/\(qbZ 0 ws≠0->v= .slice none 0 0)/\wG w w'
def qoN (ws:List (List UInt8)) (c:World) (a b o i:Value) (wr:World):Prop:=
 ∃ (k:Nat) (d:Value),d=o/\a= .slice none 0 0/\b= .int .i64 0/\k<=ws.length/\k<=500/\i= .int .i64 k/\wr.ownsRow c.heap.size 245 2 o k (qeq 0 (ws.take k))/\wG c wr/\qbZ k (ws.drop k)=qbZ 0 ws
def qgS {o:List Pl} {i:Int} (a:j<n):(qcc o i n)[j]?=some (qbB o 0 i (j:Int)):=by
 unfold qcc;rw [uE,List.getElem?_range a];rfl
def qfT (o:List Pl) (i:Int) (n:Nat):(qcc o i n).length=n:=by simp [qcc]
def qxD (i:Int) (n:Nat):qcc [] i n=List.replicate n (-1):=by
 refine List.ext_getElem? fun j=> ?_
 by_cases a:j<n
 ·rw [qgS a,List.getElem?_replicate,eA a];rfl
 ·rw [sC (by rw [qfT];omega),sC (by simp;omega)]
def qxE {o:List Pl} (e:o.Nodup) {k:Nat} (g:k<o.length) (i:Int) (n:Nat):
  qcc (o.take (k+1)) i n=if (o[k].1:Int)=i/\o[k].2<n then (qcc (o.take k) i n).set o[k].2 (k:Int) else qcc (o.take k) i n:=by
 refine List.ext_getElem? fun j=> ?_
 by_cases c:j<n
 ·rw [qgS c,qm5 e g]
  by_cases a:(o[k].1:Int)=i/\o[k].2<n
  ·rw [eA a]
   by_cases d:o[k].2=j
   ·rw [eA ⟨a.1,by omega⟩,aE,eA d,eA (by rw [qfT];omega)]
   ·rw [dA (fun b=>d (by have :=b.2;omega)),aE,dA d,qgS c]
  ·rw [dA a,dA (fun b=>a ⟨b.1,by have :=b.2;omega⟩),qgS c]
 ·rw [sC (by rw [qfT];omega)]
  split
  ·rw [sC (by rw [uC,qfT];omega)]
  ·rw [sC (by rw [qfT];omega)]
def qhF (o:List Pl) (i:Int) (n:Nat) (w:World) (v a:Value) (wr:World):Prop:=∃ k:Nat,k<=o.length/\a= .int .i64 (k:Int)/\wr.ownsRow w.heap.size 3 1 v n (qaa (qcc (o.take k) i n))/\wG w wr
def qoO (A:Option Addr) (m c n:Nat) (o:List Pl) (i:Int) (w:World) (J:Row w w.heap.size A (plc o)) (L:o.length=m) (ay:m<=1000000) (Q:o.Nodup) (a0:n<=1000):
  yG 83 #[.slice A m c,.int .i64 i,.int .i64 (n:Int)] w (qiy o i n w):=by
 have ad:=qH J;have ak:=qH Q;have D:=qH L;have ap:max (n:Int) 0=(n:Int):=by omega
 have ⟨B,r⟩:=qE (w.alloc (.cells #[.int .i64 (-1)] 3));have O:wG w B:=by rw [r];exact (bA _ w).alloc (aA _) _
 have N:B.cell? ⟨w.heap.size,0,none⟩=some (.int .i64 (-1)):=by
  rw [r];exact kG (jA w _)
 have K:w.heap.size<B.heap.size:=by rw [r];simp
 have T:=qH (qwi none (some ⟨w.heap.size,0,none⟩) w.heap.size n B rfl K N (by omega));have E:=qH O;have ab:=qH r;clear J Q L O N K r
 go_enter func83,ntmps83
 go_wp2_with (go_at_call 131;rw [<- ab.o];refine (T.o).mono ?_;rintro e ao ⟨⟨v,rfl,a⟩,S⟩)
 have V:qhF o i n w v (.int .i64 0) ao:=⟨0,kA _,rfl,by rw [List.take_zero,qxD];exact qbk a (E.o).size,(E.o).trans (S.mono (E.o).size)⟩;have M:=qH V;clear V a S T
 go_loopw [8,9,16] (fun u8 u9 F wr=>qhF o i n w v F wr) (fun _ _ F _=>m-(intOf F).toNat)
 case atStart=>exact M.o
 case round=>
  clear M;obtain ⟨k,ah,rfl,a,d⟩:=hrel;rw [D.o] at ah;by_cases al:k<m
  ·have s:k<o.length:=by rw [D.o];exact al
   obtain ⟨b,ar,rfl,ac,ae,q2⟩:=qgK ((ad.o).below d) s;have h:=qxE (ak.o) s i n;have ⟨x,C⟩:=qE (o[k].1);have ⟨y,t⟩:=qE (o[k].2);rw [<- C] at ae h;rw [<- t] at q2 h;have aw:(k:Int)<(m:Int):=by omega
   have aq:decide ((0:Int)<=(y:Int))=true:=yA (by omega);by_cases j:(x:Int)=i
   ·by_cases q:y<n
    ·rw [eA ⟨j,q⟩] at h
     rcases a.2 with ⟨_,ai⟩|⟨g,aa,az,rfl,an,U,av,af,aj,am⟩
     ·have :=a.1
      rw [ai] at this;simp [qaa,qcc] at this;omega
     ·have I:=(a.stored y (.int .i64 (k:Int))).1
      have Z:=a.frozenAt y;have H:=a.cellAt y (by omega);rw [show (qaa (qcc (o.take k) i n))[y]?=some (.int .i64 (qbB (o.take k) 0 i (y:Int))) by rw [qaa,uE,qgS q];rfl] at H;have P:(qaa (qcc (o.take k) i n)).set y (.int .i64 (k:Int))=qaa (qcc (o.take (k+1)) i n):=by rw [h,qaa,qaa,List.map_set]
      rw [P] at I;have R:∀ z,qhF o i n w (.slice (some ⟨g,0,none⟩) n aa) (.int .i64 ((k:Int)+1)) ((wr.setCell ⟨g,y,none⟩ (.int .i64 (k:Int))).alloc z):=fun z=>⟨k+1,s,rfl,I.alloc z,(d.setCell an _).alloc (by simp [World.setCell];exact d.size) z⟩
      have l:=qH R;have ⟨u,Y⟩:=qE (qbB (o.take k) 0 i (y:Int));rw [<- Y] at H;have W:=(gA.1 U).1;have a1:∀ z,(wr.alloc z).cell? ⟨g,y,none⟩=some (.int .i64 u):=fun z=>(((bA wr.heap.size wr).alloc (aA _) z).cell (p:=⟨g,y,none⟩) W).trans H
      have ax:∀ z,(wr.alloc z).frozen? ⟨g,y,none⟩=false:=fun z=>(((bA wr.heap.size wr).alloc (aA _) z).frozen (p:=⟨g,y,none⟩) W).trans Z
      have X:((x:Int)==i)=true:=by rw [j];exact beq_self_eq_true _
      have a2:(y:Int)<(n:Int):=by omega
      unfold maxLen at af;clear a U I P R h C t Y j am aj d ac;go_wp2;go_roundw
      case rel=>exact l.o _
      case measure=>simp [intOf];omega
    ·rw [dA (fun G=>q G.2)] at h
     have l:=qH (show ∀ z,qhF o i n w v (.int .i64 ((k:Int)+1)) (wr.alloc z) from fun z=>⟨k+1,s,rfl,by rw [h];exact a.alloc z,d.alloc d.size z⟩)
     have au:decide (y<n)=false:=uA q;have X:((x:Int)==i)=true:=by rw [j];exact beq_self_eq_true _
     clear a h C t j d q;go_wp2;go_roundw
     case rel=>exact l.o _
     case measure=>simp [intOf];omega
   ·rw [dA (fun G=>j G.1)] at h
    have l:=qH (show ∀ z,qhF o i n w v (.int .i64 ((k:Int)+1)) (wr.alloc z) from fun z=>⟨k+1,s,rfl,by rw [h];exact a.alloc z,d.alloc d.size z⟩)
    have X:((x:Int)==i)=false:=nD.2 j;clear a h C t j d;go_wp2;go_roundw
    case rel=>exact l.o _
    case measure=>simp [intOf];omega
  ·have ag:k=o.length:=by have :=D.o;omega
   subst ag;rw [fC] at a;have l:=qH (show qiy o i n w (.returned v) wr from ⟨v,rfl,a,d⟩)
   clear a d;go_wp2;go_ret;exact l.o
def qhG (zz B n m:Nat) (l:List Hd) (w:World) (e:Ending) (w':World):Prop:=(∃ v,e= .returned v)/\∃ a,a.Perm l/\qfn qaD a n m/\HAt zz w' B a/\qaQ zz w w'/\∀ q,n<=q->a[q]?=l[q]?
def qoP (zz B n m:Nat) (l:List Hd) (w:World) (b:Value) (wr:World):Prop:=∃ (k:Nat) (a:List Hd),b= .int .i64 (k:Int)/\k<=l.length/\m<=k/\a.Perm l/\qep qaD a k n m/\HAt zz wr B a/\qaQ zz w wr/\∀ q,n<=q->a[q]?=l[q]?
def qkV {l:List Hd} {a q:Nat} (c:a<l.length) (d:b<l.length) (h1:a≠q) (h2:b≠q):(qcv l a b c d)[q]?=l[q]?:=by
 rw [show qcv l a b c d=(l.set a l[b]).set b l[a] from rfl,List.getElem?_set_ne h2,List.getElem?_set_ne h1]
def qoQ (zz B i n m:Nat) (l:List Hd) (w:World) (au:HAt zz w B l) (a1:i<=l.length) (bd:n<=l.length) (bc:l.length<=1000000) (ap:qep qaD l i n m) (al:m<=i):
  yG 138 #[ifH B,.int .i64 (i:Int),.int .i64 (n:Int)] w (qhG zz B n m l w):=by
 have aq:=qH (show qoP zz B n m l w (.int .i64 (i:Int)) w from ⟨i,l,rfl,a1,al,.refl _,ap,au,.refl _ _,fun _ _=>rfl⟩)
 clear au ap al
 go_enter func138,ntmps138
 go_wp2
 go_loopw [7,8,9,10] (fun ak a3 bf a9 wr=>qoP zz B n m l w ak wr) (fun ak _ _ _ _=>n-(intOf ak).toNat)
 case atStart=>exact aq.o
 case round=>
  clear aq
  rename_i a5 bg
  obtain ⟨k,b,rfl,a8,aj,A,D,g,G,E⟩:=hrel;have aw:=A.length_eq;have ⟨a,am⟩:=qE (2*k+1);have ba:2*(k:Int)+1=(a:Int):=by omega
  have F:=qH am;clear am;have a6:decide ((a:Int)<0)=false:=uA (by omega);by_cases be:n<=a
  ·have ay:decide ((n:Int)<=(a:Int))=true:=yA (by omega)
   have av:∀ v,qhG zz B n m l w (.returned v) wr:=fun v=>⟨⟨v,rfl⟩,b,A,D.stop (by omega) (fun c ax H a4=>absurd ax (by have :=F.o;omega)),g,G,E⟩
   have S:=qH av;clear A D g G E av aw;go_wp2;go_ret;exact S.o _
  ·have ay:decide ((n:Int)<=(a:Int))=false:=uA (by omega)
   have I:a<b.length:=by omega
   have y:k<b.length:=by have :=F.o;omega
   by_cases a7:a+1<n
   ·have U:a+1<b.length:=by omega
    have ⟨a2,bb,T⟩:=g.less U I;rw [show ((a+1:Nat):Int)=(a:Int)+1 by omega] at T;have az:decide ((a:Int)+1<(n:Int))=true:=yA (by omega);by_cases V:b[a+1].1<b[a].1
    ·rw [yA V] at T
     have M:=qH T;clear T;have C:∀ q (p:q<n) (H:0<q) (L:(q-1)/2=k),qaD (b[a+1]'(by omega))<=qaD (b[q]'(by omega)):=fun q p H L=>by
      have Z:q=a\/q=a+1:=by have :=F.o;omega
      rcases Z with rfl|rfl
      ·exact Int.le_of_lt V
      ·exact Int.le_refl _
     have ah:qI ((a+1-1)/2=k):=qH (by have :=F.o;omega);clear V;by_cases j:b[a+1].1<b[k].1
     ·have R:=D.step (k:=a+1) (by omega) (by omega) (by omega) ah.o aj j C
      have W:=qH R;have an:n-(a+1)<n-k:=by have :=F.o;omega
      have J:=qH j;have ae:=qH A;have t:=qH g;have ad:=qH G;have X:=qH E;clear C j A g G E D R
      go_wp2_with first
       |(go_at_call 279;refine (ab.o).mono ?_;rintro e w3 ⟨⟨v,rfl⟩,Y,aa⟩)
       |(go_at_call 278;refine (K.o).mono ?_;rintro e x ⟨rfl,r⟩;have ⟨ao,ar,N⟩:=((O.o).below r).swaps y U;rw [show ((a+1:Nat):Int)=(a:Int)+1 by omega] at N;have ab:=qH N;have af:=qH ((s.o).trans (r.mono s.o.size));clear N r)
       |(go_at_call 278;refine (M.o).mono ?_;rintro e ai ⟨rfl,z⟩;have h:=(t.o).below z;have s:=qH z;clear z M;have ⟨ag,ac,d⟩:=h.less U y;rw [show ((a+1:Nat):Int)=(a:Int)+1 by omega] at d;rw [show decide (b[a+1].1<b[k].1)=true from yA (by have :=J.o;omega)] at d;have K:=qH d;have O:=qH h;clear d h)
      go_roundw
      case rel=>exact ⟨(a+1),_,by go_num,by omega,by have :=F.o;omega,(qhs y U).trans ae.o,W.o,Y,(ad.o).trans ((qaQ.of_below af.o (by have :=t.o.1;have :=t.o.lt;omega)).trans aa),fun q p=>(qkV y U (by omega) (by omega)).trans (X.o q p)⟩
      case measure=>simp [intOf];omega
     ·have Q:=D.stop (by omega) (fun q p H L=>Int.le_trans (Int.not_lt.1 j) (C q p H L))
      have S:=qH (show ∀ v x,wG wr x->qhG zz B n m l w (.returned v) x from fun v x P=>⟨⟨v,rfl⟩,b,A,Q,g.below P,G.trans (.of_below P (by have :=g.1;have :=g.lt;omega)),E⟩)
      have J:=qH j;have t:=qH g;clear C j A g G E D Q
      go_wp2_with first
       |(go_at_call 278;refine (K.o).mono ?_;rintro e x ⟨rfl,r⟩)
       |(go_at_call 278;refine (M.o).mono ?_;rintro e ai ⟨rfl,z⟩;have h:=(t.o).below z;have s:=qH z;clear z M;have ⟨ag,ac,d⟩:=h.less U y;rw [show ((a+1:Nat):Int)=(a:Int)+1 by omega] at d;rw [show decide (b[a+1].1<b[k].1)=false from uA (by have :=J.o;omega)] at d;have K:=qH d;have O:=qH h;clear d h)
      go_ret;exact S.o _ _ ((s.o).trans (r.mono s.o.size))
    ·rw [uA V] at T
     have M:=qH T;clear T;have C:∀ q (p:q<n) (H:0<q) (L:(q-1)/2=k),qaD (b[a]'(by omega))<=qaD (b[q]'(by omega)):=fun q p H L=>by
      have Z:q=a\/q=a+1:=by have :=F.o;omega
      rcases Z with rfl|rfl
      ·exact Int.le_refl _
      ·exact Int.not_lt.1 V
     have ah:qI ((a-1)/2=k):=qH (by have :=F.o;omega);clear V;by_cases j:b[a].1<b[k].1
     ·have R:=D.step (k:=a) (by omega) (by omega) (by omega) ah.o aj j C
      have W:=qH R;have an:n-a<n-k:=by have :=F.o;omega
      have J:=qH j;have ae:=qH A;have t:=qH g;have ad:=qH G;have X:=qH E;clear C j A g G E D R
      go_wp2_with first
       |(go_at_call 279;refine (ab.o).mono ?_;rintro e w3 ⟨⟨v,rfl⟩,Y,aa⟩)
       |(go_at_call 278;refine (K.o).mono ?_;rintro e x ⟨rfl,r⟩;have ⟨ao,ar,N⟩:=((O.o).below r).swaps y I;have ab:=qH N;have af:=qH ((s.o).trans (r.mono s.o.size));clear N r)
       |(go_at_call 278;refine (M.o).mono ?_;rintro e ai ⟨rfl,z⟩;have h:=(t.o).below z;have s:=qH z;clear z M;have ⟨ag,ac,d⟩:=h.less I y;rw [show decide (b[a].1<b[k].1)=true from yA (by have :=J.o;omega)] at d;have K:=qH d;have O:=qH h;clear d h)
      go_roundw
      case rel=>exact ⟨a,_,by go_num,by omega,by have :=F.o;omega,(qhs y I).trans ae.o,W.o,Y,(ad.o).trans ((qaQ.of_below af.o (by have :=t.o.1;have :=t.o.lt;omega)).trans aa),fun q p=>(qkV y I (by omega) (by omega)).trans (X.o q p)⟩
      case measure=>simp [intOf];omega
     ·have Q:=D.stop (by omega) (fun q p H L=>Int.le_trans (Int.not_lt.1 j) (C q p H L))
      have S:=qH (show ∀ v x,wG wr x->qhG zz B n m l w (.returned v) x from fun v x P=>⟨⟨v,rfl⟩,b,A,Q,g.below P,G.trans (.of_below P (by have :=g.1;have :=g.lt;omega)),E⟩)
      have J:=qH j;have t:=qH g;clear C j A g G E D Q
      go_wp2_with first
       |(go_at_call 278;refine (K.o).mono ?_;rintro e x ⟨rfl,r⟩)
       |(go_at_call 278;refine (M.o).mono ?_;rintro e ai ⟨rfl,z⟩;have h:=(t.o).below z;have s:=qH z;clear z M;have ⟨ag,ac,d⟩:=h.less I y;rw [show decide (b[a].1<b[k].1)=false from uA (by have :=J.o;omega)] at d;have K:=qH d;have O:=qH h;clear d h)
      go_ret;exact S.o _ _ ((s.o).trans (r.mono s.o.size))
   ·have az:decide ((a:Int)+1<(n:Int))=false:=uA (by omega)
    have C:∀ q (p:q<n) (H:0<q) (L:(q-1)/2=k),qaD (b[a]'(by omega))<=qaD (b[q]'(by omega)):=fun q p H L=>by
     have Z:q=a:=by have :=F.o;omega
     subst Z;exact Int.le_refl _
    have ah:qI ((a-1)/2=k):=qH (by have :=F.o;omega);have a0:a+1<=n+0\/True:= .inr trivial;clear a0;by_cases j:b[a].1<b[k].1
    ·have R:=D.step (k:=a) (by omega) (by omega) (by omega) ah.o aj j C
     have W:=qH R;have an:n-a<n-k:=by have :=F.o;omega
     have J:=qH j;have ae:=qH A;have t:=qH g;have ad:=qH G;have X:=qH E;clear C j A g G E D R;have h:=t.o;have s:=qH (bA wr.heap.size wr)
     (have ⟨ag,ac,d⟩:=h.less I y;rw [show decide (b[a].1<b[k].1)=true from yA (by have :=J.o;omega)] at d;have K:=qH d;have O:=qH h;clear d h)
     go_wp2_with first
      |(go_at_call 279;refine (ab.o).mono ?_;rintro e w3 ⟨⟨v,rfl⟩,Y,aa⟩)
      |(go_at_call 278;refine (K.o).mono ?_;rintro e x ⟨rfl,r⟩;have ⟨ao,ar,N⟩:=((O.o).below r).swaps y I;have ab:=qH N;have af:=qH ((s.o).trans (r.mono s.o.size));clear N r)
     go_roundw
     case rel=>exact ⟨a,_,by go_num,by omega,by have :=F.o;omega,(qhs y I).trans ae.o,W.o,Y,(ad.o).trans ((qaQ.of_below af.o (by have :=t.o.1;have :=t.o.lt;omega)).trans aa),fun q p=>(qkV y I (by omega) (by omega)).trans (X.o q p)⟩
     case measure=>simp [intOf];omega
    ·have Q:=D.stop (by omega) (fun q p H L=>Int.le_trans (Int.not_lt.1 j) (C q p H L))
     have S:=qH (show ∀ v x,wG wr x->qhG zz B n m l w (.returned v) x from fun v x P=>⟨⟨v,rfl⟩,b,A,Q,g.below P,G.trans (.of_below P (by have :=g.1;have :=g.lt;omega)),E⟩)
     have J:=qH j;have t:=qH g;clear C j A g G E D Q;have h:=t.o;have s:=qH (bA wr.heap.size wr)
     (have ⟨ag,ac,d⟩:=h.less I y;rw [show decide (b[a].1<b[k].1)=false from uA (by have :=J.o;omega)] at d;have K:=qH d;have O:=qH h;clear d h)
     go_wp2_with first
      |(go_at_call 278;refine (K.o).mono ?_;rintro e x ⟨rfl,r⟩)
     go_ret;exact S.o _ _ ((s.o).trans (r.mono s.o.size))
theorem qxF:qbo []=[]:=rfl
def qxG (a:List Nm):qbo [a]=qhe a:=(qmn (qsw a) fun x=>by simp [qsx]).symm
def qxH (a b:List (List Nm)):qbo (a++b)=qcG (qbo a) (qbo b):=by
 refine (qmn (qh4 (qga a) (qga b)) fun x=> ?_).symm;rw [qgB,qgz,qgz];constructor
 ·rintro (⟨l,h1,h2⟩|⟨l,h1,h2⟩)
  ·exact ⟨l,List.mem_append_left _ h1,h2⟩
  ·exact ⟨l,List.mem_append_right _ h1,h2⟩
 ·rintro ⟨l,h1,h2⟩
  rcases aC.1 h1 with h1|h1
  ·exact .inl ⟨l,h1,h2⟩
  ·exact .inr ⟨l,h1,h2⟩
def qkW (ls:List (List Nm)):(qbo ls).length<=ls.flatten.length:=by
 have :=qgA ls.flatten [];simpa [qbo] using this
def qoR (ls:List (List Nm)) (a:Nat):(ls.take a).flatten.length+(ls.drop a).flatten.length=ls.flatten.length:=by
 rw [<- iA,<- List.flatten_append,gD]
def qoS {ls:List (List Nm)} (a:i<ls.length):(ls.take (i+1)).flatten=(ls.take i).flatten++ls[i]:=by
 rw [aB a,List.flatten_append];simp
def qxI {ls:List (List Nm)} (a:i<ls.length) (k:Nat):((ls.take i).flatten++ls[i].take k).length<=ls.flatten.length:=by
 have h1:=qoR ls (i+1);rw [qoS a] at h1;simp only [iA,sA] at h1 ⊢;omega
def qxJ (H:Nat):∀ (A:Option Addr) (n c:Nat) (ls:List (List Nm)) (w:World),ls.length=n->n<=H->n<=1000->n<=c->c<=maxLen->qco w w.heap.size A ls->ls.flatten.length<=100000->
    yG 173 #[.slice A n c] w (qeE (qbo ls) w):=by
  induction H with
  |zero=>
    intro A n c ls w j z ab Z G d l;obtain rfl:n=0:=by omega
    obtain rfl:ls=[]:=sB j;rw [qxF];clear d l z
    go_enter func173,ntmps173
    go_wp2;go_ret;exact ⟨_,rfl,qaB.nil,bA _ _⟩
  |succ H B=>
    intro A n c ls w j z ab Z G d l;by_cases ag:n=0
    · exact B A n c ls w j (by omega) ab Z G d l
    by_cases h1:n=1
    · subst h1
      obtain ⟨x,rfl⟩:∃ x,ls=[x]:=List.length_eq_one_iff.1 j;rw [qxG];obtain ⟨b,O,rfl,a3,a8,a5,L,af,be,M⟩:=d.at_ (k:=0) (by simp);rw [Nat.add_zero] at L;simp only [zB] at L af M;have a4:x.length<=100000:=by simpa using l
      have ⟨m,C⟩:=qE x.length;rw [<- C] at L af a4;have N:=qH (quC a8 m a5 x w C.symm M (by omega));have ac:=qH C;have ⟨ay,g⟩:=qE (qhe x);rw [<- g];have a1:=qH g;clear d l M C j z g ag
      go_enter func173,ntmps173
      go_wp2_with (first
        | (go_at_call 212; refine (N.o).mono ?_; rintro e av ⟨v, rfl, W, q⟩
           have ap:=qH W;have h:=qH q;clear W q)
        | (go_at_call 109; refine (quD w.heap.size v x _ ap.o h.o.size (by rw [<- ac.o]; omega)).mono ?_; rintro e aj ⟨rfl, y, i⟩
           have a6:=qH y;have t:=qH (h.o.trans i);clear y i)
        | (go_at_call 213; refine (quE w.heap.size v _ _ a6.o (by rw [List.length_mergeSort, <- ac.o]; omega)).mono ?_; rintro e w3 ⟨aw, rfl, r, p⟩
           have E:=qH r;have I:=qH (t.o.trans p);clear r p))
      go_ret;exact ⟨_,rfl,by rw [a1.o];exact E.o,I.o⟩
    · have bf:((n:Int)==0)=false:=by rw [nD];omega
      have bi:((n:Int)==1)=false:=by rw [nD];omega
      have ⟨a,a0⟩:=qE (n/2:Nat);have bb:(n:Int)/2=(a:Int):=by omega
      have az:0<a:=by omega
      have bd:a<n:=by omega
      obtain ⟨b,O,rfl,a3,a2⟩:=d.at_ (k:=0) (by omega);clear a2;have S:=d.cut a;have U:=d.drop a;have au:=qoR ls a;have F:=fun w' (K:wG w w')=>B (some ⟨b,O,none⟩) a c (ls.take a) w' (by rw [sA];omega) (by omega) (by omega) (by omega) G (S.later K) (by omega)
      have P:=fun w' (K:wG w w')=>B (some ⟨b,O+a,none⟩) (n-a) (c-a) (ls.drop a) w' (by rw [rB];omega) (by omega) (by omega) (by omega) (by omega) (U.later K) (by omega)
      have ai:=qkW (ls.take a);have ae:=qkW (ls.drop a);have s:qbo ls=qcG (qbo (ls.take a)) (qbo (ls.drop a)):=by rw [<- qxH,gD]
      have ⟨J,X⟩:=qE (qbo (ls.take a));have ⟨D,Y⟩:=qE (qbo (ls.drop a));rw [<- X] at F s ai;rw [<- Y] at P s ae;have a7:J.length+D.length<=1048576:=by omega
      have N:=qH F;have al:=qH P;have ⟨ay,g⟩:=qE (qbo ls);rw [<- g] at s;rw [<- g];have ao:=qH s;have bg:(0:Int)<=(a:Int):=by omega
      have bk:(a:Int)<=(n:Int):=by omega
      have bc:a<c:=by omega
      have ba:(a:Int)<=(c:Int):=by omega
      have bh:¬ c=a:=by omega
      clear a0 az S U au F P ai ae s X Y g d l B j z ag h1
      go_enter func173,ntmps173
      go_wp2
      go_region_held3 (fun w'=>True) (exact trivial)
        (first
          | (go_at_call 173; (with_reducible refine (N.o _ (by first | exact (bA _ _).drew | exact bA _ _)).mono ?_); rintro e av ⟨a9, rfl, T, q⟩
             have ak:=qH T;have h:=qH ((show wG w _ from (by first|exact (bA _ _).drew|exact bA _ _)).trans q)
             clear T q)
          | (go_at_call 173; (with_reducible refine (al.o _ (by first | exact h.o | exact h.o.drew)).mono ?_); rintro e aj ⟨bj, rfl, y, i⟩
             obtain ⟨ax,am,rfl,Q,ah,R⟩:=(ak.o.below i).room;obtain ⟨aq,an,rfl,ad,aa,V⟩:=y.room;have ar:=qH (qxA ax aq J.length am D.length an J D aj rfl rfl Q ah ad aa R V a7);have t:=qH (h.o.trans (i.mono h.o.size));clear y i Q ah R ad aa V)
          | (go_at_call 214; (with_reducible refine (ar.o).mono ?_); rintro e w3 ⟨aw, rfl, r, p⟩
             have E:=qH r;have I:=qH (t.o.trans (p.mono t.o.size));clear r p))
      go_wp2;go_ret;exact ⟨_,rfl,by rw [ao.o];exact E.o.low t.o.size,I.o⟩
def qxK (A:Option Addr) (n c:Nat) (ls:List (List Nm)) (w:World) (b:ls.length=n) (i:n<=1000) (d:n<=c) (g:c<=maxLen) (h:qco w w.heap.size A ls) (a:ls.flatten.length<=100000):
  yG 132 #[.slice A n c] w (qeE (qbo ls) w):=by
 have j:=qH (qxJ n A n c ls w b (aA _) i d g h a);clear h a b d g i
 go_enter func132,ntmps132
 go_wp2_with (go_at_call 173;refine (j.o).mono ?_;rintro e m ⟨v,rfl,l,k⟩)
 go_ret;exact ⟨_,rfl,l,k⟩
def qxL (ls:List (List Nm)) (w:World) (a i:Value) (wr:World):Prop:=
 ∃ k:Nat,k<=ls.length/\i= .int .i64 (k:Int)/\qaB w.heap.size wr a ((ls.take k).flatten.foldl qbw [])/\wG w wr
def qoT (ls:List (List Nm)) (x:List Nm) (i:Nat) (w:World) (b a:Value) (wr:World):Prop:=
 ∃ k:Nat,k<=x.length/\a= .int .i64 (k:Int)/\qaB w.heap.size wr b (((ls.take i).flatten++x.take k).foldl qbw [])/\wG w wr
def qxM (A:Option Addr) (n c:Nat) (ls:List (List Nm)) (w:World) (ac:ls.length=n) (D:qco w w.heap.size A ls) (ae:ls.flatten.length<=100000) (ai:n<=1000) (ad:∀ a∈ls,∀ x∈a,x.length<=1048576):
  yG 43 #[.slice A n c] w (qeE (qbo ls) w):=by
 subst ac;have T:=qH D;clear D ad
 go_enter func43,ntmps43
 go_wp2
 go_loopw [3,4] (qxL ls w) (fun _ i _=>ls.length-(intOf i).toNat)
 case atStart=>exact ⟨0,kA _,rfl,qaB.nil,bA _ _⟩
 case round=>
  obtain ⟨i,ah,rfl,d,b⟩:=hrel;by_cases v:i<ls.length
  ·obtain ⟨B,F,rfl,U,X,M,h,z,an,r⟩:=T.o.at_ v
   have y:=qoS v;have j:=fun k=>qxI v k
   have ⟨x,G⟩:=qE (ls[i]);rw [<- G] at h z r y j;have O:=qH y;have S:qI (∀ k,(((ls.take i).flatten++x.take k).foldl qbw []).length<=100000):=qH fun k=>by
    have h1:=qgA ((ls.take i).flatten++x.take k) [];have h2:=j k;simp only [vB,Nat.add_zero] at h1;omega
   have Q:=qH r;have K:x.length<=100000:=by
    have h1:=j x.length;rw [fC,iA] at h1;omega
   have ⟨m,q⟩:=qE x.length;rw [<- q] at h z K;have g:=qH q;have N:qI (qoT ls x i w u3 (.int .i64 ((0:Nat):Int)) wr):=qH ⟨0,kA _,rfl,by simpa using d,b⟩;have aa:qI (∀ w',wG w w'->w'.cell? ⟨B,F+i,none⟩=some (.slice X m M)):=qH fun w' Y=>(Y.cell (p:=⟨B,F+i,none⟩) U).trans h
   clear G y j r q d b h;go_wp2
   go_loopw [3,5] (qoT ls x i w) (fun _ k _=>m-(intOf k).toNat)
   case atStart=>exact N.o
   case round=>
    obtain ⟨k,E,rfl,d,b⟩:=hrel;rw [<- g.o] at E;have ag:=aa.o _ b;by_cases L:k<m
    ·have s:k<x.length:=by rw [<- g.o];exact L
     obtain ⟨af,ak,rfl,al,W⟩:=qdr (Q.o.below b) s;have ⟨t,I,C⟩:=qa8 x[k];rw [<- I] at W;have H:((ls.take i).flatten++x.take (k+1)).foldl qbw []=qbw (((ls.take i).flatten++x.take k).foldl qbw []) x[k]:=by
      rw [aB s,<- iB,fF];rfl
     have l:=qnW w.heap.size u3 _ t wr d b.size (by have :=S.o k;omega);rw [C,<- H] at l;have Z:=qH l;clear I C H l d s
     go_wp2_with (go_at_call 77;refine (Z.o).mono ?_;rintro e am ⟨aj,rfl,V,J⟩)
     go_roundw
     case rel=>exact ⟨k+1,by rw [<- g.o];omega,by go_num,V,b.trans (J.mono b.size)⟩
     case measure=>simp [intOf];omega
    ·have ab:k=m:=by omega
     have R:qI (qaB w.heap.size wr u3 ((ls.take (i+1)).flatten.foldl qbw [])):=qH (by
      rw [O.o];have e:x.take k=x:=nB (by rw [<- g.o];omega);rw [e] at d;exact d)
     clear d ab E;go_wp2;go_roundw
     case rel=>exact ⟨i+1,by omega,by go_num,R.o,b⟩
     case measure=>simp [intOf];omega
  ·have P:qI (qeE (qbo ls) w (.returned u3) wr):=qH ⟨_,rfl,by
    rw [nB (by omega)] at d;exact d,b⟩
   clear d b;go_wp2;go_ret;exact P.o
abbrev Fd:=Nm × Nm
abbrev Tm:=Nm × Nm
def qer (c:UInt8):Bool:=decide (97<=c.toNat)&&decide (c.toNat<=122)
def qbL (s:Nm):Bool:=s.all qer&&(decide (1<=s.length)&&decide (s.length<=12))
def qoU {s:Nm} (c:k<s.length) (a:qer s[k]=false):qbL s=false:=by
 rw [<- Bool.not_eq_true,qbL,xA];intro b;rw [nF.1 b.1 _ (pA c)] at a;cases a
def qoV {s:Nm} (b:∀ k (a:k<s.length),qer s[k]=true):qbL s=(decide (1<=s.length)&&decide (s.length<=12)):=by
 rw [qbL,nF.2 fun c d=>by obtain ⟨k,a,rfl⟩:=nC d;exact b k a,sD]
def qxN {s:Nm} (a:qbL s=true):(0:UInt8)∉s:=fun b=>by
 rw [qbL,xA] at a;exact absurd (nF.1 a.1 _ b) (by decide)
def qdH:List Nm->Nat->List Fd->Int
 |_,n,[]=>if 500<n then 7 else 0
 |seen,n,f::fs=>if qbL f.1=false then 4 else if f.1∈seen then 5 else if qbZ 0 (qaX f.2)≠0 then qbZ 0 (qaX f.2) else qdH (seen++[f.1]) (n+(qaX f.2).length) fs
def qbC (l:List Fd):Int:=if 8<l.length then 7 else qdH [] 0 l
def qbl:List Fd->Nm->List Nm
 |[],_=>[]
 |f::a,s=>if f.1=s then qaX f.2 else qbl a s
def qxO {l:List Fd} {s:Nm}:∀ {k:Nat} (a:k<l.length),(∀ j (b:j<l.length),j<k->l[j].1≠s)->l[k].1=s->qbl l s=qaX l[k].2:=by
 induction l with
 |nil=>intro k a;simp at a
 |cons f d c=>
  intro k a h1 h2;cases k with
  |zero=>exact eA h2
  |succ k=>
   have e:=h1 0 (by simp) (by omega);rw [zB] at e;rw [qbl,dA e];exact c (by simpa using a) (fun j b g=>by have :=h1 (j+1) (by simpa using b) (by omega);simpa using this) (by simpa using h2)
def qxP {l:List Fd} {s:Nm} (b:∀ j (a:j<l.length),l[j].1≠s):qbl l s=[]:=by
 induction l with
 |nil=>rfl
 |cons f d c=>
  have e:=b 0 (by simp);rw [zB] at e;rw [qbl,dA e];exact c fun j a=>by have :=b (j+1) (by simpa using a);simpa using this
def qb6:Nat->List Nm->Nm->List Int
 |_,[],_=>[]
 |i,y::l,x=>if y=x then (i:Int)::qb6 (i+1) l x else qb6 (i+1) l x
def qxQ {x:Nm} (a:k<l.length):qb6 i (l.drop k) x=if l[k]=x then (i:Int)::qb6 (i+1) (l.drop (k+1)) x else qb6 (i+1) (l.drop (k+1)) x:=by
 rw [yD a,qb6]
def qaZ (l:List Fd) (t:Tm):List Int:=qb6 0 (qbl l t.1) t.2
def qiD (x:Nm):∀ (l:List Nm) (i:Nat),(qb6 i l x).length<=l.length
 |[],_=>aA _
 |y::l,i=>by
  have :=qiD x l (i+1);rw [qb6];split<;>simp <;>omega
def qag (t:Tm):Nm:=qdT t.1 t.2
def atT (l:List Tm) (k:Nat):Tm:=l.getD k ([],[])
def qby (l:List Tm) (t:Tm):Nat->Nat
 |0=>0
 |k+1=>if qag t<qag (atT l k) then qby l t k else k+1
def qiE (l:List Tm) (t:Tm):∀ k,qby l t k<=k
 |0=>aA _
 |k+1=>by
  have :=qiE l t k;rw [qby];split<;>omega
def qoW {l:List Tm} {t:Tm}:∀ {k:Nat},0<qby l t k->¬ qag t<qag (atT l (qby l t k-1))
 |0,a=>by simp [qby] at a
 |k+1,a=>by
  by_cases b:qag t<qag (atT l k)
  ·have e:qby l t (k+1)=qby l t k:=by rw [qby,eA b]
   rw [e] at a ⊢;exact qoW a
  ·have e:qby l t (k+1)=k+1:=by rw [qby,dA b]
   rw [e];exact b
def qoX {l:List Tm} {t:Tm}:∀ {k j:Nat},qby l t k<=j->j<k->qag t<qag (atT l j)
 |0,j,_,h=>by omega
 |k+1,j,h1,h2=>by
  by_cases a:qag t<qag (atT l k)
  ·have e:qby l t (k+1)=qby l t k:=by rw [qby,eA a]
   rw [e] at h1;by_cases e:j=k
   ·subst e;exact a
   ·exact qoX h1 (by omega)
  ·have e:qby l t (k+1)=k+1:=by rw [qby,dA a]
   omega
def qgT (l:List Tm) (t:Tm) (k:Nat):Bool:=decide (0<k)&&decide (atT l (k-1)=t)
def qb7 (l:List Tm) (t:Tm):List Tm:=if qgT l t (qby l t l.length)=true then l else l.take (qby l t l.length)++t::l.drop (qby l t l.length)
def qas (l:List Fd):List Tm:=l.foldl (fun a f=>(qbl l f.1).foldl (fun b x=>qb7 b (f.1,x)) a) []
def qee (l:List Tm):Prop:=qaW (l.map qag)
def qe7 {l:List Tm} (a:k<l.length):atT l k=l[k]:=by rw [atT,mA,oA a];rfl
def qkX {s t:Tm} (b:qag s=qag t) (a:(0:UInt8)∉s.1) (h1:(0:UInt8)∉t.1):s=t:=by
 have ⟨d,c⟩:=qth b a h1;exact Prod.ext d c
def qkY {l:List Tm} {s t:Tm}:s∈qb7 l t↔s∈l\/s=t:=by
 unfold qb7;split
 ·rename_i h
  rw [qgT,xA,gC,gC] at h;have :=qiE l t l.length;have a:qby l t l.length-1<l.length:=by omega
  rw [qe7 a] at h;constructor
  ·exact .inl
  ·rintro (h1|rfl)
   ·exact h1
   ·rw [<- h.2];exact pA a
 ·rw [aC,wA]
  conv=>rhs;rw [<- gD (qby l t l.length) l,aC]
  constructor
  ·rintro (h|h|h)
   ·exact .inl (.inl h)
   ·exact .inr h
   ·exact .inl (.inr h)
  ·rintro ((h|h)|h)
   ·exact .inl h
   ·exact .inr (.inr h)
   ·exact .inr (.inl h)
def qxR {l:List Tm} (b:qee l) {i j:Nat} (a:j<l.length) (c:i<j):qag (atT l i)<qag (atT l j):=by
 have :=qeR b (i:=i) (j:=j) (by simpa using a) c;rwa [qe7 a,qe7 (by omega),<- eC qag,<- eC qag]
 all_goals simp <;>omega
def qxS {l:List Tm} {t:Tm} (m:qee l) (w:∀ s∈l,(0:UInt8)∉s.1) (h1:(0:UInt8)∉t.1):qee (qb7 l t):=by
 unfold qb7;split
 ·exact m
 ·rename_i n
  have ⟨k,h⟩:=qE (qby l t l.length);have A:=qiE l t l.length;have p:∀ j,k<=j->j<l.length->qag t<qag (atT l j):=fun j a b=>qoX (k:=l.length) (by omega) b
  have B:0<k->¬ qag t<qag (atT l (k-1)):=fun a=>by rw [h];exact qoW (by omega)
  rw [<- h] at n A;rw [<- h];have q:0<k->qag (atT l (k-1))<qag t:=fun a=>by
   rcases qey (qag (atT l (k-1))) (qag t) with e|e|e
   ·exact e
   ·refine absurd ?_ n
    rw [qgT,xA,gC,gC];have r:k-1<l.length:=by omega
    exact ⟨a,qkX e (by rw [qe7 r];exact w _ (pA r)) h1⟩
   ·exact absurd e (B a)
  unfold qee qaW;rw [jC,xB];have v:List.Pairwise (· <·) (l.map qag):=m;refine List.pairwise_append.2 ⟨?_,kC.2 ⟨?_,?_⟩,?_⟩
  ·exact v.sublist ((List.take_sublist k l).map qag)
  ·intro x c
   obtain ⟨s,d,rfl⟩:=tA.1 c;obtain ⟨j,g,rfl⟩:=nC d;rw [rB] at g;have :=p (k+j) (by omega) (by omega);rw [qe7 (by omega)] at this;rwa [List.getElem_drop]
  ·exact v.sublist ((List.drop_sublist k l).map qag)
  ·intro x c y hy
   obtain ⟨s,d,rfl⟩:=tA.1 c;obtain ⟨i,z,rfl⟩:=nC d;rw [sA] at z;have c:qag (atT l i)<qag t:=by
    by_cases e:i=k-1
    ·subst e;exact q (by omega)
    ·exact qdq (qxR m (i:=i) (j:=k-1) (by omega) (by omega)) (q (by omega))
   rw [qe7 (by omega)] at c;rw [List.getElem_take];rcases wA.1 hy with rfl|hy
   ·exact c
   ·obtain ⟨s,d,rfl⟩:=tA.1 hy
    obtain ⟨j,g,rfl⟩:=nC d;rw [rB] at g;have :=p (k+j) (by omega) (by omega);rw [qe7 (by omega)] at this;rw [List.getElem_drop];exact qdq c this
def qft (l:List Fd):Nat:=(l.map fun f=>(qbl l f.1).length).sum
def qhH (i:Nat):Nm:=[116+UInt8.ofNat i]
def qfU (i:Nat) (f:Fd):Fd:=(if qbL f.1=true then f.1 else qhH i,f.2.take 40)
def qc7 (l:List Fd):Nat->List Fd
 |0=>[]
 |k+1=>if qbC (qc7 l k++[qfU k (l.getD k ([],[]))])=0 then qc7 l k++[qfU k (l.getD k ([],[]))] else qc7 l k
def qfV (l:List Fd):List Fd:=qc7 l (min l.length 4)
def qoY (l:List Fd):∀ k,qbC (qc7 l k)=0
 |0=>rfl
 |k+1=>by
  rw [qc7];split
  ·rename_i a;exact a
  ·exact qoY l k
def qxT (l:List Fd):qbC (qfV l)=0:=qoY _ _
def qkZ (l:List Fd):∀ k,(qc7 l k).length<=k
 |0=>aA _
 |k+1=>by
  have :=qkZ l k;rw [qc7];split
  ·simp;omega
  ·omega
def qoZ (i:Nat) (f:Fd):(qfU i f).2.length<=40:=by simp [qfU];omega
def qiF (l:List Fd):∀ k,∀ f∈qc7 l k,f.2.length<=40
 |0,f,h=>by cases h
 |k+1,f,h=>by
  rw [qc7] at h;split at h
  ·rcases aC.1 h with h|h
   ·exact qiF l k f h
   ·rw [yB.1 h];exact qoZ _ _
  ·exact qiF l k f h
def qo0 (zz B:Nat) (l:List Hd) (w:World) (b:Value) (wr:World):Prop:=∃ (k:Nat) (a:List Hd),b= .int .i64 ((k:Int)-1)/\k<=l.length/\a.Perm l/\qfn qaD a l.length k/\HAt zz wr B a/\qaQ zz w wr
def qxU (zz B:Nat) (l:List Hd) (w:World) (i:HAt zz w B l) (G:l.length<=100000):
  yG 92 #[ifH B] w (qgl zz B l w):=by
 have ⟨F,D,r⟩:=i.len_;have m:=qH (show qo0 zz B l w (.int .i64 ((l.length:Int)/2-1)) w from ⟨l.length/2,l,by rw [show ((l.length/2:Nat):Int)=(l.length:Int)/2 by omega],by omega,.refl _,qu2 _ _,i,.refl _ _⟩)
 have n:=qH r;clear i r
 go_enter func92,ntmps92
 go_wp2_with (go_at_call 93;refine (n.o).mono ?_;rintro e p ⟨rfl,rfl⟩)
 go_loopw [3] (fun h wr=>qo0 zz B l p h wr) (fun h _=>(intOf h+1).toNat)
 case atStart=>exact m.o
 case round=>
  clear m D n;obtain ⟨k,q,rfl,H,a,d,b,c⟩:=hrel;have g:=a.length_eq;cases k with
  |zero=>
   have z:=qH (show ∀ v,qgl zz B l p (.returned v) wr from fun v=>⟨⟨v,rfl⟩,q,a,g▸d.all,b,c⟩)
   clear a d b c g;go_wp2
   go_end0
   exact z.o _
  |succ j=>
   have C:=qH (qoQ zz B j l.length j q wr b (by omega) (by omega) (by omega) d.down (aA _));have y:=qH a;have t:=qH c;clear a d b c g
   go_wp2_with (go_at_call 138;refine (C.o).mono ?_;rintro e I ⟨⟨v,rfl⟩,l2,A,E,x,s,_⟩)
   go_roundw
   case rel=>exact ⟨j,l2,by go_num,by omega,A.trans y.o,E,x,(t.o).trans s⟩
   case measure=>simp [intOf]
abbrev ifX (x:Hd):Value:= .iface 170 (.agg #[.int .i64 x.1,.int .i64 (x.2.1:Int),.int .i64 (x.2.2:Int)])
def qo1 (v:Value) (w:World):(Instr.typeAssert (.iface 170 v) 20 170 false).run prog w= .ok v w:=by kernel_rfl
def HAt.pushed {l:List Hd} {x:Hd} {o:Obj} (i:zz<=B) (c:w.heap[B]?=some (.cells #[v] 165 (0,0))) (g:w.ownsRow zz 170 3 v l.length (hds l))
  (d:((w.alloc o).drew).grownBy w' v.ownBlock) (j:w'.ownsRow zz 170 3 v' (l.length+1) (hds l++[.int .i64 x.1,.int .i64 (x.2.1:Int),.int .i64 (x.2.2:Int)])) (k:zz<=w.heap.size):
  w'.heap[B]?=some (.cells #[v] 165 (0,0))/\HAt zz (w'.setCell ⟨B,0,none⟩ v') B (l++[x])/\qaQ zz w (w'.setCell ⟨B,0,none⟩ v'):=by
 have h:=(gA.1 c).1;have b:wG w ((w.alloc o).drew):=((bA _ w).alloc (aA _) _).drew;have n:=qaf g b;have m:v.ownBlock≠some B:=fun e=>by
  have ⟨cs,a⟩:=qfO g e;rw [c] at a;injection a with a
  injection a with _ a
  exact absurd a (by decide)
 have h1:w'.heap[B]?=some (.cells #[v] 165 (0,0)):=by
  rw [d.block B (tB h b.size) (fun e=>m e.symm),b.block B h,c]
 have p:v'.ownBlock≠some B:=fun e=>by
  have ⟨cs,a⟩:=qfO j e;rw [h1] at a;injection a with a
  injection a with _ a
  exact absurd a (by decide)
 refine ⟨h1,⟨i,v',rG h1,?_⟩,?_⟩
 ·rw [iA,qiq]
  exact pG j p _
 ·exact ((qaQ.of_below b k).trans (qaQ.grownOwn n (.inl rfl) d (lA k b.size))).trans (qaQ.setCell h1 (.inr rfl) i v')
def qxV (zz B:Nat) (l:List Hd) (x:Hd) (w:World) (H:HAt zz w B l) (z:l.length<=1000000) (j:zz<=w.heap.size):
    yG 281 #[.pointer (some ⟨B,0,none⟩),ifX x] w fun e w'=>(∃ v,e= .returned v)/\HAt zz w' B (l++[x])/\qaQ zz w w':=by
  have ⟨J,L,E,F,C⟩:=lG qof;obtain ⟨y,v,c,m⟩:=H;have I:=(gA.1 c).1;have K:=kG c;have Q:∀ o,(w.alloc o).cell? ⟨B,0,none⟩=some v:=fun o=>(((bA w.heap.size w).alloc (aA _) o).cell (p:=⟨B,0,none⟩) I).trans K
  have G:=qH c;have r:=qH m;have i:=qH j;obtain ⟨d,b,a⟩:=x;have ⟨n,h⟩:=qE l.length;have g:=qH h;rw [<- h] at z;have U:=qo1 (.agg #[.int .i64 d,.int .i64 (b:Int),.int .i64 (a:Int)]);clear c m h j
  go_enter func281,ntmps281
  go_upto_region 0 with fail
  go_region_law (first
      | (refine step_append_lies _ (by rfl) _ _ _ (by rfl) zz 170 J _ 3 24 underlying165 L E F C rfl (by omega) v n (hds l) (by rfl) ((g.o ▸ r.o.alloc _).drew)
          ⟨w.heap.size,0,none⟩ 1 1 [.int .i64 d,.int .i64 (b:Int),.int .i64 (a:Int)] (by rfl) (by rfl) (World.news_of_block (cs:=#[.int .i64 d,.int .i64 (b:Int),.int .i64 (a:Int)]) (t:=170) (fr:=(0,0)) (jA w _)) (by intro u hu;simp at hu;rcases hu with hu|hu|hu<;>(subst hu;rfl))
          (by omega) (by unfold maxLen;omega) (by omega) (by have :=i.o;simp;omega) (w.heap.size+1) (by simp) ?_
         intro S N T D A M R;have ⟨s,k,q⟩:=HAt.pushed (x:=(d,b,a)) y G.o r.o A (g.o▸D) i.o;have P:=kG s;have O:=nG s))
  all_goals
    rw [<- g.o] at k q
    go_end0
    exact ⟨⟨_,rfl⟩,k,q⟩
def qxW (zz B:Nat) (l:List Hd) (x:Hd) (w:World) (d:HAt zz w B (l++[x])) (F:l.length<=1000000):
  yG 280 #[.pointer (some ⟨B,0,none⟩)] w fun e w'=>e= .returned (ifX x)/\HAt zz w' B l/\qaQ zz w w':=by
 have K:=d.lt;have s:=d.1;have ⟨g,c,a,q2,q3,H,G,b,i,h⟩:=d.at_ (k:=l.length) (by simp);have r:(l++[x])[l.length]'(by simp)=x:=by simp
 rw [r] at b i h;have y:(l++[x]).length=l.length+1:=by simp
 rw [y] at a q2 q3;have hcut:=qvq q2 (m:=l.length) (by omega);rw [qiq,wF (by rw [qip];omega),nB (by rw [qip];omega)] at hcut;have D:=(q2.lt g rfl).2;have L:=kG a;have j:∀ o,wG w (w.alloc o):=fun o=>(bA w.heap.size w).alloc (aA _) o
 have q:∀ o,(w.alloc o).heap[B]?=some (.cells #[.slice (some ⟨g,0,none⟩) (l.length+1) c] 165 (0,0)):=fun o=>((j o).block B K).trans a
 have E:=fun o=>kG (q o)
 have M:=fun o=>nG (q o)
 have A:HAt zz (w.setCell ⟨B,0,none⟩ (.slice (some ⟨g,0,none⟩) l.length c)) B l:=⟨s,_,rG a,pG hcut (by simpa [Value.ownBlock] using G) _⟩;have z:∀ o,HAt zz ((w.setCell ⟨B,0,none⟩ (.slice (some ⟨g,0,none⟩) l.length c)).alloc o) B l/\qaQ zz w ((w.setCell ⟨B,0,none⟩ (.slice (some ⟨g,0,none⟩) l.length c)).alloc o):=fun o=>by
  have I:(w.setCell ⟨B,0,none⟩ (.slice (some ⟨g,0,none⟩) l.length c)).heap.size=w.heap.size:=by simp [World.setCell]
  have v:=(bA _ (w.setCell ⟨B,0,none⟩ (.slice (some ⟨g,0,none⟩) l.length c))).alloc (aA _) o;exact ⟨A.below v,(qaQ.setCell a (.inr rfl) s _).trans (qaQ.of_below v (by rw [I];omega))⟩
 have t:=qH z;obtain ⟨J,O,Q⟩:=x;have ⟨n,C⟩:=qE l.length;rw [<- C] at F L E b i h t q3;have P:∀ o,(w.alloc o).cell? ⟨g,n*3,none⟩=some (.int .i64 J):=fun o=>((j o).cell (p:=⟨g,n*3,none⟩) D).trans b
 unfold maxLen at H;clear C hcut q j z A a q2 r y d;simp only at b i h
 go_enter func280,ntmps280
 go_wp2_with (go_at_call 93;refine (qgN _ _ _ _).mono ?_;rintro e N ⟨rfl,rfl⟩)
 go_ret;exact ⟨rfl,t.o _⟩
def qxX (zz B:Nat) (l:List Hd) (x:Hd) (w:World) (c:HAt zz w B l) (p:l.length<=100000) (h:qb5 qaD l l.length):
  yG 95 #[ifH B,ifX x] w (qgl zz B (l++[x]) w):=by
 have q:zz<=w.heap.size:=by have :=c.1;have :=c.lt;omega
 have y:=qH (qxV zz B l x w c (by omega) q);have G:=qww B w;have ⟨n,g⟩:=qE l.length;have b:=qH g;have j:=qH h;rw [<- g] at p;clear c g h
 go_enter func95,ntmps95
 go_wp2_with first
  |(go_at_call 139;refine (z.o).mono ?_;rintro e w3 ⟨⟨E,rfl⟩,t,v,m,i,k⟩)
  |(go_at_call 93;refine (a.o).mono ?_;rintro e H ⟨rfl,rfl⟩)
  |(go_at_call 281;refine (y.o).mono ?_;rintro e s ⟨⟨A,rfl⟩,d,r⟩;have ⟨F,C,a⟩:=d.len_;have z:=qH (qye zz B n (l++[x]) s d (by rw [b.o];simp) (by have :=b.o;simp;omega) (by rw [b.o];exact (j.o).put x));rw [iA,bB,<- b.o] at a;rw [show ((n+1:Nat):Int)=(n:Int)+1 by omega] at a;have a:=qH a;have D:=qH d;clear d)
 go_end0
 exact ⟨⟨_,rfl⟩,t,v,m,i,r.trans k⟩
def qxY (zz B:Nat) (l:List Hd) (w:World) (e:Ending) (w':World):Prop:=∃ x a,e= .returned (ifX x)/\(x::a).Perm l/\l[0]?=some x/\qb5 qaD a a.length/\HAt zz w' B a/\qaQ zz w w'
def qxZ {l l2:List Hd} (h:m=l.length-1) (b:0<l.length) (d:m<l.length) (g:l2.Perm (qcv l 0 m b d)) (e:l2[m]?=(qcv l 0 m b d)[m]?) (k:qfn qaD l2 m 0):
  ∃ x a,l2=a++[x]/\a.length=m/\l[0]?=some x/\(x::a).Perm l/\qb5 qaD a a.length:=by
 subst h;have p:l2.length=l.length:=by rw [g.length_eq,qe1]
 have n:(qcv l 0 (l.length-1) b (by omega))[l.length-1]?=some l[0]:=by
  rw [oA (by rw [qe1];omega),qeF,eA rfl]
 rw [n,oA (by omega),jB] at e;have c:l2=l2.take (l.length-1)++[l[0]]:=by
  have :=aB (l:=l2) (i:=l.length-1) (by omega);rw [show l.length-1+1=l.length by omega,nB (by omega),e] at this;exact this
 have h3:(l2.take (l.length-1)).length=l.length-1:=by rw [sA];omega
 refine ⟨l[0],l2.take (l.length-1),c,h3,oA b,?_,?_⟩
 ·refine (List.perm_append_singleton _ _).symm.trans ?_
  rw [<- c];exact g.trans (qhs b (by omega))
 ·have j:qb5 qaD (l2.take (l.length-1)++[l[0]]) (l2.take (l.length-1)).length:=by
   rw [<- c,h3];exact k.all
  exact j.init
def qx0 {l:List Hd} (c:m=l.length-1) (a:0<l.length) (d:m<l.length) (b:qb5 qaD l l.length):qep qaD (qcv l 0 m a d) 0 m 0:=by
 subst c;exact b.popF a
def qx1 (zz B:Nat) (l:List Hd) (w:World) (k:HAt zz w B l) (b:0<l.length) (z:l.length<=100000) (E:qb5 qaD l l.length):
  yG 94 #[ifH B] w (qxY zz B l w):=by
 have ⟨m,g⟩:=qE (l.length-1);have a:m<l.length:=by omega
 have ⟨U,ad,n⟩:=k.len_;have ⟨ac,V,j⟩:=k.swaps b a;rw [show (l.length:Int)=(m:Int)+1 by omega] at n;have r:=qe1 (l:=l) b a;have A:qep qaD (qcv l 0 m b a) 0 m 0:=qx0 g b a E;have q:=fun l2=>qxZ (l:=l) (l2:=l2) g b a
 rw [show ((0:Nat):Int)=0 from rfl] at j
 have H:=qH j;have N:=qH n;have S:=qH q;have O:=qH A;have p:=qH r;have G:=qH g;have X:m<=100000:=by omega
 clear E k q A r g n j;have M:=qH z;clear z
 go_enter func94,ntmps94
 go_wp2_with first
  |(go_at_call 280;refine (I.o).mono ?_;rintro e W ⟨rfl,P,L⟩)
  |(go_at_call 138;refine (i.o).mono ?_;rintro e w3 ⟨⟨aa,rfl⟩,l2,D,F,s,R,v⟩;have ⟨x,C,y,J,h,c,d⟩:=S.o l2 D (v m (aA _)) F;have I:=qH (qxW zz B C x w3 (y▸s) (by have :=G.o;omega));have Z:=qwv B w3;have Q:=qH (And.intro h (And.intro c d));clear y J h c d D F v s)
  |(go_at_call 279;refine (H.o).mono ?_;rintro e T ⟨⟨Y,rfl⟩,t,K⟩;have i:=qoQ zz B 0 m 0 _ T t (kA _) (by rw [p.o];omega) (by rw [p.o];have :=M.o;omega) O.o (kA _);rw [show ((0:Nat):Int)=0 from rfl] at i;have i:=qH i;clear t)
  |(go_at_call 93;refine (N.o).mono ?_;rintro e ab ⟨rfl,rfl⟩)
 go_ret;have ⟨h,c,d⟩:=Q.o;exact ⟨x,C,rfl,c,h,d,P,(K.trans R).trans L⟩
def qx2 (s:ByteArray) (w:World) (ae:s.size<=268435456):
  yG 102 #[.string s] w (qfS (qaX s.data.toList) w):=by
 have ⟨W,Y,T,V,S⟩:=lG qoM;have K:=qmX s.data.toList;have X:s.data.toList.length=s.size:=wC;rw [X] at K
 go_enter func102,ntmps102
 go_wp2_with (go_at_call 144;refine (qoH s _ (by omega)).mono ?_)
 rintro e I ⟨v,rfl,h,D⟩;obtain ⟨A,c,rfl,_,y⟩:=qaK h;have ⟨ws,q⟩:=qE (qaX s.data.toList);rw [<- q] at y K;rw [<- q];have t:qI (∀ e w',qfS ws w e w'->qfS (qaX s.data.toList) w e w'):=by rw [<- q];exact fun _ _ m=>m
 have l:=qH D;have M:=qH y;clear q D h y;go_wp2
 go_loopw [2,3,5,6] (fun a b o i wr=>qoN ws I a b o i wr) (fun _ _ _ i _=>ws.length-(intOf i).toNat)
 case atStart=>exact ⟨0,_,rfl,rfl,rfl,kA _,by omega,rfl,vA _ _ _ _,bA _ _,rfl⟩
 case round=>
  obtain ⟨k,af,rfl,rfl,rfl,ab,ah,rfl,h,n,r⟩:=hrel;by_cases B:k<ws.length
  ·have ⟨Z,ac,Q,_,R⟩:=qjL (M.o.below n) B
   subst Q;have d:=qoL B;have z:=qoK B;have ⟨p,x⟩:=qE (⟨ws[k].toArray⟩:ByteArray);have G:ws[k].length=p.size:=by rw [x];simp [ByteArray.size]
   rw [<- x] at R z;rw [G,r] at d;clear x G r;have N:=qH z;clear z;have ag:=n.size;by_cases L:30<p.size
   ·rw [eA L] at d
    have g:=qH d;clear d;go_wp2;go_ret2;exact t.o _ _ ⟨_,by rw [g.o];rfl,fun m=>by rw [g.o] at m;omega,fun _=>rfl,l.o.trans (n.mono l.o.size)⟩
   ·rw [dA L] at d
    by_cases O:k=500
    ·rw [eA (by omega)] at d
     have g:=qH d;subst O;clear d;go_wp2;go_ret2;exact t.o _ _ ⟨_,by rw [g.o];rfl,fun m=>by rw [g.o] at m;omega,fun _=>rfl,l.o.trans (n.mono l.o.size)⟩
    ·rw [dA (by omega)] at d
     have g:=qH d;clear d;have ai:(k:Int)<500:=by omega
     have aa:¬ (500:Int)<=k:=by omega
     go_wp2_with (at_builtin;refine wB _ rfl (.tmp 23) (.tmp 30) 187 rfl I.heap.size 245 W _ 2 24 underlying187 Y T V S rfl (by omega) _ k (qeq 0 (ws.take k)) rfl (h.alloc _) ⟨wr.heap.size,0,none⟩ 1 1 [.string p,.int .i64 k] rfl rfl (qaH wr [.string p,.int .i64 k] 245) (by intro u hu;simp at hu;rcases hu with hu|hu<;>(subst hu;rfl)) (by unfold maxLen;omega) (by omega) (by simp;omega) ?_)
     intro v' ad C H _;have U:=(n.alloc (by omega) _).grown H (by simp;omega) (fun j P=>(h.lt j P).1);rw [<- N.o] at C;clear H;go_wp2;go_roundw
     case rel=>exact ⟨k+1,_,rfl,rfl,rfl,by omega,by omega,by go_num,C,U,g.o.symm⟩
     case measure=>simp [intOf];omega
  ·have F:k=ws.length:=by omega
   have E:qbZ 0 ws=0:=by rw [<- r,pC (by omega)];rfl
   rw [F,fC] at h;have J:=qH E;clear r E F;go_wp2;go_ret2;exact t.o _ _ ⟨_,by rw [J.o];rfl,fun _=>qbk h l.o.size,fun m=>absurd J.o m,l.o.trans (n.mono l.o.size)⟩
def flds:List Fd->List Value
 |[]=>[]
 |f::l=> .string ⟨f.1.toArray⟩:: .string ⟨f.2.toArray⟩::flds l
def qfW:∀ l:List Fd,(flds l).length=l.length*2
 |[]=>rfl
 |f::l=>by simp only [flds,nA,qfW l];omega
def qhI:∀ a b:List Fd,flds (a++b)=flds a++flds b
 |[],_=>rfl
 |f::a,b=>by simp [flds,qhI a b]
def qk0:∀ {l:List Fd} {k:Nat} (b:k<l.length),(flds l)[k*2]?=some (.string ⟨l[k].1.toArray⟩)/\(flds l)[k*2+1]?=some (.string ⟨l[k].2.toArray⟩)
 |[],_,a=>by simp at a
 |f::l,0,_=>⟨rfl,rfl⟩
 |f::l,k+1,a=>by
  have :=qk0 (l:=l) (k:=k) (by simpa using a);rw [show (k+1)*2=k*2+1+1 by omega];simpa [flds] using this
def qo2:∀ (l:List Fd) (k:Nat),flds (l.take k)=(flds l).take (k*2)
 |l,0=>by simp [flds]
 |[],k+1=>by simp [flds]
 |f::l,k+1=>by rw [show (k+1)*2=k*2+1+1 by omega];simp [flds,qo2 l k]
def qiG:∀ (l:List Fd),∀ u∈flds l,u.oneCell'=true
 |[],u,h=>by cases h
 |f::l,u,h=>by
  simp only [flds,wA] at h;rcases h with rfl|rfl|h
  ·rfl
  ·rfl
  ·exact qiG l u h
def qap (w:World) (B:Nat) (A:Option Addr) (l:List Fd):Prop:=Row w B A (flds l)
def qap.below {l:List Fd} (a:qap w B A l) (b:Below B w w'):qap w' B A l:=Row.below a b
def qap.more {B':Nat} {l:List Fd} (a:qap w B A l) (b:B<=B'):qap w B' A l:=Row.more a b
def qap.nil:qap w B A []:=Row.nil
def qap.later {l:List Fd} (b:qap w w.heap.size A l) (a:wG w w'):qap w' w'.heap.size A l:=(b.below a).more a.size
def qap.at_ {l:List Fd} (g:qap w B A l) {k:Nat} (h:k<l.length):
  ∃ b a,A=some ⟨b,a,none⟩/\b<B/\w.cell? ⟨b,a+k*2,none⟩=some (.string ⟨l[k].1.toArray⟩)/\w.cell? ⟨b,a+k*2+1,none⟩=some (.string ⟨l[k].2.toArray⟩):=by
 obtain ⟨b,a,rfl,e,c⟩:=Row.at_ g (by rw [qfW];omega);have ⟨i,d⟩:=qk0 h;exact ⟨b,a,rfl,e,c _ _ i,by have :=c _ _ d;rwa [<- uB] at this⟩
abbrev qb8 (id:Int) (A:Option Addr) (n c:Nat):Value:= .agg #[.int .i64 id,.slice A n c]
theorem qo3:(prog.info? 121).map (fun i=>(i.zero,i.size,i.bytes))=some (some (.agg #[.string ByteArray.empty,.string ByteArray.empty]),2,32):=by kernel_rfl
def qcp (s:Nm):Nat->List Nm->List (Tm × Int)
 |_,[]=>[]
 |i,x::l=>((s,x),(i:Int))::qcp s (i+1) l
def qo4 (s:Nm):∀ (l:List Nm) (i:Nat) (x:Nm),qcp s i (l++[x])=qcp s i l++[((s,x),((i+l.length:Nat):Int))]
 |[],i,x=>rfl
 |y::l,i,x=>by
  rw [bC,qcp,qcp,qo4 s l (i+1) x,bC,nA,uB,Nat.add_comm 1]
def qx3 (s:Nm) {l:List Nm} {k:Nat} (a:k<l.length):qcp s 0 (l.take (k+1))=qcp s 0 (l.take k)++[((s,l[k]),(k:Int))]:=by
 rw [aB a,qo4,sA,kB,eD (by omega)]
def qhJ (s:Nm):∀ (l:List Nm) (i:Nat),(qcp s i l).length=l.length
 |[],_=>rfl
 |x::l,i=>by rw [qcp,nA,qhJ s l,nA]
def qba:List Fd->List (Tm × Int)
 |[]=>[]
 |f::l=>qcp f.1 0 (qaX f.2)++qba l
def qo5:∀ (l:List Fd) (f:Fd),qba (l++[f])=qba l++qcp f.1 0 (qaX f.2)
 |[],f=>by simp [qba]
 |g::l,f=>by rw [bC,qba,qba,qo5 l f,iB]
def qx4 {l:List Fd} (a:k<l.length):qba (l.take (k+1))=qba (l.take k)++qcp l[k].1 0 (qaX l[k].2):=by
 rw [aB a,qo5]
abbrev Gr:=Tm × List Int
def qbT:List Gr->Tm->Int->List Gr
 |[],t,a=>[(t,[a])]
 |p::g,t,a=>if p.1=t then (p.1,p.2++[a])::g else p::qbT g t a
def qc8 (s:List (Tm × Int)):List Gr:=s.foldl (fun g p=>qbT g p.1 p.2) []
def qx5 (s:List (Tm × Int)) (t:Tm) (a:Int):qc8 (s++[(t,a)])=qbT (qc8 s) t a:=by
 unfold qc8;rw [fF];rfl
def qbs:List Gr->Tm->List Int
 |[],_=>[]
 |p::g,t=>if p.1=t then p.2 else qbs g t
def qo6 (t u:Tm) (a:Int):∀ g:List Gr,qbs (qbT g t a) u=if t=u then qbs g u++[a] else qbs g u
 |[]=>by by_cases b:t=u<;>simp [qbT,qbs,b]
 |p::g=>by
  rw [qbT];by_cases h1:p.1=t
  ·rw [eA h1,qbs,qbs]
   by_cases h2:t=u
   ·rw [eA h2,eA (h1.trans h2),eA (h1.trans h2)]
   ·rw [dA h2,dA (fun e=>h2 (h1.symm.trans e)),dA (fun e=>h2 (h1.symm.trans e))]
  ·rw [dA h1,qbs,qbs,qo6 t u a g]
   by_cases h2:p.1=u
   ·rw [eA h2,eA h2,dA (fun e=>h1 (h2.trans e.symm))]
   ·rw [dA h2,dA h2]
def qdI (s:List (Tm × Int)) (t:Tm):List Int:=(s.filter fun p=>decide (p.1=t)).map (·.2)
def qo7 (t:Tm):∀ (s:List (Tm × Int)) (g:List Gr),qbs (s.foldl (fun g p=>qbT g p.1 p.2) g) t=qbs g t++qdI s t
 |[],g=>by simp [qdI]
 |p::s,g=>by
  rw [wE,qo7 t s,qo6];unfold qdI;by_cases a:p.1=t<;>simp [a]
def qo8 (s:List (Tm × Int)) (t:Tm):qbs (qc8 s) t=qdI s t:=by
 rw [qc8,qo7];rfl
def qk1 (t:Tm) (a:Int):∀ g:List Gr,(qbT g t a).map (·.1)=if t∈g.map (·.1) then g.map (·.1) else g.map (·.1)++[t]
 |[]=>rfl
 |p::g=>by
  have c:=qk1 t a g;rw [qbT];by_cases b:p.1=t
  ·rw [eA b,eA (by simp [b])]
   rfl
  ·rw [dA b,xB,c,xB]
   by_cases h2:t∈g.map (·.1)
   ·rw [eA h2,eA (oB _ h2)]
   ·rw [dA h2,dA]
    ·rfl
    ·intro h3
     rcases wA.1 h3 with h3|h3
     ·exact b h3.symm
     ·exact h2 h3
def qx6 {g:List Gr} (b:(g.map (·.1)).Nodup) (t:Tm) (a:Int):((qbT g t a).map (·.1)).Nodup:=by
 rw [qk1];split
 ·exact b
 ·rename_i d
  rw [List.nodup_append];exact ⟨b,by simp,fun x h y c e=>d (by rw [yB] at c;rw [<- c,<- e];exact h)⟩
def qk2:∀ (s:List (Tm × Int)) (g:List Gr),(g.map (·.1)).Nodup->((s.foldl (fun g p=>qbT g p.1 p.2) g).map (·.1)).Nodup/\∀ t,t∈(s.foldl (fun g p=>qbT g p.1 p.2) g).map (·.1)↔t∈g.map (·.1)\/t∈s.map (·.1)
 |[],g,h=>⟨h,by simp⟩
 |p::s,g,h=>by
  have ⟨h1,h2⟩:=qk2 s (qbT g p.1 p.2) (qx6 h _ _);refine ⟨h1,fun t=> ?_⟩;rw [wE,h2,qk1,xB,wA];split
  ·rename_i a
   constructor
   ·rintro (h|h)
    ·exact .inl h
    ·exact .inr (.inr h)
   ·rintro (h|rfl|h)
    ·exact .inl h
    ·exact .inl a
    ·exact .inr h
  ·rw [aC,yB,or_assoc]
def qx7 (s:List (Tm × Int)):((qc8 s).map (·.1)).Nodup:=(qk2 s [] (by simp)).1
def qo9 (s:List (Tm × Int)) (t:Tm):t∈(qc8 s).map (·.1)↔t∈s.map (·.1):=by
 rw [qc8,(qk2 s [] (by simp)).2];simp
def qd1 (l:List Fd):Prop:=l.Pairwise fun f g=>f.1≠g.1
def qiH {l:List Fd} (a:qd1 l) {f:Fd} (hf:f∈l):qbl l f.1=qaX f.2:=by
 induction l with
 |nil=>cases hf
 |cons g l b=>
  rw [qd1,kC] at a;rw [qbl];rcases wA.1 hf with rfl|hf
  ·exact eA rfl
  ·rw [dA (a.1 f hf)]
   exact b a.2 hf
def qpa {l:List Fd} {s:Nm} (a:∀ f∈l,f.1≠s):qbl l s=[]:=by
 induction l with
 |nil=>rfl
 |cons g l c=>
  rw [qbl,dA (a g (eB ..))];exact c fun f b=>a f (oB _ b)
def qx8 (a b:List (Tm × Int)) (t:Tm):qdI (a++b) t=qdI a t++qdI b t:=by simp [qdI]
def qpb (s:Nm) (t:Tm):∀ (l:List Nm) (i:Nat),qdI (qcp s i l) t=if s=t.1 then qb6 i l t.2 else []
 |[],i=>by simp [qcp,qdI,qb6]
 |x::l,i=>by
  have a:=qpb s t l (i+1);rw [qcp];unfold qdI at a ⊢;rw [List.filter_cons];obtain ⟨c,b⟩:=t;simp only [lD] at a ⊢;by_cases h1:s=c
  ·rw [eA h1] at a ⊢
   rw [qb6];by_cases h2:x=b
   ·rw [eA h2,eA (by simp [h1,h2]),xB,a]
   ·rw [dA h2,dA (by simp [h2]),a]
  ·rw [dA h1] at a ⊢
   rw [dA (by simp [h1]),a]
def qpc {l:List Fd} (a:qd1 l) (t:Tm):qdI (qba l) t=qaZ l t:=by
 induction l with
 |nil=>rfl
 |cons f l c=>
  rw [qd1,kC] at a;rw [qba,qx8,qpb,c a.2];unfold qaZ;rw [qbl];by_cases h1:f.1=t.1
  ·rw [eA h1,eA h1,qpa (fun g b e=>a.1 g b (h1.trans e.symm)),qb6,mC]
  ·rw [dA h1,dA h1,lC]
def qpd (s:Nm) (t:Tm):∀ (l:List Nm) (i:Nat),t∈(qcp s i l).map (·.1)↔t.1=s/\t.2∈l
 |[],i=>by simp [qcp]
 |x::l,i=>by
  rw [qcp,xB,wA,qpd s t l,wA];obtain ⟨b,a⟩:=t;simp only [lD];constructor
  ·rintro (⟨h1,h2⟩|⟨h1,h2⟩)
   ·exact ⟨h1,.inl h2⟩
   ·exact ⟨h1,.inr h2⟩
  ·rintro ⟨h1,h2|h2⟩
   ·exact .inl ⟨h1,h2⟩
   ·exact .inr ⟨h1,h2⟩
def qgU (t:Tm):∀ l:List Fd,t∈(qba l).map (·.1)↔∃ f∈l,t.1=f.1/\t.2∈qaX f.2
 |[]=>by simp [qba]
 |f::l=>by rw [qba,jC,aC,qpd,qgU t l];simp
def qk3 (s:Nm) (t:Tm):∀ (ws:List Nm) (a:List Tm),t∈ws.foldl (fun b x=>qb7 b (s,x)) a↔t∈a\/(t.1=s/\t.2∈ws)
 |[],a=>by simp
 |x::ws,a=>by
  rw [wE,qk3 s t ws,qkY,wA];obtain ⟨e,d⟩:=t;simp only [lD];constructor
  ·rintro ((c|⟨h1,h2⟩)|⟨h1,h2⟩)
   ·exact .inl c
   ·exact .inr ⟨h1,.inl h2⟩
   ·exact .inr ⟨h1,.inr h2⟩
  ·rintro (c|⟨h1,h2|h2⟩)
   ·exact .inl (.inl c)
   ·exact .inl (.inr ⟨h1,h2⟩)
   ·exact .inr ⟨h1,h2⟩
def qpe (l:List Fd) (t:Tm):∀ (m:List Fd) (a:List Tm),t∈m.foldl (fun a f=>(qbl l f.1).foldl (fun b x=>qb7 b (f.1,x)) a) a↔t∈a\/∃ f∈m,t.1=f.1/\t.2∈qbl l f.1
 |[],a=>by simp
 |f::m,a=>by
  rw [wE,qpe l t m,qk3];simp [or_assoc]
def qhK {l:List Fd} (b:qd1 l) (t:Tm):t∈qas l↔t∈(qba l).map (·.1):=by
 rw [qas,qpe,qgU];simp only [List.not_mem_nil,false_or];constructor
 ·rintro ⟨f,a,h1,h2⟩;exact ⟨f,a,h1,by rwa [qiH b a] at h2⟩
 ·rintro ⟨f,a,h1,h2⟩;exact ⟨f,a,h1,by rwa [qiH b a]⟩
def qfX (l:List Fd):Prop:=∀ f∈l,(0:UInt8)∉f.1
def qpf {s:Nm} (c:(0:UInt8)∉s):∀ (ws:List Nm) (a:List Tm),qee a->(∀ t∈a,(0:UInt8)∉t.1)->qee (ws.foldl (fun b x=>qb7 b (s,x)) a)
 |[],a,e,_=>e
 |x::ws,a,e,g=>qpf c ws _ (qxS e g c) fun t d=>by
  rcases qkY.1 d with d|rfl
  ·exact g t d
  ·exact c
def qpg (l:List Fd):∀ (m:List Fd) (a:List Tm),qfX m->qee a->(∀ t∈a,(0:UInt8)∉t.1)->qee (m.foldl (fun a f=>(qbl l f.1).foldl (fun b x=>qb7 b (f.1,x)) a) a)
 |[],a,_,e,_=>e
 |f::m,a,d,e,h=>qpg l m _ (fun g i=>d g (oB _ i)) (qpf (d f (eB ..)) _ _ e h) fun t c=>by
  rcases (qk3 f.1 t _ _).1 c with c|⟨c,_⟩
  ·exact h t c
  ·rw [c];exact d f (eB ..)
def qph {l:List Fd} (a:qfX l):qee (qas l):=qpg l l [] a (by simp [qee,qaW]) (by simp)
def qpi {l:List Fd} (d:qd1 l) (a:qfX l) {t:Tm} (b:t∈qas l):(0:UInt8)∉t.1:=by
 have ⟨f,c,h1,_⟩:=(qgU t l).1 ((qhK d t).1 b);rw [h1];exact a f c
def qx9 {l:List Fd} (h:qd1 l) (b:qfX l) {ts:List Tm} (n:ts.Perm ((qc8 (qba l)).map (·.1))) (v:ts.Pairwise fun s t=>¬ qag t<qag s):ts=qas l:=by
 have m:∀ t,t∈ts↔t∈qas l:=fun t=>by rw [n.mem_iff,qo9,qhK h]
 have d:∀ t∈ts,(0:UInt8)∉t.1:=fun t a=>qpi h b ((m t).1 a)
 have r:ts.Nodup:=n.nodup_iff.2 (qx7 _);have q:qee ts:=by
  unfold qee qaW;rw [aD];have h1:ts.Pairwise fun s t=>s∈ts/\t∈ts/\s≠t:=by
   rw [dC];intro i j w p z;exact ⟨pA w,pA p,fun e=>by have :=(List.getElem_inj r).1 e;omega⟩
  refine (v.and h1).imp fun {s t} x=> ?_
  obtain ⟨h2,h3,c,g⟩:=x;rcases qey (qag s) (qag t) with e|e|e
  ·exact e
  ·exact absurd (qkX e (d s h3) (d t c)) g
  ·exact absurd e h2
 have h2:ts.map qag=(qas l).map qag:=qhd q (qph b) fun k=>by
  simp only [tA];constructor
  ·rintro ⟨t,a,rfl⟩;exact ⟨t,(m t).1 a,rfl⟩
  ·rintro ⟨t,a,rfl⟩;exact ⟨t,(m t).2 a,rfl⟩
 have y:ts.length=(qas l).length:=by simpa using congrArg List.length h2
 refine dD y fun i h3 c=> ?_
 refine qkX ?_ (d _ (pA h3)) (qpi h b (pA c));have g:=List.getElem_of_eq h2 (i:=i) (by simpa using h3);simpa using g
def qpj {l:List Fd} (c:qd1 l):(qba l).length=qft l:=by
 have h1:∀ m:List Fd,(∀ f∈m,f∈l)->(qba m).length=(m.map fun f=>(qbl l f.1).length).sum:=by
  intro m
  induction m with
  |nil=>intro _;rfl
  |cons f m e=>
   intro a;rw [qba,iA,qhJ,e fun g b=>a g (oB _ b),xB,List.sum_cons,qiH c (a f (eB ..))]
 exact h1 l fun f d=>d
def qpk:∀ {l:List Fd} {b:List Nm} {n:Nat},qdH b n l=0->(∀ f∈l,qbL f.1=true/\f.1∉b)/\qd1 l/\n+(l.map fun f=>(qaX f.2).length).sum<=500
 |[],b,n,a=>by
  rw [qdH] at a;split at a
  ·cases a
  ·exact ⟨by simp,List.Pairwise.nil,by simp;omega⟩
 |f::l,b,n,a=>by
  rw [qdH] at a;split at a
  ·cases a
  ·rename_i h1
   split at a
   ·cases a
   ·rename_i h2
    split at a
    ·rename_i h3;exact absurd a h3
    ·have ⟨c,d,h⟩:=qpk a
     refine ⟨fun g hg=> ?_,kC.2 ⟨fun g hg e=>(c g hg).2 (by rw [<- e];simp),d⟩,by rw [xB,List.sum_cons];omega⟩;rcases wA.1 hg with rfl|hg
     ·exact ⟨by simpa using h1,h2⟩
     ·exact ⟨(c g hg).1,fun e=>(c g hg).2 (List.mem_append_left _ e)⟩
def qya {l:List Fd} (a:qbC l=0):l.length<=8/\(∀ f∈l,qbL f.1=true)/\qd1 l/\qfX l/\qft l<=500:=by
 unfold qbC at a;split at a
 ·cases a
 ·rename_i h
  have ⟨d,c,g⟩:=qpk a;refine ⟨by omega,fun f b=>(d f b).1,c,fun f b=>qxN (d f b).1,?_⟩;rw [<- qpj c];have :∀ m:List Fd,(qba m).length=(m.map fun f=>(qaX f.2).length).sum:=by
   intro m
   induction m with
   |nil=>rfl
   |cons f m e=>rw [qba,iA,qhJ,e,xB,List.sum_cons]
  rw [this];omega
def qiI (x:Nm):∀ (l:List Nm) (i:Nat),∀ a∈qb6 i l x,(i:Int)<=a
 |[],i,a,h=>by cases h
 |y::l,i,a,h=>by
  rw [qb6] at h;split at h
  ·rcases wA.1 h with rfl|h
   ·exact Int.le_refl _
   ·have :=qiI x l (i+1) a h;omega
  ·have :=qiI x l (i+1) a h;omega
def qk4 (x:Nm):∀ (l:List Nm) (i:Nat),(qb6 i l x).Pairwise (· <·)
 |[],i=>List.Pairwise.nil
 |y::l,i=>by
  rw [qb6];split
  ·exact kC.2 ⟨fun a b=>by have :=qiI x l (i+1) a b;omega,qk4 x l (i+1)⟩
  ·exact qk4 x l (i+1)
def qpl (x:Nm) (a:Int):∀ (l:List Nm) (i:Nat),a∈qb6 i l x↔∃ k:Nat,a=((i+k:Nat):Int)/\l[k]?=some x
 |[],i=>by simp [qb6]
 |y::l,i=>by
  rw [qb6];have b:=qpl x a l (i+1);constructor
  ·intro h
   split at h
   ·rename_i c
    rcases wA.1 h with rfl|h
    ·exact ⟨0,by simp,by simp [c]⟩
    ·have ⟨k,h1,h2⟩:=b.1 h
     exact ⟨k+1,by rw [h1];congr 1;omega,by simpa using h2⟩
   ·have ⟨k,h1,h2⟩:=b.1 h
    exact ⟨k+1,by rw [h1];congr 1;omega,by simpa using h2⟩
  ·rintro ⟨k,h1,h2⟩
   cases k with
   |zero=>
    have :y=x:=by simpa using h2
    rw [eA this];exact wA.2 (.inl (by simpa using h1))
   |succ k=>
    have :=b.2 ⟨k,by rw [h1];congr 1;omega,by simpa using h2⟩;split
    ·exact oB _ this
    ·exact this
def qyb (s:ByteArray) (w:World) (ad:s.size<=268435456):
  yG 148 #[.string s] w (qfS (qaX s.data.toList) w):=by
 have ⟨W,Y,T,V,S⟩:=lG qoM;have K:=qmX s.data.toList;have X:s.data.toList.length=s.size:=wC;rw [X] at K
 go_enter func148,ntmps148
 go_wp2_with (go_at_call 155;refine (qnP s _ (by omega)).mono ?_)
 rintro e I ⟨v,rfl,h,D⟩;obtain ⟨A,c,rfl,_,y⟩:=qaK h;have ⟨ws,q⟩:=qE (qaX s.data.toList);rw [<- q] at y K;rw [<- q];have t:qI (∀ e w',qfS ws w e w'->qfS (qaX s.data.toList) w e w'):=by rw [<- q];exact fun _ _ m=>m
 have l:=qH D;have M:=qH y;clear q D h y;go_wp2
 go_loopw [2,3,4,10] (fun a b o i wr=>qoN ws I a b o i wr) (fun _ _ _ i _=>ws.length-(intOf i).toNat)
 case atStart=>exact ⟨0,_,rfl,rfl,rfl,kA _,by omega,rfl,vA _ _ _ _,bA _ _,rfl⟩
 case round=>
  obtain ⟨k,ae,rfl,rfl,rfl,aa,ag,rfl,h,n,r⟩:=hrel;by_cases B:k<ws.length
  ·have ⟨Z,ab,Q,_,R⟩:=qjL (M.o.below n) B
   subst Q;have d:=qoL B;have z:=qoK B;have ⟨p,x⟩:=qE (⟨ws[k].toArray⟩:ByteArray);have G:ws[k].length=p.size:=by rw [x];simp [ByteArray.size]
   rw [<- x] at R z;rw [G,r] at d;clear x G r;have N:=qH z;clear z;have af:=n.size;by_cases L:30<p.size
   ·rw [eA L] at d
    have g:=qH d;clear d;go_wp2;go_ret2;exact t.o _ _ ⟨_,by rw [g.o];rfl,fun m=>by rw [g.o] at m;omega,fun _=>rfl,l.o.trans (n.mono l.o.size)⟩
   ·rw [dA L] at d
    by_cases O:k=500
    ·rw [eA (by omega)] at d
     have g:=qH d;subst O;clear d;go_wp2;go_ret2;exact t.o _ _ ⟨_,by rw [g.o];rfl,fun m=>by rw [g.o] at m;omega,fun _=>rfl,l.o.trans (n.mono l.o.size)⟩
    ·rw [dA (by omega)] at d
     have g:=qH d;clear d;have ah:(k:Int)<500:=by omega
     go_wp2_with (at_builtin;refine wB _ rfl (.tmp 20) (.tmp 24) 187 rfl I.heap.size 245 W _ 2 24 underlying187 Y T V S rfl (by omega) _ k (qeq 0 (ws.take k)) rfl (h.alloc _) ⟨wr.heap.size,0,none⟩ 1 1 [.string p,.int .i64 k] rfl rfl (qaH wr [.string p,.int .i64 k] 245) (by intro u hu;simp at hu;rcases hu with hu|hu<;>(subst hu;rfl)) (by unfold maxLen;omega) (by omega) (by simp;omega) ?_)
     intro v' ac C H _;have U:=(n.alloc (by omega) _).grown H (by simp;omega) (fun j P=>(h.lt j P).1);rw [<- N.o] at C;clear H;go_wp2;go_roundw
     case rel=>exact ⟨k+1,_,rfl,rfl,rfl,by omega,by omega,by go_num,C,U,g.o.symm⟩
     case measure=>simp [intOf];omega
  ·have F:k=ws.length:=by omega
   have E:qbZ 0 ws=0:=by rw [<- r,pC (by omega)];rfl
   rw [F,fC] at h;have J:=qH E;clear r E F;go_wp2;go_ret2;exact t.o _ _ ⟨_,by rw [J.o];rfl,fun _=>qbk h l.o.size,fun m=>absurd J.o m,l.o.trans (n.mono l.o.size)⟩
open Go.ChangeShapes Go.WideShapes Go.ChangeAt
def qpm (w:World) (a:Option Addr) (len b:Nat) (l:List Fd):Prop:=
 len<=b/\b<=maxLen/\l.length=len/\qap w w.heap.size a l/\∀ f∈l,f.1.length<=maxLen/\f.2.length<=maxLen
def qpn:prog.cellsOf 121=2:=by kernel_rfl
def qiJ:prog.cellsOf 9=1:=by kernel_rfl
def qpo {f:Nat->Fd} {e g:Nat->Value} (l:∀ i,i<n->e i= .string ⟨(f i).1.toArray⟩/\g i= .string ⟨(f i).2.toArray⟩)
  (h:∀ i,i<n->w.cell? ⟨b,c+i*2,none⟩=some (e i)/\w.cell? ⟨b,c+(i*2+1),none⟩=some (g i)):
  ∀ k,k<=n->∀ j u,(flds ((List.range k).map f))[j]?=some u->w.cell? ⟨b,c+j,none⟩=some u
 |0,_,j,u,a=>by simp [flds] at a
 |k+1,t,j,u,a=>by
  rw [List.range_succ,jC,qhI] at a;have d:(flds ((List.range k).map f)).length=k*2:=by rw [qfW,gB,List.length_range]
  by_cases m:j<k*2
  ·rw [fD (by rw [d];exact m)] at a
   exact qpo l h k (by omega) j u a
  ·rw [oC (by rw [d];omega),d] at a
   have ⟨p,h1⟩:=l k (by omega);have ⟨s,r⟩:=h k (by omega);rcases hq:j-k*2 with _|_|q
   ·rw [hq] at a
    simp [flds] at a;rw [show j=k*2 by omega,s,p,a]
   ·rw [hq] at a
    simp [flds] at a;rw [show j=k*2+1 by omega,r,h1,a]
   ·rw [hq] at a
    simp [flds] at a
def qyc {H:Type} {enc:TypeId × Value->H} {a:Option Addr} {len:Nat} {x:DataW H × List MemPlace}
  (L:DataW.trod enc prog W 0 (fun _=>true) true k 57 [Value.slice a len j]=some x):∃ l,qpm W a len j l:=by
 rcases Deep.open_slice_pairs underlying57 underlying121 qpn rfl rfl qiJ qiJ L with ⟨e,_⟩|⟨Q,l,c,m,n,I,F,X,T,V,S,e,_,s,y,w,_,t⟩
 ·simp at e
  obtain ⟨rfl,rfl,rfl⟩:=e;exact ⟨[],aA _,kA _,rfl,qap.nil,fun p g=>by cases g⟩
 ·simp at e
  obtain ⟨rfl,rfl,rfl⟩:=e;simp only [if_true] at w;subst w;have J:∀ i,i<m->∃ q:Fd,(I i= .string ⟨q.1.toArray⟩/\F i= .string ⟨q.2.toArray⟩)/\q.1.length<=maxLen/\q.2.length<=maxLen:=fun i d=>by
   have ⟨_,_,r,h⟩:=t i d;have ⟨B,v,_,P⟩:=DataW.trod_string underlying9 r;have ⟨C,A,_,G⟩:=DataW.trod_string underlying9 h;simp only [List.cons.injEq,and_true] at v A;refine ⟨(B.data.toList,C.data.toList),⟨v,A⟩,?_,?_⟩
   ·show B.data.toList.length<=maxLen
    rw [wC];exact P
   ·show C.data.toList.length<=maxLen
    rw [wC];exact G
  have ⟨f,D⟩:=Deep.choose_lt J;by_cases U:m=0
  ·have K:len=0:=by omega
   subst K;exact ⟨[],s,y,rfl,qap.nil,fun p g=>by cases g⟩
  ·have ⟨z,_,_,_⟩:=t 0 (by omega)
   obtain ⟨b,E,M⟩:=Q;have O:M=none:=by simpa [Addr.add] using World.cell?_spot z
   subst O;have N:b<W.heap.size:=by simpa [cC] using vC W _ z
   refine ⟨(List.range len).map f,s,y,by simp,.inr ⟨b,E,rfl,N,qpo (n:=m) (fun i d=>(D i d).1) (fun i d=> ?_) len s⟩,fun p g=> ?_⟩
   ·have ⟨r,h,_,_⟩:=t i d
    rw [cC] at r h;exact ⟨r,h⟩
   ·obtain ⟨i,d,rfl⟩:=tA.1 g
    have R:=xE.1 d;exact (D i (by omega)).2
def qyd {H:Type} {enc:TypeId × Value->H} {x:DataW H × List MemPlace}
  (e:DataW.trod enc prog W 0 (fun _=>true) true k 57 [v]=some x):∃ a len b l,v= .slice a len b/\qpm W a len b l:=by
 have g:∃ a len b,v= .slice a len b:=by
  rcases Deep.open_slice_pairs underlying57 underlying121 qpn rfl rfl qiJ qiJ e with ⟨d,_⟩|⟨r,l,c,m,n,i,p,t,q,j,s,d,_⟩
  ·simp only [List.cons.injEq,and_true] at d
   exact ⟨_,_,_,d⟩
  ·simp only [List.cons.injEq,and_true] at d
   exact ⟨_,_,_,d⟩
 obtain ⟨a,len,b,rfl⟩:=g;have ⟨l,h⟩:=qyc e;exact ⟨a,len,b,l,rfl,h⟩
def qpp:prog.cellsOf 59=2:=by kernel_rfl
structure qc9 (l:List Fd):Prop where
 len:l.length<=8
 names:∀ f∈l,f.1.length<=12
 texts:∀ f∈l,f.2.length<=1024
 apart:qd1 l
 zero:qfX l
 wordsF:∀ f∈l,(qaX f.2).length<=500
 wordsS:∀ s,(qbl l s).length<=500
 weight:qft l<=500
def qpq:∀ {l:List Nat} {a:Nat},a∈l->a<=l.sum
 |x::l,a,h=>by
  rw [List.sum_cons];rcases wA.1 h with rfl|h
  ·omega
  ·have :=qpq h;omega
def qpr {l:List Fd} (c:qd1 l) (s:Nm):(qbl l s).length<=qft l:=by
 by_cases b:∃ f∈l,f.1=s
 ·obtain ⟨f,a,rfl⟩:=b
  unfold qft;exact qpq (tA.2 ⟨f,a,rfl⟩)
 ·rw [qpa fun f a e=>b ⟨f,a,e⟩]
  exact kA _
def qk5 {l:List Fd} (d:qbC l=0) (e:∀ f∈l,f.2.length<=1024):qc9 l:=by
 have ⟨i,g,a,h,c⟩:=qya d;refine ⟨i,fun f b=> ?_,e,a,h,fun f b=> ?_,fun s=>lA (qpr a s) c,c⟩
 ·have :=g f b
  rw [qbL,xA,xA,gC,gC] at this;exact this.2.2
 ·rw [<- qiH a b]
  exact lA (qpr a _) c
