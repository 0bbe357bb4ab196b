import Derived.Test.YtpehcaidjlemiaaGreatDoorMMQ08
import Derived.Test.YtpehcaidjlemiaaGreatDoorMMQ10
set_option maxHeartbeats 4000000
set_option maxRecDepth 100000
set_option linter.all false
namespace Go.Proofs.YtpehcaidjlemiaaGreatDoor
open Go Go.RowKit Go.Proofs.Tryz
variable {w w' wr:World} {k n b c B N:Nat} {A A':Option Addr} {v:Value} {xs cs:List Value} {t E:TypeId}
def qjf (R:Option Addr->List Value->Prop) (w:World) (A:Option Addr) (ls:List (List Po)):Prop:=∃ cs:List Value,(cs.length=ls.length/\∀ i (d:i<ls.length),∃ c a,cs[i]?=some (.slice c ls[i].length a)/\(ls[i].length<=a/\a<=maxLen)/\∃ b,qao R ls[i] b/\Row w w.heap.size c b)/\Row w w.heap.size A cs
def qjf.at_ {R:Option Addr->List Value->Prop} {ls:List (List Po)} (m:qjf R w A ls) {i:Nat} (g:i<ls.length):∃ b c d a,A=some ⟨b,c,none⟩/\b<w.heap.size/\w.cell? ⟨b,c+i,none⟩=some (.slice d ls[i].length a)/\(ls[i].length<=a/\a<=maxLen)/\∃ e,qao R ls[i] e/\Row w w.heap.size d e:=by
 obtain ⟨cs,⟨h1,h2⟩,h3⟩:=m;have ⟨d,a,n,j,l⟩:=h2 i g;obtain ⟨b,c,rfl,k,h⟩:=h3.at_ (by rw [h1];omega);exact ⟨b,c,d,a,rfl,k,h _ _ n,j,l⟩
def qrg (R:Option Addr->List Value->Prop) (ls:List (List Po)) (w:World) (e:Ending) (w':World):Prop:=∃ o,qbS (qbO ls) o/\qgQ R (o.map fun p=>(ls.getD p.1 []).getD p.2 (0,[])) w e w'
def qrh (ls:List (List Po)) (w:World) (a m:Nat) (b:Value) (wr:World):Prop:=∃ k:Nat,b= .int .i64 (k:Int)/\qbi (qbO ls) w a m (a+1) k wr
def qri (ls:List (List Po)) (s:List Int) (w:World) (a m k e:Nat) (d:List Value) (c:Value) (b:World):Prop:=∃ (j:Nat) (v:Value),c= .int .i64 (j:Int)/\qdD (qbO ls) w a m (a+1) k e j s v d b
def qlV (R:Option Addr->List Value->Prop) (a:List Po) (w b:World) (d c:Value) (wr:World):Prop:=∃ (k:Nat) (cs:List Value),k<=a.length/\c= .int .i64 (k:Int)/\wr.ownsRow b.heap.size 74 2 d k cs/\qao R (a.take k) cs/\wG b wr
def qjg {x y:Value} (a:w.heap[b]?=some (.cells #[x,y] t (0,0))):w.cell? ⟨b,0,none⟩=some x/\w.cell? ⟨b,1,none⟩=some y:=by
 simp [World.cell?,a]
def qBB (R:Option Addr->List Value->Prop) (A:Option Addr) (m c:Nat) (ls:List (List Po)) (w:World) (cn:qjf R w A ls) (bg:ls.length=m) (ew:m<=1000) (bm:∀ l∈ls,l.length<=1000) (cv:∀ s∈qbO ls,qal (-1) s=true) (ct:¬ qeD (qbO ls)):
    yG 87 #[.slice A m c] w (qrg R ls w):=by
  have ⟨dn,ea,d3,d4,ej⟩:=lG qfN;have ⟨em,en,ds,df,er⟩:=lG qis;have ⟨ef,dz,d6,ed,du⟩:=lG qc4;have Z:(qbO ls).length=m:=by simp [qbO,bg]
  have ⟨ek,c8,az,bx⟩:=tF (P:=prog) w w.heap.size 92 23 em _ 1 underlying92 en ds df .i64 .i64 m (by rw [er];omega) (by unfold maxLen;omega) (aA _);have c2:(madeCells (Value.slice none 0 0).cells (m*1)).toList=List.replicate m qbg:=by
    rw [show (Value.slice none 0 0).cells=#[.slice none 0 0] from rfl,pF,Nat.mul_one]
  rw [c2] at az;have bi:qrh ls w w.heap.size m (.int .i64 0) ek:=⟨0,rfl,qbi.begin ⟨Nat.lt_succ_self _,(az.lt _ rfl).2⟩ Z (bA _ _) az bx⟩;have ⟨U,cw⟩:=qE w.heap.size;rw [<- cw] at c8 bi;have c1:=qH bi;have cg:=qH cn;have cd:=qH bg;have c0:=qH bm;have dv:=qH cv;have eq:=qH ct;have ca:=qH Z;clear bi az bx c2 cn bg bm cv ct Z;clear cw
  go_enter func87,ntmps87
  go_wp2;clear c8
  go_loopw [4,5,7,18,23,24,25] (fun u4 u5 u7 C u23 u24 u25 wr=>qrh ls w U m C wr) (fun _ _ _ C _ _ _ _=>m-(intOf C).toNat)
  case atStart=>exact c1.o
  case round=>
    clear c1;obtain ⟨k,rfl,B⟩:=hrel;have ⟨K,ee⟩:=qE wr;subst ee;by_cases aj:k<m
    · have a1:k<ls.length:=by rw [cd.o];exact aj
      have h:wG w K:=by obtain ⟨_,_,_,_,_,r⟩:=B;exact r
      obtain ⟨b,ax,fi,ff,rfl,bf,I,⟨au,a0⟩,dp⟩:=(cg.o).at_ a1;have bu:=(h.cell (p:=⟨b,ax+k,none⟩) bf).trans I;obtain ⟨dg,J,ad⟩:=dp;have ⟨s,ac⟩:=qE (ls[k].map (·.1));have bq:∀ d1:k<(qbO ls).length,(qbO ls)[k]=s:=fun d1=>by rw [ac];simp [qbO]
      have ar:s.length=ls[k].length:=by rw [ac];simp
      have cj:=(c0.o) _ (pA a1);have a3:∀ j (eo:j<ls[k].length) (eh:j<s.length),s[j]=(ls[k][j]).1:=fun j eo eh=>by simp [ac]
      have ⟨l,av⟩:=qE (ls[k]);rw [<- av] at I bu au J ar cj a3;have ⟨n,be⟩:=qE l.length;rw [<- be] at I bu au ar cj;have ⟨br,cm,G⟩:=B.mid (s:=s) aj (by obtain ⟨_,_,_,_,r,_⟩:=B;exact (r.own.lt _ rfl).2);have ch:=qH (show qri ls s w U m k K.heap.size br (.int .i64 0) K from ⟨0,_,rfl,G⟩)
      have d0:=qH bq;have a4:=qH ar;have ez:=qH a3;have cq:=qH J;have db:=qH ad;have dy:=qH be;have bc:=qH cm;have fh:(k:Int)<(m:Int):=by omega
      unfold maxLen at a0;clear B G bq ar a3 J ad ac av be cm I h a1;go_wp2
      go_loopw [7,25] (fun u7 C dm=>qri ls s w U m k K.heap.size br C dm) (fun _ C _=>n-(intOf C).toNat)
      case atStart=>exact ch.o
      case round=>
        clear ch;obtain ⟨j,v,rfl,G⟩:=hrel;have bz:=G.le;rw [a4.o] at bz;by_cases da:j<n
        · have aq:j<l.length:=by rw [<- dy.o];exact da
          have b8:j<s.length:=by rw [a4.o];exact da
          have ⟨F,L,Q,D,af,c9,_⟩:=(cq.o).at_ aq;have ag:l.getD j (0,[])=l[j]:=by rw [mA,oA aq];rfl
          rw [ag] at F D;have cb:=(ez.o) j aq b8;obtain ⟨T,Y,rfl,a9,N⟩:=Row.at_ ((db.o).below G.below) (by rw [(cq.o).len];omega);have a2:=N _ _ F;have bd:=N _ _ D;rw [<- uB] at bd;rw [<- cb] at a2;have ⟨d,O⟩:=qE (s[j]);rw [<- O] at a2;have ⟨S,aa⟩:=qE (l[j].2.length);rw [<- aa] at bd;obtain ⟨ci,cu,rfl,_,_,_⟩:=qaU G.mine;have fl:(j:Int)<(n:Int):=by omega
          clear F D ag N cb aa af aq;have cf:=qH G;have ei:=qH O;clear G O;go_wp2;have ⟨a,E⟩:=qE (wr.alloc (.cells #[.int .i64 d,.slice L S Q] 74));have bn:wG wr a:=by rw [E];exact (bA _ wr).alloc (aA _) _
          have bl:a.cell? ⟨wr.heap.size,0,none⟩=some (.int .i64 d):=by
            rw [E];exact (qjg (jA wr (.cells #[.int .i64 d,.slice L S Q] 74))).1
          have ah:=(cf.o).later bn;have ⟨dk,ec⟩:=ah.cell bc.o aj;have eg:=(ah.own.lt _ rfl).2;have b7:wr.heap.size<a.heap.size:=by rw [E];simp
          have e5:∀ o,(a.alloc o).cell? ⟨U,k,none⟩=some (.slice ci j cu):=fun o=>(((bA a.heap.size a).alloc (aA _) o).cell (p:=⟨U,k,none⟩) eg).trans dk
          have dh:∀ o,(a.alloc o).cell? ⟨wr.heap.size,0,none⟩=some (.int .i64 d):=fun o=>(((bA a.heap.size a).alloc (aA _) o).cell (p:=⟨wr.heap.size,0,none⟩) b7).trans bl
          have bs:=qH ah;have dt:=qH ah.top;have ⟨X,bh⟩:=qE wr.heap.size;rw [<- bh] at bl dh b7;rw [<- E,<- bh];clear E bn ah cf bh a2 bd ec
          go_region_law (first
            | (refine step_append_lies _ (by rfl) _ _ _ (by rfl) K.heap.size 3 ef _ 1 8 underlying23 dz d6 ed du rfl (by omega) (.slice ci j cu) j (qaa (s.take j)) (by rfl) ((bs.o.mine.alloc _).drew)
                ⟨a.heap.size,0,none⟩ 1 1 [.int .i64 d] (by rfl) (by rfl) (World.news_of_block (cs:=#[.int .i64 d]) (t:=3) (fr:=(0,0)) (jA a _)) (by intro u hu;simp at hu;subst hu;rfl)
                (by omega) (by unfold maxLen;omega) (by omega) (by have :=dt.o;simp;omega) (a.heap.size+1) (by simp) ?_
               intro c5 cx ce ab V a5 a8;rw [ei.o] at ab V;have ⟨fe,e4,cc⟩:=((bs.o).later (((bA a.heap.size a).alloc (aA _) (.cells #[.int .i64 s[j]] 3)).drew)).grow bc.o aj b8 ab V))
          all_goals
            have d9:=qH cc;clear cc ab V a5 a8;go_wp2;go_roundw
            case rel=>exact ⟨j+1,_,by go_num,d9.o⟩
            case measure=>simp [intOf];omega
        · have eu:j=s.length:=by have :=a4.o;omega
          have B:=G.done bc.o aj ca.o eu (d0.o);have de:=qH B;clear G B bz;go_wp2;go_roundw
          case rel=>exact ⟨k+1,by go_num,de.o⟩
          case measure=>simp [intOf];omega
    · have dl:k=m:=by obtain ⟨_,_,r,_⟩:=B;omega
      subst dl;have h:wG w K:=by obtain ⟨_,_,_,_,_,r⟩:=B;exact r
      have Z:∀ s∈qbO ls,s.length<=1000:=fun s ac=>by
        obtain ⟨l,av,rfl⟩:=tA.1 ac;simpa using (c0.o) l av
      have cp:=qH (qpw (some ⟨U,0,none⟩) k k (qbO ls) K B.all ca.o ew Z);have b2:=qH h;clear B h Z
      go_wp2_with (go_at_call 47; refine (cp.o).mono ?_; rintro e H ⟨dx, o, fc, fb, bj, rfl, ev, bo, a9, di⟩
                   have et:dx=0/\qbS (qbO ls) o:=(by
                     cases bj with
                     |bad r=>exact absurd dv.o r
                     |twice _ r=>exact absurd r eq.o
                     |ok _ r=>exact ⟨rfl,r⟩)
                   obtain ⟨rfl,cl⟩:=et;have c6:=qH cl;have ep:=qH bo;have al:=qH ((b2.o).trans (a9.mono (b2.o).size));clear bj cl bo a9 ev)
      obtain ⟨g,ao⟩:∃ g,g=o.map (fun p=>(ls.getD p.1 []).getD p.2 (0,[])):=⟨_,rfl⟩;have ⟨M,ak⟩:=qE o.length;have b6:g.length=M:=by rw [ao,ak];simp
      have b3:qlV R g w H (.slice none 0 0) (.int .i64 0) H:=⟨0,[],kA _,rfl,vA _ _ _ _,by simp [qao],bA _ _⟩;rw [<- ak] at di;have b5:∀ i (cz:i<o.length) (ey:i<g.length),∃ x y,o[i]=(x,y)/\∃ (h1:x<ls.length) (h2:y<ls[x].length),g[i]=ls[x][y]:=fun i cz ey=>by
        have ⟨F,D⟩:=(c6.o.mem _).1 (pA cz);have h1:o[i].1<ls.length:=by simpa [qbO] using F
        have h2:o[i].2<ls[o[i].1].length:=by
          rw [qaI F] at D;simpa [qbO] using D
        refine ⟨o[i].1,o[i].2,rfl,h1,h2,?_⟩;subst ao;rw [eC,qaI h1,qaI h2]
      have el:=qH b5;have cr:=qH b3;have ai:=qH b6;have co:=qH ak;have dd:=qH ao
      try rw [<- ak]
      clear b3 b5 b6 ak ao cp
      go_loopw [10,12,49] (fun d2 u12 C wr=>qlV R g w H d2 C wr) (fun _ _ C _=>M-(intOf C).toNat)
      case atStart=>exact cr.o
      case round=>
        clear cr;obtain ⟨q,cs,d8,rfl,aw,ay,h⟩:=hrel;rw [ai.o] at d8;by_cases ck:q<M
        · have ba:q<o.length:=by rw [<- co.o];exact ck
          have bv:q<g.length:=by rw [ai.o];exact ck
          have ⟨x,y,c3,h1,h2,cy⟩:=(el.o) q ba bv;obtain ⟨b0,e7,rfl,fa,eb,dc⟩:=qgK ((ep.o).below h) ba;rw [c3] at eb dc;obtain ⟨b,ax,fd,dj,rfl,bf,I,⟨au,a0⟩,dg,J,ad⟩:=(cg.o).at_ h1;have ⟨F,L,Q,D,af,c9,bb⟩:=J.at_ h2;have ag:ls[x].getD y (0,[])=g[q]:=by rw [cy,mA,oA h2];rfl
          rw [ag] at F D af bb;obtain ⟨T,Y,rfl,c4,N⟩:=Row.at_ ad (by rw [J.len];omega);have c7:g.take (q+1)=g.take q++[(g[q].1,g[q].2)]:=aB bv;have e0:x<k:=by rw [<- cd.o];exact h1
          have ⟨b1,bp⟩:=qE (ls[x].length);rw [<- bp] at I h2 au;have ⟨d,O⟩:=qE (g[q].1);have ⟨S,aa⟩:=qE (g[q].2.length);rw [<- O] at F;rw [<- aa] at D af;have ap:∀ W,wG H W->wG w W:=fun W ae=>(al.o).trans (ae.mono (al.o).size)
          have b4:∀ W,wG H W->W.cell? ⟨b,ax+x,none⟩=some (.slice (some ⟨T,Y,none⟩) b1 dj)/\W.cell? ⟨T,Y+y*2,none⟩=some (.int .i64 d)/\W.cell? ⟨T,Y+y*2+1,none⟩=some (.slice L S Q):=fun W ae=>
            ⟨((ap W ae).cell (p:=⟨b,ax+x,none⟩) bf).trans I,((ap W ae).cell (p:=⟨T,Y+y*2,none⟩) c4).trans (N _ _ F),((ap W ae).cell (p:=⟨T,Y+y*2+1,none⟩) c4).trans (by have :=N _ _ D;rwa [<- uB] at this)⟩
          have ⟨a,E⟩:=qE (wr.alloc (.cells #[.int .i64 (x:Int),.int .i64 (y:Int)] 88));have an:wG H a:=by rw [E];exact h.alloc h.size _
          have b9:a.ownsRow H.heap.size 74 2 u10 q cs:=by rw [E];exact aw.alloc _
          obtain ⟨e9,e2⟩:a.cell? ⟨wr.heap.size,0,none⟩=some (.int .i64 (x:Int))/\a.cell? ⟨wr.heap.size,1,none⟩=some (.int .i64 (y:Int)):=by rw [E];exact qjg (jA wr _)
          have ⟨e6,e3,fk⟩:=b4 a an;have fj:(q:Int)<(M:Int):=by omega
          have e8:(x:Int)<(k:Int):=by omega
          have e1:(y:Int)<(b1:Int):=by omega
          have fg:q<=1000000:=by omega
          have dw:=qH c7;have ex:=qH O;have bw:=qH aa;have d7:=qH ay;have bt:=qH b9;have dr:=qH an;have d5:=qH bb;have dq:=qH E;have a6:qI (H.heap.size<=a.heap.size):=qH an.size;unfold maxLen at a0;clear c3 cy J ad ag F D N c7 bp O aa b4 ap E an b9 ay aw h bb I ba;go_wp2;rw [<- dq.o]
          go_region_law (first
            | (refine step_append_lies _ (by rfl) _ _ _ (by rfl) H.heap.size 74 dn _ 2 32 underlying71 ea d3 d4 ej rfl (by omega) u10 q cs (by rfl) ((bt.o.alloc _).drew)
                ⟨a.heap.size,0,none⟩ 1 1 [.int .i64 d,.slice L S Q] (by rfl) (by rfl) (World.news_of_block (cs:=#[.int .i64 d,.slice L S Q]) (t:=74) (fr:=(0,0)) (jA a _)) (by intro u hu;simp at hu;rcases hu with hu|hu<;>(subst hu;rfl))
                (by omega) (by unfold maxLen;omega) (by omega) (by have :=a6.o;simp;omega) (a.heap.size+1) (by simp) ?_
               intro c5 cx ce ab V a5 a8))
          all_goals
            have am:qlV R g w H (.slice (some ⟨c5,0,none⟩) (q+1) cx) (.int .i64 ((q:Int)+1)) ce:=by
              refine ⟨q+1,cs++[.int .i64 d,.slice L S Q],by rw [ai.o];omega,rfl,ab,?_,?_⟩
              · rw [dw.o,ex.o,bw.o]
                exact (d7.o).snoc (by rw [<- bw.o];exact af) c9 d5.o
              · exact ((dr.o).alloc a6.o _).drew.grown V (by have :=a6.o;simp;omega) fun z es=>((bt.o).lt z es).1
            have a7:=qH am;clear am ab V a5 a8;go_wp2;go_roundw
            case rel=>exact a7.o
            case measure=>simp [intOf];omega
        · have bk:q=g.length:=by have :=ai.o;omega
          have am:qrg R ls w (.returned u10) wr:=by
            refine ⟨o,c6.o,u10,cs,rfl,?_,?_,(al.o).trans (h.mono (al.o).size)⟩
            · rw [gB,<- co.o,<- ai.o,<- bk]
              exact qbk aw (al.o).size
            · rw [<- dd.o]
              rwa [bk,fC] at ay
          have a7:=qH am;clear am aw ay h;go_wp2;go_ret;exact a7.o
structure qcO (T:TypeId) (b0 zz P:Nat) (v1 v2:Value) (xs ys:List Int) (w:World):Prop where
 cells:w.heap[P]?=some (.cells #[v1,v2,.slice none 0 0,.slice none 0 0] T (0,0))
 le:b0<=P
 hbase:b0<=zz
 size:zz<=w.heap.size
 ids:w.ownsRow zz 3 1 v1 xs.length (qaa xs)
 seqs:w.ownsRow zz 3 1 v2 ys.length (qaa ys)
 apart:∀ g,v1.ownBlock=some g->v2.ownBlock≠some g
section
variable {T:TypeId} {b0 zz P:Nat} {v1 v2:Value} {xs ys:List Int} {w w':World}
def qcO.lt (a:qcO T b0 zz P v1 v2 xs ys w):P<w.heap.size:=(gA.1 a.cells).1
def qcO.keep (a:qcO T b0 zz P v1 v2 xs ys w) (c:∀ k,k<w.heap.size->k=P\/v1.ownBlock=some k\/v2.ownBlock=some k->w'.heap[k]?=w.heap[k]?) (d:w.heap.size<=w'.heap.size):qcO T b0 zz P v1 v2 xs ys w':=
 ⟨(c P a.lt (.inl rfl)).trans a.cells,a.le,a.hbase,lA a.size d,qaq a.ids fun g b=>c g (a.ids.lt g b).2 (.inr (.inl b)),qaq a.seqs fun g b=>c g (a.seqs.lt g b).2 (.inr (.inr b)),a.apart⟩
def qcO.below (b:qcO T b0 zz P v1 v2 xs ys w) (a:wG w w'):qcO T b0 zz P v1 v2 xs ys w':=b.keep (fun k c _=>a.block k c) a.size
def qcO.id (m:qcO T b0 zz P v1 v2 xs ys w) (d:T≠3) {v':Value} {x:Int} (j:w'.ownsRow zz 3 1 v' (xs.length+1) (qaa xs++[.int .i64 x])) (b:w.grownBy w' v1.ownBlock) (hat:v'.ownBlock=v1.ownBlock\/v'.ownBlock=some w.heap.size):
  w'.heap[P]?=some (.cells #[v1,v2,.slice none 0 0,.slice none 0 0] T (0,0))/\qcO T b0 zz P v' v2 (xs++[x]) ys (w'.setCell ⟨P,0,none⟩ v')/\Below b0 w (w'.setCell ⟨P,0,none⟩ v')/\∀ k,k<w.heap.size->k≠P->v1.ownBlock≠some k->(w'.setCell ⟨P,0,none⟩ v').heap[k]?=w.heap[k]?:=by
 have r:=m.lt;obtain ⟨h1,h2,h3,s,n,i,l⟩:=m;have c:w'.heap[P]?=some (.cells #[v1,v2,.slice none 0 0,.slice none 0 0] T (0,0)):=(b.block P r (fun e=>qan n h1 d e.symm)).trans h1;refine ⟨c,⟨by simpa using lB w' P 0 _ _ v' c,h2,h3,by have :=b.size;simp;omega,?_,?_,fun g a e=> ?_⟩,((bA b0 w).grown b (lA h3 s) fun k h=>by have :=(n.lt k h).1;omega).setCell (p:=⟨P,0,none⟩) h2 v',fun k h t v=>(rA _ _ _ _ (show k≠P from t)).trans (b.block k h (fun e=>v e.symm))⟩
 ·have :=qaq (w':=w'.setCell ⟨P,0,none⟩ v') j fun g a=>rA _ _ _ _ (fun e=>qan j c d (by rw [a,e]))
  rw [iA,bB];simpa [qaa] using this
 ·have q:w'.ownsRow zz 3 1 v2 ys.length (qaa ys):=qaq i fun g a=>b.block g (i.lt g a).2 fun e=>l g e.symm a
  exact qaq q fun g a=>rA _ _ _ _ (fun e=>qan q c d (by rw [a,e]))
 ·rcases hat with hat|hat
  ·exact l g (hat▸a) e
  ·rw [hat] at a
   injection a with a
   have :=(i.lt g e).2;omega
def qcO.seq (m:qcO T b0 zz P v1 v2 xs ys w) (d:T≠3) {v':Value} {x:Int} (j:w'.ownsRow zz 3 1 v' (ys.length+1) (qaa ys++[.int .i64 x])) (b:w.grownBy w' v2.ownBlock) (hat:v'.ownBlock=v2.ownBlock\/v'.ownBlock=some w.heap.size):
  w'.heap[P]?=some (.cells #[v1,v2,.slice none 0 0,.slice none 0 0] T (0,0))/\qcO T b0 zz P v1 v' xs (ys++[x]) (w'.setCell ⟨P,1,none⟩ v')/\Below b0 w (w'.setCell ⟨P,1,none⟩ v')/\∀ k,k<w.heap.size->k≠P->v2.ownBlock≠some k->(w'.setCell ⟨P,1,none⟩ v').heap[k]?=w.heap[k]?:=by
 have r:=m.lt;obtain ⟨h1,h2,h3,s,h,q,l⟩:=m;have c:w'.heap[P]?=some (.cells #[v1,v2,.slice none 0 0,.slice none 0 0] T (0,0)):=(b.block P r (fun e=>qan q h1 d e.symm)).trans h1;refine ⟨c,⟨by simpa using lB w' P 1 _ _ v' c,h2,h3,by have :=b.size;simp;omega,?_,?_,fun g a e=> ?_⟩,((bA b0 w).grown b (lA h3 s) fun k i=>by have :=(q.lt k i).1;omega).setCell (p:=⟨P,1,none⟩) h2 v',fun k i t v=>(rA _ _ _ _ (show k≠P from t)).trans (b.block k i (fun e=>v e.symm))⟩
 ·have n:w'.ownsRow zz 3 1 v1 xs.length (qaa xs):=qaq h fun g a=>b.block g (h.lt g a).2 fun e=>l g a e.symm
  exact qaq n fun g a=>rA _ _ _ _ (fun e=>qan n c d (by rw [a,e]))
 ·have :=qaq (w':=w'.setCell ⟨P,1,none⟩ v') j fun g a=>rA _ _ _ _ (fun e=>qan j c d (by rw [a,e]))
  rw [iA,bB];simpa [qaa] using this
 ·rcases hat with hat|hat
  ·exact l g a (hat▸e)
  ·rw [hat] at e
   injection e with e
   have :=(h.lt g a).2;omega
end
structure qej (T:TypeId) (b0 zz P:Nat) (v1 v2 v3 v4:Value) (ks:List Nm) (ls:List (List Pn)) (w:World):Prop where
 cells:w.heap[P]?=some (.cells #[v1,v2,v3,v4] T (0,0))
 le:b0<=P
 hbase:b0<=zz
 size:zz<=w.heap.size
 keys:∃ bk,w.ownsRow bk 9 1 v3 ks.length (qad ks)
 lists:∃ cs,w.ownsRow zz 71 1 v4 ls.length cs/\LG b0 w ls cs
section
variable {T:TypeId} {b0 zz P:Nat} {v1 v2 v3 v4:Value} {xs ys:List Int} {ks:List Nm} {ls:List (List Pn)} {w w':World}
def qej.lt (a:qej T b0 zz P v1 v2 v3 v4 ks ls w):P<w.heap.size:=(gA.1 a.cells).1
def qej.below (b:qej T b0 zz P v1 v2 v3 v4 ks ls w) (a:wG w w'):qej T b0 zz P v1 v2 v3 v4 ks ls w':=by
 have c:=b.lt;obtain ⟨h1,h2,h3,d,⟨bk,g⟩,cs,h,e⟩:=b;exact ⟨(a.block P c).trans h1,h2,h3,lA d a.size,⟨bk,qaf g a⟩,cs,qaf h a,e.keep (.of_below a (by omega))⟩
def qej.list (r:qej T b0 zz P v1 v2 v3 v4 ks ls w) (z:¬ PoK T) (C:T≠9) (x:T≠71) {v':Value} {l:List Pn} {A:Option Addr} {c:Nat} (D:l.length<=c/\c<=maxLen) (E:qbn b0 w A l) {cs:List Value} (d:w.ownsRow zz 71 1 v4 ls.length cs) (B:LG b0 w ls cs)
  (q:w'.ownsRow zz 71 1 v' (ls.length+1) (cs++[.slice A l.length c])) (b:w.grownBy w' v4.ownBlock):
  w'.heap[P]?=some (.cells #[v1,v2,v3,v4] T (0,0))/\qej T b0 zz P v1 v2 v3 v' ks (ls++[l]) (w'.setCell ⟨P,3,none⟩ v')/\Below b0 w (w'.setCell ⟨P,3,none⟩ v')/\qay b0 w (w'.setCell ⟨P,3,none⟩ v')/\
   (∀ k,k<zz->k≠P->(w'.setCell ⟨P,3,none⟩ v').heap[k]?=w.heap[k]?)/\∀ (k:Nat) (cs:Array Value) (t:TypeId) (fr:Nat × Nat),k≠P->w.heap[k]?=some (.cells cs t fr)->t≠71->(w'.setCell ⟨P,3,none⟩ v').heap[k]?=some (.cells cs t fr):=by
 have F:=r.lt;obtain ⟨h1,h2,h3,v,⟨bk,G⟩,_⟩:=r;have h:w'.heap[P]?=some (.cells #[v1,v2,v3,v4] T (0,0)):=(b.block P F (fun e=>qan d h1 x e.symm)).trans h1;have i:qay b0 w w':=qay.grown d h3 (by unfold PoK;decide) b v;have s:qay b0 w' (w'.setCell ⟨P,3,none⟩ v'):=qay.setCell h h2 z v';refine ⟨h,⟨by simpa using lB w' P 3 _ _ v' h,h2,h3,by have :=i.size;simp;omega,⟨bk,?_⟩,cs++[.slice A l.length c],?_,(B.snoc D E).keep (i.trans s)⟩,((bA b0 w).grown b (lA h3 v) fun k a=>by have :=(d.lt k a).1;omega).setCell (p:=⟨P,3,none⟩) h2 v',i.trans s,
  fun k a m=>(rA _ _ _ _ (show k≠P from m)).trans (b.block k (by omega) (fun e=>by have :=(d.lt k e.symm).1;omega)),
  fun k cs' t fr m a y=>(rA _ _ _ _ (show k≠P from m)).trans ((b.block k (gA.1 a).1 (fun e=>qan d a y e.symm)).trans a)⟩
 ·have n:=qg5 G d (by decide) b
  exact qaq n fun g j=>rA _ _ _ _ (fun e=>qan n h C (by rw [j,e]))
 ·rw [iA,bB]
  exact qaq q fun g j=>rA _ _ _ _ (fun e=>qan q h x (by rw [j,e]))
def qej.rows (d:qej T b0 zz P v1 v2 (.slice A k n) (.slice A' b c) ks ls w):Row w w.heap.size A (qad ks)/\qc0 w w.heap.size A' ls:=by
 obtain ⟨_,_,_,_,⟨_,e⟩,cs,g,a⟩:=d;exact ⟨qbx e,cs,a.cells,qbx g⟩
def qcO.lists (a:qcO T b0 zz P v1 v2 xs ys w) (h:¬ PoK T) (d:T≠9) {bk:Nat} {v3:Value} {ks:List Nm} (b:w.ownsRow bk 9 1 v3 ks.length (qad ks)):
    qej T b0 w.heap.size P v1 v2 v3 (.slice none 0 0) ks [] (w.setCell ⟨P,2,none⟩ v3)/\qay b0 w (w.setCell ⟨P,2,none⟩ v3)/\Below b0 w (w.setCell ⟨P,2,none⟩ v3):=
  ⟨⟨by simpa using lB w P 2 _ _ v3 a.cells, a.le, by have := a.hbase; have := a.size; omega, by simp, ⟨bk, qaq b fun g c => rA _ _ _ _ (fun e => qan b a.cells d (by rw [c, e]))⟩, [], vA _ _ _ _, LG.nil⟩,
    qay.setCell a.cells a.le h v3,(bA b0 w).setCell (p:=⟨P,2,none⟩) a.le v3⟩
def qcO.rowG (e:qcO T b0 zz P v1 v2 xs ys w):∃ a b c d,v1= .slice a xs.length b/\v2= .slice c ys.length d/\xs.length<=b/\ys.length<=d/\qat b0 3 w a (qaa xs)/\qat b0 3 w c (qaa ys):=by
 have g:=e.ids;have h:=e.seqs;have ⟨a,b,k,l,_⟩:=qaK g;have ⟨c,d,i,j,_⟩:=qaK h;subst k i;exact ⟨a,b,c,d,rfl,rfl,l,j,.of_own g,.of_own h⟩
end
def qBC (c a:Nat) (ls:List (List Pn)) (w:World) (r u i:Value) (wr:World):Prop:=r= .int .i64 0/\∃ k:Nat,k<=ls.length/\i= .int .i64 (k:Int)/\wG w wr/\∀ j (b:j<ls.length),j<k->qcZ a ls[j]=true
def qBD (d a:Nat) (A:Option Addr) (n c:Nat) (ls:List (List Pn)) (w:World) (I:w.heap[d]?=some (.cells #[.int .i64 (a:Int)] 3 (0,0))) (N:ls.length=n) (aj:n<=9223372036854775807) (H:qc0 w w.heap.size A ls) (P:∀ l∈ls,l.length<=9223372036854775807/\∀ p∈l,p.2.length<=9223372036854775807):
  yG 159 #[.slice A n c,.func (.func 160) #[] #[.pointer (some ⟨d,0,none⟩)]] w fun e w'=>(∃ r:Int,e= .returned (.int .i64 r)/\decide (0<=r)= !(ls.all (qcZ a)))/\wG w w':=by
 have R:=qH H;have h:=qH N;have U:=qH P;have M:=qH I;clear H N P I
 go_enter func159,ntmps159
 go_wp2
 go_loopw [4,5,8] (fun r u i wr=>qBC d a ls w r u i wr) (fun _ _ i _=>n-(intOf i).toNat)
 case atStart=>exact ⟨rfl,0,kA _,rfl,bA _ _,fun j _ B=>by omega⟩
 case round=>
  obtain ⟨rfl,k,X,rfl,b,O⟩:=hrel;rw [h.o] at X;have Q:=qH O;clear O;by_cases ab:k<n
  ·have E:k<ls.length:=by rw [h.o];exact ab
   obtain ⟨ae,ah,Z,S,rfl,af,J,t,v⟩:=(R.o.below b).at_ E;have g:=U.o _ (pA E);have ad:(0:Int)<=k:=by omega
   have ag:(k:Int)<n:=by omega
   have ⟨F,x⟩:=qE (ls[k]);rw [<- x] at J t v g;have ⟨m,y⟩:=qE F.length;rw [<- y] at J t g;have G:=b.size;have C:=qH (qAm d a Z m S F wr ((b.block d (mG M.o)).trans M.o) y.symm g.1 (v.more G) g.2);have K:=qH x;have ⟨z,D⟩:=qE (qcZ a F);rw [<- D] at C;have L:=qH D;have q:=qH b;clear x y D g v t b;cases z with
   |false=>
    have T:qI (ls.all (qcZ a)=false):=qH (by
     rw [List.all_eq_false];exact ⟨_,pA E,by rw [<- K.o,<- L.o];decide⟩)
    go_wp2_with (go_at_call 160;(with_reducible refine C.o.mono ?_);rintro e aa ⟨rfl,s⟩)
    go_ret;exact ⟨⟨_,rfl,by rw [T.o];exact yA ad⟩,q.o.trans (s.mono G)⟩
   |true=>
    have Y:qI (∀ j (B:j<ls.length),j<k+1->qcZ a ls[j]=true):=qH fun i V ai=>by
     by_cases e:i=k
     ·subst e
      rw [<- K.o,<- L.o]
     ·exact Q.o i V (by omega)
    go_wp2_with (go_at_call 160;(with_reducible refine C.o.mono ?_);rintro e aa ⟨rfl,s⟩)
    go_roundw
    case rel=>exact ⟨rfl,k+1,by rw [h.o];omega,by go_num,q.o.trans (s.mono G),Y.o⟩
    case measure=>simp [intOf];omega
  ·have ac:qI (ls.all (qcZ a)=true):=qH (nF.2 fun l W=>by
    obtain ⟨j,B,rfl⟩:=List.mem_iff_getElem.1 W;exact Q.o j B (by have :=h.o;omega))
   have q:=qH b;clear b;go_wp2;go_ret;exact ⟨⟨_,rfl,by rw [ac.o];rfl⟩,q.o⟩
def qBE (d a:Nat) (A:Option Addr) (n c:Nat) (ls:List (List Pn)) (w:World) (g:w.heap[d]?=some (.cells #[.int .i64 (a:Int)] 3 (0,0))) (h:ls.length=n) (i:n<=9223372036854775807) (b:qc0 w w.heap.size A ls) (j:∀ l∈ls,l.length<=9223372036854775807/\∀ p∈l,p.2.length<=9223372036854775807):
  yG 113 #[.slice A n c,.func (.func 160) #[] #[.pointer (some ⟨d,0,none⟩)]] w fun e w'=>e= .returned (.bool (!(ls.all (qcZ a))))/\wG w w':=by
 have C:=qH (qBD d a A n c ls w g h i b j);clear g h i b j;have ⟨z,k⟩:=qE (!(ls.all (qcZ a)));rw [<- k] at C ⊢;clear k
 go_enter func113,ntmps113
 go_wp2_with (go_at_call 159;(with_reducible refine C.o.mono ?_);rintro e q ⟨⟨r,rfl,b⟩,m⟩)
 go_ret;exact ⟨rfl,m⟩
def qBF (a:Nat) (w:World):yG 114 #[.int .i64 (a:Int)] w fun e w'=>e= .returned (.func (.func 160) #[] #[.pointer (some ⟨w.heap.size,0,none⟩)])/\w'=w.alloc (.cells #[.int .i64 (a:Int)] 3):=by
 go_enter func114,ntmps114
 go_wp2;go_ret;exact ⟨rfl,rfl⟩
def qrj:∀ {cs:List Value},(∀ i,i<cs.length->∃ A n c,cs[i]?=some (.slice A n c))->∃ vs,cs=sls vs
 |[],_=>⟨[],rfl⟩
 |u::cs,a=>by
  have ⟨A,n,c,b⟩:=a 0 (by simp);have ⟨vs,h1⟩:=qrj (cs:=cs) fun i d=>by
   have ⟨A,n,c,h2⟩:=a (i+1) (by simpa using d);exact ⟨A,n,c,by simpa using h2⟩
  refine ⟨(A,n,c)::vs,?_⟩;simp at b;rw [b,h1];rfl
def qc0.sls {ls:List (List Pn)} (a:qc0 w B A ls):∃ vs,vs.length=ls.length/\Row w B A (Go.Proofs.YtpehcaidjlemiaaGreatDoor.sls vs):=by
 obtain ⟨cs,h1,h2⟩:=a;obtain ⟨vs,rfl⟩:=qrj (cs:=cs) fun i b=>by
  have ⟨A,c,h3,_⟩:=h1.2 i (by rw [<- h1.1];exact b);exact ⟨A,_,c,h3⟩
 exact ⟨vs,by have :=h1.1;simpa [Go.Proofs.YtpehcaidjlemiaaGreatDoor.sls] using this,h2⟩
def qcC (w:World) (B:Nat) (V:Array Value) (wr:World):Prop:=wG w wr/\w.heap.size<=B/\wr.heap[B]?=some (.cells V 62 (0,0))
def qcC.below {V:Array Value} (c:qcC w B V wr) (b:wG wr w'):qcC w B V w':=by
 obtain ⟨a,h1,h2⟩:=c;exact ⟨a.trans (b.mono a.size),h1,(b.block _ (gA.1 h2).1).trans h2⟩
def qrk (w:World) (V:Array Value):qcC w w.heap.size V (w.alloc (.cells V 62)):=
 ⟨(bA _ w).alloc (aA _) _,aA _,jA w _⟩
def qBG (F t l i:Option Addr) (d J k E b s c j:Nat) (x:qai) (w:World)
    (ao:x.ids.length=d) (O:x.seqs.length=k) (X:x.keys.length=b) (K:x.lists.length=c) (G:PAt w w.heap.size F t l i x) (M:qg1 x) (al:b<=1048576):
    yG 69 #[.agg #[.slice F d J,.slice t k E,.slice l b s,.slice i c j]] w fun e w'=>e= .returned (.bool (qeK x))/\wG w w':=by
  have ⟨V,aa⟩:=qE (#[.slice F d J,.slice t k E,.slice l b s,.slice i c j]:Array Value);have ⟨z,T⟩:=qE (qeK x);have ⟨ac,A⟩:=qE (qal (-1) x.seqs);have ⟨I,U⟩:=qE (qdB x.keys);have ⟨Q,af⟩:=qE (x.lists.all (qcZ d));have ah:qeK x=(decide (d=k)&&(decide (b=c)&&(ac&&(I&&Q)))):=by rw [A,U,af,<- ao,<- O,<- X,<- K];rfl
  have Z:qI (∀ a,wG w a->yG 111 #[.slice t k E] a fun e w'=>e= .returned (.bool ac)/\wG a w'):=qH fun a g=>by
    rw [A];exact qz5 t k E x.seqs a (G.later g).seqs O (O▸M.2.1)
  have an:qI (∀ a,wG w a->yG 112 #[.slice l b s,.slice i c j] a fun e w'=>(∃ p,e= .returned (.tuple #[.pointer p,.int .i64 (if b=c/\I=true then 0 else 1)]))/\wG a w'):=qH fun a g=>by
    by_cases h:b=c/\I=true
    · rw [eA h]
      obtain ⟨ay,ax⟩:=h;have ⟨vs,a2,a3⟩:=(G.later g).lists.sls;subst ay;exact (qv7 l i b s j x.keys vs a (G.later g).keys X al a3 (by rw [a2,K]) (by rw [<- U];exact ax)).mono fun e w' ⟨B,h1,_,h2⟩=>⟨⟨_,h1⟩,h2⟩
    · rw [dA h]
      refine (qv4 l i b s c j x.keys a (G.later g).keys X (by omega) ?_).mono fun e w' ⟨h1,h2⟩=>⟨⟨_,h1⟩,h2⟩
      by_cases h1:b=c
      · exact .inr (by rw [<- U];exact Bool.eq_false_iff.2 fun e=>h ⟨h1,e⟩)
      · exact .inl h1
  have aw:qI (∀ a P,wG w a->a.heap[P]?=some (.cells #[.int .i64 (d:Int)] 3 (0,0))->yG 113 #[.slice i c j,.func (.func 160) #[] #[.pointer (some ⟨P,0,none⟩)]] a fun e w'=>e= .returned (.bool (!Q))/\wG a w'):=qH fun a P g aq=>by
    rw [af];exact qBE P d i c j x.lists a aq K (K▸M.2.2.2.1) (G.later g).lists M.2.2.2.2
  have ar:=qH aa;rw [<- T];rw [ah] at T;have W:=qH T;clear T A U af ah G M ao O X K al;have r:qI (∀ wr,qcC w w.heap.size V wr->wr.cell? ⟨w.heap.size,0,none⟩=some (.slice F d J)/\wr.cell? ⟨w.heap.size,1,none⟩=some (.slice t k E)/\wr.cell? ⟨w.heap.size,2,none⟩=some (.slice l b s)/\wr.cell? ⟨w.heap.size,3,none⟩=some (.slice i c j)):=qH fun wr g=>by
    obtain ⟨_,_,h2⟩:=g;rw [ar.o] at h2;exact qgZ h2
  have ⟨a,ab⟩:=qE (w.alloc (.cells #[.slice F d J,.slice t k E,.slice l b s,.slice i c j] 62));have m:qI (qcC w w.heap.size V a):=qH (by rw [ab,aa];exact qrk w _);have N:=qH ab;clear ab aa;by_cases ag:d=k
  · subst ag
    have ⟨q,n,q2,q3⟩:=r.o _ m.o;rcases A:ac with _|_
    · have L:z=false:=by rw [W.o,A];simp
      subst A L
      go_enter func69,ntmps69
      go_wp2_with (go_at_call 111;rw [show w.alloc _=a from N.o.symm];refine (Z.o _ m.o.1).mono ?_;rintro e Y ⟨rfl,C⟩)
      go_ret;exact ⟨rfl,(m.o.below C).1⟩
    subst A;by_cases h:b=c/\I=true
    · have v:=fun a g=>an.o a g
      simp only [eA h] at v;have ad:=qH v;have av:qI (z=Q):=qH (by rw [W.o,h.2,yA h.1];simp);clear v h
      go_enter func69,ntmps69
      go_wp2_with (first
        | (go_at_call 111; rw [show w.alloc _ = a from N.o.symm]; refine (Z.o _ m.o.1).mono ?_; rintro e Y ⟨rfl, C⟩
           have y:qI (qcC w w.heap.size V Y):=qH (m.o.below C);clear C q n q2 q3;have ⟨q,n,q2,q3⟩:=r.o _ y.o)
        | (go_at_call 112; refine (ad.o _ y.o.1).mono ?_; rintro e w3 ⟨⟨p, rfl⟩, H⟩
           have D:qI (qcC w w.heap.size V w3):=qH (y.o.below H);clear H q n q2 q3;have ⟨q,n,q2,q3⟩:=r.o _ D.o))
      have ⟨S,R⟩:=qE ((w3.drew).alloc (.cells #[.int .i64 (d:Int)] 3));have ae:wG w3 S:=by rw [R];exact (bA w3.heap.size w3).drew.alloc (aA _) _
      have au:=qH R;have ak:S.heap[w3.heap.size]?=some (.cells #[.int .i64 (d:Int)] 3 (0,0)):=by rw [R];exact jA w3.drew _
      have a0:=qH (aw.o S w3.heap.size (D.o.1.trans (ae.mono D.o.1.size)) ak);have am:qI (qcC w w.heap.size V S):=qH (D.o.below ae);have a1:qI (qcC w w.heap.size V w3.drew):=qH (D.o.below (bA _ w3).drew);clear R ae ak
      go_region_held3 (fun w'=>(w'.cell? ⟨w.heap.size,0,none⟩=some (.slice F d J)/\w'.cell? ⟨w.heap.size,1,none⟩=some (.slice t d E)/\w'.cell? ⟨w.heap.size,2,none⟩=some (.slice l b s)/\w'.cell? ⟨w.heap.size,3,none⟩=some (.slice i c j)))
        (first|exact r.o _ a1.o|exact r.o _ am.o|exact r.o _ aj.o)
        (first
          | (go_at_call 114; refine (qBF _ _).mono ?_; rintro e w' ⟨rfl, rfl⟩
             rw [<- au.o])
          | (go_at_call 113; refine a0.o.mono ?_; rintro e az ⟨rfl, ap⟩
             have aj:qI (qcC w w.heap.size V az):=qH (am.o.below ap)))
      go_wp2;go_ret;refine ⟨?_,aj.o.1⟩;rw [av.o];cases Q<;>rfl
    · have v:=fun a g=>an.o a g
      simp only [dA h] at v;have ad:=qH v;have L:z=false:=by
        rw [W.o];by_cases ai:b=c
        · rw [show I=false from Bool.eq_false_iff.2 fun e=>h ⟨ai,e⟩];simp
        · rw [uA ai];simp
      subst L;clear v h
      go_enter func69,ntmps69
      go_wp2_with (first
        | (go_at_call 111; rw [show w.alloc _ = a from N.o.symm]; refine (Z.o _ m.o.1).mono ?_; rintro e Y ⟨rfl, C⟩
           have y:qI (qcC w w.heap.size V Y):=qH (m.o.below C);clear C q n q2 q3;have ⟨q,n,q2,q3⟩:=r.o _ y.o)
        | (go_at_call 112; refine (ad.o _ y.o.1).mono ?_; rintro e w3 ⟨⟨p, rfl⟩, H⟩
           have D:qI (qcC w w.heap.size V w3):=qH (y.o.below H);clear H q n q2 q3))
      go_ret;exact ⟨rfl,D.o.1⟩
  · have L:z=false:=by rw [W.o,uA ag];simp
    subst L;have a4:((d:Int) != (k:Int))=true:=by simp;omega
    have ⟨q,n,q2,q3⟩:=r.o _ m.o;clear ag
    go_enter func69,ntmps69
    clear q n q2 q3;go_wp2;go_ret;exact ⟨rfl,by rw [<- N.o];exact m.o.1⟩
structure qcP (b0 zz:Nat) (v3 v4:Value) (ks:List Nm) (cs:List Value) (ls:List (List Pn)) (w:World):Prop where
 hbase:b0<=zz
 size:zz<=w.heap.size
 keys:w.ownsRow zz 9 1 v3 ks.length (qad ks)
 lists:w.ownsRow zz 71 1 v4 ls.length cs
 lg:LG b0 w ls cs
section
variable {b0 zz:Nat} {v3 v4:Value} {ks:List Nm} {ls:List (List Pn)} {cs:List Value} {w w':World}
def qcP.below (b:qcP b0 zz v3 v4 ks cs ls w) (a:wG w w'):qcP b0 zz v3 v4 ks cs ls w':=by
 obtain ⟨c,d,e,f,g⟩:=b;exact ⟨c,lA d a.size,qaf e a,qaf f a,g.keep (.of_below a (by omega))⟩
structure qf4 (b0:Nat) (w w':World):Prop where
 size:w.heap.size<=w'.heap.size
 low:∀ k,k<b0->w'.heap[k]?=w.heap[k]?
 kinds:∀ (k:Nat) (cs:Array Value) (t:TypeId) (fr:Nat × Nat),w.heap[k]?=some (.cells cs t fr)->t≠9->t≠71->w'.heap[k]?=some (.cells cs t fr)
 others:KeepsOthers w w'
 below:Below b0 w w'
def qf4.grown {size:Nat} (g:w.ownsRow zz E size v n xs) (h:b0<=zz) (l:E=9\/E=71) (b:w.grownBy w' v.ownBlock) (i:zz<=w.heap.size):qf4 b0 w w':=
  ⟨b.size, fun k a => b.block k (by omega) (fun e => by have := (g.lt k e.symm).1; omega), fun k c t fr a h1 h2 => (b.block k (gA.1 a).1 (fun e => qan g a (by rcases l with rfl | rfl <;> assumption) e.symm)).trans a,
   KeepsOthers.of_grownBy b fun j o p d=>by
      have ⟨cs',q,m⟩:=qd0 g p;rw [m] at d;injection d with d;rw [<- d];rfl,(bA b0 w).grown b (lA h i) fun k a=>by have :=(g.lt k a).1;omega⟩
def qf4.kept (a:qf4 b0 w w'):qay b0 w w':=⟨a.size,a.low,fun k c t fr d b=>a.kinds k c t fr d (by rintro rfl;exact absurd b (by unfold PoK;decide)) (by rintro rfl;exact absurd b (by unfold PoK;decide))⟩
def qcP.key (i:qcP b0 zz v3 v4 ks cs ls w) {v':Value} {k:Nm} (h:w'.ownsRow zz 9 1 v' (ks.length+1) (qad ks++[.string ⟨k.toArray⟩])) (b:w.grownBy w' v3.ownBlock):qcP b0 zz v' v4 (ks++[k]) cs ls w'/\qf4 b0 w w':=by
 obtain ⟨c,d,e,f,g⟩:=i;have a:=qf4.grown e c (.inl rfl) b d;refine ⟨⟨c,lA d a.size,?_,qg5 f e (by decide) b,g.keep a.kept⟩,a⟩;rw [iA,bB];simpa [qad] using h
def qcP.list (k:qcP b0 zz v3 v4 ks cs ls w) {v':Value} {l:List Pn} {A:Option Addr} {c:Nat} (j:l.length<=c/\c<=maxLen) (m:qbn b0 w A l) (i:w'.ownsRow zz 71 1 v' (ls.length+1) (cs++[.slice A l.length c])) (b:w.grownBy w' v4.ownBlock):
  qcP b0 zz v3 v' ks (cs++[.slice A l.length c]) (ls++[l]) w'/\qf4 b0 w w':=by
 obtain ⟨h,d,e,f,g⟩:=k;have a:=qf4.grown f h (.inr rfl) b d;refine ⟨⟨h,lA d a.size,qg5 e f (by decide) b,?_,(g.snoc j m).keep a.kept⟩,a⟩;rw [iA,bB];exact i
def qcP.set (l:qcP b0 zz v3 v4 ks cs ls w) {R o:Nat} {xs:Array Value} {t:TypeId} {fr:Nat × Nat} (h:w.heap[R]?=some (.cells xs t fr)) (j:b0<=R) (k:¬ PoK t) (m:t≠9) (i:t≠71) (v:Value):qcP b0 zz v3 v4 ks cs ls (w.setCell ⟨R,o,none⟩ v):=by
 obtain ⟨c,d,e,f,g⟩:=l;exact ⟨c,by simpa using d,qaq e fun g a=>rA _ _ _ _ (fun b=>qan e h m (by rw [a,b])),qaq f fun g a=>rA _ _ _ _ (fun b=>qan f h i (by rw [a,b])),g.keep (qay.setCell h j k v)⟩
def qcP.firm (w:b0<=N):qaE N (fun W=>qcP b0 zz v3 v4 ks cs ls W):=fun W l o h y r m b=>by
 obtain ⟨c,d,e,f,g⟩:=b;have a:∀ (k:Nat) (cs:Array Value) (t:TypeId) (fr:Nat × Nat),W.heap[k]?=some (.cells cs t fr)->(W.putObj l h).heap[k]?=some (.cells cs t fr):=fun k cs t fr a=>(World.putObj_heap_other (by rintro rfl;rw [r] at a;injection a with a;rw [a] at m;cases m)).trans a
 have q:qay b0 W (W.putObj l h):=⟨by simp,fun k a=>World.putObj_heap_other (by omega),fun k cs t fr b _=>a k cs t fr b⟩;have i:∀ {E:TypeId} {s n:Nat} {v:Value} {xs:List Value},W.ownsRow zz E s v n xs->(W.putObj l h).ownsRow zz E s v n xs:=fun b=>qaq b fun g p=>by
  have ⟨cs',x,j⟩:=qd0 b p;rw [j,a _ _ _ _ j]
 exact ⟨c,by simpa using d,i e,i f,g.keep q⟩
end
def qgQ.stay {b0:Nat} {l:List Po} {e:Ending} (a:qgQ (qat b0 3 w) l w e w') (d:b0<=w.heap.size):∃ A c,e= .returned (.slice A l.length c)/\(l.length<=c/\c<=maxLen)/\qbn b0 w' A l/\wG w w':=by
 obtain ⟨v,cs,rfl,h1,h2,h3⟩:=a;obtain ⟨A,c,rfl,b,g⟩:=qeo h1;exact ⟨A,c,rfl,b,⟨cs,h2.imp fun _ _ a=>a.keep (.inr rfl) (.of_below h3 d),.of_own h1⟩,h3⟩
def LG.lpostsR {b0:Nat} {ls:List (List Pn)} (a:LG b0 w ls cs) (c:Row w w.heap.size A cs):qjf (qat b0 3 w) w A ls:=
 ⟨cs,⟨a.1,fun i d=>by
  have ⟨e,h,h1,h2,b,h3,g⟩:=a.2 i d;exact ⟨e,h,h1,h2,b,h3,g.row⟩⟩,c⟩
