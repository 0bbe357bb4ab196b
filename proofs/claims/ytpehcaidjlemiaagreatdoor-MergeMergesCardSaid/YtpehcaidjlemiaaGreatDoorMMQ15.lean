import Derived.Test.YtpehcaidjlemiaaGreatDoorMMQ14
set_option maxHeartbeats 16000000
set_option maxRecDepth 100000
set_option linter.all false
namespace Go.Proofs.YtpehcaidjlemiaaGreatDoor
open Go Go.RowKit Go.Proofs.Tryz
variable {w w' W wr:World} {k n b c i m zz B lo N D:Nat} {A A':Option Addr} {v:Value} {xs:List Value} {t:TypeId} {l:List (List UInt8)} {G L:List (Int × List (List UInt8 × List UInt8) × Int)} {Ls:List (List (Int × List (List UInt8 × List UInt8) × Int))} {rs:List (List Bool)} {s:List Int} {fr:Nat × Nat}
def qeQ (l:List Bool) (n:Nat):List Bool:=(List.range n).map fun i=>l.getD i true
def qbA (l:List Bool) (n k:Nat):List Bool:=(List.range n).map fun i=>if i<k then l.getD i true else false
def qrv (l:List Bool) (n:Nat):(qeQ l n).length=n:=by simp [qeQ]
def qBX (l:List Bool) (n k:Nat):(qbA l n k).length=n:=by simp [qbA]
def qrw (l:List Bool) (n:Nat):qbA l n 0=List.replicate n false:=by
 refine dD (by simp [qbA]) fun i h1 h2=> ?_
 simp [qbA]
def qBY (l:List Bool) (n:Nat):qbA l n n=qeQ l n:=by
 refine dD (by simp [qbA,qeQ]) fun i h1 h2=> ?_
 have :i<n:=by simpa [qbA] using h1
 simp [qbA,qeQ,this]
def ql2 (l:List Bool) {n k:Nat} (b:k<n):(qbA l n k).set k (l.getD k true)=qbA l n (k+1):=by
 refine dD (by simp [qbA]) fun i h1 h2=> ?_
 simp only [oF,qbA,eC,List.getElem_range];by_cases e:k=i
 ·subst e
  rw [eA rfl,eA (by omega)]
 ·rw [dA e]
  by_cases a:i<k
  ·rw [eA a,eA (by omega)]
  ·rw [dA a,dA (by omega)]
def qBZ (l:List Bool) {n k:Nat} (b:k<n) (a:l.getD k true=false):qbA l n (k+1)=qbA l n k:=by
 rw [<- ql2 l b,a];refine dD (by simp) fun i h1 h2=> ?_
 rw [oF];by_cases e:k=i
 ·subst e
  rw [eA rfl];simp [qbA]
 ·rw [dA e]
def qrx (l:List Bool) {n k:Nat} (b:k<n) (a:l.getD k true=true):Plain.turnB (qbA l n k) (k:Int) true=qbA l n (k+1):=by
 rw [<- ql2 l b,a,Plain.turnB,eA (by omega),rD]
def qry (l:List Bool) (n:Nat) (w:World) (e:Ending) (w':World):Prop:=∃ a B,e= .returned (.tuple #[.slice (some ⟨a,0,none⟩) n n,.pointer (some ⟨B,0,none⟩)])/\w'.ownsRow w.heap.size 4 1 (.slice (some ⟨a,0,none⟩) n n) n (qbK (qeQ l n))/\qbd w' w.heap.size B (qeQ l n)/\wG w w'
structure qg7 (l:List Bool) (n k D B:Nat) (w wr:World):Prop where
 row:wr.ownsRow w.heap.size 4 1 (.slice (some ⟨D,0,none⟩) n n) n (qbK (qbA l n k))
 set:qbd wr w.heap.size B (qbA l n k)
 below:wG w wr
def qrz (l:List Bool) (n a B:Nat) (w:World) (i:Value) (wr:World):Prop:=∃ k:Nat,k<=n/\i= .int .i64 (k:Int)/\qg7 l n k a B w wr
def qg7.store {l:List Bool} (a:qg7 l n k D B w wr) (c:k<n):
  (wr.cell? ⟨D,k,none⟩=some (.bool false)/\wr.frozen? ⟨D,k,none⟩=false)/\(wr.setCell ⟨D,k,none⟩ (.bool (l.getD k true))).cell? ⟨D,k,none⟩=some (.bool (l.getD k true))/\
  (wr.setCell ⟨D,k,none⟩ (.bool (l.getD k true))).ownsRow w.heap.size 4 1 (.slice (some ⟨D,0,none⟩) n n) n (qbK (qbA l n (k+1)))/\qbd (wr.setCell ⟨D,k,none⟩ (.bool (l.getD k true))) w.heap.size B (qbA l n k)/\wG w (wr.setCell ⟨D,k,none⟩ (.bool (l.getD k true))):=by
 have ⟨cs,fr,d⟩:=qd0 a.row (g:=D) rfl;have b:=(a.row.stored k (.bool (l.getD k true))).1;rw [<- qwJ,ql2 l c] at b;refine ⟨⟨?_,a.row.frozenAt k⟩,?_,b,a.set.keptN (qar.cell d _) (by decide) (by decide),a.below.setCell (p:=⟨D,k,none⟩) (a.row.lt D rfl).1 _⟩
 ·rw [a.row.cellAt k (by omega)]
  simp [qbK,qbA,c]
 ·rw [b.cellAt k (by omega)]
  simp [qbK,qbA,c]
def qB0 (A:Option Addr) (h c:Nat) (l:List Bool) (n:Nat) (w:World) (V:l.length=h) (L:Row w w.heap.size A (qbK l)) (a3:n<=1000) (a0:h<=9223372036854775807):
    yG 12 #[.slice A h c,.int .i64 (n:Int)] w (qry l n w):=by
  have ⟨au,av,ao,ap,al⟩:=lG qwI;have ai:=qH L;have F:=qH V;have S:(madeCells #[Value.bool false] n).toList=qbK (List.replicate n false):=by
    rw [pF,qbK,List.map_replicate]
  have ar:=qH S;clear L V S
  go_enter func12,ntmps12
  go_wp2_with (at_make;refine wpList_make_full _ rfl _ _ 24 rfl w.heap.size 4 au _ 1 underlying24 av ao ap _ _ _ _ n rfl rfl rfl rfl (by rw [al];omega) (by unfold maxLen;omega) (aA _) ?_)
  intro y H Z;rw [ar.o] at H;have s:wG w y:=(bA _ _).grown Z (aA _) (fun k G=>by cases G);have N:=qH H;have x:=qH s;have R:=qH (qxo (n:Int) y (by omega));clear H Z s
  go_wp2_with (go_at_call 22;(with_reducible refine R.o.mono ?_))
  rintro e ag ⟨rfl,C,K⟩;rw [rD,<- qrw l] at C;have a:qg7 l n 0 w.heap.size y.heap.size w ag:=⟨by rw [qrw];exact qaf N.o K,C.low x.o.size,x.o.trans (K.mono x.o.size)⟩;have ⟨m,z⟩:=qE w.heap.size;have ⟨B,Q⟩:=qE y.heap.size;rw [<- Q] at a ⊢;have af:qrz l n m B w (.int .i64 0) ag:=⟨0,kA _,rfl,by rw [z];exact a⟩;have T:=qH af;clear a af C K Q N x R;rw [<- z];clear z;go_wp2
  go_loopw [8] (fun i wr=>qrz l n m B w i wr) (fun i _=>n-(intOf i).toNat)
  case atStart=>exact T.o
  case round=>
    clear T;obtain ⟨k,G,rfl,a⟩:=hrel;by_cases ad:k<n
    · have O:=a.store ad
      have ⟨b,j⟩:=qE (l.getD k true);rw [<- j] at O;obtain ⟨⟨ax,a1⟩,ay,ab,ae,aa⟩:=O;have a2:(k:Int)<(n:Int):=by omega
      have aq:=qH a.below;have D:=qH ab;have g:=qH ae;have v:=qH aa;have Y:∀ W,qbd W w.heap.size B (qbA l n k)->w.heap.size<=W.heap.size->yG 34 #[.pointer (some ⟨B,0,none⟩),.int .i64 (k:Int)] W (qot w.heap.size B (Plain.turnB (qbA l n k) (k:Int) true) (Plain.mayB (qbA l n k).length (k:Int)&& !Plain.hasB (qbA l n k) (k:Int)) W):=fun W aj j=>
        qwT w.heap.size B (qbA l n k) (k:Int) W aj (by rw [qBX];unfold big;omega) (by omega) (by omega) j
      have I:=qH Y;have t:=qH j;have ⟨az,ac⟩:=qE ((Plain.mayB (qbA l n k).length (k:Int)&& !Plain.hasB (qbA l n k) (k:Int)));rw [<- ac] at I;clear a Y ab ae aa j ac G;have r:k<n:=ad;by_cases M:k<h
      · obtain ⟨ah,ak,rfl,s,E⟩:=qol ai.o (k:=k) (by rw [F.o];exact M)
        have P:l.getD k false=b:=by
          have :k<l.length:=by rw [F.o];exact M
          rw [t.o,mA,mA,oA this];rfl
        rw [P] at E;have aw:=(aq.o.cell (p:=⟨ah,ak+k,none⟩) s).trans E;have am:(k:Int)<(h:Int):=by omega
        clear P E s;cases b with
        |true=>
          go_wp2_with (go_at_call 34; (with_reducible refine (I.o _ g.o v.o.size).mono ?_); rintro e w3 ⟨rfl, q, d⟩
                       have J:qI (qg7 l n (k+1) m B w w3):=qH ⟨g.o.row d D.o (by decide) (by decide),by rw [<- qrx l r t.o.symm];exact q,v.o.trans (g.o.turned_below d)⟩;clear q d)
          go_roundw
          case rel=>exact ⟨k+1,by omega,by go_num,J.o⟩
          case measure=>simp [intOf];omega
        |false=>
          go_wp2;go_roundw
          case rel=>exact ⟨k+1,by omega,by go_num,D.o,by rw [qBZ l r t.o.symm];exact g.o,v.o⟩
          case measure=>simp [intOf];omega
      · obtain rfl:b=true:=by
          rw [t.o,mA,sC (by have :=F.o;omega)];rfl
        have am:(h:Int)<=(k:Int):=by omega
        go_wp2_with (go_at_call 34; (with_reducible refine (I.o _ g.o v.o.size).mono ?_); rintro e w3 ⟨rfl, q, d⟩
                     have J:qI (qg7 l n (k+1) m B w w3):=qH ⟨g.o.row d D.o (by decide) (by decide),by rw [<- qrx l r t.o.symm];exact q,v.o.trans (g.o.turned_below d)⟩;clear q d)
        go_roundw
        case rel=>exact ⟨k+1,by omega,by go_num,J.o⟩
        case measure=>simp [intOf];omega
    · have r:k=n:=by omega
      subst r;obtain ⟨X,U,an⟩:=a;rw [qBY] at X U;go_wp2;go_ret2;exact ⟨m,B,rfl,X,U,an⟩
def qbn.of_p0 {b0:Nat} {l:List Pn} (a:qdd zz w v l):∃ A c,v= .slice A l.length c/\(l.length<=c/\c<=maxLen)/\qbn b0 w A l:=by
 obtain ⟨cs,h1,h2⟩:=a;obtain ⟨A,c,rfl,b,d⟩:=qeo h1;exact ⟨A,c,rfl,b,cs,h2.imp fun _ _ a=> .of_safe a,.of_own h1⟩
abbrev qb4:Array Value:=#[.slice none 0 0,.slice none 0 0,.slice none 0 0,.slice none 0 0]
def noP:NoP 43:=by unfold NoP;decide
def qew (a:List En) (k:Nat):qai:=⟨(a.take k).map (·.1),(a.take k).map (·.2.2),[],[]⟩
def qek (a:List En) (k:Nat):qai:=⟨(qac a).ids,(qac a).seqs,(qac a).keys,(qac a).lists.take k⟩
def qrA (P:Nat) (a:List En) (w:World) (i:Value) (wr:World):Prop:=∃ (k:Nat) (b c:Value),k<=a.length/\i= .int .i64 (k:Int)/\qa3 43 (fun _=>False) P P P b c (.slice none 0 0) (.slice none 0 0) (qew a k) w wr
def qrB (P:Nat) (a:List En) (b d c:Value) (w:World) (i:Value) (wr:World):Prop:=∃ (k:Nat) (e:Value),k<=(qac a).keys.length/\i= .int .i64 (k:Int)/\qa3 43 (fun _=>False) P P P b d c e (qek a k) w wr
def qrC (w:World):wG w ((w.alloc (.cells qb4 43)).alloc (.cells qb4 43))/\((w.alloc (.cells qb4 43)).alloc (.cells qb4 43)).heap[w.heap.size]?=some (.cells qb4 43 (0,0))/\((w.alloc (.cells qb4 43)).alloc (.cells qb4 43)).heap[w.heap.size+1]?=some (.cells qb4 43 (0,0))/\((w.alloc (.cells qb4 43)).alloc (.cells qb4 43)).heap.size=w.heap.size+2:=by
 refine ⟨((bA _ w).alloc (aA _) _).alloc (by simp) _,?_,by simpa using jA (w.alloc (.cells qb4 43)) (.cells qb4 43),by simp⟩;rw [pB _ _ _ (by simp)];exact jA w _
def qB1 (af:Option Addr) (N al:Nat) (a:List En) (w:World) (bp:a.length=N) (cx:qb9 enS w w.heap.size af a) (be:qbz a):yG 13 #[.slice af N al] w (qrp (qac a) w):=by
  have ⟨cl,b7,ca,cg,b3⟩:=lG qc4;have ⟨d8,dg,de,dd,dz⟩:=lG qhT;have ek:N<=100:=by rw [<- bp];exact be.few
  have ah:=qH cx;have a1:=qH be;have M:=qH bp;have ⟨ay,a0,an,b4⟩:=qrC w;have ⟨A,a6⟩:=qE ((w.alloc (.cells qb4 43)).alloc (.cells qb4 43));rw [<- a6] at ay a0 an b4;have ⟨P,bk⟩:=qE (w.heap.size+1);rw [<- bk] at an;have c6:qrA P a A (.int .i64 ((0:Nat):Int)) A:=⟨0,_,_,kA _,rfl,qrq an (.inl (aA _)) (by omega) (qb3.refl _ _ _)⟩;have cy:=qH c6;have bn:=qH ay;have di:=qH a0;have bd:=qH bk;have d2:=qH a6;clear cx be bp ay a0 an b4 c6 bk a6
  go_enter func13,ntmps13
  go_wp2;rw [<- bd.o,show (w.alloc _).alloc _=A from d2.o.symm]
  go_loopw [4] (fun i wr=>qrA P a A i wr) (fun i _=>N-(intOf i).toNat)
  case atStart=>exact cy.o
  case round=>
    clear cy;obtain ⟨k,au,br,dl,rfl,c⟩:=hrel;rw [M.o] at dl;have bo:w.heap.size<=P:=by rw [bd.o];omega
    have v:wG w wr:=bn.o.trans ((c.stay.to (aA _) (fun _ _=>id)).mono bo);by_cases a7:k<N
    · have av:k<a.length:=by rw [M.o];exact a7
      obtain ⟨b,d1,e0,ew,C,em,cn, -,az, -, -, -⟩:=qjb (qb9.below ah.o v) av;subst C;have c3:a.take (k+1)=a.take k++[a[k]]:=aB av;have du:(a.take k).length=k:=by rw [sA];omega
      have ⟨ar,bm⟩:=qE (a[k].1);have ⟨ao,ak⟩:=qE (a[k].2.2);rw [<- bm] at cn;rw [<- ak] at az;have ba:qew a (k+1)=⟨(qew a k).ids++[ar],(qew a k).seqs++[ao],[],[]⟩:=by unfold qew;rw [c3,jC,jC,bm,ak];rfl
      have D:k=(qew a k).ids.length:=by simp [qew];omega
      have E:k=(qew a k).seqs.length:=by simp [qew];omega
      have ⟨x,d⟩:=qE (qew a k);have ct:x.keys=[]:=by rw [d];rfl
      have bw:x.lists=[]:=by rw [d];rfl
      rw [<- d] at c ba D E;obtain ⟨cm,cv,ag, -⟩:=qaU c.ids;obtain ⟨a3,aw,C, -⟩:=qaU c.seqs;rw [<- D] at ag;rw [<- E] at C;subst ag C;have c9:=(qaw c.cell).1.1;have dh:∀ o,(wr.alloc o).cell? ⟨P,0,none⟩=some (.slice cm k cv):=fun o=>(qaw (c.later ((bA wr.heap.size wr).alloc (aA _) o)).cell).1.1
      have B:=qH c;have dp:=qH ba;have Z:=qH D;have aa:=qH E;have ax:=qH ct;have bq:=qH bw;have ey:(k:Int)<(N:Int):=by omega
      have dv:qI (∀ W,Below P A W->W.cell? ⟨b,d1+k*3+2,none⟩=some (.int .i64 ao)):=qH fun W X=>by
        obtain ⟨es,ez,_,_,a8,eo,_, -,d3, -, -, -⟩:=qjb (qb9.below ah.o (bn.o.trans (X.mono bo))) av;injection a8 with a8
        injection a8 with ai F
        subst ai F;rw [d3,ak]
      have dy:=c.size;clear c ba D E ct bw c3 du bm ak d az v;go_wp2
      go_cut [] from 6 to 32 (fun dc=>∃ cf,qa3 43 (fun _=>False) P P P cf (.slice a3 k aw) (.slice none 0 0) (.slice none 0 0) ⟨x.ids++[ar],x.seqs,x.keys,x.lists⟩ A dc)
      case first=>
        go_region_law (first
          | (refine step_append_lies _ (by rfl) _ _ _ (by rfl) P 3 cl _ 1 8 underlying23 b7 ca cg b3 rfl (by omega) (.slice cm k cv) k (qaa x.ids) (by rfl) (by have := B.o.ids; rw [<- Z.o] at this; exact this.drew.alloc _)
              ⟨wr.drew.heap.size,0,none⟩ 1 1 [.int .i64 ar] (by rfl) (by rfl) (World.news_of_block (cs:=#[.int .i64 ar]) (t:=3) (fr:=(0,0)) (jA wr.drew _)) (by intro u H;simp at H;subst H;rfl)
              (by omega) (by unfold maxLen;omega) (by omega) (by simp;omega) (wr.heap.size+1) (by simp) ?_
             intro c1 cw ch z G J Y;have ⟨⟨b5,c7⟩,s⟩:=(B.o.later ((bA _ wr).drew.alloc (aA _) _)).id noP ax.o bq.o Z.o z G (fun g K=>by
               injection K with K
               subst K;rcases J with h|h
               · exact .inl h
               · exact .inr (by simp;omega))
             have V:=qH s;clear z G J Y s))
        all_goals
          go_wp2_with fail
          go_meet;exact ⟨_,V.o⟩
      case rest=>
        obtain ⟨cf,O⟩:=hcut;have ef:=(qaw O.cell).1.2.1;have e1:∀ o,(wc.alloc o).cell? ⟨P,1,none⟩=some (.slice a3 k aw):=fun o=>(qaw (O.later ((bA wc.heap.size wc).alloc (aA _) o)).cell).1.2.1
        have az:=dv.o _ (O.stay.to (aA _) (fun _ _=>id));have bz:=qH O;have ex:=O.size;clear O c9 dh cn;go_wp2
        go_region_law (first
          | (refine step_append_lies _ (by rfl) _ _ _ (by rfl) P 3 cl _ 1 8 underlying23 b7 ca cg b3 rfl (by omega) (.slice a3 k aw) k (qaa x.seqs) (by rfl) (by have := bz.o.seqs; rw [<- aa.o] at this; exact this.drew.alloc _)
              ⟨wc.drew.heap.size,0,none⟩ 1 1 [.int .i64 ao] (by rfl) (by rfl) (World.news_of_block (cs:=#[.int .i64 ao]) (t:=3) (fr:=(0,0)) (jA wc.drew _)) (by intro u H;simp at H;subst H;rfl)
              (by omega) (by unfold maxLen;omega) (by omega) (by simp;omega) (wc.heap.size+1) (by simp) ?_
             intro c1 cw ch z G J Y;have ⟨⟨b5,c7⟩,s⟩:=(bz.o.later ((bA _ wc).drew.alloc (aA _) _)).seq noP ax.o bq.o aa.o z G (fun g K=>by
               injection K with K
               subst K;rcases J with h|h
               · exact .inl h
               · exact .inr (by simp;omega))
             rw [ax.o,bq.o,<- dp.o] at s;have V:=qH s;clear z G J Y s))
        all_goals
          go_wp2;go_roundw
          case rel=>exact ⟨k+1,_,_,by rw [M.o];omega,by go_num,V.o⟩
          case measure=>simp [intOf];omega
    · have dt:k=N:=by omega
      subst dt;have d:qew a k=⟨(qac a).ids,(qac a).seqs,[],[]⟩:=by unfold qew qac;rw [nB (by rw [M.o];exact aA _)]
      rw [d] at c;have ce:=qH (qA0 af k al a wr M.o (qb9.later ah.o v) a1.o.good (by omega));have B:=qH c;have d7:=qlj a1.o;clear d c;have ⟨y,bc⟩:=qE ((qah a).length);rw [<- bc] at d7;have ad:=qH bc;clear bc
      go_upto_region 8 with (go_at_call 35; (with_reducible refine ce.o.mono ?_); rintro e cr ⟨ev, rfl, bh, cd⟩
                             obtain ⟨n,m,rfl, -⟩:=qaU bh;have a9:=B.o.later cd;obtain ⟨⟨-, -,d0, -⟩, -, -,dx, -⟩:=qaw a9.cell;have bf:=a9.keysIn noP bh B.o.size;rw [<- ad.o] at bf ⊢;have b9:qI (qa3 43 (fun _=>False) P P P au br (.slice n y m) (.slice none 0 0) (qek a 0) A (cr.setCell ⟨P,2,none⟩ (.slice n y m))):=qH bf;clear bh cd a9 bf)
      have co:qI (qrB P a au br (.slice n y m) A (.int .i64 ((0:Nat):Int)) (cr.setCell ⟨P,2,none⟩ (.slice n y m))):=qH ⟨0,_,kA _,rfl,b9.o⟩;clear ce B b9 v d0 dx;go_wp2
      go_loopw [5] (fun i wr=>qrB P a au br (.slice n y m) A i wr) (fun i _=>y-(intOf i).toNat)
      case atStart=>exact co.o
      case round=>
        clear co;obtain ⟨j,eq,d4,rfl,c⟩:=hrel;rw [show (qac a).keys.length=y from ad.o.symm] at d4
        have v:wG w wr:=bn.o.trans ((c.stay.to (aA _) (fun _ _=>id)).mono bo);obtain ⟨⟨-, -,q2,q3⟩, -⟩:=qaw c.cell;by_cases a7:j<y
        · have am:j<(qah a).length:=by rw [<- ad.o];exact a7
          have ⟨ee,er,C,eh,dr⟩:=qdr (qbx c.keys) (k:=j) am;subst C;have ⟨key,qaD⟩:=qE ((qah a)[j]);have b1:(qek a j).keys[j]'am=key:=qaD.symm;rw [b1] at dr;have b8:j<(qac a).lists.length:=by simpa [qac] using am
          have cb:(qac a).lists[j]'b8=qak 0 a key:=by rw [qaD];simp [qac]
          have ap:qek a (j+1)=⟨(qek a j).ids,(qek a j).seqs,(qek a j).keys,(qek a j).lists++[qak 0 a key]⟩:=by
            unfold qek;rw [aB b8,cb]
          have aq:j=(qek a j).lists.length:=by
            show j=((qac a).lists.take j).length;rw [sA];omega
          have ⟨l,bg⟩:=qE (qak 0 a key);rw [<- bg] at ap;have ⟨a2,cz⟩:=qE l.length;have db:qI (∀ W,wG wr W->yG 36 #[.slice af k al,.string ⟨key.toArray⟩] W (qp4 l W)):=qH fun W X=>by
            have :=qy3 af k al a ⟨key.toArray⟩ W M.o (qb9.later ah.o (v.trans (X.mono v.size))) a1.o.good (by omega);rwa [show (⟨key.toArray⟩:ByteArray).data.toList=key from rfl,<- bg] at this
          have ⟨x,d⟩:=qE (qek a j);rw [<- d] at c ap aq;have ⟨e4,cc,dq⟩:=c.lists;obtain ⟨q,r,cu, -⟩:=qaU cc;rw [<- aq] at cu;subst cu;have c2:∀ W,wG wr W->W.cell? ⟨P,3,none⟩=some (.slice q j r):=fun W X=>(qaw (c.later X).cell).1.2.2.2
          have cq:=qH c2;have B:=qH c;have d5:=qH ap;have bt:=qH aq;have cp:=qH cz;have e6:(j:Int)<(y:Int):=by omega
          have dy:=c.size;clear c ap aq cc dq d bg cz b1 cb qaD c2 v;go_wp2
          go_region_law (first
            | (refine step_append_lies _ (by rfl) _ _ _ (by rfl) P 71 d8 _ 1 24 underlying41 dg de dd dz rfl (by omega) (.slice q j r) j d9 (by rfl) (by have := bx.o; exact this.alloc _)
                ⟨I.heap.size,0,none⟩ 1 1 [.slice a4 a2 bj] (by rfl) (by rfl) (World.news_of_block (cs:=#[.slice a4 a2 bj]) (t:=71) (fr:=(0,0)) (jA I _)) (by intro u H;simp at H;subst H;rfl)
                (by omega) (by unfold maxLen;omega) (by omega) (by have :=R.o.size;simp;omega) (I.heap.size+1) (by simp) ?_
               intro c1 cw ch z G J Y;have aj:wG I (I.alloc (.cells #[.slice a4 a2 bj] 71)):=(bA _ _).alloc (aA _) _;rw [cp.o] at z;have ⟨⟨b5,c7⟩,s⟩:=((B.o.later R.o).later aj).list noP bt.o d6.o (eb.o.keep (.of_below aj (kA _))) (bx.o.alloc _) (da.o.keep (.of_below aj (kA _))) z G;rw [<- d5.o] at s;have V:=qH s;clear z G J Y s aj)
            | (go_simp; go_at_call 36; (with_reducible refine (db.o _ (bA _ _).drew).mono ?_); rintro e I ⟨e2, rfl, c5, cj⟩
               obtain ⟨a4,bj,rfl,c0,b2⟩:=qbn.of_p0 (b0:=0) c5;have d6:=qH c0;rw [<- cp.o];have R:qI (wG wr I):=qH ((bA _ wr).drew.trans cj);have eb:=qH b2;have el:=cq.o I R.o;have ed:∀ o,(I.alloc o).cell? ⟨P,3,none⟩=some (.slice q j r):=fun o=>cq.o _ (R.o.alloc R.o.size o)
               have ⟨d9,bl,b6⟩:=(B.o.later R.o).lists;rw [<- bt.o] at bl;have bx:=qH bl;have da:=qH b6;clear c5 cj c0 b2 bl b6))
          all_goals
            go_wp2;go_roundw
            case rel=>exact ⟨j+1,_,am,by go_num,V.o⟩
            case measure=>simp [intOf];omega
        · have ea:j=y:=by omega
          subst ea;have d:qek a j=qac a:=by
            unfold qek;rw [nB (by rw [ad.o];simp [qac])]
          rw [d] at c;obtain ⟨S,L,Q,U,eu,ep,q,r,rfl,rfl,F,rfl,T,bu⟩:=c.typ;have a5:(qac a).keys.length=j:=ad.o.symm;rw [a5] at F T;simp only [mF] at F;obtain ⟨rfl, -,rfl⟩:=F;obtain ⟨⟨dw,dj, -, -⟩, -⟩:=qaw c.cell;have bb:=((c.stay.to (aA _) (fun _ _=>id)).block w.heap.size (by rw [bd.o];omega)).trans di.o;have ⟨⟨e5,et,ec,en⟩,ei,eg,e3,ej⟩:=qaw bb;have ⟨ac,D⟩:=qE ((qac a).ids.length);have ⟨ae,E⟩:=qE ((qac a).seqs.length);have ⟨ab,bi⟩:=qE ((qac a).lists.length);rw [<- D] at dw T;rw [<- E] at dj T;rw [<- bi] at q3 T;have c8:=qH bu;have ci:=qH bb;have Z:=qH D;have aa:=qH E;have c4:=qH bi;have ck:=qH a5;have dn:=qH T;have dm:=qH v;clear c bu bb d D E bi a5 T v;go_wp2;have ag:=lB wr w.heap.size 0 _ _ (.slice S ac L) ci.o;have C:=lB _ w.heap.size 1 _ _ (.slice Q ae U) ag;have ai:=lB _ w.heap.size 2 _ _ (.slice n j m) C;have F:=lB _ w.heap.size 3 _ _ (.slice q ab r) ai;have bs:=(((qar.cell (i:=0) ci.o (.slice S ac L)).trans (qar.cell (i:=1) ag (.slice Q ae U))).trans (qar.cell (i:=2) C (.slice n j m))).trans (qar.cell (i:=3) ai (.slice q ab r));have bv:=((((dm.o).setCell (p:=⟨w.heap.size,0,none⟩) (aA _) (.slice S ac L)).setCell (p:=⟨w.heap.size,1,none⟩) (aA _) (.slice Q ae U)).setCell (p:=⟨w.heap.size,2,none⟩) (aA _) (.slice n j m)).setCell (p:=⟨w.heap.size,3,none⟩) (aA _) (.slice q ab r);have ⟨ds,df⟩:=qE ((((wr.setCell ⟨w.heap.size,0,none⟩ (.slice S ac L)).setCell ⟨w.heap.size,1,none⟩ (.slice Q ae U)).setCell ⟨w.heap.size,2,none⟩ (.slice n j m)).setCell ⟨w.heap.size,3,none⟩ (.slice q ab r));rw [<- df] at F bs bv ⊢;have dk:ds.heap[w.heap.size]?=some (.cells #[.slice S ac L,.slice Q ae U,.slice n j m,.slice q ab r] 43 (0,0)):=F;refine pE (aG (P:=prog) rfl _ _ w.heap.size 43 _ (0,0) _ rfl dk underlying43 rfl (by kernel_rfl)) rfl ?_;exact ⟨S,L,Q,U,n,m,q,r,by rw [<- Z.o,<- aa.o,<- c4.o,ck.o],by rw [<- Z.o,<- aa.o,<- c4.o,ck.o];exact dn.o,c8.o.keepN bs (by decide) (by decide) (by decide) (by decide),bv⟩
structure qdA (KB LB:Nat) (w6 W:World):Prop where
 below:Below KB w6 W
 low:∀ k,k<w6.heap.size->k≠KB->k≠LB->W.heap[k]?=w6.heap[k]?
section
variable {KB LB:Nat} {w6 W W':World}
def qdA.refl (w6:World):qdA KB LB w6 w6:=⟨bA _ _,fun _ _ _ _=>rfl⟩
def qdA.later (c:qdA KB LB w6 W) (e:Below w6.heap.size W W') (g:KB<=w6.heap.size):qdA KB LB w6 W':=⟨c.below.trans (e.mono g),fun k d a b=>(e.block k d).trans (c.low k d a b)⟩
def qdA.set (c:qdA KB LB w6 W) {B o:Nat} (d:B=KB\/B=LB) (g:KB<=LB) (v:Value):qdA KB LB w6 (W.setCell ⟨B,o,none⟩ v):=
 ⟨c.below.setCell (p:=⟨B,o,none⟩) (by rcases d with rfl|rfl<;>first|exact aA _|exact g) v,fun k e a b=>(rA _ _ _ _ (by show k≠B;rcases d with rfl|rfl<;>assumption)).trans (c.low k e a b)⟩
def qdA.put (c:qdA KB LB w6 W) (g:KB<=w6.heap.size) {l:Nat} {o:Obj} (e:w6.heap.size<=l):qdA KB LB w6 (W.putObj l o):=
 ⟨⟨c.below.os,c.below.tape,c.below.output,by have :=c.below.size;simpa using this,fun k d=>(World.putObj_heap_other (by omega)).trans (c.below.block k d)⟩,fun k d a b=>(World.putObj_heap_other (by omega)).trans (c.low k d a b)⟩
def qdA.kind (b:qdA KB LB w6 W) {x y:Value} (d:w6.heap[KB]?=some (.cells #[x] 40 (0,0))) (c:w6.heap[LB]?=some (.cells #[y] 41 (0,0))) {k:Nat} {cs:Array Value} {t:TypeId} {fr:Nat × Nat} (a:w6.heap[k]?=some (.cells cs t fr)) (h1:t≠40) (h2:t≠41):W.heap[k]?=some (.cells cs t fr):=by
 rw [b.low k (gA.1 a).1 ?_ ?_,a]
 ·rintro rfl
  rw [d] at a;injection a with a
  injection a with _ a
  exact h1 a.symm
 ·rintro rfl
  rw [c] at a;injection a with a
  injection a with _ a
  exact h2 a.symm
end
def qdh (Ls:List (List En)) (E:List Pl) (b0 KB LB:Nat) (w6:World) (pre:List (Nm × Nat)) (W:World):Prop:=
 qdA KB LB w6 W/\∃ b a cs,W.heap[KB]?=some (.cells #[b] 40 (0,0))/\W.heap[LB]?=some (.cells #[a] 41 (0,0))/\qcP b0 w6.heap.size b a (qbV Ls E pre.length) cs (qdw Ls E pre.length) W
section
variable {Ls:List (List En)} {E:List Pl} {b0 KB LB:Nat} {w6 W W':World} {pre:List (Nm × Nat)}
def qdh.later (e:qdh Ls E b0 KB LB w6 pre W) (a:wG W W') (c:KB<=w6.heap.size):qdh Ls E b0 KB LB w6 pre W':=by
 obtain ⟨h1,d,g,cs,h2,h3,b⟩:=e;exact ⟨h1.later (a.mono b.size) c,d,g,cs,(a.block _ (gA.1 h2).1).trans h2,(a.block _ (gA.1 h3).1).trans h3,b.below a⟩
def qdh.firm (b:b0<=w6.heap.size) (e:KB<w6.heap.size) (m:LB<w6.heap.size):qaE w6.heap.size (qdh Ls E b0 KB LB w6 pre):=fun W l o c a i d j=>by
 obtain ⟨h1,h,k,cs,h2,h3,g⟩:=j;exact ⟨h1.put (Nat.le_of_lt e) a,h,k,cs,(World.putObj_heap_other (by omega)).trans h2,(World.putObj_heap_other (by omega)).trans h3,qcP.firm b W l o c a i d g⟩
def qdh.skip (a:qdh Ls E b0 KB LB w6 pre W) {x:Nm × Nat} (c:pre.length<(qct Ls).length) (b:x.1=(qct Ls)[pre.length]) (d:qak 0 (qau Ls E) x.1=[]):qdh Ls E b0 KB LB w6 (pre++[x]) W:=by
 have e:qbV Ls E (pre.length+1)=qbV Ls E pre.length:=by rw [qqN c,<- b,dA (by simp [d])]
 unfold qdh qdw at a ⊢;rw [iA,bB,e];exact a
def qdh.more (j:qdA KB LB w6 W) {n h a b:Value} {cs:List Value} (g:W.heap[KB]?=some (.cells #[n] 40 (0,0))) (q:W.heap[LB]?=some (.cells #[h] 41 (0,0))) {x:Nm × Nat} (m:pre.length<(qct Ls).length) (p:x.1=(qct Ls)[pre.length]) (r:qak 0 (qau Ls E) x.1≠[])
  (i:qcP b0 w6.heap.size a b (qbV Ls E pre.length++[x.1]) cs (qdw Ls E pre.length++[qak 0 (qau Ls E) x.1]) W) (c:KB<LB) (k:b0<=KB):
  qdh Ls E b0 KB LB w6 (pre++[x]) ((W.setCell ⟨KB,0,none⟩ a).setCell ⟨LB,0,none⟩ b):=by
 have e:qbV Ls E (pre.length+1)=qbV Ls E pre.length++[x.1]:=by rw [qqN m,<- p,eA r]
 have l:qdw Ls E (pre.length+1)=qdw Ls E pre.length++[qak 0 (qau Ls E) x.1]:=by unfold qdw;rw [e,jC];rfl
 have d:(W.setCell ⟨KB,0,none⟩ a).heap[LB]?=some (.cells #[h] 41 (0,0)):=(rA _ _ _ _ (by show LB≠KB;omega)).trans q;refine ⟨(j.set (.inl rfl) (Nat.le_of_lt c) _).set (.inr rfl) (Nat.le_of_lt c) _,a,b,cs,?_,?_,?_⟩
 ·rw [rA _ _ _ _ (by show KB≠LB;omega)]
  simpa using lB W KB 0 _ _ a g
 ·simpa using lB _ LB 0 _ _ b d
 ·rw [iA,bB,e,l]
  exact (i.set g k (by unfold PoK;decide) (by decide) (by decide) a).set d (by omega) (by unfold PoK;decide) (by decide) (by decide) b
end
def qf6 {size:Nat} (a:w.ownsRow zz t size v n xs) (c:qfB t w w'):w'.ownsRow zz t size v n xs:=qaq a fun g b=>by
 have ⟨cs,fr,e⟩:=qd0 a b;rw [c.kind _ _ _ e,e]
def qfB.of_below (b:wG w w'):qfB t w w':=⟨b.size,fun k cs fr a=>(b.block k (gA.1 a).1).trans a⟩
def ql3 (w:World) (A:Option Addr) (ps:List qai):Prop:=∀ i (m:i<ps.length),∃ b a h k j l e c d g,A=some ⟨b,a,none⟩/\b<w.heap.size/\
 (w.cell? ⟨b,a+i*4,none⟩=some (.slice h ps[i].ids.length k)/\w.cell? ⟨b,a+i*4+1,none⟩=some (.slice j ps[i].seqs.length l)/\w.cell? ⟨b,a+i*4+2,none⟩=some (.slice e ps[i].keys.length c)/\w.cell? ⟨b,a+i*4+3,none⟩=some (.slice d ps[i].lists.length g))/\
 (ps[i].ids.length<=k/\ps[i].seqs.length<=l/\ps[i].keys.length<=c/\ps[i].lists.length<=g/\c<=maxLen)/\qdg w h j e d ps[i]
def LT {α:Type} (t:TypeId) (f:α->Value) (w:World) (l:List (List α)) (cs:List Value):Prop:=cs.length=l.length/\∀ i (a:i<l.length),∃ A c,cs[i]?=some (.slice A l[i].length c)/\(l[i].length<=c/\c<=maxLen)/\qat 0 t w A (l[i].map f)
section
variable {α:Type} {t:TypeId} {f:α->Value} {w w':World} {l:List (List α)} {cs:List Value}
def LT.nil:LT t f w [] []:=⟨rfl,fun i a=>by simp at a⟩
def LT.keepT (a:LT t f w l cs) (d:qfB t w w'):LT t f w' l cs:=⟨a.1,fun i b=>by have ⟨A,c,h1,h2,h3⟩:=a.2 i b;exact ⟨A,c,h1,h2,h3.keepT d⟩⟩
def LT.lol (a:LT t f w l cs):qfm f w w.heap.size l cs:=⟨a.1,fun i b=>by have ⟨A,c,h1,h2,h3⟩:=a.2 i b;exact ⟨A,c,h1,h2,h3.row⟩⟩
def LT.snoc (a:LT t f w l cs) {x:List α} {A:Option Addr} {c:Nat} (g:x.length<=c/\c<=maxLen) (k:qat 0 t w A (x.map f)):LT t f w (l++[x]) (cs++[.slice A x.length c]):=by
 refine ⟨by simp [a.1],fun i d=> ?_⟩;rw [iA,bB] at d;by_cases b:i<l.length
 ·have ⟨h,j,h1,h2,h3⟩:=a.2 i b
  rw [cF b,fD (by rw [a.1];omega)];exact ⟨h,j,h1,h2,h3⟩
 ·have e:i=l.length:=by omega
  subst e;rw [oC (by rw [a.1];omega),a.1];exact ⟨A,c,by simp,by simpa using g,by simpa using k⟩
end
structure qd7 (w0:World) (sq lf:List (List Int)) (ks:List (List Nm)) (vs vl vk:Value) (w:World):Prop where
 seqs:∃ cs,w.ownsRow w0.heap.size 23 1 vs sq.length cs/\LT 3 (Value.int .i64) w sq cs
 left:∃ cs,w.ownsRow w0.heap.size 23 1 vl lf.length cs/\LT 3 (Value.int .i64) w lf cs
 keys:∃ cs,w.ownsRow w0.heap.size 40 1 vk ks.length cs/\LT 9 nmV w ks cs
 apart:∀ g,vs.ownBlock=some g->vl.ownBlock≠some g
 below:wG w0 w
section
variable {w0 w w':World} {sq lf:List (List Int)} {ks:List (List Nm)} {vs vl vk v':Value} {n:Nat} {cs:List Value} {A:Option Addr} {c:Nat}
def qB2 (w:World):qd7 w [] [] [] (.slice none 0 0) (.slice none 0 0) (.slice none 0 0) w:=⟨⟨[],vA _ _ _ _,LT.nil⟩,⟨[],vA _ _ _ _,LT.nil⟩,⟨[],vA _ _ _ _,LT.nil⟩,fun g a=>(by cases a),bA _ _⟩
def qd7.later (g:qd7 w0 sq lf ks vs vl vk w) (a:wG w w'):qd7 w0 sq lf ks vs vl vk w':=by
 obtain ⟨⟨h,h1,k⟩,⟨d,h2,i⟩,⟨c,h3,j⟩,e,b⟩:=g;exact ⟨⟨h,qaf h1 a,k.keepT (.of_below a)⟩,⟨d,qaf h2 a,i.keepT (.of_below a)⟩,⟨c,qaf h3 a,j.keepT (.of_below a)⟩,e,b.trans (a.mono b.size)⟩
def qd7.seq (y:qd7 w0 sq lf ks vs vl vk w) {s:List Int} (D:n=sq.length) (r:s.length<=c/\c<=maxLen) (m:qat 0 3 w A (qaa s)) (h:w.ownsRow w0.heap.size 23 1 vs n cs) (t:LT 3 (Value.int .i64) w sq cs)
  (x:w'.ownsRow w0.heap.size 23 1 v' (n+1) (cs++[.slice A s.length c])) (b:w.grownBy w' vs.ownBlock) (p:∀ g,v'.ownBlock=some g->vs.ownBlock=some g\/w.heap.size<=g):qd7 w0 (sq++[s]) lf ks v' vl vk w':=by
 subst D;obtain ⟨-,⟨B,h2,z⟩,⟨C,h3,q⟩,j,l⟩:=y;have a:=qar.grown h b;refine ⟨⟨_,by rw [iA,bB];exact x,(t.snoc r m).keepT (a.keptT (by decide))⟩,⟨B,qaq h2 fun g i=>b.block g (h2.lt g i).2 fun e=>j g e.symm i,z.keepT (a.keptT (by decide))⟩,⟨C,qaM h3 a (by decide),q.keepT (a.keptT (by decide))⟩,fun g v d=> ?_,l.grown b l.size fun k a=>(h.lt k a).1⟩;rcases p g v with e|e
 ·exact j g e d
 ·have :=(h2.lt g d).2;omega
def qd7.lft (y:qd7 w0 sq lf ks vs vl vk w) {s:List Int} (D:n=lf.length) (t:s.length<=c/\c<=maxLen) (m:qat 0 3 w A (qaa s)) (h:w.ownsRow w0.heap.size 23 1 vl n cs) (v:LT 3 (Value.int .i64) w lf cs)
  (x:w'.ownsRow w0.heap.size 23 1 v' (n+1) (cs++[.slice A s.length c])) (b:w.grownBy w' vl.ownBlock) (p:∀ g,v'.ownBlock=some g->vl.ownBlock=some g\/w.heap.size<=g):qd7 w0 sq (lf++[s]) ks vs v' vk w':=by
 subst D;obtain ⟨⟨B,h2,z⟩, -,⟨C,h3,q⟩,j,l⟩:=y;have a:=qar.grown h b;refine ⟨⟨B,qaq h2 fun g i=>b.block g (h2.lt g i).2 fun e=>j g i e.symm,z.keepT (a.keptT (by decide))⟩,⟨_,by rw [iA,bB];exact x,(v.snoc t m).keepT (a.keptT (by decide))⟩,⟨C,qaM h3 a (by decide),q.keepT (a.keptT (by decide))⟩,fun g d r=> ?_,l.grown b l.size fun k a=>(h.lt k a).1⟩;rcases p g r with e|e
 ·exact j g d e
 ·have :=(h2.lt g d).2;omega
def qd7.key (r:qd7 w0 sq lf ks vs vl vk w) {s:List Nm} (i:n=ks.length) (j:s.length<=c/\c<=maxLen) (h:qat 0 9 w A (qad s)) (e:w.ownsRow w0.heap.size 40 1 vk n cs) (l:LT 9 nmV w ks cs)
  (q:w'.ownsRow w0.heap.size 40 1 v' (n+1) (cs++[.slice A s.length c])) (b:w.grownBy w' vk.ownBlock):qd7 w0 sq lf (ks++[s]) vs vl v' w':=by
 subst i;obtain ⟨⟨v,h2,t⟩,⟨g,h3,m⟩, -,p,d⟩:=r;have a:=qar.grown e b;exact ⟨⟨v,qaM h2 a (by decide),t.keepT (a.keptT (by decide))⟩,⟨g,qaM h3 a (by decide),m.keepT (a.keptT (by decide))⟩,⟨_,by rw [iA,bB];exact q,(l.snoc j h).keepT (a.keptT (by decide))⟩,p,d.grown b d.size fun k a=>(e.lt k a).1⟩
end
structure Two (w0:World) (a b:List Int) (v1 v2:Value) (w:World):Prop where
 fst:w.ownsRow w0.heap.size 3 1 v1 a.length (qaa a)
 snd:w.ownsRow w0.heap.size 3 1 v2 b.length (qaa b)
 apart:∀ g,v1.ownBlock=some g->v2.ownBlock≠some g
 below:wG w0 w
section
variable {w0 w w':World} {a b:List Int} {v1 v2 v':Value} {n:Nat} {x:Int}
def qB3 (w:World):Two w [] [] (.slice none 0 0) (.slice none 0 0) w:=⟨vA _ _ _ _,vA _ _ _ _,fun g a=>(by cases a),bA _ _⟩
def Two.later (c:Two w0 a b v1 v2 w) (d:wG w w'):Two w0 a b v1 v2 w':=⟨qaf c.fst d,qaf c.snd d,c.apart,c.below.trans (d.mono c.below.size)⟩
def Two.one (c:Two w0 a b v1 v2 w) (j:n=a.length) (l:w'.ownsRow w0.heap.size 3 1 v' (n+1) (qaa a++[.int .i64 x])) (d:w.grownBy w' v1.ownBlock) (m:∀ g,v'.ownBlock=some g->v1.ownBlock=some g\/w.heap.size<=g):Two w0 (a++[x]) b v' v2 w':=by
 subst j;refine ⟨by rw [iA,bB,show qaa (a++[x])=qaa a++[.int .i64 x] by simp [qaa]];exact l,qaq c.snd fun g i=>d.block g (c.snd.lt g i).2 fun e=>c.apart g e.symm i,fun g p h=> ?_,c.below.grown d c.below.size fun k q=>(c.fst.lt k q).1⟩;rcases m g p with e|e
 ·exact c.apart g e h
 ·have :=(c.snd.lt g h).2;omega
def Two.two (c:Two w0 a b v1 v2 w) (l:n=b.length) (m:w'.ownsRow w0.heap.size 3 1 v' (n+1) (qaa b++[.int .i64 x])) (d:w.grownBy w' v2.ownBlock) (p:∀ g,v'.ownBlock=some g->v2.ownBlock=some g\/w.heap.size<=g):Two w0 a (b++[x]) v1 v' w':=by
 subst l;refine ⟨qaq c.fst fun g h=>d.block g (c.fst.lt g h).2 fun e=>c.apart g h e.symm,by rw [iA,bB,show qaa (b++[x])=qaa b++[.int .i64 x] by simp [qaa]];exact m,fun g i j=> ?_,c.below.grown d c.below.size fun k q=>(c.snd.lt k q).1⟩;rcases p g j with e|e
 ·exact c.apart g i e
 ·have :=(c.fst.lt g i).2;omega
end
def qcQ (r:List Bool) (j:Nat):List Nat:=(List.range j).filter fun k=>r.getD k false
def qB4 (r:List Bool) (j:Nat):qcQ r (j+1)=if r.getD j false=true then qcQ r j++[j] else qcQ r j:=by
 unfold qcQ;rw [List.range_succ,lF];by_cases a:r.getD j false=true
 ·rw [eA a,xF (p:=fun k=>r.getD k false) a,List.filter_nil]
 ·rw [dA a,yF (p:=fun k=>r.getD k false) a,List.filter_nil,mC]
theorem qB5 (r:List Bool):qcQ r r.length=qa1 r:=rfl
def qB6 (r:List Bool) (j:Nat):(qcQ r j).length<=j:=lA (wD _ _) (by simp)
def qex (x:qai) (r:List Bool) (j:Nat):List Int:=(qcQ r j).map fun k=>x.seqs.getD k 0
def qB7 {P:Program} {b:Array Oper} {Q:Exit->Act->World->Prop} {l id:Nat} {a:Act} (c:P.follows .mixedOrders=true) (d:b.toList.all qh7=true) (e:wpAny P .any b (qck Q) b.size (Array.replicate b.size false) a w.drew):
  (Code.region id b true).wpIn (Fence.wide.inRound l) n P Q a w:=wpIn_mono (wpIn_region_any c (qjK (qmL d) _ _ _ _ e)) qck.imp
def ql4 (Ls:List (List En)) (E:List Pl) (key:Nm) (b0:Nat) (b:World) (d c:Value) (a:World):Prop:=∃ (j:Nat) (cs:List Value),j<=(qbv Ls key).length/\c= .int .i64 (j:Int)/\a.ownsRow b.heap.size 71 1 d j cs/\LG b0 a ((qdn Ls E key (qbv Ls key)).take j) cs/\wG b a
def qB8 (b:qcY L) (c:L.length<=1000) {key:Nm}:∀ q∈qak 0 L key,0<=q.1/\q.1<(L.length:Int):=fun q a=>by
 have ⟨k,d,h2⟩:=qhS.1 a;have h3:=(qg3.1 h2).1;omega
def qB9 {E:List Pl} {l:List Pn}:(qdM E i l).length<=l.length:=List.length_filterMap_le _ _
def qeN.read {g:List Nat} {a:Nm->List Nat} {vs:List Value} (d:qeN lo l g a vs w) {q:Nat} (k:q<l.length):
  ∃ A c,w.heap[g.getD q 0]?=some (.cells #[.slice A (a l[q]).length c] 159 (0,0))/\w.ownsRow lo 3 1 (.slice A (a l[q]).length c) (a l[q]).length (qeM (a l[q]))/\(a l[q]).length<=c:=by
 have h:q<g.length:=by rw [d.glen];exact k
 have j:q<vs.length:=by rw [d.vlen];exact k
 have i:=d.cells q h j;have b:=d.many.own q j;simp only [eC] at b;have ⟨A,c,e,m,n,p⟩:=qaU b;rw [e] at i b;refine ⟨A,c,?_,b,m⟩;rw [qaI h];exact i
def qCa (Ls:List (List En)) (E:List Pl) (n:Nat):(qbV Ls E n).length<=(qct Ls).length:=by
 unfold qbV;refine lA (wD _ _) ?_;rw [sA];omega
def qrD {g KB:Nat} {s:ByteArray} (a:w.cell? ⟨g,k,none⟩=some (.string s)) (b:w.heap[KB]?=some (.cells #[.slice A n c] t fr)):g≠KB:=by
 rintro rfl;rw [World.cell?] at a;simp only [b] at a;cases k with
 |zero=>simp at a
 |succ m=>simp at a
def qCb {KB LB:Nat} {vs:List Nat} (d:vs.length=l.length) (x:Row w b A (qaY l vs)) (F:b<=w.heap.size) {t i:Option Addr} {q m C z:Nat} {E D:TypeId} {p B:Nat × Nat} (r:w.heap[KB]?=some (.cells #[.slice t q m] E p)) (n:w.heap[LB]?=some (.cells #[.slice i C z] D B))
  (c:W.heap.size<=w'.heap.size) (v:∀ k,k<w.heap.size->k≠KB->k≠LB->w'.heap[k]?=W.heap[k]?):qcX A (qaY l vs) W w':=by
 by_cases s:0<l.length
 ·rcases x with h|⟨g,j,e,G,y⟩
  ·exact ⟨c,.inl h⟩
  ·have a:=y _ _ (qhq d s).1
   rw [Nat.zero_mul,Nat.add_zero] at a;exact ⟨c,.inr ⟨g,j,e,v g (by omega) (qrD a r) (qrD a n)⟩⟩
 ·refine ⟨c,.inl (sB ?_)⟩
  rw [qhp d];omega
structure qfC (b0 zz KB LB:Nat) (v3 v3' v4:Value) (ks:List Nm) (cs:List Value) (ls:List (List Pn)) (A9:Option Addr) (L9:List Pn) (w9 w:World):Prop where
 gat:qcP b0 zz v3' v4 ks cs ls w
 post:qbn b0 w A9 L9
 kc:w.heap[KB]?=some (.cells #[v3] 40 (0,0))
 lc:w.heap[LB]?=some (.cells #[v4] 41 (0,0))
 oth:KeepsOthers w9 w
 bel:Below zz w9 w
structure qrE (b0 zz KB LB:Nat) (v3 v3' v4 v4':Value) (ks:List Nm) (cs:List Value) (ls:List (List Pn)) (w9 w:World):Prop where
 gat:qcP b0 zz v3' v4' ks cs ls w
 kc:w.heap[KB]?=some (.cells #[v3] 40 (0,0))
 lc:w.heap[LB]?=some (.cells #[v4] 41 (0,0))
 oth:KeepsOthers w9 w
 bel:Below zz w9 w
section
variable {b0 zz KB LB:Nat} {v3 v3' v4:Value} {ks:List Nm} {cs:List Value} {ls:List (List Pn)} {A9:Option Addr} {L9:List Pn} {w9 w w':World}
def qfC.below (a:qfC b0 zz KB LB v3 v3' v4 ks cs ls A9 L9 w9 w) (b:wG w w'):qfC b0 zz KB LB v3 v3' v4 ks cs ls A9 L9 w9 w':=
  ⟨a.gat.below b, a.post.keep (.of_below b (lA a.gat.hbase a.gat.size)), (b.block _ (gA.1 a.kc).1).trans a.kc, (b.block _ (gA.1 a.lc).1).trans a.lc,
   a.oth.trans ⟨b.size,fun k o c _=>(b.block k (gA.1 c).1).trans c⟩,a.bel.trans (b.mono a.gat.size)⟩
def qfC.key (a:qfC b0 zz KB LB v3 v3' v4 ks cs ls A9 L9 w9 w) {v':Value} {k:Nm} {X:ByteArray} (d:X=⟨k.toArray⟩) {n:Nat} (g:n=ks.length) (h:w'.ownsRow zz 9 1 v' (n+1) (qad ks++[.string X])) (b:w.grownBy w' v3'.ownBlock):
  qfC b0 zz KB LB v3 v' v4 (ks++[k]) cs ls A9 L9 w9 w'/\∀ (i:Nat) (xs:Array Value),w.heap[i]?=some (.cells xs 71 (0,0))->w'.heap[i]?=some (.cells xs 71 (0,0)):=by
 subst d g;have ⟨h1,h2⟩:=a.gat.key h b;refine ⟨⟨h1,a.post.keep h2.kept,h2.kinds _ _ _ _ a.kc (by decide) (by decide),h2.kinds _ _ _ _ a.lc (by decide) (by decide),a.oth.trans h2.others,a.bel.trans ((bA zz w).grown b a.gat.size fun k j=>(a.gat.keys.lt k j).1)⟩,fun i xs c=> ?_⟩;rw [b.block i (gA.1 c).1 (fun e=>qan a.gat.keys c (by decide) e.symm),c]
def qfC.list (a:qfC b0 zz KB LB v3 v3' v4 ks cs ls A9 L9 w9 w) {v':Value} {c n m:Nat} (h:L9.length<=c/\c<=maxLen) (e:n=ls.length) (d:m=L9.length) (g:w'.ownsRow zz 71 1 v' (n+1) (cs++[.slice A9 m c])) (b:w.grownBy w' v4.ownBlock):
  qrE b0 zz KB LB v3 v3' v4 v' ks (cs++[.slice A9 L9.length c]) (ls++[L9]) w9 w':=by
 subst e d;have ⟨h1,h2⟩:=a.gat.list h a.post g b;exact ⟨h1,h2.kinds _ _ _ _ a.kc (by decide) (by decide),h2.kinds _ _ _ _ a.lc (by decide) (by decide),a.oth.trans h2.others,a.bel.trans ((bA zz w).grown b a.gat.size fun k i=>(a.gat.lists.lt k i).1)⟩
end
def qrF (a:wG w w'):KeepsOthers w w':=⟨a.size,fun k o b _=>(a.block k (gA.1 b).1).trans b⟩
section
variable {T t:TypeId} {X:Nat->Prop} {b1 zz P:Nat} {v1 v2 v3 v4:Value} {x:qai} {w0 w w':World} {A:Option Addr} {xs:List Value}
def qb3.keptT (b:qb3 w.heap.size X w w') (c:∀ k cs fr,X k->w.heap[k]?≠some (.cells cs t fr)):qfB t w w':=⟨b.size,fun k cs fr a=>(b.block k (gA.1 a).1 fun e=>c k cs fr e a).trans a⟩
def qa3.other (a:qa3 T X b1 zz P v1 v2 v3 v4 x w0 w) {O:Nat} {cs:Array Value} {fr:Nat × Nat} (d:w.heap[O]?=some (.cells cs t fr)) (b:NoP t) (g:T≠t) (j:zz<=O\/X O) (o:Nat) (v:Value):qa3 T X b1 zz P v1 v2 v3 v4 x w0 (w.setCell ⟨O,o,none⟩ v):=by
 have c:qar t w (w.setCell ⟨O,o,none⟩ v):=qar.cell d v;have ⟨i,k,h⟩:=a.lists;exact ⟨c.kinds _ _ _ _ a.cell g,qaM a.ids c b.1.symm,qaM a.seqs c b.1.symm,qaM a.keys c b.2.1.symm,⟨i,qaM k c b.2.2.1.symm,h.keep (c.keptG fun e=>Or.elim e b.2.2.2 b.1)⟩,a.apart,a.le,by have :=a.size;simpa using this,a.stay.setCell (p:=⟨O,o,none⟩) j v⟩
def qa3.rebase {i:List Int} (a:qa3 T X b1 zz P v1 v2 (.slice none 0 0) (.slice none 0 0) ⟨i,s,[],[]⟩ w0 w):qa3 T (fun k=>k=P) b1 w.heap.size P v1 v2 (.slice none 0 0) (.slice none 0 0) ⟨i,s,[],[]⟩ w w:=
 ⟨a.cell,a.ids,a.seqs,vA _ _ _ _,⟨[],vA _ _ _ _,LG.nil⟩,a.apart,.inr rfl,aA _,qb3.refl _ _ _⟩
def qat.safe (a:qat 0 3 w A xs):qcU 0 w A xs:=by
 rcases a with a|⟨b,d,e,h1,h2,c⟩
 ·exact .inl a
 ·exact .inr ⟨b,d,e,⟨h1,.inr (h2.resolve_left (Nat.not_lt_zero _))⟩,c⟩
end
def qd8 (ps:List qai) (i:Nat):qai:=ps.getD i ⟨[],[],[],[]⟩
def ql5 {ps:List qai} (a:i<ps.length):qd8 ps i=ps[i]:=by unfold qd8;rw [mA,oA a];rfl
def qc3 (ps:List qai) (E:List Pl):qai:=⟨E.map fun p=>(qd8 ps p.1).ids.getD p.2 0,E.map fun p=>(qd8 ps p.1).seqs.getD p.2 0,[],[]⟩
def qCc (ps:List qai) (E:List Pl) (p:Pl):qc3 ps (E++[p])=⟨(qc3 ps E).ids++[(qd8 ps p.1).ids.getD p.2 0],(qc3 ps E).seqs++[(qd8 ps p.1).seqs.getD p.2 0],[],[]⟩:=by simp [qc3]
def qjl (x:qai) (key:Nm) (q d:Nat):List Pn:=((qcM x key).filter fun p=>decide (p.1=(d:Int))).map fun p=>((q:Int),p.2)
def qrG (f:Nat->qai) (key:Nm):∀ (E:List Pl) (j:Nat) (p:Pl),qd2 f key j (E++[p])=qd2 f key j E++qjl (f p.1) key (j+E.length) p.2
 |[],j,p=>by simp [qd2,qjl]
 |r::E,j,p=>by
  rw [bC,qd2,qd2,qrG f key E (j+1) p,iB,nA,show j+1+E.length=j+(E.length+1) by omega]
def qcE (ps:List qai) (key:Nm) (E:List Pl):List Pn:=qd2 (qd8 ps) key 0 E
def qCd (ps:List qai) (key:Nm) (E:List Pl) (p:Pl):qcE ps key (E++[p])=qcE ps key E++qjl (qd8 ps p.1) key E.length p.2:=by
 have :=qrG (qd8 ps) key E 0 p;rwa [kB] at this
def qfD (ps:List qai) (E:List Pl) (a:List Nm) (k:Nat):List Nm:=(a.take k).filter fun key=>decide (qcE ps key E≠[])
def qbE (ps:List qai) (E:List Pl) (a:List Nm) (k:Nat):qai:=⟨(qc3 ps E).ids,(qc3 ps E).seqs,qfD ps E a k,(qfD ps E a k).map fun key=>qcE ps key E⟩
def qrH {ps:List qai} {E:List Pl} (b:k<l.length):qfD ps E l (k+1)=if qcE ps l[k] E≠[] then qfD ps E l k++[l[k]] else qfD ps E l k:=by
 unfold qfD;rw [aB b,lF];by_cases a:qcE ps l[k] E≠[]
 ·rw [eA a,xF (p:=fun key=>decide (qcE ps key E≠[])) (yA a),List.filter_nil]
 ·rw [dA a,yF (p:=fun key=>decide (qcE ps key E≠[])) (by rw [uA a];exact Bool.false_ne_true),List.filter_nil,mC]
def qCe (ps:List qai) (E:List Pl) (a:List Nm):qbE ps E a 0=qc3 ps E:=by simp [qbE,qfD,qc3]
def qCf {ps:List qai} {E:List Pl} (b:k<l.length) (a:qcE ps l[k] E≠[]):qbE ps E l (k+1)=⟨(qbE ps E l k).ids,(qbE ps E l k).seqs,(qbE ps E l k).keys++[l[k]],(qbE ps E l k).lists++[qcE ps l[k] E]⟩:=by
 unfold qbE;rw [qrH b,eA a,jC];rfl
def qCg {ps:List qai} {E:List Pl} (b:k<l.length) (a:qcE ps l[k] E=[]):qbE ps E l (k+1)=qbE ps E l k:=by
 unfold qbE;rw [qrH b,dA (fun e=>e a)]
def qCh (ps:List qai) (E:List Pl) {k:Nat} (a:(qbo (ps.map (·.keys))).length<=k):qbE ps E (qbo (ps.map (·.keys))) k=qd3 ps E:=by
 unfold qbE qfD;rw [nB a];rfl
def qdO (l:List Pn) (q d m:Nat):List Pn:=((l.take m).filter fun p=>decide (p.1=(d:Int))).map fun p=>((q:Int),p.2)
def qCi {l:List Pn} {q d:Nat} (b:m<l.length):qdO l q d (m+1)=if l[m].1=(d:Int) then qdO l q d m++[((q:Int),l[m].2)] else qdO l q d m:=by
 unfold qdO;rw [aB b,lF,jC];by_cases a:l[m].1=(d:Int)
 ·rw [eA a,xF (p:=fun p:Pn=>decide (p.1=(d:Int))) (yA a),List.filter_nil]
  rfl
 ·rw [dA a,yF (p:=fun p:Pn=>decide (p.1=(d:Int))) (by rw [uA a];exact Bool.false_ne_true),List.filter_nil,List.map_nil,mC]
def qCj {l:List Pn} {q d:Nat} (a:l.length<=m):qdO l q d m=(l.filter fun p=>decide (p.1=(d:Int))).map fun p=>((q:Int),p.2):=by
 unfold qdO;rw [nB a]
def qrI (ps:List qai) (rs:List (List Bool)) (w:World) (e:Ending) (w':World):Prop:=∃ (o:List Pl) (c:Option Addr) (i:Nat) (d:Option Addr) (j:Nat) (b:Option Addr) (g:Nat) (a:Option Addr) (h:Nat),qbS (qbI ps rs) o/\
 e= .returned (.tuple #[.agg #[.slice c (qd3 ps (qaj rs o)).ids.length i,.slice d (qd3 ps (qaj rs o)).seqs.length j,.slice b (qd3 ps (qaj rs o)).keys.length g,.slice a (qd3 ps (qaj rs o)).lists.length h],.int .i64 0])/\qdg w' c d b a (qd3 ps (qaj rs o))/\wG w w'
abbrev tP:TypeId:=43
def qrJ (ps:List qai) (rs:List (List Bool)) (b:World) (vs c a i:Value) (wr:World):Prop:=∃ k:Nat,k<=ps.length/\i= .int .i64 (k:Int)/\qd7 b (qbI (ps.take k) (rs.take k)) (qb2 (rs.take k)) ((ps.take k).map (·.keys)) vs c a wr
def qrK (x:qai) (r:List Bool) (n:Nat) (a:World) (v1 v2 i:Value) (wr:World):Prop:=∃ j:Nat,j<=n/\i= .int .i64 (j:Int)/\Two a (qex x r j) (qaL (qcQ r j)) v1 v2 wr
def qrL (ps:List qai) (E o:List Pl) (M P B:Nat) (a:Value) (w3:World) (i:Value) (wr:World):Prop:=∃ (q:Nat) (v1 v2:Value),q<=M/\i= .int .i64 (q:Int)/\qa3 tP (fun k=>k=P\/a.ownBlock=some k) w3.heap.size w3.heap.size P v1 v2 (.slice none 0 0) (.slice none 0 0) (qc3 ps (E.take q)) w3 wr/\wr.ownsRow B 88 2 a M (plc (E.take q++o.drop q))
def qrM (ps:List qai) (E:List Pl) (b:List Nm) (n P b1:Nat) (v1 v2:Value) (a:World) (i:Value) (wr:World):Prop:=∃ (k:Nat) (v3 v4:Value),k<=n/\i= .int .i64 (k:Int)/\qa3 tP (fun k=>k=P) b1 a.heap.size P v1 v2 v3 v4 (qbE ps E b k) a wr
def qrN (ps:List qai) (E:List Pl) (key:Nm) (M:Nat) (a:World) (v i:Value) (wr:World):Prop:=∃ q:Nat,q<=M/\i= .int .i64 (q:Int)/\qdd a.heap.size wr v (qcE ps key (E.take q))/\wG a wr
def qrO (b l:List Pn) (q d n:Nat) (a:World) (v i:Value) (wr:World):Prop:=∃ m:Nat,m<=n/\i= .int .i64 (m:Int)/\qdd a.heap.size wr v (b++qdO l q d m)/\wG a wr
attribute [local go_sem] gG
def ql6 (Ls:List (List En)) (E:List Pl) (w:World) (e:Ending) (w':World):Prop:=∃ c a d b,e= .returned (.tuple #[.slice c (qah (qau Ls E)).length a,.slice d (qah (qau Ls E)).length b])/\((qah (qau Ls E)).length<=a/\a<=maxLen)/\((qah (qau Ls E)).length<=b/\b<=maxLen)/\
 w'.ownsRow w.heap.size 9 1 (.slice c (qah (qau Ls E)).length a) (qah (qau Ls E)).length (qad (qah (qau Ls E)))/\(∃ cs,w'.ownsRow w.heap.size 71 1 (.slice d (qah (qau Ls E)).length b) (qah (qau Ls E)).length cs/\LG 0 w' ((qah (qau Ls E)).map fun k=>qak 0 (qau Ls E) k) cs)/\wG w w'
structure qf7 (Ls:List (List En)) (E:List Pl) (A:Option Addr) (w:World) (m c D PB k:Nat) (wr:World):Prop where
 grid:qbi (qgt Ls E) w D m (PB+1) k wr
 lbox:wr.heap[w.heap.size]?=some (.cells #[.slice A m c] 29 (0,0))
 pbox:wr.heap[PB]?=some (.cells #[.slice (some ⟨D,0,none⟩) m m] 92 (0,0))
 dlt:D=w.heap.size+1
 pb:D<PB
def qCk (Ls:List (List En)) (E:List Pl) (A:Option Addr) (w:World) (m c d b:Nat) (a:Value) (wr:World):Prop:=∃ k:Nat,a= .int .i64 (k:Int)/\qf7 Ls E A w m c d b k wr
def qf7.later {E:List Pl} (a:qf7 Ls E A w m c D n k wr) (b:wG wr w'):qf7 Ls E A w m c D n k w':=
 ⟨a.grid.later b,(b.block _ (gA.1 a.lbox).1).trans a.lbox,(b.block _ (gA.1 a.pbox).1).trans a.pbox,a.dlt,a.pb⟩
def qf7.put {E:List Pl} (a:qf7 Ls E A w m c D b k wr) (j:k<m) (d:wG wr w') (g:k<Ls.length) (q:n=Ls[k].length) (l:w'.ownsRow wr.heap.size 3 1 v n (qaa (qcc E (k:Int) n))):
  w'.cell? ⟨D,k,none⟩=some qbg/\w'.frozen? ⟨D,k,none⟩=false/\qf7 Ls E A w m c D b (k+1) (w'.setCell ⟨D,k,none⟩ v):=by
 have e:b+1<=wr.heap.size:=(gA.1 a.pbox).1;have i:(qcc E (k:Int) n).length=n:=qfT ..;obtain ⟨p,r,z,t,rfl,B,x,y,h⟩:=a.grid.put (v:=v) (s:=qcc E (k:Int) n) j e d (fun C=>by rw [qqR g,q]) (by rw [i];exact l);have h2:=a.later d;exact ⟨p,r,h,(rA _ _ _ _ (by have :=a.dlt;show w.heap.size≠D;omega)).trans h2.lbox,(rA _ _ _ _ (by have :=a.pb;show b≠D;omega)).trans h2.pbox,a.dlt,a.pb⟩
def qCl (A de:Option Addr) (m c q ez:Nat) (Ls:List (List En)) (E:List Pl) (w:World) (hc:qet w A Ls) (hi:Row w w.heap.size de (plc E)) (gq:qdN Ls E) (fc:Ls.length=m) (bu:E.length=q) (jq:m<=1000) (kk:q<=1000000) (gz:(Ls.map qah).flatten.length<=100000):
    yG 41 #[.slice A m c,.slice de q ez] w (ql6 Ls E w):=by
  have ⟨j4,i7,ju,kd,jo⟩:=lG qis;have ⟨d0,c2,da,dq,dc⟩:=lG qhT;refine (uG (n:=6)).1 ?_;have ⟨w0,b2⟩:=qE (w.alloc (.cells #[.slice A m c] 29));have fa:wG w w0:=by rw [b2];exact (bA _ w).alloc (aA _) _
  have jk:w0.heap.size=w.heap.size+1:=by rw [b2];simp
  have dw:w0.heap[w.heap.size]?=some (.cells #[.slice A m c] 29 (0,0)):=by rw [b2];exact jA w _
  have ⟨bk,hm,cj,fq⟩:=tF (P:=prog) w0 w0.heap.size 92 23 j4 _ 1 underlying92 i7 ju kd .i64 .i64 m (by rw [jo];omega) (by unfold maxLen;omega) (aA _);have ih:(madeCells (Value.slice none 0 0).cells (m*1)).toList=List.replicate m qbg:=by
    rw [show (Value.slice none 0 0).cells=#[.slice none 0 0] from rfl,pF,Nat.mul_one]
  rw [ih] at cj;have al:wG w0 bk:=(bA _ w0).grown fq (aA _) (fun k ar=>by cases ar);have jx:w0.heap.size<bk.heap.size:=(cj.lt _ rfl).2;have ⟨ai,hj⟩:=qE w0.heap.size;have ⟨ad,eo⟩:=qE bk.heap.size;rw [<- hj] at hm cj;have ⟨a5,dh⟩:=qE (bk.alloc (.cells #[.slice none 0 0] 92));have ⟨w3,bp⟩:=qE (a5.setCell ⟨ad,0,none⟩ (.slice (some ⟨ai,0,none⟩) m m));have aw:wG bk a5:=by rw [dh];exact (bA _ bk).alloc (aA _) _
  have cg:a5.heap[ad]?=some (.cells #[.slice none 0 0] 92 (0,0)):=by rw [dh,eo];exact jA bk _
  have ee:qf7 Ls E A w m c ai ad 0 w3:=by
    have aa:wG w a5:=fa.trans ((al.mono (by omega)).trans (aw.mono (lA fa.size al.size)));have bs:a5.ownsRow w.heap.size 23 1 (.slice (some ⟨ai,0,none⟩) m m) m (List.replicate m qbg):=qbk (qaf cj aw) (show w.heap.size<=ai by omega);have cw:=qaq (w':=w3) bs fun g I=>by
      have e:g=ai:=by injection I with I;exact I.symm
      rw [bp];exact rA _ _ _ _ (by show g≠ad;omega)
    refine ⟨qbi.begin2 cw (by omega) (by rw [qqQ,fc]) ?_,?_,?_,by omega,by omega⟩
    · rw [bp];exact aa.setCell (p:=⟨ad,0,none⟩) (by show w.heap.size<=ad;omega) _
    · rw [bp,rA _ _ _ _ (by show w.heap.size≠ad;omega),aw.block _ (by omega),al.block _ (by omega),dw]
    · rw [bp];simpa using lB a5 ad 0 _ _ (.slice (some ⟨ai,0,none⟩) m m) cg
  have kw:w0.cell? ⟨w.heap.size,0,none⟩=some (.slice A m c):=kG dw;have eu:a5.cell? ⟨ad,0,none⟩=some (.slice none 0 0):=kG cg;have i8:a5.frozen? ⟨ad,0,none⟩=false:=nG cg;have js:w3.cell? ⟨w.heap.size,0,none⟩=some (.slice A m c):=kG ee.lbox;have l2:a5.cell? ⟨w.heap.size,0,none⟩=some (.slice A m c):=kG (by rw [aw.block _ (by omega),al.block _ (by omega),dw]);have lg:¬ ad=w.heap.size:=by omega
  have f2:=qH ee;have ek:=qH hc;have jf:=qH hi;have am:=qH gq;have dr:=qH fc;have kh:=qH bu;have hv:=qH gz;have i0:=qH b2;have i4:=qH dh;have i2:=qH bp;have kt:=qH eo;clear ee hc hi gq fc bu gz cj fq ih fa al aw cg dw b2 dh bp jx eo jk hj;refine callsIn_of_wp_marks func41 rfl trivial ?_ rfl;simp only [ntmps41,iD,nA,vB,Nat.reduceAdd,Nat.reduceSub,tD,uD,jD,vD,lC,bC];refine wpIn_wide.2 ?_
  go_wp2_with (first|rw [<- i0.o]|rw [<- i4.o,<- kt.o])
  rw [<- i2.o]
  go_loopw [7,8,22] (fun u7 u8 bh wr=>qCk Ls E A w m c ai ad bh wr) (fun _ _ bh _=>m-(intOf bh).toNat)
  case atStart=>exact ⟨0,rfl,f2.o⟩
  case round=>
    clear f2 kw eu i8 js l2 hm;obtain ⟨k,rfl,a1⟩:=hrel;have ⟨_,_,aa,hf⟩:=a1.grid.low;by_cases et:k<m
    · have ey:k<Ls.length:=by rw [dr.o];exact et
      obtain ⟨b,a9,S,rfl,ci,b8,co⟩:=(ek.o).at_ ey;have k7:=(aa.cell (p:=⟨b,a9+k,none⟩) ci).trans b8;have hn:=co.below aa;have ⟨n,d2⟩:=qE (Ls[k].length);have h7:∀ W,wG wr W->yG 20 #[.pointer (some ⟨S,0,none⟩)] W fun e w'=>e= .returned (.int .i64 (n:Int))/\wG W w':=fun W U=>by
        have :=qqH (hn.below U);rwa [qqJ,<- d2] at this
      have hs:n<=1000:=by rw [d2];exact ((am.o).good _ (pA ey)).2.2
      have hh:∀ W,wG wr W->yG 83 #[.slice de q ez,.int .i64 (k:Int),.int .i64 (n:Int)] W (qiy E (k:Int) n W):=fun W U=>
        qoO de q ez n E (k:Int) W (((jf.o).below (aa.trans (U.mono aa.size))).more (aa.trans (U.mono aa.size)).size) (kh.o) kk (am.o).nodup hs
      have hp:=kG a1.pbox;have ix:=qH h7;have ko:=qH hh;have dt:=qH a1;have ki:=qH d2;have j5:=qH ey;have f7:qI (∀ W,wG wr W->W.cell? ⟨ad,0,none⟩=some (.slice (some ⟨ai,0,none⟩) m m)):=qH fun W U=>kG (a1.later U).pbox
      have au:(k:Int)<(m:Int):=by omega
      have k6:(0:Int)<=(k:Int):=by omega
      clear a1 aa co hn h7 hh b8 hf d2 hs;go_wp2;refine wp_region_noPanic ?_
      go_region_law (first
        | (go_simp; go_at_call 20; (with_reducible refine (ix.o _ (bA _ _).drew).mono ?_); rintro e az ⟨rfl, a2⟩
           have Z:qI (wG wr az):=qH ((bA wr.heap.size wr).drew.trans a2);have lk:=f7.o _ Z.o;clear a2)
        | (go_simp; go_at_call 83; (with_reducible refine (ko.o _ Z.o).mono ?_); rintro e r ⟨v, rfl, e9, aq⟩
           obtain ⟨l6,la,rfl,_,_,_⟩:=qaU e9;have bn:qI (wG wr r):=qH ((Z.o).trans (aq.mono (Z.o).size));have k1:=f7.o _ bn.o;have ⟨f0,l3,fu⟩:=(dt.o).put et bn.o j5.o ki.o (qbk e9 (Z.o).size);have kg:=qH fu;clear e9 aq fu))
      all_goals
        refine NoPanic.normal ?_;go_wp2;go_roundw
        case rel=>exact ⟨k+1,by go_num,kg.o⟩
        case measure=>simp [intOf];omega
    · have je:k=m:=by omega
      subst je;have ⟨bl,cf⟩:=qE ((wr.alloc (.cells #[.slice none 0 0] 40)).alloc (.cells #[.slice none 0 0] 41));have e8:wG wr bl:=by rw [cf];exact ((bA _ wr).alloc (aA _) _).alloc (by simp) _
      have fw:bl.heap[wr.heap.size]?=some (.cells #[.slice none 0 0] 40 (0,0)):=by rw [cf];exact (pB _ _ _ (by simp)).trans (jA wr _)
      have f5:bl.heap[wr.heap.size+1]?=some (.cells #[.slice none 0 0] 41 (0,0)):=by
        rw [cf];have :=jA (wr.alloc (.cells #[.slice none 0 0] 40)) (.cells #[.slice none 0 0] 41);simpa using this
      have ej:wG w bl:=aa.trans (e8.mono aa.size);have ku:∀ y z,((wr.alloc y).alloc z).cell? ⟨w.heap.size,0,none⟩=some (.slice A k c):=fun y z=>by
        have bq:=(gA.1 a1.lbox).1;exact ((((bA _ wr).alloc (aA _) y).alloc (by simp) z).cell (p:=⟨w.heap.size,0,none⟩) bq).trans (kG a1.lbox)
      have gp:=qH (qBV A k c Ls bl ((ek.o).below ej) dr.o jq hv.o);have h9:(qct Ls).length<=1048576:=by
        have :=qgA (Ls.map qah).flatten [];have h2:=hv.o;unfold qct qbo;simp only [vB,Nat.add_zero] at this;omega
      have ew:=qH h9;have dt:=qH a1;have fj:=qH cf;have f3:=qH e8;have ge:=qH ej;have e3:=qH fw;have e6:=qH f5;clear a1 e8 ej fw f5 cf h9 aa et hf
      go_wp2_with (first
        | (go_at_call 84; rw [<- fj.o]; refine (gp.o).mono ?_; rintro e az ⟨B, br, vs, rfl, ha, gx, a2⟩
           have gd:=qH (qwd B 0 0 (qct Ls) br az az ha (bA _ _) ew.o (by omega));have il:=qH gx;have Z:=qH a2;clear ha gx a2)
        | (go_at_call 85; refine (gd.o).mono ?_; rintro e r ⟨h8, rfl, li, gs, aq, ka⟩
           rw [Int.toNat_zero,List.drop_zero,List.drop_zero] at gs))
      obtain ⟨eb,dm,f0,gn,e0,hu,c4⟩:=gs;have ed:az.heap.size<=r.heap.size:=aq.size;have jd:=qH (qwz 5 az.heap.size h8 f0 dm (qct Ls) br r (by omega) ed eb gn e0 hu c4 ew.o);have ⟨Q,cm⟩:=qE wr.heap.size;have ⟨R,em⟩:=qE (Q+1);have cz:wG bl r:=(Z.o).trans (aq.mono (Z.o).size);have cl:r.heap[Q]?=some (.cells #[.slice none 0 0] 40 (0,0)):=by
        rw [cm,cz.block _ (gA.1 e3.o).1,e3.o]
      have ct:r.heap[R]?=some (.cells #[.slice none 0 0] 41 (0,0)):=by
        rw [em,cm,cz.block _ (gA.1 e6.o).1,e6.o]
      have gk:=(gA.1 cl).1;have gr:=(gA.1 ct).1;have f6:wG wr r:=(f3.o).trans (cz.mono (f3.o).size);have hx:wG w r:=(ge.o).trans (cz.mono (ge.o).size);have g9:w.heap.size<=Q:=by rw [cm];exact (dt.o).grid.low.2.2.1.size
      have ie:=(il.o).below aq;have fm:qdh Ls E 0 Q R r [] r:=⟨qdA.refl _,_,_,[],cl,ct,by omega,aA _,by rw [vB,qlC];exact vA _ _ _ _,by unfold qdw;rw [vB,qlC];exact vA _ _ _ _,by unfold qdw;rw [vB,qlC];exact LG.nil⟩;have jl:=qH fm;have g1:=qH cl;have fp:=qH ct;have cx:=qH gk;have iy:=qH gr;have jm:=qH f6;have ce:=qH hx;have gu:=qH g9;have ip:=qH ie;have hq:=qH cm;have ex:=qH em;have jc:∀ (W:World) (l:Nat) (o V:Obj),r.heap.size<=l->W.heap[l]?=some o->o.isCells=false->qcX dm (qaY (qct Ls) br) W (W.putObj l V):=fun W l o V bc Y ky=>
        qcX.of_row' c4 (by simp) fun g a9 e I=>World.putObj_heap_other (by omega)
      have h0:∀ W H,W.heap.size<=H.heap.size->(∀ k,k<r.heap.size->k≠Q->k≠R->H.heap[k]?=W.heap[k]?)->qcX dm (qaY (qct Ls) br) W H:=fun W H h1 h2=>qCb eb c4 ed cl ct h1 h2
      have hk:=qH h0;clear h0;clear eb gn e0 hu c4 cm em cz cl ct gk gr f6 hx g9 fm gp gd il Z e3 e6 ed aq ka ie fj ku;rw [<- hq.o]
      try rw [<- ex.o]
      refine (wpIn_wide (n:=6)).1 ?_;refine qj5 (by omega) (gf:=136) (lb:=#[.pointer (some ⟨h8,0,none⟩)]) rfl (enters_of func136 (by kernel_rfl) rfl)
        jd.o (fun ci=>ci) (fun {A B k o} ar bz Y e0=>(bz.block k (gA.1 Y).1).trans Y)
        (fun D k=>D.trans k) jc (fun _=>rfl)
        (qdh Ls E 0 Q R r) (fun _ _ _=>False)
        (fun s lm B' D bz=>D.later bz (Nat.le_of_lt cx.o))
        (fun s=>qdh.firm (kA _) cx.o iy.o)
        (fun c s W l o V _ _ _ D=>D)
        (fun s x=>qaE.okP _ _ _ _ _) jl.o ?a1 ?assign ?body ?done ?stop
      case assign=>
        intro O x W l1 ch;unfold qfp;gi_wp2;exact ch
      case body=>
        rintro O pre x W ⟨av,ia,hz,cs,ar,bc,I⟩ ⟨bq,cc,fs⟩;have gb:wG wr W:=(jm.o).trans (hq.o▸av.below);have aa:wG w W:=(ce.o).trans (av.below.mono gu.o);have hl:qeN bl.heap.size (qct Ls) br (qbv Ls) vs r:=ip.o;have ⟨ji,l5,dv,bs,cw⟩:=hl.read bq;rw [<- cc,<- fs] at dv;rw [<- cc] at bs cw;have c1:=av.kind g1.o fp.o dv (by decide) (by decide);have d9:=qaq (w':=W) bs fun g I=>by
          have ⟨cs',le,ds⟩:=qd0 bs I;rw [av.kind g1.o fp.o ds (by decide) (by decide),ds]
        have ⟨key,qaD⟩:=qE x.1;have ⟨lr,d8⟩:=qE x.2;have ⟨X,ei⟩:=qE (⟨key.toArray⟩:ByteArray);rw [<- qaD] at dv c1 d9 cc cw;rw [<- d8] at c1;have i3:(qbv Ls key).length<=k:=by
          have h1:=wD (fun i=>decide (key∈qah (Ls.getD i []))) (List.range Ls.length);rw [List.length_range] at h1;have h2:=dr.o;have h3:(qbv Ls key).length<=Ls.length:=h1;omega
        have ib:=qbx d9;have ⟨M,fd⟩:=qE ((qbv Ls key).length);rw [<- fd] at c1 i3;have lw:=kG c1;have g3:ql4 Ls E key 0 W (.slice none 0 0) (.int .i64 0) W:=⟨0,[],kA _,rfl,vA _ _ _ _,by rw [List.take_zero];exact LG.nil,bA _ _⟩;have gc:=qH g3;have a7:=qH I;have gy:=qH av;have dx:=qH ar;have c5:=qH bc;have jv:=qH gb;have jh:=qH aa;have jg:=qH ib;have dg:=qH fd;have df:=qH qaD;have d5:=qH ei;have lx:=qH bq;have kr:=qH cc;clear av ar bc I cc fs gb aa dv bs cw c1 d9 ib hl g3 fd;rw [<- qaD,<- d8,<- ei];clear qaD d8 ei;gi_wp2
        gi_loopw [13,15,46] (fun i9 u15 bh ay=>ql4 Ls E key 0 W i9 bh ay) (fun _ _ bh _=>M-(intOf bh).toNat)
        case atStart=>exact gc.o
        case round=>
          clear gc;obtain ⟨j,kj,jn,rfl,bv,bo,bb⟩:=hrel;have ⟨ay,hr⟩:=qE wr;rw [<- hr] at bv bo bb ⊢;clear hr;by_cases jw:j<M
          · have dp:j<(qbv Ls key).length:=by rw [<- dg.o];exact jw
            have ⟨i,bx⟩:=qE ((qbv Ls key)[j]);have hg:i∈qbv Ls key:=by rw [bx];exact pA dp
            have ⟨au,_⟩:=qg4.1 hg;have ik:Row W W.heap.size ji (qaa (qaL (qbv Ls key))):=jg.o;obtain ⟨lf,lo,rfl,k8,jr⟩:=qbR (ik.below bb) (k:=j) (by simpa [qaL] using dp);have g7:(qaL (qbv Ls key))[j]'(by simpa [qaL] using dp)=(i:Int):=by simp [qaL,bx]
            rw [g7] at jr;obtain ⟨b,a9,S,rfl,ci,b8,co⟩:=((ek.o).below jh.o).at_ au;have d4:=(dt.o).later jv.o;have ea:i<(qgt Ls E).length:=by rw [qqQ];exact au
            have ⟨lp,kz,dl,dd,e,j0,b1,⟨eq,cg⟩,dy⟩:=d4.grid.all.at_ ea;injection e with e
            injection e with di c3
            subst di c3;rw [qqR au ea] at b1 eq dy;have ⟨bm,ev⟩:=qE (Ls[i].length);have ⟨cu,jj,eg⟩:=(am.o).good _ (pA au);rw [qfT] at b1 eq;rw [<- ev] at b1 eq dy;have ⟨O,cn⟩:=qE (qak 0 Ls[i] key);have kn:O.length<=1000:=by
              have :=qhQ cu (key:=key) Ls[i] 0 (fun q bu=>bu);rw [cn];omega
            have fe:∀ q∈O,0<=q.1/\q.1<(bm:Int):=by rw [cn,ev];exact qB8 cu eg
            have ⟨f1,ec⟩:=qE O.length;have ho:∀ H,wG W H->yG 27 #[.pointer (some ⟨S,0,none⟩),.string X] H (qfR O H):=fun H U=>by
              have :=qBQ (co.below U) X;rwa [show X.data.toList=key by rw [d5.o],qqv,<- cn] at this
            have bz:qc6 (qcc E (i:Int) bm) O=qdM E i O:=qAs fe;have fi:(qdn Ls E key (qbv Ls key)).take (j+1)=(qdn Ls E key (qbv Ls key)).take j++[qdM E i O]:=by
              rw [aB (by simpa [qdn] using dp)];congr 2;simp only [qdn,eC,<- bx,qaI au,cn]
            have fv:∀ (b7:Option Addr) (db:Nat) (H:World),wG W H->qbn 0 H b7 O->yG 86 #[.slice b7 f1 db,.slice dl bm dd] H (qgQ (qat 0 3 H) (qdM E i O) H):=fun b7 db H U i1=>by
              obtain ⟨ke,hp,eu⟩:=i1;have :=qw6 (qat 0 3 H) ke b7 dl f1 db bm dd O (qcc E (i:Int) bm) H hp eu.row ((dy.below U).more U.size) ec.symm (qfT ..) (by omega) (by omega) fe;rwa [bz] at this
            have fk:∀ H,wG W H->H.cell? ⟨w.heap.size,0,none⟩=some (.slice (some ⟨b,a9,none⟩) k c)/\H.cell? ⟨b,a9+i,none⟩=some (.pointer (some ⟨S,0,none⟩))/\H.cell? ⟨ad,0,none⟩=some (.slice (some ⟨ai,0,none⟩) k k)/\H.cell? ⟨ai,i,none⟩=some (.slice dl bm dd):=fun H U=>
              ⟨kG (d4.later U).lbox,(U.cell (p:=⟨b,a9+i,none⟩) ci).trans b8,kG (d4.later U).pbox,by simpa using (U.cell (p:=⟨ai,0+i,none⟩) j0).trans b1⟩
            have k0:i<k:=by rw [<- dr.o];exact au
            have b5:=qH fk;have iz:=qH ho;have iv:=qH fv;have a8:=qH bb;have e2:=qH bv;have kf:=qH bo;have ks:=qH fi;have kq:=qH ec;have k2:(j:Int)<(M:Int):=by omega
            have k9:(i:Int)<(k:Int):=by omega
            have kx:W.heap.size<=ay.heap.size:=bb.size;have k5:j<=1000:=by omega
            clear bv bo bb fi fk ho fv dy co d4 bz fe cu jj cn ev b8 b1 bx hg au g7 ik jn eg ec ea kn;gi_wp2;refine qh8 (S:=fun w'=>w'.cell? ⟨w.heap.size,0,none⟩=some (.slice (some ⟨b,a9,none⟩) k c)/\w'.cell? ⟨b,a9+i,none⟩=some (.pointer (some ⟨S,0,none⟩))/\w'.cell? ⟨ad,0,none⟩=some (.slice (some ⟨ai,0,none⟩) k k)/\w'.cell? ⟨ai,i,none⟩=some (.slice dl bm dd)) (by kernel_rfl) (by kernel_rfl) (b5.o _ (a8.o).drew) (fun ly=> ?_)
            (refine wpAnyH_take (i:=0) (v:= ?_) rfl (by kernel_rfl) (by kernel_rfl) (by kernel_rfl) (fun _ _ _ D=>D) (Or.inl ⟨by rfl,?_⟩) (by assumption) ?_;rotate_left;next=>(intro aj ax;go_simp;first|done|with_reducible rfl))
            try simp only [Act.put,zA,zB,zD,zE,zF]
            (refine wpAnyH_take (i:=1) (v:= ?_) rfl (by kernel_rfl) (by kernel_rfl) (by kernel_rfl) (fun _ _ _ D=>D) (Or.inl ⟨by rfl,?_⟩) (by assumption) ?_;rotate_left;next=>(intro aj ax;go_simp;first|done|with_reducible rfl))
            try simp only [Act.put,zA,zB,zC,zD,zE,zF]
            (refine wpAnyH_take (i:=2) (v:= ?_) rfl (by kernel_rfl) (by kernel_rfl) (by kernel_rfl) (fun _ _ _ D=>D) (Or.inl ⟨by rfl,?_⟩) (by assumption) ?_;rotate_left;next=>(intro aj ax;go_simp;first|done|with_reducible rfl))
            try simp only [Act.put,zA,zB,zC,zD,zE,zF]
            (refine wpAnyH_take (i:=3) (v:= ?_) rfl (by kernel_rfl) (by kernel_rfl) (by kernel_rfl) (fun _ _ _ D=>D) (Or.inl ⟨by rfl,?_⟩) (by assumption) ?_;rotate_left;next=>(intro aj ax;go_simp;first|done|with_reducible rfl))
            try simp only [Act.put,zA,zB,zC,zD,zE,zF]
            (refine wpAnyH_take (i:=4) (v:= ?_) rfl (by kernel_rfl) (by kernel_rfl) (by kernel_rfl) (fun _ _ _ D=>D) (Or.inl ⟨by rfl,?_⟩) (by assumption) ?_;rotate_left;next=>(intro aj ax;go_simp;first|done|with_reducible rfl))
            try simp only [Act.put,zA,zB,zC,zD,zE,zF]
            (refine wpAnyH_take (i:=5) (v:= ?_) rfl (by kernel_rfl) (by kernel_rfl) (by kernel_rfl) (fun _ _ _ D=>D) (Or.inl ⟨by rfl,?_⟩) (by assumption) ?_;rotate_left;next=>(intro aj ax;go_simp;first|done|with_reducible rfl))
            try simp only [Act.put,zA,zB,zC,zD,zE,zF]
            (refine wpAnyH_take (i:=7) (v:= ?_) rfl (by kernel_rfl) (by kernel_rfl) (by kernel_rfl) (fun _ _ _ D=>D) (Or.inl ⟨by rfl,?_⟩) (by assumption) ?_;rotate_left;next=>(intro aj ax;go_simp;first|done|with_reducible rfl))
            try simp only [Act.put,zA,zB,zC,zD,zE,zF]
            (refine wpAnyH_take (i:=8) (v:= ?_) rfl (by kernel_rfl) (by kernel_rfl) (by kernel_rfl) (fun _ _ _ D=>D) (Or.inl ⟨by rfl,?_⟩) (by assumption) ?_;rotate_left;next=>(intro aj ax;go_simp;first|done|with_reducible rfl))
            try simp only [Act.put,zA,zB,zC,zD,zE,zF]
            (refine wpAnyH_take (i:=9) (v:= ?_) rfl (by kernel_rfl) (by kernel_rfl) (by kernel_rfl) (fun _ _ _ D=>D) (Or.inl ⟨by rfl,?_⟩) (by assumption) ?_;rotate_left;next=>(intro aj ax;go_simp;first|done|with_reducible rfl))
            try simp only [Act.put,zA,zB,zC,zD,zE,zF]
            (refine wpAnyH_take (i:=10) (v:= ?_) rfl (by kernel_rfl) (by kernel_rfl) (by kernel_rfl) (fun _ _ _ D=>D) (Or.inl ⟨by rfl,?_⟩) (by assumption) ?_;rotate_left;next=>(intro aj ax;go_simp;first|done|with_reducible rfl))
            try simp only [Act.put,zA,zB,zC,zD,zE,zF]
            refine tkr (rs:=[6]) (by kernel_rfl) (by simp) ?_;refine tkc rfl (fun h d=> ?_) tkn
            try simp only [zA,zB,zC]
            go_simp;go_at_call 27;(with_reducible refine (iz.o _ (a8.o).drew).mono ?_);rintro e az ⟨lu,rfl,fh,a2⟩;obtain ⟨b7,db,rfl,kl,h5⟩:=qbn.of_new (b0:=0) fh;have Z:qI (wG W az):=qH ((a8.o).drew.trans (a2.mono kx));have gg:qI (wG ay az):=qH ((bA ay.heap.size ay).drew.trans a2);have jb:=qH h5;rw [<- kq.o];clear fh a2 kl h5
            go_wp2_with fail
            refine d.out _ _ ?_ (fun k4=> ?_)
            · exact b5.o _ Z.o
            clear d h
            try simp only [Act.put,zA,zB,zC,zD,zE,zF]
            refine tkr (rs:=[11]) (by kernel_rfl) (by simp) ?_;refine tkc rfl (fun h d=> ?_) tkn
            try simp only [zA,zB,zC]
            go_simp;go_at_call 86;(with_reducible refine (iv.o _ _ _ Z.o jb.o).mono ?_);rintro e r J;obtain ⟨ck,b3,rfl,gw,hw,aq⟩:=J.stay (by have :=(Z.o).size;omega);have bn:qI (wG W r):=qH ((Z.o).trans (aq.mono (Z.o).size));have fl:qI (wG ay r):=qH ((gg.o).trans (aq.mono (gg.o).size));have ⟨cp,es⟩:=qE ((qdM E i O).length);rw [<- es];have iw:=qH es;have j8:=qH gw;have ja:=qH hw;have c0:qI (wG W (r.alloc (.cells #[.slice ck cp b3] 71))):=qH ((bn.o).alloc (bn.o).size _);have c9:qI (wG ay (r.alloc (.cells #[.slice ck cp b3] 71))):=qH ((fl.o).alloc (fl.o).size _);clear J gw hw aq es
            go_wp2_with fail
            refine d.out _ _ ?_ (fun l9=> ?_)
            · exact b5.o _ bn.o
            clear d h
            try simp only [Act.put,zA,zB,zC,zD,zE,zF]
            refine tkr (rs:=[12]) (by kernel_rfl) (by simp) ?_;refine tkc rfl (fun h d=> ?_) tkn
            try simp only [zA,zB,zC]
            go_simp;refine d.out _ _ ?_ (fun ln=> ?_)
            · exact b5.o _ c0.o
            clear d h
            try simp only [Act.put,zA,zB,zC,zD,zE,zF]
            refine tkr (rs:=[13]) (by kernel_rfl) (by simp) ?_;refine tkc rfl (fun h d=> ?_) tkn;refine step_append_lies _ (by rfl) _ _ _ (by rfl) W.heap.size 71 d0 _ 1 24 underlying41 c2 da dq dc rfl (by omega) u13 j kj (by rfl) (qaf e2.o c9.o)
              ⟨r.heap.size,0,none⟩ 1 1 [.slice ck cp b3] (by rfl) (by rfl) (World.news_of_block (cs:=#[.slice ck cp b3]) (t:=71) (fr:=(0,0)) (jA r _)) (by intro u ap;simp at ap;subst ap;rfl)
              (by omega) (by unfold maxLen;omega) (by omega) (by have :=(c0.o).size;omega) (r.heap.size+1) (by simp) ?_
            intro kv i5 gi ga e7 iu km;have hb:qI (wG W gi):=qH ((c0.o).grown e7 (c0.o).size fun z jp=>((qaf e2.o c9.o).lt z jp).1);have g0:=qH ga;have f9:=qH e7;clear ga e7 iu km;refine d.out _ _ ?_ (fun ll=> ?_)
            · exact b5.o _ hb.o
            clear d h
            try simp only [Act.put,zA,zB,zC,zD,zE,zF]
            (refine wpAnyH_take (i:=14) (v:= ?_) rfl (by kernel_rfl) (by kernel_rfl) (by kernel_rfl) (fun _ _ _ D=>D) (Or.inl ⟨by rfl,?_⟩) (by assumption) ?_;rotate_left;next=>(intro aj ax;go_simp;first|done|with_reducible rfl))
            try simp only [Act.put,zA,zB,zC,zD,zE,zF]
            refine tkd (by kernel_rfl) ?_ _;refine qck.fin ?_;have du:ql4 Ls E key 0 W (.slice (some ⟨kv,0,none⟩) (j+1) i5) (.int .i64 ((j:Int)+1)) gi:=by
              have j3:=qaf e2.o c9.o;have j1:=qay.of_below (b0:=0) c9.o (by omega);have f4:=qay.grown (b0:=0) j3 (kA _) (by unfold PoK;decide) f9.o (c0.o).size;have iq:qay 0 r (r.alloc (.cells #[.slice ck cp b3] 71)):= .of_below ((bA _ r).alloc (aA _) _) (by omega);refine ⟨j+1,_,by rw [<- dg.o];omega,rfl,g0.o,?_,hb.o⟩;have D:=((kf.o).keep (j1.trans f4)).snoc j8.o ((ja.o).keep (iq.trans f4));rw [<- ks.o,<- iw.o] at D;exact D
            have b9:=qH du;clear du g0 f9;gi_wp2;go_roundw
            case rel=>exact b9.o
            case measure=>simp [intOf];omega
          · have ht:j=(qbv Ls key).length:=by have :=dg.o;omega
            have lc:j<=M:=by have :=dg.o;omega
            have ic:(qdn Ls E key (qbv Ls key)).take j=qdn Ls E key (qbv Ls key):=nB (by simp [qdn];omega);rw [ic] at bo;obtain ⟨j7,ir,rfl,_,_,_⟩:=qaU bv;have g8:=bo.lpostsR (qbx bv);have fn:∀ l∈qdn Ls E key (qbv Ls key),l.length<=1000:=fun l bc=>by
              obtain ⟨i,bx,rfl⟩:=tA.1 bc;have ⟨au,_⟩:=qg4.1 bx;rw [qaI au];have ⟨cu,_,eg⟩:=(am.o).good _ (pA au);have h1:=qB9 (E:=E) (i:=i) (l:=qak 0 Ls[i] key);have h2:=qhQ cu (key:=key) Ls[i] 0 (fun q bu=>bu);omega
            have c8:=qH (qBB (qat 0 3 ay) j7 j ir (qdn Ls E key (qbv Ls key)) ay g8 (by simp [qdn,ht]) (by omega) fn (qAh am.o key) (qAi am.o key));have h4:x.1=(qct Ls)[pre.length]:=by rw [<- df.o];exact kr.o
            have ⟨bt,fg⟩:=qE (qak 0 (qau Ls E) key);have ⟨ah,dn⟩:=qE bt.length;have a8:=qH bb;have bi:=qH fg;have bg:=qH dn;have g5:=qH h4;clear g8 fn bo ic bv h4 ht;by_cases dk:bt=[]
            · have jz:ah=0:=by rw [dn,dk];rfl
              clear bb fg dn
              gi_wp2_with (first
                | (refine ⟨trivial, ?_⟩; gi_at_call 87; refine (CallsIn.inRound O (uG.2 c8.o)).mono ?_
                   rintro e C ⟨o,Y,J⟩;rw [qi9 am.o Y,show E.map (qaV Ls)=qau Ls E from rfl,<- bi.o] at J
                   obtain ⟨T,ab,rfl,a3,a4,ao⟩:=J.stay (kA _);rw [<- bg.o];have cr:=qH ao;clear Y J a3 a4 ao)
                | (gi_at_call 87; refine (CallsIn.inRound O (uG.2 c8.o)).mono ?_
                   rintro e C ⟨o,Y,J⟩;rw [qi9 am.o Y,show E.map (qaV Ls)=qau Ls E from rfl,<- bi.o] at J
                   obtain ⟨T,ab,rfl,a3,a4,ao⟩:=J.stay (kA _);rw [<- bg.o];have cr:=qH ao;clear Y J a3 a4 ao))
              have ac:wG W C:=(a8.o).trans ((cr.o).mono (a8.o).size);have j9:qdh Ls E 0 Q R r pre W:=⟨gy.o,ia,hz,cs,dx.o,c5.o,a7.o⟩;have du:qdh Ls E 0 Q R r (pre++[x]) C:=(j9.later ac (Nat.le_of_lt cx.o)).skip bq g5.o (by rw [<- df.o,<- bi.o];exact dk);exact ⟨qrF ac,hk.o _ _ ac.size (fun k ar _ _=>ac.block k (by have :=(a7.o).size;omega)),du⟩
            · have jz:(0:Int)<(ah:Int):=by
                have :0<bt.length:=List.length_pos_iff.2 dk;omega
              have ⟨eh,fb,d6,e1,d7⟩:=lG qfh;have g4:=qCa Ls E pre.length;have ef:(qdw Ls E pre.length).length=(qbV Ls E pre.length).length:=by simp [qdw]
              have kb:=ew.o;obtain ⟨an,ak,rfl,_,_,_⟩:=qaU (a7.o).keys;obtain ⟨af,ae,rfl,_,_,_⟩:=qaU (a7.o).lists;have ⟨ag,ff⟩:=qE ((qbV Ls E pre.length).length);have ⟨L,ep⟩:=qE ((qdw Ls E pre.length).length);have d1:=qH ff;have bw:=qH ep;rw [<- ff] at a7 dx g4 ef;rw [<- ep] at a7 c5 ef;have l0:ag<=1048576:=by omega
              have lj:L<=1048576:=by omega
              clear bb fg dn g4 ef kb ff ep
              gi_wp2_with (first
                | (refine ⟨trivial, ?_⟩; gi_at_call 87; refine (CallsIn.inRound O (uG.2 c8.o)).mono ?_
                   rintro e C ⟨o,Y,J⟩;rw [qi9 am.o Y,show E.map (qaV Ls)=qau Ls E from rfl,<- bi.o] at J
                   obtain ⟨T,ab,rfl,a3,a4,ao⟩:=J.stay (kA _);rw [<- bg.o];have cr:=qH ao;have dz:=qH a3;have hy:=qH a4;clear Y J a3 a4 ao)
                | (gi_at_call 87; refine (CallsIn.inRound O (uG.2 c8.o)).mono ?_
                   rintro e C ⟨o,Y,J⟩;rw [qi9 am.o Y,show E.map (qaV Ls)=qau Ls E from rfl,<- bi.o] at J
                   obtain ⟨T,ab,rfl,a3,a4,ao⟩:=J.stay (kA _);rw [<- bg.o];have cr:=qH ao;have dz:=qH a3;have hy:=qH a4;clear Y J a3 a4 ao))
              have ac:wG W C:=(a8.o).trans ((cr.o).mono (a8.o).size);have a0:qfC 0 r.heap.size Q R (.slice an ag ak) (.slice an ag ak) (.slice af L ae) (qbV Ls E pre.length) cs (qdw Ls E pre.length) T bt C C:=
                ⟨(a7.o).below ac,hy.o,(ac.block _ (gA.1 dx.o).1).trans dx.o,(ac.block _ (gA.1 c5.o).1).trans c5.o,KeepsOthers.refl _,bA _ _⟩
              have c6:=qH a0;have io:=qH ac;have lh:=kG a0.kc;have ma:=kG a0.lc;have al:∀ o,wG C (C.alloc o):=fun o=>(bA _ C).alloc (aA _) o
              have aw:∀ o V,wG C ((C.alloc o).alloc V):=fun o V=>(al o).alloc (al o).size V
              have lz:∀ o,(C.alloc o).cell? ⟨Q,0,none⟩=some (.slice an ag ak):=fun o=>kG (a0.below (al o)).kc
              have k3:∀ o,(C.alloc o).cell? ⟨R,0,none⟩=some (.slice af L ae):=fun o=>kG (a0.below (al o)).lc
              have l7:∀ o V,((C.alloc o).alloc V).cell? ⟨Q,0,none⟩=some (.slice an ag ak):=fun o V=>kG (a0.below (aw o V)).kc
              have ld:∀ o V,((C.alloc o).alloc V).cell? ⟨R,0,none⟩=some (.slice af L ae):=fun o V=>kG (a0.below (aw o V)).lc
              have ig:=qH al;have dj:=qH aw;have jt:qI (∀ (xs:Array Value) (t:TypeId),(C.alloc (.cells xs t)).heap[C.heap.size]?=some (.cells xs t (0,0))):=qH fun xs t=>jA C _
              have h6:qI (∀ (xs:Array Value) (t:TypeId) (o:Obj),((C.alloc (.cells xs t)).alloc o).heap[C.heap.size]?=some (.cells xs t (0,0))):=qH fun xs t o=>(pB _ _ _ (by simp)).trans (jA C _)
              have gh:qI (∀ (xs:Array Value) (t:TypeId) (o:Obj),((C.alloc o).alloc (.cells xs t)).heap[C.heap.size+1]?=some (.cells xs t (0,0))):=qH fun xs t o=>by simpa using jA (C.alloc o) (.cells xs t)
              have ls:r.heap.size<=C.heap.size:=a0.gat.size;clear a0 ac al aw;have en:qI (C.ownsRow r.heap.size 9 1 (.slice an ag ak) ag (qad (qbV Ls E pre.length))):=qH (by have :=(c6.o).gat.keys;rwa [<- d1.o] at this);have l8:¬ R=Q:=by have :=ex.o;omega
              have er:qI (∀ bd cb cv,qrE 0 r.heap.size Q R (.slice an ag ak) cb (.slice af L ae) cv (qbV Ls E pre.length++[key]) (cs++[.slice T bt.length ab]) (qdw Ls E pre.length++[bt]) C bd->
                  KeepsOthers W ((bd.setCell ⟨Q,0,none⟩ cb).setCell ⟨R,0,none⟩ cv)/\qcX dm (qaY (qct Ls) br) W ((bd.setCell ⟨Q,0,none⟩ cb).setCell ⟨R,0,none⟩ cv)/\qdh Ls E 0 Q R r (pre++[x]) ((bd.setCell ⟨Q,0,none⟩ cb).setCell ⟨R,0,none⟩ cv)):=qH fun bd cb cv F=>by
                have ac:=io.o;have j6:=a7.o.size;have I:=F.gat;rw [bi.o,df.o] at I;have lv:=F.bel.size;have lq:=ac.size;have av:=((gy.o).later (ac.mono j6) (Nat.le_of_lt cx.o)).later F.bel (Nat.le_of_lt cx.o);refine ⟨(((qrF ac).trans F.oth).trans (KeepsOthers.setCell _ _ _)).trans (KeepsOthers.setCell _ _ _),hk.o _ _ (by simp;omega) (fun k ar a b=> ?_),?_⟩
                · rw [rA _ _ _ _ b,rA _ _ _ _ a,F.bel.block k ar,ac.block k (by omega)]
                · exact qdh.more av F.kc F.lc bq g5.o (by rw [<- df.o,<- bi.o];exact dk) I (by have :=ex.o;omega) (kA _)
              refine qB7 (by kernel_rfl) (by kernel_rfl) ?_
              (refine wpAny_take (i:=1) (v:= ?_) rfl (by kernel_rfl) (by kernel_rfl) (by kernel_rfl) (fun _ _ _ D=>D) (Or.inl ⟨by rfl,?_⟩) ?_;rotate_left;next=>(intro aj;go_simp;first|done|with_reducible rfl))
              (refine wpAny_take (i:=5) (v:= ?_) rfl (by kernel_rfl) (by kernel_rfl) (by kernel_rfl) (fun _ _ _ D=>D) (Or.inl ⟨by rfl,?_⟩) ?_;rotate_left;next=>(intro aj;go_simp;first|done|with_reducible rfl))
              (refine oG (rs:=[0,2,4,6]) (by kernel_rfl) (by simp) ?_;refine (eG rfl (fun h d=> ?_) (eG rfl (fun h d=> ?_) (eG rfl (fun h d=> ?_) (eG rfl (fun h d=> ?_) fG))));all_goals (go_simp;refine d _ _ ?_;clear d h))
              all_goals (first
                |(refine oG (rs:=[2,4,6]) (by decide+kernel) (by simp) ?_;refine (eG rfl (fun h d=> ?_) (eG rfl (fun h d=> ?_) (eG rfl (fun h d=> ?_) fG)));all_goals (go_simp;refine d _ _ ?_;clear d h))
                |(refine oG (rs:=[0,4,6]) (by decide+kernel) (by simp) ?_;refine (eG rfl (fun h d=> ?_) (eG rfl (fun h d=> ?_) (eG rfl (fun h d=> ?_) fG)));all_goals (go_simp;refine d _ _ ?_;clear d h))
                |(refine oG (rs:=[0,2,6]) (by decide+kernel) (by simp) ?_;refine (eG rfl (fun h d=> ?_) (eG rfl (fun h d=> ?_) (eG rfl (fun h d=> ?_) fG)));all_goals (go_simp;refine d _ _ ?_;clear d h))
                |(refine oG (rs:=[0,2,4]) (by decide+kernel) (by simp) ?_;refine (eG rfl (fun h d=> ?_) (eG rfl (fun h d=> ?_) (eG rfl (fun h d=> ?_) fG)));all_goals (go_simp;refine d _ _ ?_;clear d h))
                |skip)
              all_goals (first
                |(refine oG (rs:=[3,4,6]) (by decide+kernel) (by simp) ?_;refine eG rfl (fun h d=> ?_) ?_;rotate_left;focus (refine (eG rfl (fun h d=> ?_) (eG rfl (fun h d=> ?_) fG));all_goals (go_simp;refine d _ _ ?_;clear d h)))
                |(refine oG (rs:=[2,6]) (by decide+kernel) (by simp) ?_;refine (eG rfl (fun h d=> ?_) (eG rfl (fun h d=> ?_) fG));all_goals (go_simp;refine d _ _ ?_;clear d h))
                |(refine oG (rs:=[2,4]) (by decide+kernel) (by simp) ?_;refine (eG rfl (fun h d=> ?_) (eG rfl (fun h d=> ?_) fG));all_goals (go_simp;refine d _ _ ?_;clear d h))
                |(refine oG (rs:=[0,6]) (by decide+kernel) (by simp) ?_;refine (eG rfl (fun h d=> ?_) (eG rfl (fun h d=> ?_) fG));all_goals (go_simp;refine d _ _ ?_;clear d h))
                |(refine oG (rs:=[0,4]) (by decide+kernel) (by simp) ?_;refine (eG rfl (fun h d=> ?_) (eG rfl (fun h d=> ?_) fG));all_goals (go_simp;refine d _ _ ?_;clear d h))
                |(refine oG (rs:=[0,2]) (by decide+kernel) (by simp) ?_;refine (eG rfl (fun h d=> ?_) (eG rfl (fun h d=> ?_) fG));all_goals (go_simp;refine d _ _ ?_;clear d h))
                |skip)
              all_goals (first
                |(refine oG (rs:=[3,6]) (by decide+kernel) (by simp) ?_;refine eG rfl (fun h d=> ?_) ?_;rotate_left;focus (refine (eG rfl (fun h d=> ?_) fG);all_goals (go_simp;refine d _ _ ?_;clear d h)))
                |(refine oG (rs:=[3,4]) (by decide+kernel) (by simp) ?_;refine eG rfl (fun h d=> ?_) ?_;rotate_left;focus (refine (eG rfl (fun h d=> ?_) fG);all_goals (go_simp;refine d _ _ ?_;clear d h)))
                |(refine oG (rs:=[2]) (by decide+kernel) (by simp) ?_;refine (eG rfl (fun h d=> ?_) fG);all_goals (go_simp;refine d _ _ ?_;clear d h))
                |(refine oG (rs:=[0]) (by decide+kernel) (by simp) ?_;refine (eG rfl (fun h d=> ?_) fG);all_goals (go_simp;refine d _ _ ?_;clear d h))
                |(refine oG (rs:=[4,6]) (by decide+kernel) (by simp) ?_;refine (eG rfl (fun h d=> ?_) (eG rfl (fun h d=> ?_) fG));all_goals (go_simp;refine d _ _ ?_;clear d h))
                |skip)
              all_goals (first
                |(refine oG (rs:=[3]) (by decide+kernel) (by simp) ?_;refine eG rfl (fun h d=> ?_) fG)
                |skip)
              all_goals (first
                | (refine step_append_lies _ (by rfl) _ _ _ (by rfl) r.heap.size 9 eh _ 1 16 underlying40 fb d6 e1 d7 rfl (by omega) (.slice an ag ak) ag (qad (qbV Ls E pre.length)) (by rfl) (qaf en.o (ig.o _).drew)
                     ⟨C.heap.size,0,none⟩ 1 1 [.string X] (by rfl) (by rfl) (World.news_of_block (cs:=#[.string X]) (t:=9) (fr:=(0,0)) (jt.o _ _)) (qhy 0 X)
                     (by omega) (by unfold maxLen;omega) (by omega) (by simp;omega) (C.heap.size+1) (by simp) ?_
                   intro gt im G ba be cy b4;have ⟨K,bj⟩:=((c6.o).below (ig.o (.cells #[.string X] 9)).drew).key (k:=key) d5.o d1.o ba be;have cd:=qH K
                   skip
                   have cq:qI (G.ownsRow r.heap.size 71 1 (.slice af L ae) L cs):=qH (by have :=K.gat.lists;rwa [<- bw.o] at this);have g6:=kG K.lc;have l4:∀ o,(G.alloc o).cell? ⟨R,0,none⟩=some (.slice af L ae):=fun o=>kG (K.below ((bA _ G).alloc (aA _) o)).lc
                   have d3:qI (∀ o,wG G (G.alloc o)):=qH fun o=>(bA _ G).alloc (aA _) o
                   have g2:r.heap.size<=G.heap.size:=K.gat.size;clear ba be cy b4 K bj)
                | (refine step_append_lies _ (by rfl) _ _ _ (by rfl) r.heap.size 9 eh _ 1 16 underlying40 fb d6 e1 d7 rfl (by omega) (.slice an ag ak) ag (qad (qbV Ls E pre.length)) (by rfl) (qaf en.o (dj.o _ _).drew)
                     ⟨C.heap.size,0,none⟩ 1 1 [.string X] (by rfl) (by rfl) (World.news_of_block (cs:=#[.string X]) (t:=9) (fr:=(0,0)) (h6.o _ _ _)) (qhy 0 X)
                     (by omega) (by unfold maxLen;omega) (by omega) (by simp;omega) (C.heap.size+1+1) (by simp) ?_
                   intro gt im G ba be cy b4;have ⟨K,bj⟩:=((c6.o).below (dj.o (.cells #[.string X] 9) (.cells #[.slice T ah ab] 71)).drew).key (k:=key) d5.o d1.o ba be;have cd:=qH K;have i6:qI (G.heap[C.heap.size+1]?=some (.cells #[.slice T ah ab] 71 (0,0))):=qH (bj _ _ (gh.o _ _ _));have cq:qI (G.ownsRow r.heap.size 71 1 (.slice af L ae) L cs):=qH (by have :=K.gat.lists;rwa [<- bw.o] at this);have g6:=kG K.lc;have d3:qI (∀ o,wG G (G.alloc o)):=qH fun o=>(bA _ G).alloc (aA _) o
                   have g2:r.heap.size<=G.heap.size:=K.gat.size;clear ba be cy b4 K bj)
                | (refine step_append_lies _ (by rfl) _ _ _ (by rfl) r.heap.size 9 eh _ 1 16 underlying40 fb d6 e1 d7 rfl (by omega) (.slice an ag ak) ag (qad (qbV Ls E pre.length)) (by rfl) (qaf en.o (dj.o _ _).drew)
                     ⟨C.heap.size+1,0,none⟩ 1 1 [.string X] (by rfl) (by rfl) (World.news_of_block (cs:=#[.string X]) (t:=9) (fr:=(0,0)) (gh.o _ _ _)) (qhy 0 X)
                     (by omega) (by unfold maxLen;omega) (by omega) (by simp;omega) (C.heap.size+1+1) (by simp) ?_
                   intro gt im G ba be cy b4;have ⟨K,bj⟩:=((c6.o).below (dj.o (.cells #[.slice T ah ab] 71) (.cells #[.string X] 9)).drew).key (k:=key) d5.o d1.o ba be;have cd:=qH K;have j2:qI (G.heap[C.heap.size]?=some (.cells #[.slice T ah ab] 71 (0,0))):=qH (bj _ _ (h6.o _ _ _));have cq:qI (G.ownsRow r.heap.size 71 1 (.slice af L ae) L cs):=qH (by have :=K.gat.lists;rwa [<- bw.o] at this);have g6:=kG K.lc;have d3:qI (∀ o,wG G (G.alloc o)):=qH fun o=>(bA _ G).alloc (aA _) o
                   have g2:r.heap.size<=G.heap.size:=K.gat.size;clear ba be cy b4 K bj)
                |skip)
              all_goals ((try go_simp);refine d _ _ ?_;clear d h)
              all_goals (first
                |(refine oG (rs:=[4,6]) (by decide+kernel) (by simp) ?_;refine (eG rfl (fun h d=> ?_) (eG rfl (fun h d=> ?_) fG));all_goals (go_simp;refine d _ _ ?_;clear d h))
                |(refine oG (rs:=[4]) (by decide+kernel) (by simp) ?_;refine (eG rfl (fun h d=> ?_) fG);all_goals (go_simp;refine d _ _ ?_;clear d h))
                |(refine oG (rs:=[6]) (by decide+kernel) (by simp) ?_;refine (eG rfl (fun h d=> ?_) fG);all_goals (go_simp;refine d _ _ ?_;clear d h))
                |skip)
              all_goals (first
                |(refine oG (rs:=[4]) (by decide+kernel) (by simp) ?_;refine (eG rfl (fun h d=> ?_) fG);all_goals (go_simp;refine d _ _ ?_;clear d h))
                |(refine oG (rs:=[6]) (by decide+kernel) (by simp) ?_;refine (eG rfl (fun h d=> ?_) fG);all_goals (go_simp;refine d _ _ ?_;clear d h))
                |skip)
              all_goals (refine oG (rs:=[7]) (by kernel_rfl) (by simp) ?_;refine eG rfl (fun h d=> ?_) fG)
              all_goals (first
                | (refine step_append_lies _ (by rfl) _ _ _ (by rfl) r.heap.size 71 d0 _ 1 24 underlying41 c2 da dq dc rfl (by omega) (.slice af L ae) L cs (by rfl) (qaf cq.o (d3.o _))
                     ⟨G.heap.size,0,none⟩ 1 1 [.slice T ah ab] (by rfl) (by rfl) (World.news_of_block (cs:=#[.slice T ah ab]) (t:=71) (fr:=(0,0)) (jA G _)) (by intro u ap;simp at ap;subst ap;rfl)
                     (by omega) (by unfold maxLen;omega) (by omega) (by first|omega|(simp;omega)) (G.heap.size+1) (by simp) ?_
                   intro gv fz bd a6 bf ca b6;have F:=((cd.o).below (d3.o (.cells #[.slice T ah ab] 71))).list dz.o bw.o bg.o a6 bf;have b9:=qH (er.o _ _ _ F);have fx:=kG F.kc;have fy:=nG F.kc;have fo:=kG F.lc;have hd:=nG F.lc;clear a6 bf ca b6 F)
                | (refine step_append_lies _ (by rfl) _ _ _ (by rfl) r.heap.size 71 d0 _ 1 24 underlying41 c2 da dq dc rfl (by omega) (.slice af L ae) L cs (by rfl) (cq.o)
                     ⟨C.heap.size+1,0,none⟩ 1 1 [.slice T ah ab] (by rfl) (by rfl) (World.news_of_block (cs:=#[.slice T ah ab]) (t:=71) (fr:=(0,0)) (i6.o)) (by intro u ap;simp at ap;subst ap;rfl)
                     (by omega) (by unfold maxLen;omega) (by omega) (by first|omega|(simp;omega)) (G.heap.size) (by simp) ?_
                   intro gv fz bd a6 bf ca b6;have F:=(cd.o).list dz.o bw.o bg.o a6 bf;have b9:=qH (er.o _ _ _ F);have fx:=kG F.kc;have fy:=nG F.kc;have fo:=kG F.lc;have hd:=nG F.lc;clear a6 bf ca b6 F)
                | (refine step_append_lies _ (by rfl) _ _ _ (by rfl) r.heap.size 71 d0 _ 1 24 underlying41 c2 da dq dc rfl (by omega) (.slice af L ae) L cs (by rfl) (cq.o)
                     ⟨C.heap.size,0,none⟩ 1 1 [.slice T ah ab] (by rfl) (by rfl) (World.news_of_block (cs:=#[.slice T ah ab]) (t:=71) (fr:=(0,0)) (j2.o)) (by intro u ap;simp at ap;subst ap;rfl)
                     (by omega) (by unfold maxLen;omega) (by omega) (by first|omega|(simp;omega)) (G.heap.size) (by simp) ?_
                   intro gv fz bd a6 bf ca b6;have F:=(cd.o).list dz.o bw.o bg.o a6 bf;have b9:=qH (er.o _ _ _ F);have fx:=kG F.kc;have fy:=nG F.kc;have fo:=kG F.lc;have hd:=nG F.lc;clear a6 bf ca b6 F));all_goals ((try go_simp);refine d _ _ ?_;clear d h)
              all_goals (refine oG (rs:=[8]) (by kernel_rfl) (by simp) ?_;refine eG rfl (fun h d=> ?_) fG;go_simp;refine d _ _ ?_;clear d h)
              all_goals (refine oG (rs:=[9]) (by kernel_rfl) (by simp) ?_;refine eG rfl (fun h d=> ?_) fG;go_simp;refine d _ _ ?_;clear d h)
              all_goals (refine wpAny_done (by kernel_rfl) ?_ _)
              all_goals
                refine qck.fin ?_;gi_wp2;exact b9.o
      case done=>
        rintro c7 ys W ii el ⟨av,ia,hz,cs,ar,bc,I⟩ ch;have di:qbV Ls E ys.length=qah (qau Ls E):=by rw [el];exact qqP am.o
        have c3:qdw Ls E ys.length=(qah (qau Ls E)).map fun k=>qak 0 (qau Ls E) k:=by rw [el];exact qAr am.o
        rw [di,c3] at I;obtain ⟨an,ak,rfl,gj,ft,jy⟩:=qaU I.keys;have e4:=I.lists;rw [gB] at e4;obtain ⟨af,ae,rfl,f8,he,it⟩:=qaU e4;have kp:=kG ar;have kc:=kG bc;have gl:ql6 Ls E w (.returned (.tuple #[.slice an (qah (qau Ls E)).length ak,.slice af (qah (qau Ls E)).length ae])) (W.drew.putObj c7 (.deferred none)):=by
          have e5:=qcP.firm (N:=r.heap.size) (kA _) W.drew c7 _ (.deferred none) ii ch rfl (I.below (bA _ W).drew);refine ⟨an,ak,af,ae,rfl,⟨gj,ft⟩,⟨f8,he⟩,qbk e5.keys (ce.o).size,⟨cs,qbk (by have :=e5.lists;rwa [gB] at this) (ce.o).size,e5.lg⟩,?_⟩;exact qaE.belowW (N:=r.heap.size) (ce.o).size W.drew c7 _ _ ii ch rfl ((ce.o).trans (av.below.mono gu.o)).drew
        have gm:=qH gl;have ⟨N,ij⟩:=qE ((qah (qau Ls E)).length);rw [<- ij] at kp kc gm;clear ar bc I e4 jy it di c3 el av gl ij gj ft f8 he
        dsimp only
        go_wp2;refine wp_region_noPanic ?_
        go_region
        all_goals
          refine NoPanic.normal ?_;go_wp2;refine ⟨by simp,.inl ⟨_,_,rfl,run_takeDeferred ch,?_⟩⟩;refine ⟨_,results_tmp2 rfl _ _ _,?_⟩;exact gm.o
      case stop=>
        rintro c7 c pre W _ _ ds _;exact ds.elim
def qrP {key:Nm}:∀ {ks:List Nm} {ls:List (List Pn)},(∀ l∈ls,l.length<=N)->(atP ks ls key).length<=N
 |[],_,_=>by simp [atP]
 |_::_,[],_=>by simp [atP]
 |k::ks,l::ls,a=>by
  rw [atP];by_cases e:k=key
  ·rw [eA e];exact a l (eB ..)
  ·rw [dA e];exact qrP fun x b=>a x (oB _ b)
def qrQ {ps:List qai} (c:∀ x∈ps,∀ l∈x.lists,l.length<=N) (i:Nat) (key:Nm):(qcM (qd8 ps i) key).length<=N:=by
 refine qrP fun l a=> ?_
 by_cases b:i<ps.length
 ·rw [ql5 b] at a
  exact c _ (pA b) l a
 ·unfold qd8 at a
  rw [mA,sC (by omega)] at a;cases a
def qCm (l:List Pn) (q d m:Nat):(qdO l q d m).length<=m:=by
 unfold qdO;rw [gB];exact lA (wD _ _) (by rw [sA];omega)
def qrR {f:Nat->qai} {key:Nm} (a:∀ i,(qcM (f i) key).length<=N):∀ (E:List Pl) (j:Nat),(qd2 f key j E).length<=E.length*N
 |[],_=>by simp [qd2]
 |p::E,j=>by
  have h1:=qrR a E (j+1);have h2:=lA (wD (fun q:Pn=>decide (q.1=(p.2:Int))) (qcM (f p.1) key)) (a p.1);rw [qd2,iA,gB,nA,Nat.add_mul,Nat.one_mul];omega
def qCn {ps:List qai} (a:∀ x∈ps,∀ l∈x.lists,l.length<=N) (key:Nm) (E:List Pl):(qcE ps key E).length<=E.length*N:=qrR (fun i=>qrQ a i key) E 0
def qrS {ps:List qai} (a:∀ x∈ps,∀ l∈x.lists,l.length<=1000000) (key:Nm) {E:List Pl} (b:E.length<=1000000):(qcE ps key E).length<=1000000000000:=
 lA (qCn a key E) (lA (dE 1000000 b) (by decide))
def qbn.at_ {l:List Pn} (q:qbn 0 w A l) {m:Nat} (e:m<l.length):∃ b a d c,A=some ⟨b,a,none⟩/\b<w.heap.size/\w.cell? ⟨b,a+m*2,none⟩=some (.int .i64 l[m].1)/\w.cell? ⟨b,a+m*2+1,none⟩=some (.slice d l[m].2.length c)/\(l[m].2.length<=c/\c<=maxLen)/\qat 0 3 w d (qaa l[m].2):=by
 obtain ⟨cs,h1,h2⟩:=q;have ⟨k,d,c,g,h,n,j⟩:=qao.at_ h1 e;obtain ⟨b,a,rfl,p,i⟩:=h2.row.at_ (by rw [h1.len];omega);rw [show l.getD m (0,[])=l[m] by rw [mA,oA e];rfl] at k g h j;exact ⟨b,a,d,c,rfl,p,i _ _ k,i _ _ g,⟨h,n⟩,j⟩
structure qdP (zz P:Nat) (xs ys:List Int) (v0 v1:Value) (w6 wr:World):Prop where
 cell:wr.heap[P]?=some (.cells #[v0,v1,.slice none 0 0,.slice none 0 0] 62 (0,0))
 many:qcV 3 1 zz wr [v0,v1] [xs.length,ys.length] [qaa xs,qaa ys]
 le:zz<=P
 size:zz<=wr.heap.size
 below:Below zz w6 wr
section
variable {zz P:Nat} {xs ys:List Int} {v0 v1 v':Value} {w6 wr w':World}
def qdP.later (a:qdP zz P xs ys v0 v1 w6 wr) (b:wG wr w'):qdP zz P xs ys v0 v1 w6 w':=
 ⟨(b.block _ (gA.1 a.cell).1).trans a.cell,a.many.below b,a.le,lA a.size b.size,a.below.trans (b.mono a.size)⟩
def qdP.own0 (a:qdP zz P xs ys v0 v1 w6 wr):wr.ownsRow zz 3 1 v0 xs.length (qaa xs):=a.many.own 0 (by simp)
def qdP.own1 (a:qdP zz P xs ys v0 v1 w6 wr):wr.ownsRow zz 3 1 v1 ys.length (qaa ys):=a.many.own 1 (by simp)
def qdP.id (b:qdP zz P xs ys v0 v1 w6 wr) {n:Nat} {a:Int} (j:n=xs.length) (l:w'.ownsRow zz 3 1 v' (n+1) (qaa xs++[.int .i64 a])) (c:wr.grownBy w' v0.ownBlock) (m:∀ g,v'.ownBlock=some g->v0.ownBlock=some g\/wr.heap.size<=g):
  (w'.cell? ⟨P,0,none⟩=some v0/\w'.frozen? ⟨P,0,none⟩=false)/\qdP zz P (xs++[a]) ys v' v1 w6 (w'.setCell ⟨P,0,none⟩ v'):=by
 subst j;have d:w'.heap[P]?=some (.cells #[v0,v1,.slice none 0 0,.slice none 0 0] 62 (0,0)):=by
  rw [c.block P (gA.1 b.cell).1 (fun e=>qan b.own0 b.cell (by decide) e.symm),b.cell]
 have ⟨r,q2⟩:=qaw d;have h:=(b.many.grow (q:=0) (by simp) l c m).other (i:=0) d (by decide) v';refine ⟨⟨r.1,q2.1⟩,by simpa using lB w' P 0 _ _ v' d,?_,b.le,by have :=c.size;have :=b.size;simp;omega,(b.below.grown c b.size fun k s=>(b.own0.lt k s).1).setCell (p:=⟨P,0,none⟩) b.le _⟩;have e:qaa (xs++[a])=qaa xs++[.int .i64 a]:=by simp [qaa]
 rw [iA,bB,e];exact h
def qdP.seq (b:qdP zz P xs ys v0 v1 w6 wr) {n:Nat} {a:Int} (j:n=ys.length) (l:w'.ownsRow zz 3 1 v' (n+1) (qaa ys++[.int .i64 a])) (c:wr.grownBy w' v1.ownBlock) (m:∀ g,v'.ownBlock=some g->v1.ownBlock=some g\/wr.heap.size<=g):
  (w'.cell? ⟨P,1,none⟩=some v1/\w'.frozen? ⟨P,1,none⟩=false)/\qdP zz P xs (ys++[a]) v0 v' w6 (w'.setCell ⟨P,1,none⟩ v'):=by
 subst j;have d:w'.heap[P]?=some (.cells #[v0,v1,.slice none 0 0,.slice none 0 0] 62 (0,0)):=by
  rw [c.block P (gA.1 b.cell).1 (fun e=>qan b.own1 b.cell (by decide) e.symm),b.cell]
 have ⟨r,q2⟩:=qaw d;have h:=(b.many.grow (q:=1) (by simp) l c m).other (i:=1) d (by decide) v';refine ⟨⟨r.2.1,q2.2.1⟩,by simpa using lB w' P 1 _ _ v' d,?_,b.le,by have :=c.size;have :=b.size;simp;omega,(b.below.grown c b.size fun k s=>(b.own1.lt k s).1).setCell (p:=⟨P,1,none⟩) b.le _⟩;have e:qaa (ys++[a])=qaa ys++[.int .i64 a]:=by simp [qaa]
 rw [iA,bB,e];exact h
end
def qrT (Ls:List (List En)) (rs:List (List Bool)) (w:World) (e:Ending) (w':World):Prop:=
 (¬ qbu Ls rs/\qzi w e w')\/(qbu Ls rs/\qeD ((qaT Ls rs).map qaz)/\e= .returned (.tuple #[.pointer none,.int .i64 5])/\wG w w')\/
  (qbu Ls rs/\∃ o,qbS ((qaT Ls rs).map qaz) o/\qgV (qac (qau Ls (qaj rs o))) w e w')
def ql7 (a:List En) (P:Nat) (w6:World) (b:Value) (wr:World):Prop:=∃ (q:Nat) (v0 v1:Value),q<=a.length/\b= .int .i64 (q:Int)/\qdP w6.heap.size P ((a.take q).map (·.1)) (qaz (a.take q)) v0 v1 w6 wr
def qrU {l:List Int} (a:k<l.length):qd5 l (k:Int)=l[k]:=by
 unfold qd5;rw [eA ⟨by omega,by omega⟩,rD,qaI a]
def qCo (A bm:Option Addr) (m c X c0:Nat) (Ls:List (List En)) (rs:List (List Bool)) (w:World) (Z:qet w A Ls) (bo:qfa w bm rs) (a9:Ls.length=m) (ci:rs.length=X) (ea:m<=1000) (aq:qiZ Ls) (bz:(Ls.map qah).flatten.length<=100000) (bf:Tab w):
    yG 14 #[.slice A m c,.slice bm X c0] w (qrT Ls rs w):=by
  have cd:=qH (qAb A bm m c X c0 Ls rs w Z bo a9 ci (by omega));by_cases J:qbu Ls rs
  · have dp:∀ s∈(qaT Ls rs).map qaz,qal (-1) s=true:=fun s fa=>by
      obtain ⟨b9,ck,rfl⟩:=tA.1 fa;have ⟨dj,dt,d5⟩:=qi5 (x:=(0,[],0)) J b9 ck;refine qgr (aD.2 (((aq.good dj dt).2.1).sublist d5)) fun a fl=> ?_
      obtain ⟨q,bk,rfl⟩:=tA.1 fl;have :=(aq.may dj dt q (d5.mem bk)).2;omega
    have e1:X=m:=by have :=(qgs.1 J).1;omega
    subst e1;have dk:=qH (fun a7 (F:wG w a7)=>qBA A bm X c c0 Ls rs a7 (Z.below F) (bo.below F) J a9 ea (fun b9 ck=>(aq.good b9 ck).2.2) (bf.below F bf.lt));have dh:=qH aq;have dc:=qH Z;have dr:=qH a9;have ep:=qH bz;have c4:=qH dp;clear aq Z bo a9 ci bz bf dp;by_cases ad:qeD ((qaT Ls rs).map qaz)
    · go_enter func14,ntmps14
      go_wp2_with (first
                | (go_at_call 37; refine (cd.o).mono ?_; rintro e a7 ⟨z, rfl, ae, aa⟩
                   obtain rfl:z=true:=ae.2 J;have N:=qH aa;clear aa ae)
                | (go_at_call 38; refine (dk.o _ N.o).mono ?_; rintro e d ⟨cc, o, v, av, rfl, L, a4, b3⟩
                   obtain rfl:cc=5:=(by
                     cases av with
                     |bad h=>exact absurd c4.o h
                     |twice _ _=>rfl
                     |ok _ h=>exact absurd ad h.once)
                   have br:=qH ((N.o).trans (a4.mono (N.o).size));clear av L a4 b3))
      go_ret2;exact .inr (.inl ⟨J,ad,rfl,br.o⟩)
    · go_enter func14,ntmps14
      go_wp2_with (first
                | (go_at_call 37; refine (cd.o).mono ?_; rintro e a7 ⟨z, rfl, ae, aa⟩
                   obtain rfl:z=true:=ae.2 J;have N:=qH aa;clear aa ae)
                | (go_at_call 38; refine (dk.o _ N.o).mono ?_; rintro e d ⟨cc, o, v, av, rfl, L, a4, b3⟩
                   have ff:cc=0/\qbS ((qaT Ls rs).map qaz) o:=(by
                     cases av with
                     |bad h=>exact absurd c4.o h
                     |twice _ h=>exact absurd h ad
                     |ok _ h=>exact ⟨rfl,h⟩)
                   obtain ⟨rfl,dx⟩:=ff;obtain ⟨ev,e9,rfl,_,_,_⟩:=qaU L;have ⟨r,au⟩:=qE ((qaj rs o).length);rw [<- au];have fe:=qH au;have cx:=qH dx;have ce:=qH (qbx L);have br:=qH ((N.o).trans (a4.mono (N.o).size));clear av L a4 dx au b3))
      have ⟨dw,df,dl,dv,de⟩:=lG qc4;have ⟨E,al⟩:=qE (qaj rs o);have d0:qdN Ls E:=by rw [al];exact qi0 J cx.o dh.o.good
      have V:qbz (qau Ls E):=by rw [al];exact qqe J cx.o dh.o
      have au:E.length=r:=by rw [al];exact fe.o.symm
      have ft:r<=100:=by have :=V.few;simp only [qau,gB] at this;omega
      rw [<- al] at ce;have ⟨P,bt⟩:=qE d.heap.size;have eb:ql7 (qau Ls E) P d (.int .i64 0) (d.alloc (.cells #[.slice none 0 0,.slice none 0 0,.slice none 0 0,.slice none 0 0] 62)):=
        ⟨0,_,_,kA _,rfl,by rw [bt];exact jA d _,by simpa [qaa,qaz] using qkj 3 1 d.heap.size (d.alloc _) 2,by omega,by simp,(bA _ d).alloc (aA _) _⟩
      have d3:=qH eb;have dn:=qH d0;have e2:=qH V;have bh:=qH au;have fd:=qH al;have e4:=qH bt;rw [<- bt];clear eb d0 V au al bt
      go_loopw [10,27] (fun u10 b5 wr=>ql7 (qau Ls E) P d b5 wr) (fun _ b5 _=>r-(intOf b5).toNat)
      case atStart=>exact d3.o
      case round=>
        clear d3;obtain ⟨q,fz,fn,bk,rfl,l⟩:=hrel;by_cases eg:q<r
        · have ba:q<E.length:=by rw [bh.o];exact eg
          have ⟨ap,O⟩:=(dn.o).ins _ (pA ba);have ⟨i,ch⟩:=qE (E[q].1);have ⟨y,c2⟩:=qE (E[q].2);obtain ⟨b0,fv,rfl,fw,e0,ed⟩:=qgK ((ce.o).below l.below) ba;rw [<- ch] at ap O e0;rw [<- c2] at O ed;rw [qaI ap] at O;have cy:q<(qau Ls E).length:=by simpa [qau] using ba
          have H:(qau Ls E)[q]=Ls[i][y]:=by
            simp only [qau,eC,qaV,<- ch,<- c2,qaI ap,qaI O]
          have cz:(qau Ls E).take (q+1)=(qau Ls E).take q++[Ls[i][y]]:=by rw [aB cy,H]
          have M:wG w d:=br.o;have e3:∀ W,wG d W->wG w W:=fun W af=>M.trans (af.mono M.size)
          obtain ⟨b,cq,S,rfl,F,cb,am⟩:=((dc.o).below M).at_ ap;have b2:((qau Ls E).take q).length=q:=by rw [sA];omega
          have cw:∀ W,wG d W->yG 39 #[.pointer (some ⟨S,0,none⟩),.int .i64 (y:Int)] W fun e w'=>e= .returned (.int .i64 (Ls[i][y]).1)/\wG W w':=fun W af=>by
            have :=qz6 (am.below af) (y:Int);rwa [qrU (by simpa [qac] using O),show (qac Ls[i]).ids[y]'(by simpa [qac] using O)=(Ls[i][y]).1 by simp [qac]] at this
          have cl:∀ W,wG d W->yG 40 #[.pointer (some ⟨S,0,none⟩),.int .i64 (y:Int)] W fun e w'=>e= .returned (.int .i64 (Ls[i][y]).2.2)/\wG W w':=fun W af=>by
            have :=qqI (am.below af) (y:Int);rwa [qrU (by simpa [qac] using O),show (qac Ls[i]).seqs[y]'(by simpa [qac] using O)=(Ls[i][y]).2.2 by simp [qac]] at this
          have ew:i<X:=by rw [<- dr.o];exact ap
          have ⟨a6,cp⟩:=qE ((Ls[i][y]).1);have ⟨bb,cu⟩:=qE ((Ls[i][y]).2.2);rw [<- cp] at cw;rw [<- cu] at cl;have cg:((qau Ls E).take (q+1)).map (·.1)=((qau Ls E).take q).map (·.1)++[a6]:=by rw [cz,jC,cp];rfl
          have cr:qaz ((qau Ls E).take (q+1))=qaz ((qau Ls E).take q)++[bb]:=by unfold qaz;rw [cz,jC,cu];rfl
          have ⟨xs,cn⟩:=qE (((qau Ls E).take q).map (·.1));have ⟨ys,ca⟩:=qE (qaz ((qau Ls E).take q));have ct:q=xs.length:=by rw [cn,gB,b2]
          have c3:q=ys.length:=by rw [ca,qaz,gB,b2]
          rw [<- cn] at l cg;rw [<- ca] at l cr;have ⟨T,b1⟩:=qE wr.heap.size;have ⟨a2,bj⟩:=qE (wr.alloc (.cells #[.int .i64 (i:Int),.int .i64 (y:Int)] 88));have c6:wG wr a2:=by rw [bj];exact (bA _ wr).alloc (aA _) _
          have c1:a2.heap[T]?=some (.cells #[.int .i64 (i:Int),.int .i64 (y:Int)] 88 (0,0)):=by rw [bj,b1];exact jA wr _
          have ao:=l.later c6;have ⟨an,a8,dz,_,_,_⟩:=qaU ao.own0;have ⟨ah,ak,d6,_,_,_⟩:=qaU ao.own1;rw [<- ct] at dz;rw [<- c3] at d6;subst dz d6;have di:¬ T=P:=by have :=(gA.1 l.cell).1;omega
          have c5:=(qaw ao.cell).1.1;have ⟨ej,ez⟩:=qjg c1;have e5:=(ao.below.cell (p:=⟨b,cq+i,none⟩) F).trans cb;have d1:=qH ao;have c9:=qH c1;have ek:=qH bj;have em:=qH b1;have fj:=qH cw;have er:=qH cl;have en:=qH cg;have fi:=qH cr;have d8:=qH ct;have c8:=qH c3;have fc:=qH cy;have fg:qI (∀ W,wG d W->W.cell? ⟨b,cq+i,none⟩=some (.pointer (some ⟨S,0,none⟩))):=qH fun W af=>(af.cell (p:=⟨b,cq+i,none⟩) F).trans cb
          have f2:(q:Int)<(r:Int):=by omega
          have f1:(i:Int)<(X:Int):=by omega
          clear l c6 c1 ao bj b1 cw cl cg cr ct c3 cy cn ca cp cu cz H b2 e3 am cb ap O ch c2 ba M ew;go_wp2;rw [<- ek.o,<- em.o]
          go_cut [] from 31 to 57 (fun c7=>∃ du,qdP d.heap.size P (xs++[a6]) ys du (.slice ah q ak) d c7/\c7.heap[T]?=some (.cells #[.int .i64 (i:Int),.int .i64 (y:Int)] 88 (0,0)))
          case first=>
            refine wp_region_noPanic ?_
            go_region_law (first
              | (refine step_append_lies _ (by rfl) _ _ _ (by rfl) d.heap.size 3 dw _ 1 8 underlying23 df dl dv de rfl (by omega) (.slice an q a8) q (qaa xs) (by rfl) (by have := (I.o).own0; rw [<- d8.o] at this; exact this.alloc _)
                  ⟨j.heap.size,0,none⟩ 1 1 [.int .i64 a6] (by rfl) (by rfl) (World.news_of_block (cs:=#[.int .i64 a6]) (t:=3) (fr:=(0,0)) (jA j _)) (by intro u a1;simp at a1;subst a1;rfl)
                  (by omega) (by unfold maxLen;omega) (by omega) (by have :=(I.o).size;simp;omega) (j.heap.size+1) (by simp) ?_
                 intro bx bu bp ax ai a0 b7;have ag:wG j (j.alloc (.cells #[.int .i64 a6] 3)):=(bA _ j).alloc (aA _) _;have aj:=(I.o).later ag;have ⟨⟨et,fk⟩,aw⟩:=aj.id d8.o ax ai (fun g H=>by
                   injection H with H
                   subst H;rcases a0 with h|h
                   · exact .inl h
                   · exact .inr (by simp;omega))
                 have U:=(ag.block T (gA.1 a3.o).1).trans a3.o;have bw:(bp.setCell ⟨P,0,none⟩ (.slice (some ⟨bx,0,none⟩) (q+1) bu)).heap[T]?=some (.cells #[.int .i64 (i:Int),.int .i64 (y:Int)] 88 (0,0)):=by
                   rw [rA _ _ _ _ di,ai.block T (gA.1 U).1 (fun e=>qan aj.own0 U (by decide) (by rw [<- e])),U]
                 have co:=qH aw;have ey:=qH bw;clear ax ai a0 b7 ag aj U aw bw)
              | (go_simp; go_at_call 39; (with_reducible refine (fj.o _ (d1.o).below.drew).mono ?_); rintro e j ⟨rfl, az⟩
                 have a5:qI (wG a2 j):=qH ((bA a2.heap.size a2).drew.trans az);have I:=qH ((d1.o).later a5.o);have a3:=qH (((a5.o).block T (gA.1 c9.o).1).trans c9.o);have fh:=(qaw (I.o).cell).1.1;have el:∀ o,(j.alloc o).cell? ⟨P,0,none⟩=some (.slice an q a8):=fun o=>(qaw ((I.o).later ((bA _ j).alloc (aA _) o)).cell).1.1
                 clear az))
            all_goals
              refine NoPanic.normal ?_
              go_wp2_with fail
              go_meet;exact ⟨_,co.o,ey.o⟩
          case rest=>
            obtain ⟨du,bl,cf⟩:=hcut;have eh:=(qaw bl.cell).1.2.1;have ⟨fo,fu⟩:=qjg cf;have fm:=fg.o _ bl.below;have db:=qH bl;have ds:=qH cf;clear bl cf ej ez e5 c5;go_wp2;refine wp_region_noPanic ?_
            go_region_law (first
              | (refine step_append_lies _ (by rfl) _ _ _ (by rfl) d.heap.size 3 dw _ 1 8 underlying23 df dl dv de rfl (by omega) (.slice ah q ak) q (qaa ys) (by rfl) (by have := (I.o).own1; rw [<- c8.o] at this; exact this.alloc _)
                  ⟨j.heap.size,0,none⟩ 1 1 [.int .i64 bb] (by rfl) (by rfl) (World.news_of_block (cs:=#[.int .i64 bb]) (t:=3) (fr:=(0,0)) (jA j _)) (by intro u a1;simp at a1;subst a1;rfl)
                  (by omega) (by unfold maxLen;omega) (by omega) (by have :=(I.o).size;simp;omega) (j.heap.size+1) (by simp) ?_
                 intro bx bu bp ax ai a0 b7;have ag:wG j (j.alloc (.cells #[.int .i64 bb] 3)):=(bA _ j).alloc (aA _) _;have aj:=(I.o).later ag;have ⟨⟨et,fk⟩,aw⟩:=aj.seq c8.o ax ai (fun g H=>by
                   injection H with H
                   subst H;rcases a0 with h|h
                   · exact .inl h
                   · exact .inr (by simp;omega))
                 have U:=(ag.block T (gA.1 a3.o).1).trans a3.o;have bw:(bp.setCell ⟨P,1,none⟩ (.slice (some ⟨bx,0,none⟩) (q+1) bu)).heap[T]?=some (.cells #[.int .i64 (i:Int),.int .i64 (y:Int)] 88 (0,0)):=by
                   rw [rA _ _ _ _ di,ai.block T (gA.1 U).1 (fun e=>qan aj.own1 U (by decide) (by rw [<- e])),U]
                 have co:=qH aw;clear ax ai a0 b7 ag aj U aw bw)
              | (go_simp; go_at_call 40; (with_reducible refine (er.o _ (db.o).below.drew).mono ?_); rintro e j ⟨rfl, az⟩
                 have a5:qI (wG wc j):=qH ((bA wc.heap.size wc).drew.trans az);have I:=qH ((db.o).later a5.o);have a3:=qH (((a5.o).block T (gA.1 ds.o).1).trans ds.o);have fh:=(qaw (I.o).cell).1.2.1;have el:∀ o,(j.alloc o).cell? ⟨P,1,none⟩=some (.slice ah q ak):=fun o=>(qaw ((I.o).later ((bA _ j).alloc (aA _) o)).cell).1.2.1
                 clear az))
            all_goals
              refine NoPanic.normal ?_;have d9:ql7 (qau Ls E) P d (.int .i64 ((q:Int)+1)) (bp.setCell ⟨P,1,none⟩ (.slice (some ⟨bx,0,none⟩) (q+1) bu)):=
                ⟨q+1,_,_,fc.o,by go_num,by rw [en.o,fi.o];exact co.o⟩
              have bi:=qH d9;clear d9;go_wp2;go_roundw
              case rel=>
                first
                  |exact bi.o
                  | (repeat apply Exists.intro
                     exact ⟨bi.o,rfl⟩)
              case measure=>simp [intOf];omega
        · have ee:q=r:=by have :=bh.o;simp only [qau,gB] at bk;omega
          have be:(qau Ls E).length=r:=by simp only [qau,gB];exact bh.o
          rw [nB (by omega)] at l;have ⟨K,ay⟩:=qE (qau Ls E);rw [<- ay] at l be;have bn:(K.map (·.1)).length=r:=by simp [be]
          have bc:(qaz K).length=r:=by simp [qaz,be]
          have cj:=l.own0;have b6:=l.own1;rw [bn] at cj;rw [bc] at b6;obtain ⟨an,a8,rfl,_,_,_⟩:=qaU cj;obtain ⟨ah,ak,rfl,_,_,_⟩:=qaU b6;have M:wG w d:=br.o;have bd:wG w wr:=M.trans (l.below.mono M.size);have V:qbz K:=by rw [ay];exact e2.o
          have ⟨G,bg⟩:=qE ((qah K).length);have cv:w.heap.size<=P:=by rw [e4.o];exact M.size
          have bq:=qCl A ev X c r e9 Ls E wr ((dc.o).below bd) (((ce.o).below l.below).more l.below.size) dn.o dr.o bh.o ea (by omega) ep.o;unfold ql6 at bq;rw [<- ay,<- bg] at bq;have dy:∀ B R Y Q ab ar,B.ownsRow wr.heap.size 9 1 (.slice R G Y) G (qad (qah K))->B.ownsRow wr.heap.size 71 1 (.slice Q G ab) G ar->LG 0 B ((qah K).map fun k=>qak 0 K k) ar->wG wr B->
              yG 33 #[.agg #[.slice an r a8,.slice ah r ak,.slice R G Y,.slice Q G ab]] ((B.setCell ⟨P,2,none⟩ (.slice R G Y)).setCell ⟨P,3,none⟩ (.slice Q G ab)) (qgV (qac K) w):=by
            intro B R Y Q ab ar D e6 ei F;have cm:=l.later F;have d4:=cm.cell;have ⟨ac,bv⟩:=qE ((B.setCell ⟨P,2,none⟩ (.slice R G Y)).setCell ⟨P,3,none⟩ (.slice Q G ab));have dm:∀ k,k≠P->ac.heap[k]?=B.heap[k]?:=fun k D=>by
              rw [bv,rA _ _ _ _ (by show k≠P;exact D),rA _ _ _ _ (by show k≠P;exact D)]
            have fy:ac.heap.size=B.heap.size:=by rw [bv];simp
            have L:∀ {bs:Nat} {t:TypeId} {dg n:Nat} {v:Value} {xs:List Value},B.ownsRow bs t dg v n xs->62≠t->ac.ownsRow bs t dg v n xs:=fun h ad=>qaq h fun g H=>dm g fun e=>qan h d4 ad (by rw [H,e])
            have ef:qay 0 B ac:=⟨by omega,fun k D=>absurd D (Nat.not_lt_zero _),fun k cs t fr D ad=>by
              rw [dm k (fun e=> ?_),D];subst e;rw [d4] at D;injection D with D
              injection D with _ e _
              rw [<- e] at ad;exact absurd ad (by unfold PoK;decide)⟩
            have ec:=L cm.own0 (by decide);have d2:=L cm.own1 (by decide);rw [bn] at ec;rw [bc] at d2;have fb:PAt ac ac.heap.size an ah R Q (qac K):=⟨qbx ec,qbx d2,qbx (L D (by decide)),⟨ar,(ei.keep ef).cells,qbx (L e6 (by decide))⟩⟩;have b8:wG w ac:=by
              rw [bv];exact ((bd.trans (F.mono bd.size)).setCell (p:=⟨P,2,none⟩) cv _).setCell (p:=⟨P,3,none⟩) cv _
            rw [<- bv];refine (qqf an ah R Q r a8 r ak G Y G ab (qac K) ac bn bc bg.symm (by rw [bg];simp [qac]) fb (qlk V) (qiY V) (qqa V)).mono ?_;rintro e w' ⟨S,h1,h2,h3,ex⟩;exact ⟨S,h1,h2,lA b8.size h3,b8.trans (ex.mono b8.size)⟩
          have C:=qH bq;have eo:=qH dy;have da:=qH l.cell;have eq:=qH ay;clear bq dy l cj b6 M bd V cv be bn bc bg ay ee bk
          go_wp2_with (first
            | (go_at_call 41; refine (C.o).mono ?_; rintro e B ⟨R, Y, Q, ab, rfl, e7, eu, d7, ⟨ar, dd, dq⟩, b4⟩
               have e8:=qH ((eo.o) B R Y Q ab ar d7 dd dq b4);have ⟨⟨c5,eh,fx,f0⟩,fq,fp,f3,fs⟩:=qaw ((b4.block _ (gA.1 da.o).1).trans da.o);clear e7 eu d7 dd dq b4)
            | (go_at_call 33; refine (e8.o).mono ?_; rintro e es ⟨S, rfl, am, Z, F⟩
               have bi:qI (qrT Ls rs w (.returned (.tuple #[.pointer (some ⟨S,0,none⟩),.int .i64 0])) es):=qH (.inr (.inr ⟨J,o,cx.o,S,rfl,by rw [<- fd.o,<- eq.o];exact am,Z,F⟩));clear am Z F))
          go_ret2;exact bi.o
  · clear Z bo a9 ci bz bf aq
    go_enter func14,ntmps14
    go_wp2_with (go_at_call 37; refine (cd.o).mono ?_; rintro e a7 ⟨z, rfl, ae, aa⟩
                 obtain rfl:z=false:=(by cases z with|true=>exact absurd (ae.1 rfl) J|false=>rfl)
                 have N:=qH aa;clear aa ae)
    go_ret2;exact .inl ⟨J,rfl,N.o⟩
def qjm (d:qbz G):qd4 G:=by
 have h1:(G.map (·.2.2)).Pairwise (· <·):=dC.2 fun i j b a c=>(qhl d.rise j a).2 i b c
 exact aD.1 h1
def qrV (a:qbz G):∀ q∈G,0<=q.2.2:=fun q c=>by
 have ⟨i,b,e⟩:=nC (tA.2 ⟨q,c,rfl⟩:q.2.2∈G.map (·.2.2));have :=(qhl a.rise i b).1;rw [e] at this;omega
def qrW (c:∀ a∈Ls,qbz a) (e:Ls.flatten.length<=100):qiZ Ls:=
 ⟨fun a b=>⟨(c a b).good,qjm (c a b),by have :=(c a b).few;omega⟩,fun a b q d=>⟨(c a b).may q d,qrV (c a b) q d⟩,e⟩
def ql8:∀ {Ls:List (List En)},(∀ L∈Ls,qbz L)->(Ls.map qah).flatten.length<=4000*Ls.flatten.length
 |[],_=>by simp
 |L::Ls,b=>by
  have h1:=qhP (l:=L) (a:=[]) (M:=4000) fun q e=>qgw ((b L (eB ..)).good q e)
  have h2:(qah L).length<=L.length*4000+([]:List Nm).length:=h1;have h3:=ql8 (Ls:=Ls) fun d c=>b d (oB _ c)
  simp only [xB,List.flatten_cons,iA,vB] at h2 ⊢;omega
def qCp (a:qbu Ls rs) (b:(qaz Ls.flatten).Nodup):¬ qeD ((qaT Ls rs).map qaz):=by
 have :=qqE a b;rwa [qf1 a] at this
def qbz.of_mem {g:List En} (c:qbz G) (h:qd4 g) (b:∀ x∈g,x∈G):qbz g where
 may q d:=c.may q (b q d)
 rise:=qgr (aD.2 h) fun a k=>by
  obtain ⟨q,d,rfl⟩:=tA.1 k;have :=qrV c q (b q d);omega
 few:=by
  have i:g.Nodup:=h.imp fun j e=>by subst e;exact yE _ j
  exact lA (qll i b) c.few
def qCq (a:qbz G) (ts:List Int) (m j:Nat):qbz (qeg ts m j G):=a.of_mem ((qjm a).sublist (qi7 ts m j G)) (qi7 ts m j G).subset
def qCr (ts:List Int) {m:Nat} (k:0<m):∀ (a:List En),(qcN a ts m).flatten.length=a.length:=by
 intro a
 induction h:a.length generalizing a with
 |zero=>
  have :a=[]:=sB h;subst this;rw [qrl];simp
 |succ n d=>
  obtain ⟨g,q,rfl⟩:∃ g q,a=g++[q]:=⟨a.dropLast,a.getLast (by intro e;rw [e] at h;simp at h),(List.dropLast_concat_getLast _).symm⟩;have p:g.length=n:=by simpa using h
  have c:=d g p;have b:qdu ts m g.length<(qcN g ts m).length:=by rw [qjh];exact qqB ts k _
  have i:qeg ts m (qdu ts m g.length) g=(qcN g ts m)[qdu ts m g.length]:=(qhV b).symm;rw [qrm,i];clear i h d;generalize qdu ts m g.length=j at b ⊢;generalize qcN g ts m=D at b c ⊢;rw [List.set_eq_take_append_cons_drop,eA b];have l:D.flatten=(D.take j).flatten++(D[j]++(D.drop (j+1)).flatten):=by
   conv=>lhs;rw [<- gD j D,yD b]
   rw [List.flatten_append,List.flatten_cons]
  rw [l] at c;simp only [List.flatten_append,List.flatten_cons,iA,bB] at c ⊢;omega
structure qdi (lo:Nat) (Ls:List (List En)) (rs:List (List Bool)) (Ss Bs:List Nat) (vs vb:Value) (w0 w:World):Prop where
 segs:w.ownsRow lo 33 1 vs Ls.length (qbD Ss)
 sets:w.ownsRow lo 37 1 vb rs.length (qbD Bs)
 slen:Ss.length=Ls.length
 blen:Bs.length=rs.length
 at_:∀ i (h:i<Ls.length),qbN w (Ss.getD i 0) (qac Ls[i])
 is_:∀ i (h:i<rs.length),∃ zz,qbd w zz (Bs.getD i 0) rs[i]
 size:lo<=w.heap.size
 below:Below lo w0 w
def qCs (w:World):qdi w.heap.size [] [] [] [] (.slice none 0 0) (.slice none 0 0) w w:=
 ⟨vA _ _ _ _,vA _ _ _ _,rfl,rfl,fun i a=>by simp at a,fun i a=>by simp at a,aA _,bA _ _⟩
section
variable {lo:Nat} {Ls:List (List En)} {rs:List (List Bool)} {Ss Bs:List Nat} {vs vb v':Value} {w0 w w':World}
def qdi.later (a:qdi lo Ls rs Ss Bs vs vb w0 w) (c:wG w w'):qdi lo Ls rs Ss Bs vs vb w0 w':=
 ⟨qaf a.segs c,qaf a.sets c,a.slen,a.blen,fun i d=>(a.at_ i d).below c,fun i d=>by have ⟨b,e⟩:=a.is_ i d;exact ⟨b,e.below c⟩,lA a.size c.size,a.below.trans (c.mono a.size)⟩
def qrX {l:List Nat} {x:Nat} (a:i<l.length):(l++[x]).getD i 0=l.getD i 0:=by
 rw [mA,mA,fD a]
def qrY {l:List Nat} {x:Nat} (a:i=l.length):(l++[x]).getD i 0=x:=by
 subst a;rw [mA,oC (aA _)];simp
def qdi.seg (a:qdi lo Ls rs Ss Bs vs vb w0 w) {S:Nat} {l:List En} (m:qbN w S (qac l)) (p:w'.ownsRow lo 33 1 v' (Ls.length+1) (qbD Ss++[.pointer (some ⟨S,0,none⟩)])) (d:w.grownBy w' vs.ownBlock):qdi lo (Ls++[l]) rs (Ss++[S]) Bs v' vb w0 w':=by
 have c:=qar.grown a.segs d;have j:¬ qfd 33:=by unfold qfd;decide
 refine ⟨by simpa [qbD] using p,qaM a.sets c (by decide),by simp [a.slen],a.blen,fun i g=> ?_,fun i g=> ?_,lA a.size d.size,a.below.grown d a.size fun k c=>(a.segs.lt k c).1⟩
 ·by_cases e:i=Ls.length
  ·subst e
   rw [qrY a.slen.symm];simpa using m.keptN c j
  ·have h:i<Ls.length:=by simp at g;omega
   rw [qrX (by rw [a.slen];exact h),cF h];exact (a.at_ i h).keptN c j
 ·have ⟨b,n⟩:=a.is_ i g
  exact ⟨b,n.keptN c (by decide) (by decide)⟩
def qdi.set (a:qdi lo Ls rs Ss Bs vs vb w0 w) {B zz:Nat} {r:List Bool} (l:qbd w zz B r) (n:w'.ownsRow lo 37 1 v' (rs.length+1) (qbD Bs++[.pointer (some ⟨B,0,none⟩)])) (d:w.grownBy w' vb.ownBlock):qdi lo Ls (rs++[r]) Ss (Bs++[B]) vs v' w0 w':=by
 have c:=qar.grown a.sets d;have m:¬ qfd 37:=by unfold qfd;decide
 refine ⟨qaM a.segs c (by decide),by simpa [qbD] using n,a.slen,by simp [a.blen],fun i g=>(a.at_ i g).keptN c m,fun i g=> ?_,lA a.size d.size,a.below.grown d a.size fun k c=>(a.sets.lt k c).1⟩;by_cases e:i=rs.length
 ·subst e
  rw [qrY a.blen.symm];exact ⟨zz,by simpa using l.keptN c (by decide) (by decide)⟩
 ·have h:i<rs.length:=by simp at g;omega
  rw [qrX (by rw [a.blen];exact h),cF h];have ⟨b,j⟩:=a.is_ i h;exact ⟨b,j.keptN c (by decide) (by decide)⟩
def qdi.ins (a:qdi lo Ls rs Ss Bs (.slice A n c) (.slice A' k b) w0 w):qet w A Ls/\qfa w A' rs:=by
 have g:n=Ls.length:=by
  have ⟨_,_,e,_⟩:=qaK a.segs;injection e
 have d:k=rs.length:=by
  have ⟨_,_,e,_⟩:=qaK a.sets;injection e
 subst g d;exact ⟨⟨Ss,a.slen,qbx a.segs,a.at_⟩,⟨Bs,a.blen,qbx a.sets,a.is_⟩⟩
def qdi.lens (d:qdi lo Ls rs Ss Bs vs vb w0 w):∃ A c b a,vs= .slice A Ls.length c/\vb= .slice b rs.length a/\Ls.length<=c/\rs.length<=a:=by
 have ⟨A,c,e,h1,_⟩:=qaK d.segs;have ⟨b,a,g,h2,_⟩:=qaK d.sets;exact ⟨A,c,b,a,e,g,h1,h2⟩
end
theorem qCt:(prog.info? 33).map (fun i=>(i.zero,i.size,i.bytes))=some (some (.pointer none),1,8):=by kernel_rfl
theorem qCu:(prog.info? 37).map (fun i=>(i.zero,i.size,i.bytes))=some (some (.pointer none),1,8):=by kernel_rfl
