import Derived.Test.YtpehcaidjlemiaaGreatDoorMMQ09
set_option maxHeartbeats 16000000
set_option maxRecDepth 100000
set_option linter.all false
namespace Go.Proofs.YtpehcaidjlemiaaGreatDoor
open Go Go.RowKit
variable {w w' W w0 wr:World} {k n b i m zz B lo N P D:Nat} {A A' C:Option Addr} {v:Value} {xs:List Value} {t E:TypeId} {q:List Int} {fr:Nat × Nat} {S:Nat → Prop}
def qjh (g:List En) (a:List Int) (m:Nat):(qcN g a m).length=m:=by simp [qcN]
def qhV {g:List En} (a:i<(qcN g q m).length):(qcN g q m)[i]=qeg q m i g:=by simp [qcN]
def qrl (a:List Int) (m:Nat):qcN [] a m=List.replicate m []:=by
 refine dD (by simp [qcN]) fun i h1 h2=> ?_
 rw [qhV,List.getElem_replicate];rfl
def qrm (g:List En) (q:En) (a:List Int) {m:Nat}:qcN (g++[q]) a m=(qcN g a m).set (qdu a m g.length) (qeg a m (qdu a m g.length) g++[q]):=by
 refine dD (by simp [qcN]) fun i h1 h2=> ?_
 rw [qhV,qzY,oF];by_cases e:qdu a m g.length=i
 ·rw [eA e,eA e,e]
 ·rw [dA e,dA e,qhV]
structure qcD (lo D m:Nat) (w0:World) (Ls:List (List En)) (vs:List Value) (xss:List (List Value)) (w:World):Prop where
 own:w.ownsRow lo 27 1 (.slice (some ⟨D,0,none⟩) m m) m vs
 len:Ls.length=m
 many:qcV 61 3 lo w vs (Ls.map List.length) xss
 nest:∀ q (h:q<Ls.length) (h2:q<xss.length),qc1 enS (qcB (fun k=>k<lo) w) Ls[q] xss[q]
 below:Below lo w0 w
 size:lo<=w.heap.size
section
variable {lo D m:Nat} {w0 w w':World} {Ls:List (List En)} {vs:List Value} {xss:List (List Value)}
def qcD.later (a:qcD lo D m w0 Ls vs xss w) (b:wG w w'):qcD lo D m w0 Ls vs xss w':=
 ⟨qaf a.own b,a.len,a.many.below b,fun q h1 h2=>(a.nest q h1 h2).imp fun _ _ c=>c.keepO fun k d=>b.block k d.lt,a.below.trans (b.mono a.size),lA a.size b.size⟩
def qcD.lt (a:qcD lo D m w0 Ls vs xss w):D<w.heap.size/\lo<=D:=by
 have :=a.own.lt D rfl;exact ⟨this.2,this.1⟩
def qcD.vlen (a:qcD lo D m w0 Ls vs xss w):vs.length=m:=by
 have :=a.many.len;rw [gB,a.len] at this;exact this.symm
def qcD.xlen (a:qcD lo D m w0 Ls vs xss w):xss.length=m:=by rw [a.many.len2,a.vlen]
def qcD.cell (a:qcD lo D m w0 Ls vs xss w) {k:Nat} (b:k<m):w.cell? ⟨D,k,none⟩=some (vs[k]'(by rw [a.vlen];exact b))/\w.frozen? ⟨D,k,none⟩=false:=by
 have c:k<vs.length:=by rw [a.vlen];exact b
 exact ⟨by rw [a.own.cellAt k (by omega)];exact oA c,a.own.frozenAt k⟩
def qcD.row (a:qcD lo D m w0 Ls vs xss w) {k:Nat} (b:k<m):w.ownsRow lo 61 3 (vs[k]'(by rw [a.vlen];exact b)) (Ls[k]'(by rw [a.len];exact b)).length (xss[k]'(by rw [a.xlen];exact b)):=by
 have :=a.many.own k (by rw [a.vlen];exact b);simpa using this
def qcD.push (a:qcD lo D m w0 Ls vs xss w) {k:Nat} (b:k<m) {v':Value} {q:En} {A:Option Addr} {c:Nat} (y:q.2.1.length<=c) (z:c<=maxLen) (h:qcB (fun k=>k<lo) w A (flds q.2.1))
  (E:w'.ownsRow lo 61 3 v' ((Ls[k]'(by rw [a.len];exact b)).length+1) ((xss[k]'(by rw [a.xlen];exact b))++[.int .i64 q.1,.slice A q.2.1.length c,.int .i64 q.2.2])) (l:w.grownBy w' (vs[k]'(by rw [a.vlen];exact b)).ownBlock)
  (v:∀ g,v'.ownBlock=some g->(vs[k]'(by rw [a.vlen];exact b)).ownBlock=some g\/w.heap.size<=g):
  (w'.cell? ⟨D,k,none⟩=some (vs[k]'(by rw [a.vlen];exact b))/\w'.frozen? ⟨D,k,none⟩=false)/\
  qcD lo D m w0 (Ls.set k ((Ls[k]'(by rw [a.len];exact b))++[q])) (vs.set k v') (xss.set k ((xss[k]'(by rw [a.xlen];exact b))++[.int .i64 q.1,.slice A q.2.1.length c,.int .i64 q.2.2])) (w'.setCell ⟨D,k,none⟩ v'):=by
 have I:=a.vlen;have H:=a.xlen;have F:=a.len;have d:w'.ownsRow lo 27 1 (.slice (some ⟨D,0,none⟩) m m) m vs:=qg5 a.own (a.row b) (by decide) l;have ⟨cs,fr,t⟩:=qd0 d (g:=D) rfl;have G:=d.stored k v';have x:=(a.many.grow (q:=k) (by omega) (n:=Ls[k].length+1) E l v).other (i:=k) t (by decide) v';have C:Below lo w w':=(bA lo w).grown l a.size fun g B=>(((a.row b).lt g B).1)
 have s:Below lo w (w'.setCell ⟨D,k,none⟩ v'):=C.setCell (p:=⟨D,k,none⟩) a.lt.2 _;have j:∀ {A:Option Addr} {xs:List Value},qcB (fun k=>k<lo) w A xs->qcB (fun k=>k<lo) (w'.setCell ⟨D,k,none⟩ v') A xs:=fun h=>h.keepO fun k b=>s.block k b.1
 refine ⟨⟨by rw [d.cellAt k (by omega)];exact oA (by omega),d.frozenAt k⟩,G.1,by rw [uC];exact F,?_,fun r h1 h2=> ?_,a.below.trans (s.mono (aA _)),lA a.size s.size⟩
 ·have e:(Ls.set k (Ls[k]++[q])).map List.length=(Ls.map List.length).set k (Ls[k].length+1):=by rw [List.map_set];simp
  rw [e];exact x
 ·rw [uC] at h1 h2
  by_cases e:k=r
  ·subst e
   rw [List.getElem_set_self,List.getElem_set_self];exact ((a.nest k h1 h2).imp fun _ _ a=>j a).snoc (q:=q) y z (j h)
  ·rw [jE e,jE e]
   exact (a.nest r h1 h2).imp fun _ _ a=>j a
def qcD.own_es (a:qcD lo D m w0 Ls vs xss w) {k:Nat} (b:k<m):qa6 (fun g=>g<w.heap.size) w (vs[k]'(by rw [a.vlen];exact b)) (Ls[k]'(by rw [a.len];exact b)):=
 ⟨_,qbk (a.row b) (kA _),fun g c=>((a.row b).lt g c).2,(a.nest k (by rw [a.len];exact b) (by rw [a.xlen];exact b)).imp fun _ _ d=>d.impS fun g c=>tB c a.size⟩
end
def qBH (a:w.ownsRow lo 27 1 (.slice (some ⟨D,0,none⟩) m m) m (List.replicate m (.slice none 0 0))) (c:Below lo w0 w) (b:lo<=w.heap.size):
  qcD lo D m w0 (List.replicate m []) (List.replicate m (.slice none 0 0)) (List.replicate m []) w:=
 ⟨a,by simp,by simpa using qkj 61 3 lo w m,fun q h1 h2=>by simp [qc1],c,b⟩
open Go.Proofs.Tryz
theorem qBI:(prog.info? 27).map (fun i=>(i.zero,i.size,i.bytes))=some (some (.slice none 0 0),1,24):=by kernel_rfl
def qrn (b:List En) (d:List Int) (m:Nat) (w:World) (e:Ending) (w':World):Prop:=∃ a vs c,e= .returned (.slice (some ⟨a,0,none⟩) m m)/\qcD w.heap.size a m w (qcN b d m) vs c w'
def qji (a:List En) (d:List Int) (m b:Nat) (w:World) (i:Value) (wr:World):Prop:=∃ (k:Nat) (vs:List Value) (c:List (List Value)),k<=a.length/\i= .int .i64 (k:Int)/\qcD w.heap.size b m w (qcN (a.take k) d m) vs c wr
def qBJ (bc bl:Option Addr) (N a2 D ck m:Nat) (e:List En) (d:List Int) (w:World) (bn:qa6 (fun k=>k<w.heap.size) w (.slice bc N a2) e) (b4:e.length=N) (c8:N<=1000) (bw:Row w w.heap.size bl (qaa d)) (bt:d.length=D) (db:D<=9223372036854775807)
    (az:∀ a∈d, -9223372036854775808<=a/\a<=9223372036854775807) (cx:0<m) (dc:m<=1000):
    yG 9 #[.slice bc N a2,.slice bl D ck,.int .i64 (m:Int)] w (qrn e d m w):=by
  have ⟨cv,cw,ci,ca,c0⟩:=lG qBI;have ⟨cc,cq,cm,cn,br⟩:=lG qlD;have ch:=qH bn;have cz:=qH bw;have ag:=qH b4;have bu:=qH bt;have cr:=qH az;have b1:(madeCells #[Value.slice none 0 0] m).toList=List.replicate m (.slice none 0 0):=by
    rw [pF]
  have bi:=qH b1;clear bn bw b4 bt az b1
  go_enter func9,ntmps9
  go_wp2_with (at_make;refine wpList_make_full _ rfl _ _ 25 rfl w.heap.size 27 cv _ 1 underlying25 cw ci ca _ _ _ _ m rfl rfl rfl rfl (by rw [c0];omega) (by unfold maxLen;omega) (aA _) ?_)
  intro ap ao C;rw [bi.o] at ao;have ac:wG w ap:=(bA _ _).grown C (aA _) (fun k ai=>by cases ai);have b7:qji e d m w.heap.size w (.int .i64 0) ap:=⟨0,_,_,kA _,rfl,by rw [List.take_zero,qrl];exact qBH ao ac ac.size⟩;have ⟨r,ar⟩:=qE w.heap.size;have b2:qI (qji e d m r w (.int .i64 0) ap):=qH (by rw [ar];exact b7);clear ao C ac b7;rw [<- ar];clear ar bi;go_wp2
  go_loopw [8,9] (fun i _ wr=>qji e d m r w i wr) (fun i _ _=>N-(intOf i).toNat)
  case atStart=>exact b2.o
  case round=>
    clear b2;obtain ⟨k,vs,S,ai,rfl,n⟩:=hrel;rw [ag.o] at ai;by_cases cf:k<N
    · have aa:k<e.length:=by rw [ag.o];exact cf
      have ⟨b,dk,P,Q,b0,cp,au,bv,b3,a3,Y,a0,a6⟩:=ch.o.at_ aa;simp only [mF] at b0;obtain ⟨rfl, -,rfl⟩:=b0;have G:=n.below;have bq:=(G.cell (p:=⟨b,k*3,none⟩) au).trans bv;have bo:=(G.cell (p:=⟨b,k*3+1,none⟩) au).trans b3;have bd:=(G.cell (p:=⟨b,k*3+2,none⟩) au).trans a3;have ay:qcB (fun k=>k<w.heap.size) wr P (flds e[k].2.1):=a6.keepO fun j F=>G.block j F.1
      have b5:e.take (k+1)=e.take k++[e[k]]:=aB aa;have bp:(e.take k).length=k:=by rw [sA];omega
      have K:=qrm (e.take k) e[k] d (m:=m);rw [bp,<- b5] at K;have ⟨q,bh⟩:=qE (e[k]);rw [<- bh] at bq bo bd Y ay K;have ⟨aj,U⟩:=qE q.2.1.length;rw [<- U] at bo Y;have ⟨ae,aw⟩:=qE q.1;rw [<- aw] at bq;have ⟨q3,ah⟩:=qE q.2.2;rw [<- ah] at bd;have ⟨j,F⟩:=qE (qdu d m k);have B:j<m:=by rw [F];exact qqB d cx k
      have ⟨x,X⟩:=qE (d.getD k 0);have ⟨y,T⟩:=qE (if x<0 then-(x+1) else x)
      have c9: -9223372036854775808<=x/\x<=9223372036854775807:=by
        rw [X,mA];by_cases h:k<d.length
        · rw [oA h];exact cr.o _ (pA h)
        · rw [sC (by omega)];simp
      have c3:0<=y/\y<=9223372036854775807:=by rw [T];split<;>omega
      have bm:y%(m:Int)=(j:Int):=by
        rw [F];unfold qdu;rw [<- X,<- T];have :=Int.emod_nonneg y (b:=(m:Int)) (by omega);omega
      rw [<- F] at K;have L:=n.row B;have am:(qcN (e.take k) d m)[j]'(by rw [qjh];exact B)=qeg d m j (e.take k):=qhV _;have c2:j<vs.length:=by rw [n.vlen];exact B
      have bx:j<S.length:=by rw [n.xlen];exact B
      obtain ⟨l,Z⟩:∃ l,l=((qcN (e.take k) d m)[j]'(by rw [qjh];exact B)).length:=⟨_,rfl⟩;have dd:l<=k:=by
        rw [Z,am];have :=(qi7 d m j (e.take k)).length_le;omega
      rw [<- Z] at L;obtain ⟨J,M,O, -⟩:=qaU L;have a8:=n.cell B;rw [O] at L a8;obtain ⟨ce,c1⟩:=a8;have b8:=n.lt;have c5:∀ o,(wr.alloc o).cell? ⟨r,j,none⟩=some (.slice J l M):=fun o=>(((bA wr.heap.size wr).alloc (aA _) o).cell (p:=⟨r,j,none⟩) b8.1).trans ce
      have b6:∀ (V v:World) (z E:Nat),wG wr V->v.ownsRow w.heap.size 61 3 (.slice (some ⟨z,0,none⟩) (l+1) E) (l+1) ((S[j]'bx)++[.int .i64 ae,.slice P aj Q,.int .i64 q3])->V.grownBy v (Value.slice J l M).ownBlock->((Value.slice J l M).ownBlock=some z\/V.heap.size<=z)->
          (v.cell? ⟨r,j,none⟩=some (.slice J l M)/\v.frozen? ⟨r,j,none⟩=false)/\qji e d m r w (.int .i64 ((k:Int)+1)) (v.setCell ⟨r,j,none⟩ (.slice (some ⟨z,0,none⟩) (l+1) E)):=fun V v z E a7 R C W=>by
        have c4:=n.later a7;have bg:=c4.push B (v':= .slice (some ⟨z,0,none⟩) (l+1) E) (q:=q) (A:=P) (c:=Q) (by rw [<- U];exact Y) a0 (ay.keepO fun i cy=>a7.block i (tB cy.1 n.size)) (by rw [<- Z,<- U,<- aw,<- ah];exact R) (by rw [O];exact C) (fun g ax=>by
          rw [O];injection ax with ax
          subst ax;exact W)
        have h2:=bg.2;rw [am,<- K] at h2;exact ⟨by rw [<- O];exact bg.1,k+1,_,_,aa,by go_num,h2⟩
      have be:=qH b6;have bf:=qH L;have cl:=qH n.size;have cu:=qH G;have dh:(k:Int)<(N:Int):=by omega
      have c7:(j:Int)<(m:Int):=by omega
      have co:=qH bm;have a4:=qH T;have a9:=qH X;have ⟨xs,bs⟩:=qE (S[j]);rw [<- bs] at be bf;clear b6 L n O K am Z G bv b3 a3 cp Y a0 a6 ay b5 bp bh U aw ah F X T bm c2 bx bs c1
      go_upto_if 21 with fail
      have ⟨ba,af⟩:=qE (decide (k<D));rw [<- af];have aq:=qH af;clear af
      go_cut [9] from 12 to 46 (fun s ad=>s= .int .i64 x/\ad=wr)
      case first=>
        cases ba with
        |true=>
          have dl:k<D:=mD aq.o.symm;have bz:(k:Int)<(D:Int):=by omega
          have a5:k<d.length:=by rw [bu.o];omega
          obtain ⟨cg,cj,rfl,a1,ak⟩:=qbR cz.o a5;have H:d[k]=x:=by rw [a9.o,mA,oA a5];rfl
          rw [H] at ak;have c6:=(cu.o.cell (p:=⟨cg,cj+k,none⟩) a1).trans ak;clear ak a1 H
          go_wp2_with fail
          go_meet;exact ⟨rfl,rfl⟩
        |false=>
          have bz:¬ k<D:=vF aq.o.symm;have H:x=0:=by rw [a9.o,mA,sC (by have :=bu.o;omega)];rfl
          have cb:=qH H;clear bz H
          go_wp2_with fail
          go_meet;exact ⟨by rw [cb.o],rfl⟩
      case rest=>
        obtain ⟨rfl,rfl⟩:=hcut;clear aq ba
        go_upto_if 27 with fail
        have ⟨bb,al⟩:=qE (decide (x<0));rw [<- al];have an:=qH al;clear al
        go_cut [9] from 12 to 46 (fun s ad=>s= .int .i64 y/\ad=wc)
        case first=>
          cases bb with
          |true=>
            have av:x<0:=mD an.o.symm;have I: -(x+1)=y:=by rw [a4.o,eA av]
            have ab:=qH I;have dg:=iG (x+1) (by omega);have br:=iG (-(x+1)) (by omega);clear I
            go_wp2_with fail
            go_meet;exact ⟨by rw [ab.o],rfl⟩
          |false=>
            have av:¬ x<0:=vF an.o.symm;have I:x=y:=by rw [a4.o,dA av]
            have ab:=qH I;clear I
            go_wp2_with fail
            go_meet;exact ⟨by rw [ab.o],rfl⟩
        case rest=>
          obtain ⟨rfl,rfl⟩:=hcut;clear an bb;obtain ⟨de,di⟩:=c3
          go_upto_region 11 with fail
          rw [co.o];have df:=cl.o
          go_region_law (first
            | (refine step_append_lies _ (by rfl) _ _ _ (by rfl) w.heap.size 61 cc _ 3 40 underlying27 cq cm cn br rfl (by omega) (.slice J l M) l xs (by rfl) (bf.o.drew.alloc _)
                ⟨wc.drew.heap.size,0,none⟩ 1 1 [.int .i64 ae,.slice P aj Q,.int .i64 q3] (by rfl) (by rfl) (World.news_of_block (cs:=#[.int .i64 ae,.slice P aj Q,.int .i64 q3]) (t:=61) (fr:=(0,0)) (jA wc.drew _)) (by intro u bj;simp at bj;rcases bj with rfl|rfl|rfl<;>rfl)
                (by omega) (by unfold maxLen;omega) (by omega) (by simp;omega) (wc.heap.size+1) (by simp) ?_
               intro z E v R C W cd;have ⟨⟨da,dj⟩,bk⟩:=be.o _ v z E ((bA _ wc).drew.alloc (aA _) _) R C (by
                 rcases W with h|h
                 · exact .inl h
                 · exact .inr (by simp;omega))
               have b9:=qH bk;clear R C W cd bk))
          all_goals
            go_wp2;go_roundw
            case rel=>exact b9.o
            case measure=>simp [intOf];omega
    · have ct:k=N:=by omega
      subst ct;rw [nB (by rw [ag.o];exact aA _)] at n;go_wp2;go_ret;exact ⟨r,vs,S,rfl,n⟩
def qro {l:List Pn} (a:qa5 (-1) l=true) (h1:l.length<=1000) (h2:qaG l<=40000000000):(qae (-1) l).length<=400000000000:=by
 have :=qjS l (-1) (by omega) a (fun p b=>by have :=qlf a p b;omega);omega
def qg0.at_ {x:qai} (c:qg0 x) (key:Nm):(qcM x key).length<=1000/\qaG (qcM x key)<=40000000000:=by
 have e:∀ (ks:List Nm) (ls:List (List Pn)),(∀ l∈ls,l.length<=1000/\qaG l<=40000000000)->(atP ks ls key).length<=1000/\qaG (atP ks ls key)<=40000000000:=by
  intro ks
  induction ks with
  |nil=>intro ls _;simp [atP,qaG]
  |cons k ks d=>
   intro ls a;cases ls with
   |nil=>simp [atP,qaG]
   |cons l ls=>
    rw [atP];split
    ·exact a l (eB ..)
    ·exact d ls fun m b=>a m (oB _ b)
 exact e _ _ c.lists
def qBK {x:qai} (c:qeK x=true) (key:Nm):qa5 (-1) (qcM x key)=true:=by
 have e:∀ (ks:List Nm) (ls:List (List Pn)),(∀ l∈ls,qa5 (-1) l=true)->qa5 (-1) (atP ks ls key)=true:=by
  intro ks
  induction ks with
  |nil=>intro ls _;rfl
  |cons k ks d=>
   intro ls a;cases ls with
   |nil=>rfl
   |cons l ls=>
    rw [atP];split
    ·exact a l (eB ..)
    ·exact d ls fun m b=>a m (oB _ b)
 exact e _ _ fun l a=>(qi8 ((qfy.1 c).2.2.2.2 l a)).1
def qBL {x:qai} (b:qeK x=true) {i:Nat} (a:i<x.keys.length) (c:i<x.lists.length):qcM x x.keys[i]=x.lists[i]:=
 qlx a c rfl fun j g d e=>by
  have :=qeR (qgx.1 (qfy.1 b).2.2.2.1) a d;rw [e] at this;exact qff _ this
def qBM {x:qai} {key:Nm} (c:qaW x.keys) (a:isN x.keys key=false):qcM x key=[]:=qlw fun k d e=>by
 subst e;have :isN x.keys k=true:=by
  obtain ⟨i,b,rfl⟩:=List.mem_iff_getElem.1 d;exact (qmk c b).2
 rw [a] at this;cases this
section
variable {w:World} {S:Nat} {x:qai}
def qBN (a:qbN w S x):yG 25 #[.pointer (some ⟨S,0,none⟩)] w (qeE x.keys w):=by
 have ⟨bl,b,_⟩:=a.dict;have c:=qH (qyf S 2 x.keys bl w b a.small.keys);clear a b
 go_enter func25,ntmps25
 go_wp2_with (go_at_call 56;refine c.o.mono ?_;rintro e w' ⟨v,rfl,g,d⟩)
 go_ret;exact ⟨_,rfl,g,d⟩
def qBO (l:List Pn) (w:World) (e:Ending) (w':World):Prop:=∃ B,e= .returned (.pointer (some ⟨B,0,none⟩))/\LAt w' 0 B (qae (-1) l) l/\wG w w'
def qBP (b:qbN w S x) (key:ByteArray):yG 57 #[.pointer (some ⟨S,0,none⟩),.string key] w (qBO (qcM x key.data.toList) w):=by
 have ⟨bl,j,k⟩:=b.dict;have g:=qgx.1 (qfy.1 b.may).2.2.2.1;have a:=qvP S 2 x.keys bl key w j g (by have :=b.small.keys;omega);have q:=b.keys;cases hf:isN x.keys key.data.toList with
 |true=>
  rw [hf,eA rfl] at a;have ⟨n,m⟩:=qjy hf;have ⟨p,r⟩:=qE (qaF x.keys key.data.toList);simp only [<- r] at a n m;have ⟨zz,h⟩:=k p (by omega);have v:qcM x key.data.toList=x.lists[p]'(by omega):=by rw [<- m];exact qBL b.may n (by omega)
  rw [v];have l:=qH (h.low (kA _));obtain ⟨y,s⟩:∃ y,y=x.lists[p]'(by omega):=⟨_,rfl⟩;rw [<- s] at l ⊢;have i:=qH a;have ⟨B,t⟩:=qE (bl.getD p 0);rw [<- t] at i l;clear a j k g b q hf n m r h v s t
  go_enter func57,ntmps57
  go_wp2_with (go_at_call 101;refine i.o.mono ?_;rintro e w' ⟨rfl,d⟩)
  go_ret;exact ⟨B,rfl,l.o.below d,d⟩
 |false=>
  rw [hf,dA (by decide)] at a;rw [qBM g hf];have i:=qH a;have z:qI (∀ c,yG 70 #[.slice none 0 0] c (qp1 [] c)):=qH fun c=>qp3 none 0 0 [] c rfl (aA _) (kA _) (by omega) qbf.nil (by simp [qaG]) rfl
  clear a j k g b q hf
  go_enter func57,ntmps57
  go_wp2_with (first
   |(go_at_call 101;refine i.o.mono ?_;rintro e c ⟨rfl,d⟩)
   |(go_at_call 70;refine (z.o c).mono ?_;rintro e C ⟨B,rfl,h,A⟩))
  go_ret;exact ⟨B,rfl,h.low (kA _),d.trans (A.mono d.size)⟩
def qBQ (b:qbN w S x) (key:ByteArray):yG 27 #[.pointer (some ⟨S,0,none⟩),.string key] w (qfR (qcM x key.data.toList) w):=by
 have i:=qH (qBP b key);have d:=b.small.at_ key.data.toList;have c:=qBK b.may key.data.toList;have ⟨g,j⟩:=qE (qcM x key.data.toList);rw [<- j] at d c i ⊢;have k:qI (∀ a B,LAt a 0 B (qae (-1) g) g->yG 55 #[.pointer (some ⟨B,0,none⟩)] a (qfR g a)):=qH fun a B b=>qpV 0 B g a b c (qro c d.1 d.2) (by omega)
 clear b d c j
 go_enter func27,ntmps27
 go_wp2_with (first
  |(go_at_call 57;refine i.o.mono ?_;rintro e a ⟨B,rfl,m,h⟩)
  |(go_at_call 55;refine (k.o a B m).mono ?_;rintro e p ⟨v,rfl,l,n⟩))
 go_ret;exact ⟨v,rfl,l.low h.size,h.trans (n.mono h.size)⟩
end
structure qar (E:TypeId) (w w':World):Prop where
 size:w.heap.size<=w'.heap.size
 kinds:∀ (k:Nat) (cs:Array Value) (t:TypeId) (fr:Nat × Nat),w.heap[k]?=some (.cells cs t fr)->t≠E->w'.heap[k]?=some (.cells cs t fr)
section
variable {E t:TypeId} {w w' w'':World} {S:Nat} {x:qai}
def qar.of_below (b:wG w w'):qar E w w':=⟨b.size,fun k cs t fr a _=>(b.block k (gA.1 a).1).trans a⟩
def qar.trans (a:qar E w w') (k:qar E w' w''):qar E w w'':=⟨lA a.size k.size,fun i cs t fr c b=>k.kinds i cs t fr (a.kinds i cs t fr c b) b⟩
def qar.grown {size:Nat} (d:w.ownsRow zz E size v n xs) (b:w.grownBy w' v.ownBlock):qar E w w':=
 ⟨b.size,fun k cs t fr a c=>(b.block k (gA.1 a).1 (fun e=>qan d a c e.symm)).trans a⟩
def qar.cell {cs:Array Value} (c:w.heap[B]?=some (.cells cs E fr)) (v:Value):qar E w (w.setCell ⟨B,i,none⟩ v):=
 ⟨by simp,fun k cs' t d a b=>(rA _ _ _ _ (by rintro rfl;rw [c] at a;injection a with a;injection a with _ e _;exact b e.symm)).trans a⟩
def qaM {size:Nat} (b:w.ownsRow zz t size v n xs) (e:qar E w w') (d:t≠E):w'.ownsRow zz t size v n xs:=
 qaq b fun g c=>by
  have ⟨cs',h,a⟩:=qd0 b c;rw [a,e.kinds _ _ _ _ a d]
def qfd (t:TypeId):Prop:=t=110\/t=3\/t=177\/t=181\/t=5\/t=206
def qbN.keptN (h:qbN w S x) (n:qar E w w') (s:¬ qfd E):qbN w' S x:=by
 have b:=n.size;have key:∀ {t:TypeId},qfd t->∀ (k:Nat) (cs:Array Value) (fr:Nat × Nat),w.heap[k]?=some (.cells cs t fr)->w'.heap[k]?=some (.cells cs t fr):=fun {t} d k cs fr h=>n.kinds k cs t fr h fun e=>s (e▸d)
 obtain ⟨⟨I,F,O,K,U,aa,h1,h2,h3,M,P⟩,⟨bl,⟨R,v,B,c,N,H,C,L,Q⟩,y⟩,D,J,G⟩:=h;have ⟨r,p,m⟩:=G _ _ _ _ _ _ _ _ _ h1;have j:=(qfx h1).2.2;rw [N] at j;simp only [jB,mF] at j;obtain ⟨rfl, -,rfl⟩:=j;have l:=key (.inl rfl) _ _ _ h1;have a:=key (t:=3) (.inr (.inl rfl));have q:=key (t:=177) (.inr (.inr (.inl rfl)));refine ⟨⟨I,F,O,K,B,c,l,h2,h3,r.row M b a,p.row P b a⟩,⟨bl,⟨tB R b,v,B,c,(qfx l).2.2,H,C,m.row L b q,Q⟩,fun i z=> ?_⟩,D,J,fun Z ab X Y ad ac T W V g=> ?_⟩
 ·have ⟨zz,h⟩:=y i z
  exact ⟨zz,h.kinds fun k cs t fr A d=>key (by rcases d with h|h|h<;>simp [qfd,h]) k cs fr A⟩
 ·rw [l] at g
  simp only [jB,Obj.cells.injEq,Array.mk.injEq,List.cons.injEq,mF] at g;obtain ⟨⟨⟨rfl,_⟩,⟨rfl,_⟩,⟨rfl,_⟩,_⟩,_⟩:=g;exact ⟨r.keep a,p.keep a,m.keep q⟩
def qbd.keptN {r:List Bool} (e:qbd w zz B r) (a:qar E w w') (h1:101≠E) (h2:104≠E):qbd w' zz B r:=by
 obtain ⟨ws,⟨c,v,g,d⟩,b⟩:=e;exact ⟨ws,⟨c,v,a.kinds _ _ _ _ g h1,qaM d a h2⟩,b⟩
end
def qbn.of_pp {b0:Nat} {l:List Pn} (a:qbW S w v l):∃ A c,v= .slice A l.length c/\(l.length<=c/\c<=maxLen)/\qbn b0 w A l:=by
 obtain ⟨cs,h1,_,h2⟩:=a;obtain ⟨A,c,rfl,h,j⟩:=qeo h1;refine ⟨A,c,rfl,h,cs,h2.imp fun A xs a=> ?_,.of_own h1⟩;rcases a with a|⟨b,g,e,⟨_,cs',fr,d,_⟩,i⟩
 ·exact .inl a
 ·exact .inr ⟨b,g,e,(gA.1 d).1,.inr ⟨cs',fr,d⟩,i⟩
def qlW (B P:Nat) (V:Value) (a:List En) (w:World) (i:Value) (wr:World):Prop:=∃ (k:Nat) (S:Nat->Prop) (b c:Value),k<=a.length/\i= .int .i64 (k:Int)/\qeJ S B (a.take k) (qfv (a.take k)) V a w wr/\
 qcO 62 w.heap.size w.heap.size P b c ((a.take k).map (·.1)) ((a.take k).map (·.2.2)) wr/\¬ S P/\(∀ g,b.ownBlock=some g->¬ S g)/\∀ g,c.ownBlock=some g->¬ S g
def qlX (S:Nat->Prop) (B P zz:Nat) (V:Value) (a:List En) (b d c:Value) (e g:Option Addr) (w:World) (i:Value) (wr:World):Prop:=∃ (k:Nat) (h:Value),k<=(qah a).length/\i= .int .i64 (k:Int)/\qeJ S B a (qfv a) V a w wr/\
 qej 62 w.heap.size zz P b d c h (qah a) ((qac a).lists.take k) wr/\qat w.heap.size 3 wr e (qaa (qac a).ids)/\qat w.heap.size 3 wr g (qaa (qac a).seqs)
def qBR (V:Value) (c:List En) (w:World) (dq:qa6 (fun k=>k<w.heap.size) w V c) (cp:qbz c):yG 11 #[V] w (qgV (qac c) w):=by
  obtain ⟨e6,dz,e0,e1,d1⟩:=lG qc4;obtain ⟨fo,dx,fz,d0,ey⟩:=lG qhT;obtain ⟨a3,a8,rfl,hu,_⟩:=dq.nest;have ea:=qH dq;have ag:=qH cp;obtain ⟨N,ck⟩:=qE c.length;have h5:N<=100:=by rw [ck];exact cp.few
  rw [<- ck] at ea hu ⊢;have ae:=qH ck;clear dq cp ck;have d6:qI (∀ (S:Nat->Prop) (B:Nat) (F:World),qdf S F B [] (-1)->(∀ k,S k->w.heap.size<=k)->wG w F->qlW B F.heap.size (.slice a3 N a8) c w (.int .i64 ((0:Nat):Int)) (F.alloc (.cells #[.slice none 0 0,.slice none 0 0,.slice none 0 0,.slice none 0 0] 62))):=qH fun S B F a4 hb ai=>by
    have az:wG F (F.alloc (.cells #[.slice none 0 0,.slice none 0 0,.slice none 0 0,.slice none 0 0] 62)):=(bA _ _).alloc (aA _) _;have dr:=ai.trans (az.mono ai.size);refine ⟨0,S,.slice none 0 0,.slice none 0 0,kA _,rfl,⟨a4.below az,hb,ea.o.keeps fun k dm _=>dr.block k dm,dr⟩,⟨jA F _,ai.size,aA _,dr.size,vA _ _ _ _,vA _ _ _ _,fun g s=>by cases s⟩,fun aj=>Nat.lt_irrefl _ (a4.lt _ aj),(fun g s=>by cases s),fun g s=>by cases s⟩
  go_enter func11,ntmps11
  go_wp2_with (go_at_call 29; refine (qA5 w).mono ?_; rintro e F ⟨hm, B, rfl, c5, a6, ai⟩
               have eh:=qH (d6.o hm B F c5 a6 ai);have ga:qI (w.heap.size<=F.heap.size):=qH ai.size;clear c5 a6 ai)
  obtain ⟨P,e5⟩:=qE F.heap.size;have c0:=eh.o;rw [<- e5] at c0 ⊢;have hl:=qH c0;clear eh d6 c0 e5 ga
  go_loopw [15] (fun i wr=>qlW B P (.slice a3 N a8) c w i wr) (fun i _=>N-(intOf i).toNat)
  case atStart=>exact hl.o
  case round=>
    obtain ⟨k,S,bd,bj,dm,rfl,x,Y,ci,a6,c3⟩:=hrel;rw [<- ae.o] at dm;by_cases ei:k<N
    · have am:k<c.length:=by rw [<- ae.o];exact ei
      obtain ⟨e2,fc⟩:=ag.o.next am;obtain ⟨b,h7,c1,dc,fe,fd,ep,cz,ds,bv⟩:=x.add ag.o (by rw [sA];omega) am e2 fc;have hs:a3=some ⟨b,0,none⟩:=by injection fe
      subst hs;have ax:c.take (k+1)=c.take k++[c[k]]:=aB am;have a1:(c.take k).length=k:=by rw [sA];omega
      obtain ⟨f8,fg⟩:=qE (c[k]);rw [<- fg] at ep cz ds bv ax;obtain ⟨aa,d,q3⟩:=f8;simp only at ep cz ds bv;obtain ⟨m,fq⟩:=qE d.length;rw [<- fq] at cz bv;obtain ⟨bb,br⟩:=qE (wr.alloc (.cells #[.int .i64 aa,.slice c1 m dc,.int .i64 q3] 61));have az:wG wr bb:=by rw [br];exact (bA _ _).alloc (aA _) _
      have fi:bb.heap[wr.heap.size]?=some (.cells #[.int .i64 aa,.slice c1 m dc,.int .i64 q3] 61 (0,0)):=by rw [br];exact jA wr _
      have d2:bb.heap.size=wr.heap.size+1:=by rw [br];simp
      have gc:=qH (bv bb az);have hf:qI (∀ k,S k->k<wr.heap.size):=qH x.buf.lt;obtain ⟨de,bz⟩:=qE ((c.take k).map (·.1));obtain ⟨cu,ce⟩:=qE ((c.take k).map (·.2.2));have es:de.length=k:=by rw [bz,gB,a1]
      have ft:cu.length=k:=by rw [ce,gB,a1]
      rw [<- bz,<- ce] at Y;have e8:=qH es;have ex:=qH ft;have g5:=qH bz;have gd:=qH ce;clear bz ce es ft;have O:=qH Y;have bw:=qH ci;have fs:=qH a6;have e4:=qH c3;have gs:=qH br;have hr:=qH az;have g6:=qH fi;have cd:=qH d2;have eg:=qH ax;have gj:(0:Int)<=k:=by omega
      have gh:(k:Int)<N:=by omega
      clear x Y ci a6 c3 br az fi d2 bv fg fq ax a1 e2 fc fe am
      go_wp2_with (first
                | (go_at_call 30; rw [show wr.alloc _ = bb from gs.o.symm]; refine gc.o.mono ?_; rintro e D ⟨rfl, bt, dw, cf, cb⟩
                   have b3:qcO 62 w.heap.size w.heap.size P bd bj de cu D:=(O.o.below hr.o).keep (fun j G g2=>cb.block j G (by rcases g2 with rfl|h|h<;>first|exact bw.o|exact fs.o _ h|exact e4.o _ h)) cb.size
                   have b8:D.heap[wr.heap.size]?=some (.cells #[.int .i64 aa,.slice c1 m dc,.int .i64 q3] 61 (0,0)):=(cb.block _ (by rw [cd.o];exact Nat.lt_succ_self _) (fun h=>Nat.lt_irrefl _ (hf.o _ h))).trans g6.o;have fv:¬ bt P:=fun h=>(cf P h).elim bw.o fun h=>by have :=O.o.lt;have :=cd.o;omega
                   have ev:∀ g,bd.ownBlock=some g->¬ bt g:=fun g s h=>(cf g h).elim (fs.o g s) fun h=>by have :=(O.o.ids.lt g s).2;have :=cd.o;omega
                   have el:∀ g,bj.ownBlock=some g->¬ bt g:=fun g s h=>(cf g h).elim (e4.o g s) fun h=>by have :=(O.o.seqs.lt g s).2;have :=cd.o;omega
                   have gm:=(qaw b3.cells).1.1;have gi:=(qfx b8).1;have dh:=b3.ids;rw [e8.o] at dh;have hw:=qH dh;clear dh;have a9:=qH dw;have C:=qH b3;have f1:=qH b8;have fj:=qH fv;have dv:=qH ev;have ff:=qH el;have c8:qI ((∀ g,bd.ownBlock=some g->g<wr.heap.size)/\(∀ g,bj.ownBlock=some g->g<wr.heap.size)/\P<wr.heap.size/\wr.heap.size<D.heap.size):=qH ⟨fun g s=>(O.o.ids.lt g s).2,fun g s=>(O.o.seqs.lt g s).2,O.o.lt,(gA.1 b8).1⟩;clear dw b3 b8 fv ev el cf cb)
                |(at_builtin;refine wpList_append_own_at _ rfl (.tmp 26) (.tmp 30) 23 rfl w.heap.size 3 e6 _ 1 8 underlying23 dz e0 e1 d1 rfl (by omega) bd k (qaa de) rfl (hw.o.alloc _) ⟨D.heap.size,0,none⟩ 1 1 [.int .i64 aa] rfl rfl (qaH D [.int .i64 aa] 3) (by intro u H;simp at H;subst H;rfl) (by unfold maxLen;omega) (by omega) (by have :=C.o.size;simp;omega) ?_))
      intro h6 r dp fy hi c9;clear hi;obtain ⟨ca,cc,gz,_,_⟩:=dp.form (by omega);subst gz;have b5:wG D (D.alloc (.cells #[.int .i64 aa] 3)):=(bA _ _).alloc (aA _) _;obtain ⟨ez,a5,E,c4⟩:=(C.o.below b5).id (by decide) (by rw [e8.o];exact dp) fy (c9.imp id fun h=>h.trans (by simp));obtain ⟨⟨h4,_⟩,hy,_⟩:=qaw ez;obtain ⟨v,Z⟩:=qE (r.setCell ⟨P,0,none⟩ (.slice (some ⟨ca,0,none⟩) (k+1) cc));rw [<- Z] at a5 E c4;have hx:(D.alloc (.cells #[.int .i64 aa] 3)).heap.size=D.heap.size+1:=by simp
      have a2:∀ j,j<D.heap.size->j≠P->bd.ownBlock≠some j->v.heap[j]?=D.heap[j]?:=fun j G h1 h2=>(c4 j (by omega) h1 h2).trans (b5.block j G)
      have e7:=(a2 wr.heap.size c8.o.2.2.2 (by have :=c8.o.2.2.1;omega) (fun e=>Nat.lt_irrefl _ (c8.o.1 _ e))).trans f1.o;have hj:=(qaw a5.cells).1.2.1;have f4:=(qfx e7).2.2;rw [Z] at hj f4;have er:∀ g,(Value.slice (some ⟨ca,0,none⟩) (k+1) cc).ownBlock=some g->¬ bt g:=fun g s aj=>by
        rcases c9 with hat|hat
        · exact dv.o g (hat▸s) aj
        · rw [hat] at s
          injection s with s
          have :=a9.o.buf.lt g aj;omega
      have co:Below w.heap.size D v:=(b5.mono a9.o.bel.size).trans E;have gg:=qH co;have cj:=qH a2;have gv:=qH er;have c2:=a5.seqs;rw [ex.o,Z] at c2;have f2:=qH c2;have dn:=qaH v [.int .i64 q3] 3;rw [show (⟨v.heap.size,0,none⟩:Addr)=⟨r.heap.size,0,none⟩ by rw [Z];simp,Z] at dn;have ge:=qH dn;have db:qI (w.heap.size<=((r.setCell ⟨P,0,none⟩ (.slice (some ⟨ca,0,none⟩) (k+1) cc)).alloc (.cells #[.int .i64 q3] 3)).heap.size):=qH (by rw [<- Z];have :=a5.size;simp;omega);clear dn;clear c2;have f6:=qH a5;have ef:=qH Z;have b1:qI (D.heap.size<=v.heap.size):=qH co.size;clear dp fy c9 b5 ez a5 E c4 Z hx a2 e7 er co gm gi
      go_wp2_with (at_builtin;refine wpList_append_own_at _ rfl (.tmp 34) (.tmp 37) 23 rfl w.heap.size 3 e6 _ 1 8 underlying23 dz e0 e1 d1 rfl (by omega) bj k (qaa cu) rfl (f2.o.alloc _) ⟨r.heap.size,0,none⟩ 1 1 [.int .i64 q3] rfl rfl ge.o (by intro u H;simp at H;subst H;rfl) (by unfold maxLen;omega) (by omega) db.o ?_)
      intro eo ak cv dd f9 bp;clear f9;rw [<- ef.o] at dd;have bp:eo.ownBlock=bj.ownBlock\/eo.ownBlock=some (v.heap.size+1):=bp.imp id fun h=>h.trans (by rw [ef.o];simp)
      obtain ⟨dj,cw,hg,_,_⟩:=cv.form (by omega);subst hg;have b9:wG v (v.alloc (.cells #[.int .i64 q3] 3)):=(bA _ _).alloc (aA _) _;obtain ⟨eq,au,ay,em⟩:=(f6.o.below b9).seq (by decide) (by rw [ex.o];exact cv) dd (bp.imp id fun h=>h.trans (by simp));obtain ⟨⟨_,hz,_⟩,_,ia,_⟩:=qaw eq;have hn:(v.alloc (.cells #[.int .i64 q3] 3)).heap.size=v.heap.size+1:=by simp
      have hrel:qlW B P (.slice (some ⟨b,0,none⟩) N a8) c w (.int .i64 ((k:Int)+1)) (ak.setCell ⟨P,1,none⟩ (.slice (some ⟨dj,0,none⟩) (k+1) cw)):=by
        refine ⟨k+1,bt,.slice (some ⟨ca,0,none⟩) (k+1) cc,.slice (some ⟨dj,0,none⟩) (k+1) cw,by rw [<- ae.o];omega,by go_num,?_,?_,fj.o,gv.o,fun g s aj=> ?_⟩
        · have fd:=gg.o.trans ((b9.mono (by have :=a9.o.bel.size;have :=b1.o;omega)).trans ay)
          have :=a9.o.keep (w':=ak.setCell ⟨P,1,none⟩ (.slice (some ⟨dj,0,none⟩) (k+1) cw)) (fun j G=>by
            have g7:=a9.o.buf.lt j G;have eu:j≠P:=by rintro rfl;exact fj.o G
            have hp:=cj.o j g7 eu (fun e=>dv.o j e G);exact ((em j (by have :=b1.o;omega) eu (fun e=>ff.o j e G)).trans (b9.block j (by have :=b1.o;omega))).trans hp) fd
          rw [eg.o,qql];exact this
        · rw [eg.o,jC,jC,<- g5.o,<- gd.o]
          exact au
        · rcases bp with hat|hat
          · exact ff.o g (hat▸s) aj
          · rw [hat] at s
            injection s with s
            have :=a9.o.buf.lt g aj;have :=b1.o;omega
      have hv:=qH hrel;clear cv dd bp b9 eq au ay em hn hrel;go_wp2;go_roundw
      case rel=>exact hv.o
      case measure=>simp [intOf];omega
    · have g1:k=N:=by omega
      subst g1;have fw:c.take k=c:=nB (by rw [ae.o];exact aA _);rw [fw] at x Y;have en:c.map (·.1)=(qac c).ids:=rfl;have ed:c.map (·.2.2)=(qac c).seqs:=rfl;rw [en,ed] at Y;have gx:=qH (qA2 x.buf (by have :=ae.o;omega));have cm:=qH x;have O:=qH Y;have bw:=qH ci;obtain ⟨I,bn,K,bl,rfl,rfl,da,f0,_,_⟩:=Y.rowG;have gb:(qac c).ids.length=k:=by rw [ae.o];simp [qac]
      have g8:(qac c).seqs.length=k:=by rw [ae.o];simp [qac]
      clear x Y ci a6 c3 fw en ed ei da f0 gb g8
      go_wp2_with (go_at_call 31; refine gx.o.mono ?_; rintro e ak ⟨h8, rfl, d9, ay⟩
                   have au:=O.o.below ay;obtain ⟨bg,a0,rfl,gq,ht⟩:=qaB.row d9;obtain ⟨⟨_,_,gl,_⟩,_,_,f3,_⟩:=qaw au.cells;obtain ⟨A,am,ew⟩:=au.lists (by unfold PoK;decide) (by decide) (bk:=wr.heap.size) (ks:=qah c) d9;have d3:=(qaw A.cells).1.2.2.1;have d4:=qH A;have dk:=qH am;have fb:=qH ew;have e3:=qH ay;have eb:=qH au;obtain ⟨n,l⟩:=qE ((qah c).length);rw [<- l] at gq d3 ⊢;have L:=qH l;clear A am ew ay au ht l)
      obtain ⟨zz,d8⟩:=qE ak.heap.size;have ct:=d4.o;rw [<- d8] at ct;have fl:∀ q,S q->q<zz:=fun q ac=>by have :=cm.o.buf.lt q ac;have :=e3.o.size;omega
      have hh:qat w.heap.size 3 ak I (qaa (qac c).ids)/\qat w.heap.size 3 ak K (qaa (qac c).seqs):=by
        obtain ⟨_,_,_,_,cx,cn,_,_,R,T⟩:=eb.o.rowG;injection cx with cx _ _
        injection cn with cn _ _
        subst cx cn;exact ⟨R,T⟩
      obtain ⟨R,T⟩:=hh;have hrel:qlX S B P zz (.slice a3 k a8) c (.slice I (qac c).ids.length bn) (.slice K (qac c).seqs.length bl) (.slice bg n a0) I K w (.int .i64 ((0:Nat):Int)) (ak.setCell ⟨P,2,none⟩ (.slice bg n a0)):=by
        refine ⟨0,.slice none 0 0,kA _,rfl,(cm.o.below e3.o).keep (fun q ac=>rA _ _ _ _ (show q≠P by rintro rfl;exact bw.o ac)) ?_,?_,R.keep (.inr rfl) ?_,T.keep (.inr rfl) ?_⟩
        · rw [L.o];exact fb.o
        · rw [L.o];exact ct
        · rw [L.o];exact dk.o
        · rw [L.o];exact dk.o
      have gu:=qH hrel;have db:=qH fl;have ic:n<=400000:=by rw [L.o];exact qlj ag.o
      have cj:qI ((qac c).lists.length=n):=qH (by rw [L.o];simp [qac]);clear hrel fl ct d8 R T d4 dk fb cm O eb gl f3 d3
      go_loopw [47] (fun i wr=>qlX S B P zz (.slice a3 k a8) c (.slice I (qac c).ids.length bn) (.slice K (qac c).seqs.length bl) (.slice bg n a0) I K w i wr) (fun i _=>n-(intOf i).toNat)
      case atStart=>exact gu.o
      case round=>
        obtain ⟨j,ar,G,rfl,x,A,R,T⟩:=hrel;rw [<- L.o] at G;by_cases ec:j<n
        · have c7:j<(qah c).length:=by rw [<- L.o];exact ec
          have fh:j<(qac c).lists.length:=by rw [cj.o];exact ec
          obtain ⟨bk,a2⟩:=A.keys;obtain ⟨fa,dy,rfl,c5,da⟩:=qdr (qbx a2) c7;have df:=ag.o.good;have he:(qah c)[j]∈qah c:=pA c7;have fk:(qac c).lists[j]=qak 0 c (qah c)[j]:=by simp [qac]
          have cr:=qlt df (key:=(qah c)[j]);have d5:=qhQ df (key:=(qah c)[j]) c 0 (fun q ac=>ac);have ax:(qac c).lists.take (j+1)=(qac c).lists.take j++[qak 0 c (qah c)[j]]:=by rw [aB fh,fk]
          obtain ⟨b7,cg⟩:=qE (qak 0 c (qah c)[j]);rw [<- cg] at cr d5 ax;obtain ⟨X,fx,d7⟩:=qa8 (qah c)[j];rw [<- fx] at da;rw [<- d7] at cg;have ek:((qac c).lists.take j).length=j:=by rw [sA];omega
          obtain ⟨Q,ej⟩:=qE b7.length;have du:qI (∀ ab,wG wr ab->yG 32 #[.pointer (some ⟨B,0,none⟩),.string X] ab (qp8 b7 ab)):=qH fun ab a4=>
            qzc (x.buf.below a4) X b7 cg (by have :=ae.o;omega) fun p gf=>by have :=cr p gf;omega
          have bs:qI (wG wr wr.drew):=qH (bA _ wr).drew;have C:=qH A;have cq:qI (∀ ab,wG wr ab->ab.cell? ⟨P,3,none⟩=some ar):=qH fun ab a4=>(qaw (A.below a4).cells).1.2.2.2
          have g0:=qH (cq.o _ bs.o);have af:=qH ej;have W:=qH ek;have ib:j<=400000:=by omega
          have ee:qI (∀ r ao ad dg,wG wr r->wG r ao->qej 62 w.heap.size zz P (.slice I (qac c).ids.length bn) (.slice K (qac c).seqs.length bl) (.slice (some ⟨fa,dy,none⟩) n a0) dg (qah c) ((qac c).lists.take j++[b7]) ad->Below w.heap.size ao ad->qay w.heap.size ao ad->(∀ k,k<zz->k≠P->ad.heap[k]?=ao.heap[k]?)->
              (∀ (k:Nat) (cs:Array Value) (t:TypeId) (fr:Nat × Nat),k≠P->ao.heap[k]?=some (.cells cs t fr)->t≠71->ad.heap[k]?=some (.cells cs t fr))->
              qlX S B P zz (.slice a3 k a8) c (.slice I (qac c).ids.length bn) (.slice K (qac c).seqs.length bl) (.slice (some ⟨fa,dy,none⟩) n a0) I K w (.int .i64 ((j:Int)+1)) ad):=qH fun r ao ad dg E ha ah gr gt gy _=>by
            have fu:wG wr ao:=E.trans (ha.mono E.size);have dt:qay w.heap.size wr ad:=(qay.of_below fu x.bel.size).trans gt;refine ⟨j+1,dg,by rw [<- L.o];omega,by go_num,(x.below fu).keep (fun q ac=>gy q (db.o q ac) (by rintro rfl;exact bw.o ac)) gr,?_,R.keep (.inr rfl) dt,T.keep (.inr rfl) dt⟩;rw [ax];exact ah
          have gj:(0:Int)<=j:=by omega
          have gh:(j:Int)<n:=by omega
          clear x A R T a2 df he fk cr d5 ax cg fx d7 ek ej c7 fh G
          go_upto_region 15 with fail
          refine wp_region_noPanic ?_;refine wp_region_held_drew (S:=fun _=>True) (by kernel_rfl) trivial (fun z=> ?_)
          refine tk 0 (.pointer (some ⟨P,3,none⟩)) rfl (Or.inl ⟨by rfl,fun bo be=>by go_simp⟩) ?_
          try simp only [Act.put,zA,zB,zD,zE,zF]
          refine tk 2 (.pointer (some ⟨B,0,none⟩)) rfl (Or.inl ⟨by rfl,fun bo be=>by go_simp⟩) ?_
          try simp only [Act.put,zA,zB,zC,zD,zE,zF]
          refine tk 3 (.string X) rfl (Or.inl ⟨by rfl,fun bo be=>by go_simp⟩) ?_
          try simp only [Act.put,zA,zB,zC,zD,zE,zF]
          refine tkr (rs:=[1,4]) (by kernel_rfl) (by simp) ?_;refine (tkc rfl (fun n l=> ?_) (tkc rfl (fun n l=> ?_) tkn))
          · try simp only [zA,zB,zC]
            have fn:=g0.o;go_simp;refine l.out _ _ ?_ (fun z=> ?_)
            · exact trivial
            clear l n
            try simp only [Act.put,zA,zB,zC,zD,zE,zF]
            refine tkr (rs:=[4]) (by kernel_rfl) (by simp) ?_;refine (tkc rfl (fun n l=> ?_) tkn)
            · try simp only [zA,zB,zC]
              go_simp
              go_at_call 32
              (with_reducible refine (du.o _ bs.o).mono ?_)
              rintro e r ⟨g3,rfl,bc,E⟩;obtain ⟨M,J,rfl,al,bu⟩:=qbn.of_pp (b0:=w.heap.size) bc;rw [<- af.o] at al;have y:qI (wG wr r):=qH (bs.o.trans E);obtain ⟨cl,av,bf⟩:=(C.o.below y.o).lists;have U:wG r (r.alloc (.cells #[.slice M Q J] 71)):=(bA _ _).alloc (aA _) _;obtain ⟨g,b4,v,ap,an,ah,_,_⟩:=run_append_lies (P:=prog) (r.alloc (.cells #[.slice M Q J] 71)) 41 41 zz 71 fo _ 1 24 underlying41 dx fz d0 ey rfl (by omega) ar ((qac c).lists.take j).length cl (av.alloc _) ⟨r.heap.size,0,none⟩ 1 1 [.slice M Q J] rfl (qaH r [.slice M Q J] 71) (by intro u H;simp at H;subst H;rfl) (by omega) (by unfold maxLen;rw [W.o];omega) (by rw [W.o];omega) (by have :=C.o.size;have :=y.o.size;simp;omega) (r.heap.size+1) (by simp);rw [W.o] at an ap;have aq:=qay.of_below (b0:=w.heap.size) U (by have :=C.o.hbase;have :=C.o.size;have :=y.o.size;omega);obtain ⟨aw,bx,bm,bi,bh,bq⟩:=((C.o.below y.o).below U).list (by unfold PoK;decide) (by decide) (by decide) (by rw [<- af.o];exact al) (bu.keep aq) (av.alloc _) (bf.keep aq) (by rw [W.o,<- af.o];exact an) ah;have b2:=qH ap;have ch:=qH (And.intro (qaw aw).1.2.2.2 (qaw aw).2.2.2.2);have b6:=qH (ee.o r _ _ _ y.o U bx bm bi bh bq);clear bc E bu al av bf U an ah aq aw bx bm bi bh bq ap;rw [<- af.o]
              go_wp2_with fail
              refine l.out _ _ ?_ (fun z=> ?_)
              · exact trivial
              clear l n
              try simp only [Act.put,zA,zB,zC,zD,zE,zF]
              refine tkr (rs:=[5]) (by kernel_rfl) (by simp) ?_;refine (tkc rfl (fun n l=> ?_) tkn)
              · try simp only [zA,zB,zC]
                go_simp;refine l.out _ _ ?_ (fun z=> ?_)
                · exact trivial
                clear l n
                try simp only [Act.put,zA,zB,zC,zD,zE,zF]
                refine tkr (rs:=[6]) (by kernel_rfl) (by simp) ?_;refine (tkc rfl (fun n l=> ?_) tkn)
                · try simp only [zA,zB,zC]
                  refine qgd (a:=⟨_,_⟩) ?_ (.tmp 52) (.tmp 56) 41 ?_ ar (.slice (some ⟨r.heap.size,0,none⟩) 1 1) ?_ ?_ (.slice (some ⟨g,0,none⟩) (j+1) b4) v ?_ ?_
                  · rfl
                  · rfl
                  · rfl
                  · rfl
                  · exact b2.o
                  refine l.out _ _ ?_ (fun z=> ?_)
                  · exact trivial
                  clear l n
                  try simp only [Act.put,zD,zE,zF]
                  refine tk 7 (.pointer (some ⟨P,3,none⟩)) rfl (Or.inl ⟨by rfl,fun bo be=>by go_simp⟩) ?_
                  try simp only [Act.put,zA,zB,zC,zD,zE,zF]
                  refine tkr (rs:=[8]) (by kernel_rfl) (by simp) ?_;refine (tkc rfl (fun n l=> ?_) tkn)
                  · try simp only [zA,zB,zC]
                    obtain ⟨fm,e9⟩:=ch.o;go_simp;refine l.out _ _ ?_ (fun z=> ?_)
                    · exact trivial
                    clear l n
                    try simp only [Act.put,zA,zB,zC,zD,zE,zF]
                    refine tkd (by kernel_rfl) ?_ _;refine NoPanic.normal ?_;go_wp2;go_roundw
                    case rel=>exact b6.o
                    case measure=>simp [intOf];omega
          · try simp only [zA,zB,zC]
            go_simp
            go_at_call 32
            (with_reducible refine (du.o _ bs.o).mono ?_)
            rintro e r ⟨g3,rfl,bc,E⟩;obtain ⟨M,J,rfl,al,bu⟩:=qbn.of_pp (b0:=w.heap.size) bc;rw [<- af.o] at al;have y:qI (wG wr r):=qH (bs.o.trans E);have f7:=qH (cq.o _ y.o);have g9:=qH (cq.o _ (y.o.alloc y.o.size (.cells #[.slice M Q J] 71)));obtain ⟨cl,av,bf⟩:=(C.o.below y.o).lists;have U:wG r (r.alloc (.cells #[.slice M Q J] 71)):=(bA _ _).alloc (aA _) _;obtain ⟨g,b4,v,ap,an,ah,_,_⟩:=run_append_lies (P:=prog) (r.alloc (.cells #[.slice M Q J] 71)) 41 41 zz 71 fo _ 1 24 underlying41 dx fz d0 ey rfl (by omega) ar ((qac c).lists.take j).length cl (av.alloc _) ⟨r.heap.size,0,none⟩ 1 1 [.slice M Q J] rfl (qaH r [.slice M Q J] 71) (by intro u H;simp at H;subst H;rfl) (by omega) (by unfold maxLen;rw [W.o];omega) (by rw [W.o];omega) (by have :=C.o.size;have :=y.o.size;simp;omega) (r.heap.size+1) (by simp);rw [W.o] at an ap;have aq:=qay.of_below (b0:=w.heap.size) U (by have :=C.o.hbase;have :=C.o.size;have :=y.o.size;omega);obtain ⟨aw,bx,bm,bi,bh,bq⟩:=((C.o.below y.o).below U).list (by unfold PoK;decide) (by decide) (by decide) (by rw [<- af.o];exact al) (bu.keep aq) (av.alloc _) (bf.keep aq) (by rw [W.o,<- af.o];exact an) ah;have b2:=qH ap;have ch:=qH (And.intro (qaw aw).1.2.2.2 (qaw aw).2.2.2.2);have b6:=qH (ee.o r _ _ _ y.o U bx bm bi bh bq);clear bc E bu al av bf U an ah aq aw bx bm bi bh bq ap;rw [<- af.o]
            go_wp2_with fail
            refine l.out _ _ ?_ (fun z=> ?_)
            · exact trivial
            clear l n
            try simp only [Act.put,zA,zB,zC,zD,zE,zF]
            refine tkr (rs:=[1,5]) (by kernel_rfl) (by simp) ?_;refine (tkc rfl (fun n l=> ?_) (tkc rfl (fun n l=> ?_) tkn))
            · try simp only [zA,zB,zC]
              have fn:=f7.o;go_simp;refine l.out _ _ ?_ (fun z=> ?_)
              · exact trivial
              clear l n
              try simp only [Act.put,zA,zB,zC,zD,zE,zF]
              refine tkr (rs:=[5]) (by kernel_rfl) (by simp) ?_;refine (tkc rfl (fun n l=> ?_) tkn)
              · try simp only [zA,zB,zC]
                go_simp;refine l.out _ _ ?_ (fun z=> ?_)
                · exact trivial
                clear l n
                try simp only [Act.put,zA,zB,zC,zD,zE,zF]
                refine tkr (rs:=[6]) (by kernel_rfl) (by simp) ?_;refine (tkc rfl (fun n l=> ?_) tkn)
                · try simp only [zA,zB,zC]
                  refine qgd (a:=⟨_,_⟩) ?_ (.tmp 52) (.tmp 56) 41 ?_ ar (.slice (some ⟨r.heap.size,0,none⟩) 1 1) ?_ ?_ (.slice (some ⟨g,0,none⟩) (j+1) b4) v ?_ ?_
                  · rfl
                  · rfl
                  · rfl
                  · rfl
                  · exact b2.o
                  refine l.out _ _ ?_ (fun z=> ?_)
                  · exact trivial
                  clear l n
                  try simp only [Act.put,zD,zE,zF]
                  refine tk 7 (.pointer (some ⟨P,3,none⟩)) rfl (Or.inl ⟨by rfl,fun bo be=>by go_simp⟩) ?_
                  try simp only [Act.put,zA,zB,zC,zD,zE,zF]
                  refine tkr (rs:=[8]) (by kernel_rfl) (by simp) ?_;refine (tkc rfl (fun n l=> ?_) tkn)
                  · try simp only [zA,zB,zC]
                    obtain ⟨fm,e9⟩:=ch.o;go_simp;refine l.out _ _ ?_ (fun z=> ?_)
                    · exact trivial
                    clear l n
                    try simp only [Act.put,zA,zB,zC,zD,zE,zF]
                    refine tkd (by kernel_rfl) ?_ _;refine NoPanic.normal ?_;go_wp2;go_roundw
                    case rel=>exact b6.o
                    case measure=>simp [intOf];omega
            · try simp only [zA,zB,zC]
              go_simp;refine l.out _ _ ?_ (fun z=> ?_)
              · exact trivial
              clear l n
              try simp only [Act.put,zA,zB,zC,zD,zE,zF]
              refine tkr (rs:=[1]) (by kernel_rfl) (by simp) ?_;refine (tkc rfl (fun n l=> ?_) tkn)
              · try simp only [zA,zB,zC]
                have fn:=g9.o;go_simp;refine l.out _ _ ?_ (fun z=> ?_)
                · exact trivial
                clear l n
                try simp only [Act.put,zA,zB,zC,zD,zE,zF]
                refine tkr (rs:=[6]) (by kernel_rfl) (by simp) ?_;refine (tkc rfl (fun n l=> ?_) tkn)
                · try simp only [zA,zB,zC]
                  refine qgd (a:=⟨_,_⟩) ?_ (.tmp 52) (.tmp 56) 41 ?_ ar (.slice (some ⟨r.heap.size,0,none⟩) 1 1) ?_ ?_ (.slice (some ⟨g,0,none⟩) (j+1) b4) v ?_ ?_
                  · rfl
                  · rfl
                  · rfl
                  · rfl
                  · exact b2.o
                  refine l.out _ _ ?_ (fun z=> ?_)
                  · exact trivial
                  clear l n
                  try simp only [Act.put,zD,zE,zF]
                  refine tk 7 (.pointer (some ⟨P,3,none⟩)) rfl (Or.inl ⟨by rfl,fun bo be=>by go_simp⟩) ?_
                  try simp only [Act.put,zA,zB,zC,zD,zE,zF]
                  refine tkr (rs:=[8]) (by kernel_rfl) (by simp) ?_;refine (tkc rfl (fun n l=> ?_) tkn)
                  · try simp only [zA,zB,zC]
                    obtain ⟨fm,e9⟩:=ch.o;go_simp;refine l.out _ _ ?_ (fun z=> ?_)
                    · exact trivial
                    clear l n
                    try simp only [Act.put,zA,zB,zC,zD,zE,zF]
                    refine tkd (by kernel_rfl) ?_ _;refine NoPanic.normal ?_;go_wp2;go_roundw
                    case rel=>exact b6.o
                    case measure=>simp [intOf];omega
        · have hk:j=n:=by omega
          subst hk;have a1:(qac c).lists.take j=(qac c).lists:=nB (by rw [cj.o];exact aA _);rw [a1] at A;have gk:∃ a7 ba,ar= .slice a7 (qac c).lists.length ba:=by
            obtain ⟨cl,gn,_⟩:=A.lists;obtain ⟨a7,ba,e,_⟩:=qaK gn;exact ⟨a7,ba,e⟩
          obtain ⟨a7,ba,rfl⟩:=gk;have et:=(qaw A.cells).1;obtain ⟨hq,di⟩:=qE ((qac c).ids.length);obtain ⟨gw,c6⟩:=qE ((qac c).seqs.length);obtain ⟨ho,cy⟩:=qE ((qac c).lists.length);have fp:PAt wr wr.heap.size I K bg a7 (qac c):=⟨R.row,T.row,A.rows.1,A.rows.2⟩;have hc:=qH (qqf I K bg a7 hq bn gw bl _ a0 ho ba (qac c) wr di.symm c6.symm L.o.symm cy.symm fp (qlk ag.o) (qiY ag.o) (qqa ag.o));have dl:=qH x.bel;rw [<- di,<- c6,<- cy] at et;obtain ⟨h0,aa,q2,q3⟩:=et;clear A R T x a1 fp di c6 cy
          go_wp2_with (go_at_call 33;refine hc.o.mono ?_;rintro e h9 ⟨f5,rfl,hd,g4,gp⟩)
          go_ret2;exact ⟨f5,rfl,hd,lA dl.o.size g4,dl.o.trans (gp.mono dl.o.size)⟩
attribute [local go_sem] gG
def qhW (x:qai) (w:World) (e:Ending) (w':World):Prop:=∃ c i d j b g a h,e= .returned (.agg #[.slice c x.ids.length i,.slice d x.seqs.length j,.slice b x.keys.length g,.slice a x.lists.length h])/\PAt w' w'.heap.size c d b a x/\wG w w'
def qlY (x:qai) (w:World) (P:Nat) (c b:Option Addr) (e d:Nat) (a:World):Prop:=
 a.heap[P]?=some (.cells #[.slice c x.ids.length e,.slice b x.seqs.length d,.slice none 0 0,.slice none 0 0] 62 (0,0))/\w.heap.size<P/\qat w.heap.size 3 a c (qaa x.ids)/\qat w.heap.size 3 a b (qaa x.seqs)/\
  a.heap[w.heap.size]?=some (.cells #[.slice none 0 0,.slice none 0 0,.slice none 0 0,.slice none 0 0] 62 (0,0))/\wG w a
def qf5 (x:qai) (w:World) (zz P:Nat) (b a:Option Addr) (e c:Nat) (pre:List (Nm × Nat)) (W:World):Prop:=
 (∃ d g,qbU 62 w.heap.size zz P (.slice b x.ids.length e) (.slice a x.seqs.length c) d g (x.keys.take pre.length) (x.lists.take pre.length) W)/\qat w.heap.size 3 W b (qaa x.ids)/\qat w.heap.size 3 W a (qaa x.seqs)/\
  W.heap[w.heap.size]?=some (.cells #[.slice none 0 0,.slice none 0 0,.slice none 0 0,.slice none 0 0] 62 (0,0))/\wG w W
def qf5.below {x:qai} {pre:List (Nm × Nat)} (g:qf5 x w zz P A A' k n pre W) (a:wG W w'):qf5 x w zz P A A' k n pre w':=by
 obtain ⟨⟨e,h,h1⟩,h2,h3,c,b⟩:=g;have d:qay w.heap.size W w':= .of_below a b.size;exact ⟨⟨e,h,h1.below a⟩,h2.keep (.inr rfl) d,h3.keep (.inr rfl) d,(a.block _ (gA.1 c).1).trans c,b.trans (a.mono b.size)⟩
def qf5.firm {x:qai} {pre:List (Nm × Nat)} (g:w.heap.size<=N) (r:w.heap.size<N):qaE N (qf5 x w zz P A A' n b pre):=fun W l o d h e c m=>by
 obtain ⟨⟨j,q,h1⟩,h2,h3,i,p⟩:=m;have a:qay w.heap.size W (W.putObj l d):=⟨by simp,fun k a=>World.putObj_heap_other (by omega),fun k cs t fr a _=>(World.putObj_heap_other (by rintro rfl;rw [e] at a;injection a with a;rw [a] at c;cases c)).trans a⟩
 exact ⟨⟨j,q,qbU.firm g W l o d h e c h1⟩,h2.keep (.inr rfl) a,h3.keep (.inr rfl) a,(World.putObj_heap_other (by omega)).trans i,qaE.belowW (N:=N) g W l o d h e c p⟩
def qBS {S:Nat} {x:qai} (D:qbN w S x):yG 23 #[.pointer (some ⟨S,0,none⟩)] w (qhW x w):=by
  obtain ⟨bc,a2,a9,bk,ht,ho,bs,b6,cl,dh,ep⟩:=D.cells;refine (uG (n:=6)).1 ?_;have a8:=D.lt;have g3:=D.small.ids;have gt:=D.seqs;have c2:qI (∀ w',wG w w'->yG 53 #[.slice bc x.ids.length a2] w' (qhv x.ids w')):=qH fun w' I=>qin bc _ a2 x.ids w' rfl (Row.later dh I) (by omega)
  have cv:qI (∀ w',wG w w'->yG 53 #[.slice a9 x.seqs.length bk] w' (qhv x.seqs w')):=qH fun w' I=>qin a9 _ bk x.seqs w' rfl (Row.later ep I) (by omega)
  have b3:qI (∀ w',wG w w'->w'.cell? ⟨S,0,none⟩=some (.slice bc x.ids.length a2)/\w'.cell? ⟨S,1,none⟩=some (.slice a9 x.seqs.length bk)):=qH fun w' I=>by
    have :=qfx ((I.block S a8).trans bs);exact ⟨this.1,this.2.1⟩
  obtain ⟨C,cy⟩:=qE (w.alloc (.cells #[.slice none 0 0,.slice none 0 0,.slice none 0 0,.slice none 0 0] 62));have en:wG w C:=by rw [cy];exact (bA _ w).alloc (aA _) _
  have co:C.heap[w.heap.size]?=some (.cells #[.slice none 0 0,.slice none 0 0,.slice none 0 0,.slice none 0 0] 62 (0,0)):=by rw [cy];exact jA w _
  have bf:=qH en;have b7:=qH co;have ha:=qH cy;obtain ⟨E,c6⟩:=qE x.ids.length;obtain ⟨F,da⟩:=qE x.seqs.length;rw [<- c6] at c2 b3;rw [<- da] at cv b3;have bo:=qH c6;have bp:=qH da;have b2:=qH D;clear D bs b6 cl dh ep a8 g3 gt cy en co c6 da;refine callsIn_of_wp_marks func23 rfl trivial ?_ rfl;simp only [ntmps23,iD,nA,vB,Nat.reduceAdd,Nat.reduceSub,tD,uD,jD,vD,lC,bC];gi_wp2;have c4:∀ (P:Nat) (m i:Option Addr) (q r:Nat) (d:World),d.heap[P]?=some (.cells #[.slice none 0 0,.slice none 0 0,.slice none 0 0,.slice none 0 0] 62 (0,0))->w.heap.size<P->wG C d->qat w.heap.size 3 d m (qaa x.ids)->qat w.heap.size 3 d i (qaa x.seqs)->
      qlY x w P m i q r ((((d.setCell ⟨P,0,none⟩ (.slice m E q)).setCell ⟨P,1,none⟩ (.slice i F r)).setCell ⟨P,2,none⟩ (.slice none 0 0)).setCell ⟨P,3,none⟩ (.slice none 0 0))/\wG w ((((d.setCell ⟨P,0,none⟩ (.slice m E q)).setCell ⟨P,1,none⟩ (.slice i F r)).setCell ⟨P,2,none⟩ (.slice none 0 0)).setCell ⟨P,3,none⟩ (.slice none 0 0)):=by
    intro P m i q r d fi bz G co f8;have bu:=lB d P 0 _ _ (.slice m E q) fi;have Z:=lB _ P 1 _ _ (.slice i F r) bu;have M:=lB _ P 2 _ _ (.slice none 0 0) Z;have R:=lB _ P 3 _ _ (.slice none 0 0) M;have eb:qay w.heap.size d (d.setCell ⟨P,0,none⟩ (.slice m E q)):=qay.setCell fi (by omega) (by unfold PoK;decide) _;have dx:=eb.trans (qay.setCell (o:=1) bu (by omega) (by unfold PoK;decide) (.slice i F r));have d6:=dx.trans (qay.setCell (o:=2) Z (by omega) (by unfold PoK;decide) (.slice none 0 0));have bn:=d6.trans (qay.setCell (o:=3) M (by omega) (by unfold PoK;decide) (.slice none 0 0));have eq:=((((bf.o.trans (G.mono bf.o.size)).setCell (p:=⟨P,0,none⟩) (Nat.le_of_lt bz) (.slice m E q)).setCell (p:=⟨P,1,none⟩) (Nat.le_of_lt bz) (.slice i F r)).setCell (p:=⟨P,2,none⟩) (Nat.le_of_lt bz) (.slice none 0 0)).setCell (p:=⟨P,3,none⟩) (Nat.le_of_lt bz) (.slice none 0 0);refine ⟨⟨?_,bz,co.keep (.inr rfl) bn,f8.keep (.inr rfl) bn,?_,eq⟩,eq⟩
    · rw [R,<- bo.o,<- bp.o]
      rfl
    · have ap:w.heap.size≠P:=by omega
      rw [rA _ _ _ _ ap,rA _ _ _ _ ap,rA _ _ _ _ ap,rA _ _ _ _ ap,G.block _ (gA.1 b7.o).1,b7.o]
  have d0:=qH c4;have c9:qI (w.heap.size<C.heap.size):=qH (by have :=(gA.1 b7.o).1;exact this);clear c4;rw [<- ha.o];refine wpIn_mono (Q:=fun e a af=>e= .normal/\∃ P m i q r,qlY x w P m i q r af/\a={tmps:=#[.pointer (some ⟨S,0,none⟩),undef,.pointer (some ⟨w.heap.size,0,none⟩),.pointer (some ⟨P,0,none⟩),undef,undef,.pointer (some ⟨S,0,none⟩),.pointer (some ⟨S,0,none⟩),.pointer (some ⟨S,0,none⟩),.slice bc E a2,.slice m E q,.pointer (some ⟨S,0,none⟩),.pointer (some ⟨S,0,none⟩),.pointer (some ⟨S,1,none⟩),.slice a9 F bk,.slice i F r,.agg #[.slice m E q,.slice i F r,.slice none 0 0,.slice none 0 0],undef,undef,undef,undef,undef,undef,undef,undef,undef,undef,undef,undef,undef,undef,undef,undef,undef,undef,undef,undef],defers:=[]}) ?region ?rest
  case region=>
    refine wpIn_wide.2 ?_;have g9:qI (∀ (d:World) (K V:Option Addr) (ao ai:Nat),wG C d->qat w.heap.size 3 d K (qaa x.ids)->qat w.heap.size 3 d V (qaa x.seqs)->qlY x w d.heap.size K V ao ai (d.alloc (.cells #[.slice K E ao,.slice V F ai,.slice none 0 0,.slice none 0 0] 62))):=qH fun d K V ao ai D gk gp=>by
      have av:=(bA d.heap.size d).alloc (aA _) (.cells #[.slice K E ao,.slice V F ai,.slice none 0 0,.slice none 0 0] 62);have I:=bf.o.trans (D.mono bf.o.size);refine ⟨by rw [jA d,<- bo.o,<- bp.o],by have :=D.size;have :=c9.o;omega,gk.keep (.inr rfl) (.of_below av I.size),gp.keep (.inr rfl) (.of_below av I.size),?_,I.trans (av.mono I.size)⟩;rw [(D.trans (av.mono D.size)).block _ (gA.1 b7.o).1,b7.o]
    have a3:qI (∀ W,wG C W->wG w W):=qH fun W D=>bf.o.trans (D.mono bf.o.size)
    have d2:qI (wG C (C.alloc (.cells #[.slice none 0 0,.slice none 0 0,.slice none 0 0,.slice none 0 0] 62)).drew):=qH ((bA C.heap.size C).alloc (aA _) _).drew;have e5:qI ((C.alloc (.cells #[.slice none 0 0,.slice none 0 0,.slice none 0 0,.slice none 0 0] 62)).drew.heap[C.heap.size]?=some (.cells #[.slice none 0 0,.slice none 0 0,.slice none 0 0,.slice none 0 0] 62 (0,0))/\C.heap.size<(C.alloc (.cells #[.slice none 0 0,.slice none 0 0,.slice none 0 0,.slice none 0 0] 62)).drew.heap.size):=qH ⟨jA C _,by simp⟩;have dg:qI (∀ W,wG C W->(W.cell? ⟨S,0,none⟩=some (.slice bc E a2)/\W.cell? ⟨S,1,none⟩=some (.slice a9 F bk))/\∀ o,(W.alloc o).cell? ⟨S,0,none⟩=some (.slice bc E a2)/\(W.alloc o).cell? ⟨S,1,none⟩=some (.slice a9 F bk)):=qH fun W D=>⟨b3.o W (a3.o W D),fun o=>b3.o _ (a3.o _ (D.alloc D.size o))⟩
    obtain ⟨⟨ez,q2⟩,ds⟩:=dg.o C (bA _ _);have q3:=fun o=>(ds o).1
    have hi:=fun o=>(ds o).2
    clear ds;refine wp_region_noPanic ?_
    go_region_law (first
      | (go_simp; go_at_call 53; (with_reducible refine (c2.o _ bf.o.drew).mono ?_); rintro e L ⟨K, ao, rfl, -, bb, ad⟩
         rw [<- bo.o] at bb ⊢;have H:qI (wG C L):=qH ((bA C.heap.size C).drew.trans ad);have d4:qI (qat w.heap.size 3 L K (qaa x.ids)):=qH (qat.of_own bb);obtain ⟨⟨bs,b6⟩,ex⟩:=dg.o L H.o;have dh:=fun o=>(ex o).2
         clear ex bb ad)
      | (go_simp; go_at_call 53; (with_reducible refine (c2.o _ (a3.o _ d2.o)).mono ?_); rintro e L ⟨K, ao, rfl, -, bb, ad⟩
         rw [<- bo.o] at bb ⊢;have H:qI (wG C L):=qH (d2.o.trans (ad.mono d2.o.size));have d4:qI (qat w.heap.size 3 L K (qaa x.ids)):=qH (qat.of_own bb);have fu:qI (L.heap[C.heap.size]?=some (.cells #[.slice none 0 0,.slice none 0 0,.slice none 0 0,.slice none 0 0] 62 (0,0))):=qH ((ad.block _ e5.o.2).trans e5.o.1);obtain ⟨⟨bs,b6⟩, -⟩:=dg.o L H.o;clear bb ad)
      | (go_simp; go_at_call 53; (with_reducible refine (cv.o _ (a3.o _ H.o)).mono ?_); rintro e d ⟨V, ai, rfl, -, bd, G⟩
         rw [<- bp.o] at bd ⊢;have au:qI (wG C d):=qH (H.o.trans (G.mono H.o.size));have cn:qI (qat w.heap.size 3 d V (qaa x.seqs)):=qH (qat.of_own bd);have c0:qI (qat w.heap.size 3 d K (qaa x.ids)):=qH (d4.o.keep (.inr rfl) (.of_below G (a3.o _ H.o).size))
         (first
           | (have ch := qH ((G.block _ (gA.1 fu.o).1).trans fu.o)
              obtain ⟨⟨hh,f2,g8,ak⟩,em,el,d9,eo⟩:=qaw ch.o)
           |skip)
         clear bd G)
      | (go_simp; go_at_call 53; (with_reducible refine (cv.o _ (a3.o _ (H.o.alloc H.o.size _))).mono ?_); rintro e d ⟨V, ai, rfl, -, bd, G⟩
         rw [<- bp.o] at bd ⊢;have ad:=H.o.alloc H.o.size (.cells #[.slice none 0 0,.slice none 0 0,.slice none 0 0,.slice none 0 0] 62);have au:qI (wG C d):=qH (ad.trans (G.mono ad.size));have cn:qI (qat w.heap.size 3 d V (qaa x.seqs)):=qH (qat.of_own bd);have c0:qI (qat w.heap.size 3 d K (qaa x.ids)):=qH (d4.o.keep (.inr rfl) (.of_below (((bA L.heap.size L).alloc (aA _) _).trans (G.mono (by simp))) (a3.o _ H.o).size));have ch:=qH ((G.block L.heap.size (by simp)).trans (jA L (.cells #[.slice none 0 0,.slice none 0 0,.slice none 0 0,.slice none 0 0] 62)));have fy:qI (w.heap.size<L.heap.size):=qH (by have :=H.o.size;have :=c9.o;omega);obtain ⟨⟨hh,f2,g8,ak⟩,em,el,d9,eo⟩:=qaw ch.o;clear bd G ad))
    all_goals
      refine NoPanic.normal ?_
      first
        |exact ⟨rfl,_,_,_,_,_,(d0.o C.heap.size K V ao ai d ch.o c9.o au.o c0.o cn.o).1,rfl⟩
        |exact ⟨rfl,_,_,_,_,_,(d0.o L.heap.size K V ao ai d ch.o fy.o au.o c0.o cn.o).1,rfl⟩
        |exact ⟨rfl,_,_,_,_,_,g9.o d K V ao ai au.o c0.o cn.o,rfl⟩
  case rest=>
    rintro e a af ⟨rfl,P,m,i,q,r,c4,rfl⟩;obtain ⟨e6,fk,fh,ek,e7,dj⟩:=c4;obtain ⟨g7,gn,gh,gi,gy⟩:=lG qfh;obtain ⟨fe,e1,fs,ff,ev⟩:=lG qhT;obtain ⟨bl,fm,ax⟩:=b2.o.dict;have fl:=b2.o.small.keys;have e0:=qH (qn0 S 2 0 x.keys bl w af fm dj fl (by omega));have ge:=qH ax;have ew:=qH b2.o.keys;have g0:qI (∀ l∈x.lists,qa5 (-1) l=true/\l.length<=1000/\(qae (-1) l).length<=400000000000):=qH fun l ax=>by
      have h1:=(qi8 ((qfy.1 b2.o.may).2.2.2.2 l ax)).1;have h2:=b2.o.small.lists l ax;exact ⟨h1,h2.1,qro h1 h2.1 h2.2⟩
    have er:=qH e6;have ec:=qH fk;have f1:=qH fh;have hc:=qH ek;have H:=qH e7;have au:=qH dj;clear fm ax e6 fk fh ek e7 dj c2 cv b3 d0
    gi_wp2_with (first
      |(refine ⟨trivial,?_⟩;gi_at_call 54;refine (uG.2 e0.o).mono ?_)
      |(gi_at_call 54;refine (uG.2 e0.o).mono ?_))
    rintro e w3 ⟨c5,rfl,hr,dv,bx,gw⟩;rw [Int.toNat_zero,List.drop_zero,List.drop_zero] at dv;have dk:=au.o.trans (bx.mono au.o.size);have dw:w.heap.size<=w3.heap.size:=dk.size;have hb:=qH (qn7 5 w.heap.size c5 x.keys bl w3 (by omega) dw dv fl);have gj:=qH dk;have e8:=(bx.block P (gA.1 er.o).1).trans er.o;have di:=(bx.block w.heap.size (gA.1 H.o).1).trans H.o;have ea:qay w.heap.size af w3:= .of_below bx au.o.size;obtain ⟨zz,hs,hk⟩:∃ b,w.heap.size<=b/\b<=w3.heap.size:=⟨_,dw,aA _⟩;have fd:qbU 62 w.heap.size zz P (.slice m x.ids.length q) (.slice i x.seqs.length r) (.slice none 0 0) (.slice none 0 0) [] [] w3:=⟨e8,by have :=ec.o;omega,by omega,by omega,vA _ _ _ _,[],vA _ _ _ _,LG.nil⟩;have g4:=qH fd;have ei:=qH di;have gu:=qH (f1.o.keep (.inr rfl) ea);have fw:=qH (hc.o.keep (.inr rfl) ea);have fo:qI (w.heap.size<w3.heap.size):=qH (gA.1 di).1;clear dv bx dk gw e8 di ea fd;gi_wp2;refine qj5 (by omega) (gf:=99) (lb:=#[.pointer (some ⟨c5,0,none⟩)]) rfl (enters_of func99 (by kernel_rfl) rfl)
      hb.o (fun I=>I) (fun {A B k o} U dz cm hm=>(dz.block k (gA.1 cm).1).trans cm)
      (fun D k=>D.trans k) (fun W c8 o fn f4 cm f0=>qaE.belowW (N:=w3.heap.size) (w0:=W) (by omega) W c8 o fn f4 cm f0 (bA _ _)) (fun _=>rfl)
      (qf5 x w zz P m i q r) (fun _ _ _=>False)
      (fun s hv B' D dz=>D.below dz)
      (fun s=>qf5.firm dw fo.o)
      (fun c s W l o fn _ _ _ D=>D)
      (fun s x=>qaE.okP _ _ _ _ _) ⟨⟨_,_,by simpa using g4.o⟩,gu.o,fw.o,ei.o,gj.o⟩
      (fun z=>{tmps:=#[.pointer (some ⟨S,0,none⟩),undef,.pointer (some ⟨w.heap.size,0,none⟩),.pointer (some ⟨P,0,none⟩),.string ⟨z.1.toArray⟩,.pointer (some ⟨z.2,0,none⟩),.pointer (some ⟨S,0,none⟩),.pointer (some ⟨S,0,none⟩),.pointer (some ⟨S,0,none⟩),.slice bc E a2,.slice m E q,.pointer (some ⟨S,0,none⟩),.pointer (some ⟨S,0,none⟩),.pointer (some ⟨S,1,none⟩),.slice a9 F bk,.slice i F r,.agg #[.slice m E q,.slice i F r,.slice none 0 0,.slice none 0 0],.pointer (some ⟨S,0,none⟩),.pointer (some ⟨S,0,none⟩),.pointer (some ⟨S,2,none⟩),.func (.func 99) #[] #[.pointer (some ⟨c5,0,none⟩)],.string ⟨z.1.toArray⟩,.pointer (some ⟨z.2,0,none⟩),undef,undef,undef,undef,undef,undef,undef,undef,undef,undef,undef,undef,undef,undef],defers:=[]}) ?assign ?body ?done ?stop
    case assign=>
      intro c8 x W hl dt;unfold qfp;gi_wp2;exact dt
    case body=>
      rintro c8 pre ⟨ca,y⟩ W ⟨⟨dp,al,T⟩,ar,az,bq,bt⟩ ⟨a8,cz,cw⟩;simp only at cz cw ⊢;obtain ⟨k,U⟩:=qE pre.length;have eh:(pre++[(ca,y)]).length=k+1:=by simp [U]
      simp only [<- U] at cz cw a8 T;have ci:k<x.lists.length:=by rw [<- ew.o];exact a8
      obtain ⟨he,cu⟩:=ge.o k ci;rw [<- cw] at cu;have de:=g0.o _ (pA ci);have dl:x.lists.take (k+1)=x.lists.take k++[x.lists[k]]:=aB ci;obtain ⟨cq,fb⟩:=qE (x.lists[k]);rw [<- fb] at cu de dl;have dm:(x.keys.take k).length=k:=by rw [sA];omega
      have fa:(x.lists.take k).length=k:=by rw [sA];omega
      have hj:k<=1048576:=by omega
      have e4:x.keys.take (k+1)=x.keys.take k++[ca]:=by rw [aB a8,cz]
      obtain ⟨X,d7⟩:=qE (⟨ca.toArray⟩:ByteArray);rw [<- d7];have q2:=(qaw T.cells).1.2.2.1;have aq:=qH fa;have gb:=qH dm;have gq:qI (∀ v' aa,aa.ownsRow zz 9 1 v' (k+1) (qad (x.keys.take k)++[.string X])->(W.alloc (.cells #[.string X] 9)).grownBy aa dp.ownBlock->aa.heap[P]?=some (.cells #[.slice m x.ids.length q,.slice i x.seqs.length r,dp,al] 62 (0,0))/\
          qbU 62 w.heap.size zz P (.slice m x.ids.length q) (.slice i x.seqs.length r) v' al (x.keys.take (k+1)) (x.lists.take k) (aa.setCell ⟨P,2,none⟩ v')/\Below w.heap.size W (aa.setCell ⟨P,2,none⟩ v')/\KeepsOthers W (aa.setCell ⟨P,2,none⟩ v')/\
          ∀ (k:Nat) (cs:Array Value) (t:TypeId) (fr:Nat × Nat),k≠P->W.heap[k]?=some (.cells cs t fr)->t≠9->(aa.setCell ⟨P,2,none⟩ v').heap[k]?=some (.cells cs t fr)):=qH fun v' aa gz hg=>by
        have av:wG W (W.alloc (.cells #[.string X] 9)):=(bA _ _).alloc (aA _) _;obtain ⟨Z,M,R,cc,bv⟩:=(T.below av).key (by unfold PoK;decide) (by decide) (by decide) (k:=ca) (by rw [<- d7,gb.o];exact gz) hg;exact ⟨Z,by rw [e4];exact M,(av.mono bt.size).trans R,(KeepsOthers.alloc _ _).trans cc,fun j cs t fr h1 h2 h3=>bv j cs t fr h1 ((av.block j (gA.1 h2).1).trans h2) h3⟩
      have df:=T.keys;rw [dm] at df;have fv:=qH df;have gr:qI (zz<=W.heap.size):=qH T.size;have fq:P≠w.heap.size:=by have :=ec.o;omega
      have gv:=qH cu;have dd:=qH de;have g2:=qH dl;have gc:=qH eh;have db:=qH ar;have du:=qH az;have b5:=qH bq;have dc:=qH bt;have gs:=qH T.cells;clear fb ci T df cu de dl eh ar az bq bt e4 d7 cz cw U dm fa a8
      gi_wp2_with (gi_at_builtin;refine wpListIn_append_own _ rfl (.tmp 24) (.tmp 26) 40 rfl zz 9 g7 _ 1 16 underlying40 gn gh gi gy rfl (by omega) _ k (qad (x.keys.take k)) rfl (fv.o.alloc _) ⟨W.heap.size,0,none⟩ 1 1 [.string X] rfl rfl (qaH W [.string X] 9) (qhy 0 X) (by unfold maxLen;omega) (by omega) (by have :=gr.o;simp;omega) ?_)
      intro v' aa dr fj gl;clear gl;obtain ⟨d3,d5,fz,_,_⟩:=dr.form (by omega);subst fz;obtain ⟨Z,M,R,cc,bv⟩:=gq.o _ aa dr fj;have d9:=(qaw Z).2.2.2.1;have q3:=(qaw Z).1.2.2.1;obtain ⟨Y,dn⟩:=qE (aa.setCell ⟨P,2,none⟩ (.slice (some ⟨d3,0,none⟩) (k+1) d5));rw [<- dn] at M R cc bv;have d1:=M;have ac:=qH M;have hd:=qH dn;have c7:qay w.heap.size W Y:=⟨R.size,fun j dy=>R.block j dy,fun j cs t fr h1 h2=>bv j cs t fr (by rintro rfl;rw [gs.o] at h1;injection h1 with h1;injection h1 with _ h1 _;rw [<- h1] at h2;exact absurd h2 (by unfold PoK;decide)) h1 (by rintro rfl;exact absurd h2 (by unfold PoK;decide))⟩
      have ar:=db.o.keep (.inr rfl) c7;have az:=du.o.keep (.inr rfl) c7;have d8:=bv _ _ _ _ (Ne.symm fq) b5.o (by decide);have bj:=dc.o.trans R;have eu:qI (∀ an,wG Y an->yG 55 #[.pointer (some ⟨y,0,none⟩)] an (qfR cq an)):=qH fun an I=>
        qpV he y cq an (gv.o.below (bj.trans (I.mono bj.size))) dd.o.1 dd.o.2.2 (by have :=dd.o.2.1;omega)
      have dq:qI (∀ an,wG Y an->an.cell? ⟨P,3,none⟩=some al):=qH fun an I=>(qaw (d1.below I).cells).1.2.2.2
      have e2:qI (∀ d am ag ee,wG Y d->wG d am->qbU 62 w.heap.size zz P (.slice m x.ids.length q) (.slice i x.seqs.length r) (.slice (some ⟨d3,0,none⟩) (k+1) d5) ee (x.keys.take (k+1)) (x.lists.take k++[cq]) ag->Below w.heap.size am ag->KeepsOthers am ag->
          (∀ (k:Nat) (cs:Array Value) (t:TypeId) (fr:Nat × Nat),k≠P->am.heap[k]?=some (.cells cs t fr)->t≠71->ag.heap[k]?=some (.cells cs t fr))->KeepsOthers W ag/\Below w.heap.size W ag/\qf5 x w zz P m i q r (pre++[(ca,y)]) ag):=qH fun d am ag ee G gm a4 ct gd fg=>by
        have a5:wG Y am:=G.trans (gm.mono G.size);have f7:qay w.heap.size Y am:= .of_below a5 bj.size;have f3:=(d1.below a5).cells;have fx:qay w.heap.size am ag:=⟨ct.size,fun j dy=>ct.block j dy,fun j cs t fr h1 h2=>fg j cs t fr (by rintro rfl;rw [f3] at h1;injection h1 with h1;injection h1 with _ h1 _;rw [<- h1] at h2;exact absurd h2 (by unfold PoK;decide)) h1 (by rintro rfl;exact absurd h2 (by unfold PoK;decide))⟩
        have fp:=f7.trans fx;refine ⟨(cc.trans (show KeepsOthers Y am from ⟨a5.size,fun k o U _=>(a5.block k (gA.1 U).1).trans U⟩)).trans gd,R.trans ((a5.mono bj.size).trans ct),⟨⟨.slice (some ⟨d3,0,none⟩) (k+1) d5,ee,?_⟩,ar.keep (.inr rfl) fp,az.keep (.inr rfl) fp,fg _ _ _ _ (Ne.symm fq) ((a5.block _ (gA.1 d8).1).trans d8) (by decide),bj.trans ((a5.mono bj.size).trans ct)⟩⟩
        rw [gc.o,g2.o];exact a4
      obtain ⟨ah,e9⟩:=qE cq.length;have aw:=qH e9;have bw:qI (wG Y Y.drew):=qH (bA _ Y).drew;have g1:=qH (dq.o _ bw.o);clear c7 ar az d8 bj e9 d1 M R cc bv dn Z dr fj q2;gi_wp2;rw [<- hd.o];refine qh8 (S:=fun _=>True) (by kernel_rfl) (by kernel_rfl) trivial (fun hw=> ?_)
      refine tk 0 (.pointer (some ⟨P,3,none⟩)) rfl (Or.inl ⟨by rfl,fun af cp=>by go_simp⟩) ?_
      try simp only [Act.put,zA,zB,zD,zE,zF]
      refine tk 2 (.pointer (some ⟨y,0,none⟩)) rfl (Or.inl ⟨by rfl,fun af cp=>by go_simp⟩) ?_
      try simp only [Act.put,zA,zB,zC,zD,zE,zF]
      refine tkr (rs:=[1,3]) (by kernel_rfl) (by simp) ?_;refine (tkc rfl (fun v h=> ?_) (tkc rfl (fun v h=> ?_) tkn))
      · try simp only [zA,zB,zC]
        have ax:=g1.o;go_simp;refine h.out _ _ ?_ (fun O=> ?_)
        · exact trivial
        clear h v
        try simp only [Act.put,zA,zB,zC,zD,zE,zF]
        refine tkr (rs:=[3]) (by kernel_rfl) (by simp) ?_;refine (tkc rfl (fun v h=> ?_) tkn)
        · try simp only [zA,zB,zC]
          go_simp
          go_at_call 55
          (with_reducible refine (eu.o _ bw.o).mono ?_)
          rintro e d ⟨hf,rfl,cg,G⟩;obtain ⟨ab,ae,rfl,bh,b4⟩:=qbn.of_new (b0:=w.heap.size) cg;rw [<- aw.o] at bh;have J:qI (wG Y d):=qH (bw.o.trans G);obtain ⟨ed,a6,b1⟩:=(ac.o.below J.o).lists;have aj:wG d (d.alloc (.cells #[.slice ab ah ae] 71)):=(bA _ _).alloc (aA _) _;obtain ⟨g,c3,cj,bm,a0,a4,_,_⟩:=run_append_lies (P:=prog) (d.alloc (.cells #[.slice ab ah ae] 71)) 41 41 zz 71 fe _ 1 24 underlying41 e1 fs ff ev rfl (by omega) al (x.lists.take k).length ed (a6.alloc _) ⟨d.heap.size,0,none⟩ 1 1 [.slice ab ah ae] rfl (qaH d [.slice ab ah ae] 71) (by intro u b8;simp at b8;subst b8;rfl) (by omega) (by unfold maxLen;rw [aq.o];omega) (by rw [aq.o];omega) (by have :=ac.o.size;have :=J.o.size;simp;omega) (d.heap.size+1) (by simp);rw [aq.o] at a0 bm;have a1:=qay.of_below (b0:=w.heap.size) aj (by have :=ac.o.hbase;have :=ac.o.size;have :=J.o.size;omega);obtain ⟨a7,b9,cf,ce,cb⟩:=((ac.o.below J.o).below aj).list (by unfold PoK;decide) (by decide) (by decide) (by rw [<- aw.o];exact bh) (b4.keep a1) (a6.alloc _) (b1.keep a1) (by rw [aq.o,<- aw.o];exact a0) a4;have c1:=qH bm;have cx:=qH (And.intro (qaw a7).1.2.2.2 (qaw a7).2.2.2.2);have ck:=qH (e2.o d _ _ _ J.o aj b9 cf ce cb);clear cg G b4 bh a6 b1 aj a0 a4 a1 a7 b9 cf ce cb bm;rw [<- aw.o]
          go_wp2_with fail
          refine h.out _ _ ?_ (fun O=> ?_)
          · exact trivial
          clear h v
          try simp only [Act.put,zA,zB,zC,zD,zE,zF]
          refine tkr (rs:=[4]) (by kernel_rfl) (by simp) ?_;refine (tkc rfl (fun v h=> ?_) tkn)
          · try simp only [zA,zB,zC]
            go_simp;refine h.out _ _ ?_ (fun O=> ?_)
            · exact trivial
            clear h v
            try simp only [Act.put,zA,zB,zC,zD,zE,zF]
            refine tkr (rs:=[5]) (by kernel_rfl) (by simp) ?_;refine (tkc rfl (fun v h=> ?_) tkn)
            · try simp only [zA,zB,zC]
              refine qgd (a:=⟨_,_⟩) ?_ (.tmp 30) (.tmp 33) 41 ?_ al (.slice (some ⟨d.heap.size,0,none⟩) 1 1) ?_ ?_ (.slice (some ⟨g,0,none⟩) (k+1) c3) cj ?_ ?_
              · rfl
              · rfl
              · rfl
              · rfl
              · exact c1.o
              refine h.out _ _ ?_ (fun O=> ?_)
              · exact trivial
              clear h v
              try simp only [Act.put,zD,zE,zF]
              refine tk 6 (.pointer (some ⟨P,3,none⟩)) rfl (Or.inl ⟨by rfl,fun af cp=>by go_simp⟩) ?_
              try simp only [Act.put,zA,zB,zC,zD,zE,zF]
              refine tkr (rs:=[7]) (by kernel_rfl) (by simp) ?_;refine (tkc rfl (fun v h=> ?_) tkn)
              · try simp only [zA,zB,zC]
                obtain ⟨fc,ft⟩:=cx.o;go_simp;refine h.out _ _ ?_ (fun O=> ?_)
                · exact trivial
                clear h v
                try simp only [Act.put,zA,zB,zC,zD,zE,zF]
                refine tkd (by kernel_rfl) ?_ _;refine qck.fin ?_;gi_wp2;exact ck.o
      · try simp only [zA,zB,zC]
        go_simp
        go_at_call 55
        (with_reducible refine (eu.o _ bw.o).mono ?_)
        rintro e d ⟨hf,rfl,cg,G⟩;obtain ⟨ab,ae,rfl,bh,b4⟩:=qbn.of_new (b0:=w.heap.size) cg;rw [<- aw.o] at bh;have J:qI (wG Y d):=qH (bw.o.trans G);have f9:=qH (dq.o _ J.o);have f6:=qH (dq.o _ (J.o.alloc J.o.size (.cells #[.slice ab ah ae] 71)));obtain ⟨ed,a6,b1⟩:=(ac.o.below J.o).lists;have aj:wG d (d.alloc (.cells #[.slice ab ah ae] 71)):=(bA _ _).alloc (aA _) _;obtain ⟨g,c3,cj,bm,a0,a4,_,_⟩:=run_append_lies (P:=prog) (d.alloc (.cells #[.slice ab ah ae] 71)) 41 41 zz 71 fe _ 1 24 underlying41 e1 fs ff ev rfl (by omega) al (x.lists.take k).length ed (a6.alloc _) ⟨d.heap.size,0,none⟩ 1 1 [.slice ab ah ae] rfl (qaH d [.slice ab ah ae] 71) (by intro u b8;simp at b8;subst b8;rfl) (by omega) (by unfold maxLen;rw [aq.o];omega) (by rw [aq.o];omega) (by have :=ac.o.size;have :=J.o.size;simp;omega) (d.heap.size+1) (by simp);rw [aq.o] at a0 bm;have a1:=qay.of_below (b0:=w.heap.size) aj (by have :=ac.o.hbase;have :=ac.o.size;have :=J.o.size;omega);obtain ⟨a7,b9,cf,ce,cb⟩:=((ac.o.below J.o).below aj).list (by unfold PoK;decide) (by decide) (by decide) (by rw [<- aw.o];exact bh) (b4.keep a1) (a6.alloc _) (b1.keep a1) (by rw [aq.o,<- aw.o];exact a0) a4;have c1:=qH bm;have cx:=qH (And.intro (qaw a7).1.2.2.2 (qaw a7).2.2.2.2);have ck:=qH (e2.o d _ _ _ J.o aj b9 cf ce cb);clear cg G b4 bh a6 b1 aj a0 a4 a1 a7 b9 cf ce cb bm;rw [<- aw.o]
        go_wp2_with fail
        refine h.out _ _ ?_ (fun O=> ?_)
        · exact trivial
        clear h v
        try simp only [Act.put,zA,zB,zC,zD,zE,zF]
        refine tkr (rs:=[1,4]) (by kernel_rfl) (by simp) ?_;refine (tkc rfl (fun v h=> ?_) (tkc rfl (fun v h=> ?_) tkn))
        · try simp only [zA,zB,zC]
          have ax:=f9.o;go_simp;refine h.out _ _ ?_ (fun O=> ?_)
          · exact trivial
          clear h v
          try simp only [Act.put,zA,zB,zC,zD,zE,zF]
          refine tkr (rs:=[4]) (by kernel_rfl) (by simp) ?_;refine (tkc rfl (fun v h=> ?_) tkn)
          · try simp only [zA,zB,zC]
            go_simp;refine h.out _ _ ?_ (fun O=> ?_)
            · exact trivial
            clear h v
            try simp only [Act.put,zA,zB,zC,zD,zE,zF]
            refine tkr (rs:=[5]) (by kernel_rfl) (by simp) ?_;refine (tkc rfl (fun v h=> ?_) tkn)
            · try simp only [zA,zB,zC]
              refine qgd (a:=⟨_,_⟩) ?_ (.tmp 30) (.tmp 33) 41 ?_ al (.slice (some ⟨d.heap.size,0,none⟩) 1 1) ?_ ?_ (.slice (some ⟨g,0,none⟩) (k+1) c3) cj ?_ ?_
              · rfl
              · rfl
              · rfl
              · rfl
              · exact c1.o
              refine h.out _ _ ?_ (fun O=> ?_)
              · exact trivial
              clear h v
              try simp only [Act.put,zD,zE,zF]
              refine tk 6 (.pointer (some ⟨P,3,none⟩)) rfl (Or.inl ⟨by rfl,fun af cp=>by go_simp⟩) ?_
              try simp only [Act.put,zA,zB,zC,zD,zE,zF]
              refine tkr (rs:=[7]) (by kernel_rfl) (by simp) ?_;refine (tkc rfl (fun v h=> ?_) tkn)
              · try simp only [zA,zB,zC]
                obtain ⟨fc,ft⟩:=cx.o;go_simp;refine h.out _ _ ?_ (fun O=> ?_)
                · exact trivial
                clear h v
                try simp only [Act.put,zA,zB,zC,zD,zE,zF]
                refine tkd (by kernel_rfl) ?_ _;refine qck.fin ?_;gi_wp2;exact ck.o
        · try simp only [zA,zB,zC]
          go_simp;refine h.out _ _ ?_ (fun O=> ?_)
          · exact trivial
          clear h v
          try simp only [Act.put,zA,zB,zC,zD,zE,zF]
          refine tkr (rs:=[1]) (by kernel_rfl) (by simp) ?_;refine (tkc rfl (fun v h=> ?_) tkn)
          · try simp only [zA,zB,zC]
            have ax:=f6.o;go_simp;refine h.out _ _ ?_ (fun O=> ?_)
            · exact trivial
            clear h v
            try simp only [Act.put,zA,zB,zC,zD,zE,zF]
            refine tkr (rs:=[5]) (by kernel_rfl) (by simp) ?_;refine (tkc rfl (fun v h=> ?_) tkn)
            · try simp only [zA,zB,zC]
              refine qgd (a:=⟨_,_⟩) ?_ (.tmp 30) (.tmp 33) 41 ?_ al (.slice (some ⟨d.heap.size,0,none⟩) 1 1) ?_ ?_ (.slice (some ⟨g,0,none⟩) (k+1) c3) cj ?_ ?_
              · rfl
              · rfl
              · rfl
              · rfl
              · exact c1.o
              refine h.out _ _ ?_ (fun O=> ?_)
              · exact trivial
              clear h v
              try simp only [Act.put,zD,zE,zF]
              refine tk 6 (.pointer (some ⟨P,3,none⟩)) rfl (Or.inl ⟨by rfl,fun af cp=>by go_simp⟩) ?_
              try simp only [Act.put,zA,zB,zC,zD,zE,zF]
              refine tkr (rs:=[7]) (by kernel_rfl) (by simp) ?_;refine (tkc rfl (fun v h=> ?_) tkn)
              · try simp only [zA,zB,zC]
                obtain ⟨fc,ft⟩:=cx.o;go_simp;refine h.out _ _ ?_ (fun O=> ?_)
                · exact trivial
                clear h v
                try simp only [Act.put,zA,zB,zC,zD,zE,zF]
                refine tkd (by kernel_rfl) ?_ _;refine qck.fin ?_;gi_wp2;exact ck.o
    case done=>
      rintro bi ys W hu ey ⟨⟨dp,al,T⟩,ar,az,bq,bt⟩ dt;rw [ey,fC,ew.o,fC] at T;obtain ⟨ba,ak,be,bg,rfl,rfl,hq,hn,e3,et⟩:=T.read;obtain ⟨⟨g6,ez,q2,q3⟩,_⟩:=qaw T.cells;obtain ⟨_,em,el,d9,eo⟩:=qaw bq;have f5:=qH T;have b5:=qH bq;have ei:=qH e3;have hp:=qH et;have db:=qH ar;have du:=qH az;have dc:=qH bt;rw [<- bo.o] at g6;rw [<- bp.o] at ez;clear T bq e3 et ar az bt ey;gi_wp2;have ap:w.heap.size≠P:=by have :=ec.o;omega
      have ay:¬ PoK 62:=by unfold PoK;decide
      have bu:=lB W w.heap.size 0 _ _ (.slice m E q) b5.o;have Z:=lB _ w.heap.size 1 _ _ (.slice i F r) bu;have M:=lB _ w.heap.size 2 _ _ (.slice ba x.keys.length ak) Z;have R:=lB _ w.heap.size 3 _ _ (.slice be x.lists.length bg) M;have gx:=f5.o.setOther (o:=0) b5.o (aA _) ap ay (by decide) (by decide) (.slice m E q);have bs:=gx.setOther (o:=1) bu (aA _) ap ay (by decide) (by decide) (.slice i F r);have b6:=bs.setOther (o:=2) Z (aA _) ap ay (by decide) (by decide) (.slice ba x.keys.length ak);have cl:=b6.setOther (o:=3) M (aA _) ap ay (by decide) (by decide) (.slice be x.lists.length bg);have eb:qay w.heap.size W (W.setCell ⟨w.heap.size,0,none⟩ (.slice m E q)):=qay.setCell b5.o (aA _) ay _;have dx:=eb.trans (qay.setCell (o:=1) bu (aA _) ay (.slice i F r));have d6:=dx.trans (qay.setCell (o:=2) Z (aA _) ay (.slice ba x.keys.length ak));have bn:=d6.trans (qay.setCell (o:=3) M (aA _) ay (.slice be x.lists.length bg));have ej:=((((dc.o).setCell (p:=⟨w.heap.size,0,none⟩) (aA _) (.slice m E q)).setCell (p:=⟨w.heap.size,1,none⟩) (aA _) (.slice i F r)).setCell (p:=⟨w.heap.size,2,none⟩) (aA _) (.slice ba x.keys.length ak)).setCell (p:=⟨w.heap.size,3,none⟩) (aA _) (.slice be x.lists.length bg);have cd:bi≠w.heap.size:=by have :=fo.o;omega
      obtain ⟨br,es⟩:=qE ((((W.setCell ⟨w.heap.size,0,none⟩ (.slice m E q)).setCell ⟨w.heap.size,1,none⟩ (.slice i F r)).setCell ⟨w.heap.size,2,none⟩ (.slice ba x.keys.length ak)).setCell ⟨w.heap.size,3,none⟩ (.slice be x.lists.length bg));have cr:br.heap[bi]?=some (.deferred (some [])):=by rw [es,rA _ _ _ _ cd,rA _ _ _ _ cd,rA _ _ _ _ cd,rA _ _ _ _ cd];exact dt
      rw [<- es] at R cl bn ej ⊢;refine ⟨by simp,.inl ⟨_,_,rfl,run_takeDeferred cr,?_⟩⟩;have gg:(br.putObj bi (.deferred none)).heap[w.heap.size]?=some (.cells #[.slice m E q,.slice i F r,.slice ba x.keys.length ak,.slice be x.lists.length bg] 62 (0,0)):=(World.putObj_heap_other (Ne.symm cd)).trans R;refine ⟨_,aG (P:=prog) rfl _ _ w.heap.size 62 _ (0,0) _ rfl gg underlying62 rfl (by kernel_rfl),?_⟩;have eg:qay w.heap.size br (br.putObj bi (.deferred none)):=⟨by simp,fun k U=>World.putObj_heap_other (by omega),fun k cs t fr U _=>(World.putObj_heap_other (by rintro rfl;rw [cr] at U;cases U)).trans U⟩;have ef:=qbU.firm (N:=w.heap.size) (aA _) br bi _ (.deferred none) (by omega) cr rfl cl;have ga:=qaE.belowW (N:=w.heap.size) (aA _) br bi _ (.deferred none) (by omega) cr rfl ej;refine ⟨m,q,i,r,ba,ak,be,bg,by rw [<- bo.o,<- bp.o],⟨(db.o.keep (.inr rfl) (bn.trans eg)).row,(du.o.keep (.inr rfl) (bn.trans eg)).row,ef.rows.1,ef.rows.2⟩,ga⟩
    case stop=>
      rintro bi c pre W _ _ g5 _;exact g5.elim
section
variable {E T t:TypeId} {w w':World} {A:Option Addr} {xs:List Value}
def qat.keepN (d:qat 0 t w A xs) (h:qar E w w') (i:t≠E):qat 0 t w' A xs:=by
 rcases d with d|⟨b,g,e,k,c,l⟩
 ·exact .inl d
 ·rcases c with c|⟨cs,fr,c⟩
  ·omega
  ·have h2:=h.kinds _ _ _ _ c i
   exact .inr ⟨b,g,e,tB k h.size,.inr ⟨cs,fr,h2⟩,fun j u m=>by rw [tC (a:=⟨b,g+j,none⟩) (h2.trans c.symm)];exact l j u m⟩
def qar.keptG (b:qar E w w') (d:¬ PoK E):qay 0 w w':=⟨b.size,fun k a=>absurd a (Nat.not_lt_zero _),fun k cs t fr a c=>b.kinds k cs t fr a fun e=>d (e▸c)⟩
end
structure qdg (w:World) (A1 A2 A3 A4:Option Addr) (x:qai):Prop where
 ids:qat 0 3 w A1 (qaa x.ids)
 seqs:qat 0 3 w A2 (qaa x.seqs)
 keys:qat 0 9 w A3 (qad x.keys)
 lists:∃ cs,LG 0 w x.lists cs/\qat 0 71 w A4 cs
section
variable {E:TypeId} {w w':World} {A1 A2 A3 A4:Option Addr} {x:qai}
def qdg.keepN (b:qdg w A1 A2 A3 A4 x) (a:qar E w w') (h1:3≠E) (h2:9≠E) (h3:71≠E) (d:74≠E):qdg w' A1 A2 A3 A4 x:=by
 have ⟨cs,g,c⟩:=b.lists;exact ⟨b.ids.keepN a h1,b.seqs.keepN a h1,b.keys.keepN a h2,cs,g.keep (a.keptG fun e=>Or.elim e (fun e=>d e.symm) fun e=>h1 e.symm),c.keepN a h3⟩
def qdg.below (a:qdg w A1 A2 A3 A4 x) (b:wG w w'):qdg w' A1 A2 A3 A4 x:=a.keepN (E:=43) (qar.of_below b) (by decide) (by decide) (by decide) (by decide)
def qdg.pat (a:qdg w A1 A2 A3 A4 x):PAt w w.heap.size A1 A2 A3 A4 x:=by
 have ⟨cs,c,b⟩:=a.lists;exact ⟨a.ids.row,a.seqs.row,a.keys.row,cs,c.cells,b.row⟩
end
def qrp (x:qai) (w:World) (e:Ending) (w':World):Prop:=∃ A1 d A2 c A3 a A4 b,e= .returned (.agg #[.slice A1 x.ids.length d,.slice A2 x.seqs.length c,.slice A3 x.keys.length a,.slice A4 x.lists.length b])/\(x.ids.length<=d/\x.seqs.length<=c/\x.keys.length<=a/\x.lists.length<=b/\a<=maxLen)/\qdg w' A1 A2 A3 A4 x/\wG w w'
structure qfB (t:TypeId) (w w':World):Prop where
 size:w.heap.size<=w'.heap.size
 kind:∀ (k:Nat) (cs:Array Value) (fr:Nat × Nat),w.heap[k]?=some (.cells cs t fr)->w'.heap[k]?=some (.cells cs t fr)
def qar.keptT (a:qar E w w') (b:t≠E):qfB t w w':=⟨a.size,fun k cs fr c=>a.kinds k cs t fr c b⟩
def qat.keepT (d:qat 0 t w A xs) (h:qfB t w w'):qat 0 t w' A xs:=by
 rcases d with d|⟨b,g,e,i,c,k⟩
 ·exact .inl d
 ·rcases c with c|⟨cs,fr,c⟩
  ·omega
  ·have h2:=h.kind _ _ _ c
   exact .inr ⟨b,g,e,tB i h.size,.inr ⟨cs,fr,h2⟩,fun j u l=>by rw [tC (a:=⟨b,g+j,none⟩) (h2.trans c.symm)];exact k j u l⟩
structure qb3 (B:Nat) (X:Nat->Prop) (w w':World):Prop where
 os:w'.os=w.os
 tape:w'.tape=w.tape
 output:w'.output=w.output
 size:w.heap.size<=w'.heap.size
 block:∀ k,k<B->¬ X k->w'.heap[k]?=w.heap[k]?
section
variable {B c:Nat} {X:Nat->Prop} {w0 w w':World}
def qb3.refl (B:Nat) (X:Nat->Prop) (w:World):qb3 B X w w:=⟨rfl,rfl,rfl,aA _,fun _ _ _=>rfl⟩
def qb3.then (b:qb3 B X w0 w) (a:Below c w w') (g:B<=c):qb3 B X w0 w':=⟨a.os.trans b.os,a.tape.trans b.tape,a.output.trans b.output,lA b.size a.size,fun k e d=>(a.block k (by omega)).trans (b.block k e d)⟩
def qb3.to (a:qb3 B X w0 w) (e:c<=B) (b:∀ k,k<c->¬ X k):Below c w0 w:=⟨a.os,a.tape,a.output,a.size,fun k d=>a.block k (by omega) (b k d)⟩
def qb3.setCell (a:qb3 B X w0 w) {p:Addr} (d:B<=p.block\/X p.block) (u:Value):qb3 B X w0 (w.setCell p u):=
 ⟨a.os,a.tape,a.output,by simpa using a.size,fun k c b=>(rA _ _ _ _ (by rintro rfl;exact d.elim (fun e=>Nat.not_lt_of_le e c) b)).trans (a.block k c b)⟩
def qb3.grown {row:Option Nat} (b:qb3 B X w0 w) (a:w.grownBy w' row) (d:B<=w.heap.size) (c:∀ k,row=some k->B<=k):qb3 B X w0 w':=b.then ((bA B w).grown a d c) (aA _)
end
structure qa3 (T:TypeId) (X:Nat->Prop) (b1 zz P:Nat) (v1 v2 v3 v4:Value) (x:qai) (w0 w:World):Prop where
 cell:w.heap[P]?=some (.cells #[v1,v2,v3,v4] T (0,0))
 ids:w.ownsRow b1 3 1 v1 x.ids.length (qaa x.ids)
 seqs:w.ownsRow b1 3 1 v2 x.seqs.length (qaa x.seqs)
 keys:w.ownsRow zz 9 1 v3 x.keys.length (qad x.keys)
 lists:∃ cs,w.ownsRow zz 71 1 v4 x.lists.length cs/\LG 0 w x.lists cs
 apart:∀ g,v1.ownBlock=some g->v2.ownBlock≠some g
 le:zz<=P\/X P
 size:zz<=w.heap.size
 stay:qb3 zz X w0 w
def NoP (T:TypeId):Prop:=T≠3/\T≠9/\T≠71/\T≠74
section
variable {T:TypeId} {X:Nat->Prop} {b1 zz P:Nat} {v1 v2 v3 v4 v':Value} {x:qai} {w0 w w':World}
def qrq (b:w.heap[P]?=some (.cells #[.slice none 0 0,.slice none 0 0,.slice none 0 0,.slice none 0 0] T (0,0))) (d:zz<=P\/X P) (c:zz<=w.heap.size) (a:qb3 zz X w0 w):qa3 T X b1 zz P (.slice none 0 0) (.slice none 0 0) (.slice none 0 0) (.slice none 0 0) ⟨[],[],[],[]⟩ w0 w:=
 ⟨b,vA _ _ _ _,vA _ _ _ _,vA _ _ _ _,⟨[],vA _ _ _ _,LG.nil⟩,fun g a=>(by cases a),d,c,a⟩
def qa3.lt (a:qa3 T X b1 zz P v1 v2 v3 v4 x w0 w):P<w.heap.size:=(gA.1 a.cell).1
def qa3.later (a:qa3 T X b1 zz P v1 v2 v3 v4 x w0 w) (b:wG w w'):qa3 T X b1 zz P v1 v2 v3 v4 x w0 w':=by
 have ⟨cs,d,c⟩:=a.lists;exact ⟨(b.block P a.lt).trans a.cell,qaf a.ids b,qaf a.seqs b,qaf a.keys b,⟨cs,qaf d b,c.keep (.of_below b (kA _))⟩,a.apart,a.le,lA a.size b.size,a.stay.then b a.size⟩
def qa3.put (b:NoP T) (a:qa3 T X b1 zz P v1 v2 v3 v4 x w0 w) (o:Nat) (v:Value):(w.setCell ⟨P,o,none⟩ v).ownsRow b1 3 1 v1 x.ids.length (qaa x.ids)/\(w.setCell ⟨P,o,none⟩ v).ownsRow b1 3 1 v2 x.seqs.length (qaa x.seqs)/\(w.setCell ⟨P,o,none⟩ v).ownsRow zz 9 1 v3 x.keys.length (qad x.keys)/\
  (∃ cs,(w.setCell ⟨P,o,none⟩ v).ownsRow zz 71 1 v4 x.lists.length cs/\LG 0 (w.setCell ⟨P,o,none⟩ v) x.lists cs)/\qar T w (w.setCell ⟨P,o,none⟩ v)/\qb3 zz X w0 (w.setCell ⟨P,o,none⟩ v):=by
 have c:qar T w (w.setCell ⟨P,o,none⟩ v):=qar.cell a.cell v;have ⟨cs,g,d⟩:=a.lists;exact ⟨qaM a.ids c b.1.symm,qaM a.seqs c b.1.symm,qaM a.keys c b.2.1.symm,⟨cs,qaM g c b.2.2.1.symm,d.keep (c.keptG fun e=>Or.elim e b.2.2.2 b.1)⟩,c,a.stay.setCell (p:=⟨P,o,none⟩) a.le _⟩
def qa3.id (c:NoP T) (b:qa3 T X zz zz P v1 v2 v3 v4 x w0 w) (h3:x.keys=[]) (t:x.lists=[]) {n:Nat} {a:Int} (r:n=x.ids.length) (v:w'.ownsRow zz 3 1 v' (n+1) (qaa x.ids++[.int .i64 a])) (h:w.grownBy w' v1.ownBlock) (y:∀ g,v'.ownBlock=some g->v1.ownBlock=some g\/w.heap.size<=g):
  (w'.cell? ⟨P,0,none⟩=some v1/\w'.frozen? ⟨P,0,none⟩=false)/\qa3 T X zz zz P v' v2 v3 v4 ⟨x.ids++[a],x.seqs,x.keys,x.lists⟩ w0 (w'.setCell ⟨P,0,none⟩ v'):=by
 subst r;have d:=qar.grown b.ids h;have j:w'.heap[P]?=some (.cells #[v1,v2,v3,v4] T (0,0)):=d.kinds _ _ _ _ b.cell c.1;have ⟨z,q2⟩:=qaw j;have e:qaa (x.ids++[a])=qaa x.ids++[.int .i64 a]:=by simp [qaa]
 have q:w'.ownsRow zz 3 1 v2 x.seqs.length (qaa x.seqs):=qaq b.seqs fun g m=>h.block g (b.seqs.lt g m).2 fun e=>b.apart g e.symm m
 have ⟨cs,A,l⟩:=b.lists;have s:qa3 T X zz zz P v' v2 v3 v4 ⟨x.ids++[a],x.seqs,x.keys,x.lists⟩ w0 (w'.setCell ⟨P,0,none⟩ v'):=by
  have i:qar T w' (w'.setCell ⟨P,0,none⟩ v'):=qar.cell j v';refine ⟨by simpa using lB w' P 0 _ _ v' j,?_,qaM q i c.1.symm,qaM (qaM b.keys d (by decide)) i c.2.1.symm,⟨cs,qaM (qaM A d (by decide)) i c.2.2.1.symm,?_⟩,fun g h1 h2=> ?_,b.le,by have :=h.size;have :=b.size;simp;omega,(b.stay.grown h b.size fun k d=>(b.ids.lt k d).1).setCell (p:=⟨P,0,none⟩) b.le _⟩
  ·rw [iA,bB,e]
   exact qaM v i c.1.symm
  ·rw [t] at l ⊢
   have :cs=[]:=sB (by rw [l.1];rfl);subst this;exact LG.nil
  ·rcases y g h1 with h3|h3
   ·exact b.apart g h3 h2
   ·have :=(b.seqs.lt g h2).2;omega
 exact ⟨⟨z.1,q2.1⟩,s⟩
def qa3.seq (c:NoP T) (b:qa3 T X zz zz P v1 v2 v3 v4 x w0 w) (h3:x.keys=[]) (t:x.lists=[]) {n:Nat} {a:Int} (r:n=x.seqs.length) (v:w'.ownsRow zz 3 1 v' (n+1) (qaa x.seqs++[.int .i64 a])) (h:w.grownBy w' v2.ownBlock) (y:∀ g,v'.ownBlock=some g->v2.ownBlock=some g\/w.heap.size<=g):
  (w'.cell? ⟨P,1,none⟩=some v2/\w'.frozen? ⟨P,1,none⟩=false)/\qa3 T X zz zz P v1 v' v3 v4 ⟨x.ids,x.seqs++[a],x.keys,x.lists⟩ w0 (w'.setCell ⟨P,1,none⟩ v'):=by
 subst r;have d:=qar.grown b.seqs h;have j:w'.heap[P]?=some (.cells #[v1,v2,v3,v4] T (0,0)):=d.kinds _ _ _ _ b.cell c.1;have ⟨z,q2⟩:=qaw j;have e:qaa (x.seqs++[a])=qaa x.seqs++[.int .i64 a]:=by simp [qaa]
 have q:w'.ownsRow zz 3 1 v1 x.ids.length (qaa x.ids):=qaq b.ids fun g m=>h.block g (b.ids.lt g m).2 fun e=>b.apart g m e.symm
 have ⟨cs,A,l⟩:=b.lists;have s:qa3 T X zz zz P v1 v' v3 v4 ⟨x.ids,x.seqs++[a],x.keys,x.lists⟩ w0 (w'.setCell ⟨P,1,none⟩ v'):=by
  have i:qar T w' (w'.setCell ⟨P,1,none⟩ v'):=qar.cell j v';refine ⟨by simpa using lB w' P 1 _ _ v' j,qaM q i c.1.symm,?_,qaM (qaM b.keys d (by decide)) i c.2.1.symm,⟨cs,qaM (qaM A d (by decide)) i c.2.2.1.symm,?_⟩,fun g h1 h2=> ?_,b.le,by have :=h.size;have :=b.size;simp;omega,(b.stay.grown h b.size fun k d=>(b.seqs.lt k d).1).setCell (p:=⟨P,1,none⟩) b.le _⟩
  ·rw [iA,bB,e]
   exact qaM v i c.1.symm
  ·rw [t] at l ⊢
   have :cs=[]:=sB (by rw [l.1];rfl);subst this;exact LG.nil
  ·rcases y g h2 with h3|h3
   ·exact b.apart g h1 h3
   ·have :=(b.ids.lt g h1).2;omega
 exact ⟨⟨z.2.1,q2.2.1⟩,s⟩
def qa3.key (b:NoP T) (a:qa3 T X b1 zz P v1 v2 v3 v4 x w0 w) {n:Nat} {k:Nm} (i:n=x.keys.length) (l:w'.ownsRow zz 9 1 v' (n+1) (qad x.keys++[.string ⟨k.toArray⟩])) (g:w.grownBy w' v3.ownBlock):
  (w'.cell? ⟨P,2,none⟩=some v3/\w'.frozen? ⟨P,2,none⟩=false)/\qa3 T X b1 zz P v1 v2 v' v4 ⟨x.ids,x.seqs,x.keys++[k],x.lists⟩ w0 (w'.setCell ⟨P,2,none⟩ v'):=by
 subst i;have c:=qar.grown a.keys g;have h:w'.heap[P]?=some (.cells #[v1,v2,v3,v4] T (0,0)):=c.kinds _ _ _ _ a.cell b.2.1;have ⟨m,q2⟩:=qaw h;have e:qad (x.keys++[k])=qad x.keys++[.string ⟨k.toArray⟩]:=by simp [qad]
 have d:qar T w' (w'.setCell ⟨P,2,none⟩ v'):=qar.cell h v';have ⟨cs,q,j⟩:=a.lists;refine ⟨⟨m.2.2.1,q2.2.2.1⟩,by simpa using lB w' P 2 _ _ v' h,qaM (qaM a.ids c (by decide)) d b.1.symm,qaM (qaM a.seqs c (by decide)) d b.1.symm,?_,⟨cs,qaM (qaM q c (by decide)) d b.2.2.1.symm,(j.keep (c.keptG (by unfold PoK;decide))).keep (d.keptG fun e=>Or.elim e b.2.2.2 b.1)⟩,a.apart,a.le,by have :=g.size;have :=a.size;simp;omega,(a.stay.grown g a.size fun k c=>(a.keys.lt k c).1).setCell (p:=⟨P,2,none⟩) a.le _⟩;rw [iA,bB,e];exact qaM l d b.2.1.symm
def qa3.list (b:NoP T) (a:qa3 T X b1 zz P v1 v2 v3 v4 x w0 w) {n:Nat} {l:List Pn} {A:Option Addr} {c:Nat} (m:n=x.lists.length) (q:l.length<=c/\c<=maxLen) (v:qbn 0 w A l) {cs:List Value} (j:w.ownsRow zz 71 1 v4 n cs) (r:LG 0 w x.lists cs) (s:w'.ownsRow zz 71 1 v' (n+1) (cs++[.slice A l.length c])) (h:w.grownBy w' v4.ownBlock):
  (w'.cell? ⟨P,3,none⟩=some v4/\w'.frozen? ⟨P,3,none⟩=false)/\qa3 T X b1 zz P v1 v2 v3 v' ⟨x.ids,x.seqs,x.keys,x.lists++[l]⟩ w0 (w'.setCell ⟨P,3,none⟩ v'):=by
 subst m;have d:=qar.grown j h;have i:w'.heap[P]?=some (.cells #[v1,v2,v3,v4] T (0,0)):=d.kinds _ _ _ _ a.cell b.2.2.1;have ⟨t,q2⟩:=qaw i;have g:qar T w' (w'.setCell ⟨P,3,none⟩ v'):=qar.cell i v';refine ⟨⟨t.2.2.2,q2.2.2.2⟩,by simpa using lB w' P 3 _ _ v' i,qaM (qaM a.ids d (by decide)) g b.1.symm,qaM (qaM a.seqs d (by decide)) g b.1.symm,qaM (qaM a.keys d (by decide)) g b.2.1.symm,⟨_,?_,((r.snoc q v).keep (d.keptG (by unfold PoK;decide))).keep (g.keptG fun e=>Or.elim e b.2.2.2 b.1)⟩,a.apart,a.le,by have :=h.size;have :=a.size;simp;omega,(a.stay.grown h a.size fun k d=>(j.lt k d).1).setCell (p:=⟨P,3,none⟩) a.le _⟩;rw [iA,bB];exact qaM s g b.2.2.1.symm
def qa3.keysIn (b:NoP T) (a:qa3 T X b1 zz P v1 v2 v3 v4 x w0 w) {bk:Nat} {ks:List Nm} (i:w.ownsRow bk 9 1 v' ks.length (qad ks)) (c:zz<=bk):qa3 T X b1 zz P v1 v2 v' v4 ⟨x.ids,x.seqs,ks,x.lists⟩ w0 (w.setCell ⟨P,2,none⟩ v'):=by
 have ⟨j,e,_,h,d,g⟩:=a.put b 2 v';exact ⟨by simpa using lB w P 2 _ _ v' a.cell,j,e,qaM (qbk i c) d b.2.1.symm,h,a.apart,a.le,by have :=a.size;simpa using this,g⟩
def qa3.typ (b:qa3 T X b1 zz P v1 v2 v3 v4 x w0 w):∃ A1 d A2 e A3 a A4 c,v1= .slice A1 x.ids.length d/\v2= .slice A2 x.seqs.length e/\v3= .slice A3 x.keys.length a/\v4= .slice A4 x.lists.length c/\(x.ids.length<=d/\x.seqs.length<=e/\x.keys.length<=a/\x.lists.length<=c/\a<=maxLen)/\qdg w A1 A2 A3 A4 x:=by
 have h1:=b.ids;have h2:=b.seqs;have h3:=b.keys;have ⟨cs,g,n⟩:=b.lists;have ⟨A1,d,p,r,_⟩:=qaK h1;have ⟨A2,e,i,k,_⟩:=qaK h2;have ⟨A3,a,q,⟨j,m⟩,_⟩:=qeo h3;have ⟨A4,c,h,l,_⟩:=qaK g;subst p i q h;exact ⟨A1,d,A2,e,A3,a,A4,c,rfl,rfl,rfl,rfl,⟨r,k,j,l,m⟩,.of_own h1,.of_own h2,.of_own h3,cs,n,.of_own g⟩
end
def qrr (Ls:List (List En)) (w:World) (e:Ending) (w':World):Prop:=∃ B a vs,e= .returned (.pointer (some ⟨B,0,none⟩))/\qce w' B 0 (qbo (Ls.map qah)) a/\qeN w.heap.size (qbo (Ls.map qah)) a (qbv Ls) vs w'/\wG w w'
def qrs (Ls:List (List En)) (w:World) (b m lo:Nat) (a:Value) (wr:World):Prop:=∃ k:Nat,a= .int .i64 (k:Int)/\lo<=wr.heap.size/\qeI (Ls.map qah) w b m lo k wr
structure qjj (w3:World) (T N i:Nat) (Gs:List Nat) (wr:World):Prop where
 own:wr.ownsRow w3.heap.size 157 1 (.slice (some ⟨T,0,none⟩) N N) N (qbD Gs++List.replicate (N-i) (.pointer none))
 glen:Gs.length=i
 le:i<=N
 cells:∀ q (h:q<Gs.length),wr.heap[Gs[q]]?=some (.cells #[qbg] 159 (0,0))
 once:Gs.Nodup
 low:∀ g∈Gs,w3.heap.size<=g
 below:wG w3 wr
def qjj.step {w3:World} {T:Nat} {h:List Nat} (b:qjj w3 T N i h wr) (v:i<N):
  wr.cell? ⟨T,i,none⟩=some (.pointer none)/\wr.frozen? ⟨T,i,none⟩=false/\qjj w3 T N (i+1) (h++[wr.heap.size]) ((wr.setCell ⟨T,i,none⟩ (.pointer (some ⟨wr.heap.size,0,none⟩))).alloc (.cells #[qbg] 159)):=by
 have t:(qbD h).length=i:=by simp [qbD,b.glen]
 have w:=b.own.lt T rfl;have j:∃ cs,wr.heap[T]?=some (.cells cs 157 (0,0)):=qfO b.own rfl;obtain ⟨C,j⟩:=j;refine ⟨?_,b.own.frozenAt i,?_⟩
 ·rw [b.own.cellAt i (by omega),oC (by omega),t,bE,show N-i=(N-i-1)+1 by omega,List.replicate_succ]
  rfl
 ·have s:=(b.own.stored i (.pointer (some ⟨wr.heap.size,0,none⟩))).1
  have A:(qbD h++List.replicate (N-i) (Value.pointer none)).set i (Value.pointer (some ⟨wr.heap.size,0,none⟩))=qbD (h++[wr.heap.size])++List.replicate (N-(i+1)) (Value.pointer none):=by
   have :=qhw (a:=qbD h) (n:=N-i) (d:=Value.pointer none) (x:=Value.pointer (some ⟨wr.heap.size,0,none⟩)) (by omega);rw [t] at this;rw [this,show N-i-1=N-(i+1) by omega];simp [qbD]
  rw [A] at s;have l:(wr.setCell ⟨T,i,none⟩ (.pointer (some ⟨wr.heap.size,0,none⟩))).heap.size=wr.heap.size:=by simp [World.setCell]
  refine ⟨s.alloc _,by simp [b.glen],v,fun q k=> ?_,?_,?_,?_⟩
  ·by_cases r:q<h.length
   ·have c:=b.cells q r
    have z:=(gA.1 c).1;rw [cF r,pB _ _ _ (by rw [l];exact z),rA _ _ _ _ (fun e=> ?_),c];simp only at e;rw [e,j] at c;injection c with c
    injection c with _ c
    exact absurd c (by decide)
   ·have e:q=h.length:=by rw [iA,bB] at k;omega
    subst e;have :=jA (wr.setCell ⟨T,i,none⟩ (.pointer (some ⟨wr.heap.size,0,none⟩))) (.cells #[qbg] 159);rw [l] at this;simpa using this
  ·rw [List.nodup_append]
   refine ⟨b.once,by simp,fun x B y m e=> ?_⟩;rw [yB] at m;subst m;obtain ⟨q,k,rfl⟩:=nC B;have :=(gA.1 (b.cells q k)).1;omega
  ·intro g hg
   rcases aC.1 hg with hg|hg
   ·exact b.low g hg
   ·rw [yB.1 hg]
    exact b.below.size
  ·exact (b.below.setCell (p:=⟨T,i,none⟩) w.1 _).alloc (by rw [l];exact b.below.size) _
def qlZ (w3:World) (T N:Nat) (a:Value) (wr:World):Prop:=∃ i b,a= .int .i64 ((i:Nat):Int)/\qjj w3 T N i b wr
structure qrt (ks:List (List Nm)) (names:List Nm) (w3:World) (B zz i j:Nat) (Gs:List Nat) (wr:World):Prop where
 owners:∃ vs,qeN w3.heap.size names Gs (asJ ks i j) vs wr
 dict:qfs wr zz B names Gs
 below:wG w3 wr
def ql0 (ks:List (List Nm)) (a:List Nm) (w3:World) (B zz:Nat) (c:List Nat) (b:Value) (wr:World):Prop:=∃ i:Nat,i<=ks.length/\b= .int .i64 (i:Int)/\qrt ks a w3 B zz i 0 c wr
def ql1 (ks:List (List Nm)) (a:List Nm) (w3:World) (B zz i:Nat) (c:List Nat) (b:Value) (wr:World):Prop:=∃ j:Nat,j<=(ks.getD i []).length/\b= .int .i64 (j:Int)/\qrt ks a w3 B zz i j c wr
def qBT {e:TypeId} {size:Nat} (i:w.ownsRow b e size v n xs) (d:w.grownBy w' v.ownBlock) {k:Nat} {cs:Array Value} {t:TypeId} {fr:Nat × Nat} (c:w.heap[k]?=some (.cells cs t fr)) (g:t≠e):w'.heap[k]?=some (.cells cs t fr):=by
 rw [d.block k (gA.1 c).1 ?_,c];intro h;have ⟨cs',a⟩:=qfO i h.symm;rw [c] at a;injection a with a
 injection a with _ a
 exact g a
def qBU (ks:List (List Nm)) (i j:Nat) (a:Nm):(asJ ks i j a).length<=i+1:=by
 unfold asJ;have h1:=wD (fun x=>decide (a∈ks.getD x [])) (List.range i);rw [List.length_range] at h1;rw [iA];by_cases b:a∈(ks.getD i []).take j
 ·rw [eA b,bB];omega
 ·rw [dA b,vB];omega
def qBV (A:Option Addr) (m c:Nat) (Ls:List (List En)) (w:World) (cm:qet w A Ls) (bv:Ls.length=m) (fe:m<=1000) (b1:(Ls.map qah).flatten.length<=100000):
    yG 84 #[.slice A m c] w (qrr Ls w):=by
  obtain ⟨ez,e5,d0,dm,e9⟩:=lG qoh;obtain ⟨ds,em,dg,er,eg⟩:=lG qAq;obtain ⟨eu,eb,ei,en,d5⟩:=lG qc4;have be:(Ls.map qah).length=m:=by simp [bv]
  obtain ⟨ev,dc,a3,ce⟩:=tF (P:=prog) w w.heap.size 93 40 ez _ 1 underlying93 e5 d0 dm .i64 .i64 m (by rw [e9];omega) (by unfold maxLen;omega) (aA _);have al:(madeCells (Value.slice none 0 0).cells (m*1)).toList=List.replicate m qbg:=by
    rw [show (Value.slice none 0 0).cells=#[.slice none 0 0] from rfl,pF,Nat.mul_one]
  rw [al] at a3;have X:qrs Ls w w.heap.size m (w.heap.size+1) (.int .i64 0) ev:=⟨0,rfl,(a3.lt _ rfl).2,qeI.begin2 a3 (Nat.lt_succ_self _) be ((bA _ w).grown ce (aA _) (fun k h=>by cases h))⟩;obtain ⟨aa,c4⟩:=qE w.heap.size;rw [<- c4] at dc X;have c7:=qH X;have dy:=qH cm;have co:=qH bv;have ej:=qH be;have d3:=qH b1;clear X a3 ce al cm bv be b1 c4
  go_enter func84,ntmps84
  go_wp2;clear dc
  go_loopw [4,5,21] (fun u4 u5 y wr=>qrs Ls w aa m (aa+1) y wr) (fun _ _ y _=>m-(intOf y).toNat)
  case atStart=>exact c7.o
  case round=>
    clear c7;obtain ⟨k,rfl,bf,Q⟩:=hrel;obtain ⟨_,_,ah,cq⟩:=Q.low;by_cases c0:k<m
    · have fa:k<Ls.length:=by rw [co.o];exact c0
      obtain ⟨b,e3,S,rfl,e4,ag,b9⟩:=(dy.o).at_ fa;have ay:=(ah.cell (p:=⟨b,e3+k,none⟩) e4).trans ag;have ac:=qBN (b9.below ah);have a6:∀ an:k<(Ls.map qah).length,(Ls.map qah)[k]=(qac Ls[k]).keys:=fun an=>by rw [eC];rfl
      obtain ⟨x,aw⟩:=qE ((qac Ls[k]).keys);rw [<- aw] at ac a6;have a0:=qH ac;have e7:=qH a6;have dk:=qH Q;have c1:=qH bf;have fz:(k:Int)<(m:Int):=by omega
      clear Q bf ah b9 a6 ag cq ac aw
      go_wp2_with (go_at_call 25; refine (a0.o).mono ?_; rintro e d ⟨v, rfl, Z, O⟩
                   obtain ⟨fl,f3,cw,c3,rfl,ft,fn,F,cb⟩:=(dk.o).put c0 c1.o O (e7.o) Z;have di:=qH cb;have d6:qI (aa+1<=d.heap.size):=qH (lA c1.o O.size);clear Z cb F O)
      go_roundw
      case rel=>exact ⟨k+1,by go_num,by simpa [World.setCell] using d6.o,di.o⟩
      case measure=>simp [intOf];omega
    · have dr:k=m:=by omega
      subst dr;obtain ⟨ks,ak⟩:=qE (Ls.map qah);rw [<- ak] at Q;have bp:=qH ak;have cd:ks.flatten.length<=100000:=by rw [ak];exact d3.o
      have a9:ks.length=k:=by rw [ak];exact ej.o
      have bj:=Q.all;have a0:=qH (qxK (some ⟨aa,0,none⟩) k k ks wr a9 fe (aA _) (by unfold maxLen;omega) (qoj bj) cd);obtain ⟨a,W⟩:=qE (qbo ks);rw [<- W] at a0;have cx:a.length<=100000:=by
        have :=qgA ks.flatten [];rw [W];unfold qbo;simp only [vB,Nat.add_zero] at this;omega
      have ar:=qH W;have eo:=qH bj;have bq:=qH a9;have e8:=qH cx;have ch:=qH ah;obtain ⟨N,c9⟩:=qE a.length;have fq:N<=100000:=by omega
      have L:=qH c9;clear Q bj cd a9 W ak cx ah c9 bf cq
      go_wp2_with (go_at_call 132; refine (a0.o).mono ?_; rintro e d ⟨v, rfl, Z, O⟩
                   obtain ⟨ek,ey,rfl,es,fh,F⟩:=qaU Z;rw [<- L.o] at es;have d7:=qH F;have d8:=qH O;have dt:=qH ((eo.o).later O);obtain ⟨el,fd,bg,dd⟩:=tF (P:=prog) d d.heap.size 222 157 ds _ 1 underlying222 em dg er .i64 .i64 N (by rw [eg];omega) (by unfold maxLen;omega) (aA _);have al:(madeCells (Value.pointer none).cells (N*1)).toList=List.replicate N (Value.pointer none):=(by
                     rw [show (Value.pointer none).cells=#[Value.pointer none] from rfl,pF,Nat.mul_one])
                   rw [al] at bg
                   try rw [<- L.o]
                   clear Z F O)
      have bm:qlZ d d.heap.size N (.int .i64 0) el:=⟨0,[],rfl,by simpa [qbD] using bg,rfl,kA _,fun q an=>by simp at an,List.Pairwise.nil,fun g an=>by simp at an,(bA _ d).grown dd (aA _) (fun k h=>by cases h)⟩;obtain ⟨T,bc⟩:=qE d.heap.size;rw [<- bc] at bm
      try rw [<- bc]
      have cy:=qH bm;clear bm bg dd al fd bc
      go_loopw [8,39] (fun u8 y wr=>qlZ d T N y wr) (fun _ y _=>N-(intOf y).toNat)
      case atStart=>exact cy.o
      case round=>
        clear cy;obtain ⟨i,D,rfl,s⟩:=hrel;by_cases ew:i<N
        · obtain ⟨ac,ad,X⟩:=s.step ew
          have M:=qH (show qlZ d T N (.int .i64 ((i:Int)+1)) _ from ⟨i+1,_,by go_num,X⟩)
          have f2:(i:Int)<(N:Int):=by omega
          have db:=(s.own.lt T rfl).2;have fo:∀ z,(wr.alloc z).cell? ⟨T,i,none⟩=some (.pointer none):=fun z=>(((bA wr.heap.size wr).alloc (aA _) z).cell (p:=⟨T,i,none⟩) db).trans ac
          have f1:∀ z,(wr.alloc z).frozen? ⟨T,i,none⟩=false:=fun z=>(((bA wr.heap.size wr).alloc (aA _) z).frozen (p:=⟨T,i,none⟩) db).trans ad
          clear X s;go_wp2;go_roundw
          case rel=>exact M.o
          case measure=>simp [intOf];omega
        · have dx:i=N:=by have :=s.le;omega
          subst dx;have G:=s.own;rw [bE,List.replicate_zero,mC] at G;have b4:qdB a=true:=by rw [ar.o];exact qgx.2 (qga _)
          obtain ⟨fs,fv,e,fj,fi,df⟩:=qaU G;injection e with H _ ab
          subst H ab;have dp:=qH (qxC ek (some ⟨T,0,none⟩) i ey i a D wr (((d7.o).below s.below).more s.below.size) (L.o).symm (by omega) df s.glen b4);have cl:=qH s;have e2:=qH s.low;clear s G df b4
          go_wp2_with (go_at_call 133; refine (dp.o).mono ?_; rintro e dq ⟨B, rfl, cn, af⟩
                       have aq:=qH cn;have et:=qH af;clear cn af)
          obtain ⟨zz,de⟩:=qE wr.heap.size;rw [<- de] at aq;have ci:ql0 ks a d B zz D (.int .i64 0) dq:=by
            have s:=cl.o;have af:=et.o;have H:(a.map fun n=>(asJ ks 0 0 n).length)=List.replicate i 0:=by
              rw [L.o];simp only [qqM,vB];exact List.map_const' ..
            have ab:(a.map fun n=>qeM (asJ ks 0 0 n))=List.replicate i []:=by
              rw [L.o];simp only [qqM];exact List.map_const' ..
            refine ⟨0,kA _,rfl,⟨List.replicate i qbg,by rw [s.glen,L.o],by rw [rE,L.o],fun q h1 h2=> ?_,?_,s.once⟩,aq.o,s.below.trans (af.mono s.below.size)⟩
            · have b2:=s.cells q h1
              rw [af.block _ (gA.1 b2).1,b2];simp
            · rw [H,ab]
              exact qkj _ _ _ _ _
          have c2:=qH ci;have bs:qI (wG w d):=qH ((ch.o).trans ((d8.o).mono (ch.o).size));clear ci cl de
          go_loopw [11,13,14,15,56,62,63,64,68] (fun u11 u13 u14 u15 y u62 u63 u64 u68 wr=>ql0 ks a d B zz D y wr) (fun _ _ _ _ y _ _ _ _ _=>k-(intOf y).toNat)
          case atStart=>exact c2.o
          case round=>
            clear c2;obtain ⟨x,aw,rfl,r⟩:=hrel;rw [bq.o] at aw;by_cases ee:x<k
            · have bt:x<ks.length:=by rw [bq.o];exact ee
              obtain ⟨b0,fr,f0,fw,H,ep,ag,⟨ct,dh⟩,bl⟩:=(dt.o).at_ bt;injection H with H
              injection H with H ab
              subst H ab;have ay:=(r.below.cell (p:=⟨aa,0+x,none⟩) ep).trans ag;rw [kB] at ay;have au:ks.getD x []=ks[x]:=qaI bt;have cr:qaW (ks.getD x []):=by
                rw [au];simp only [bp.o,eC];exact qgW _
              obtain ⟨l,az⟩:=qE (ks.getD x []);rw [<- au,<- az] at ay ct bl;have cu:∀ I∈l,I∈a:=fun I W=>by
                rw [ar.o,qgz];exact ⟨ks[x],pA bt,by rw [<- au,<- az];exact W⟩
              obtain ⟨n,bo⟩:=qE l.length;rw [<- bo] at ay ct;have cv:ql1 ks a d B zz x D (.int .i64 0) wr:=⟨0,kA _,rfl,r⟩;have ca:=qH cv;have R:=qH az;have a1:=qH bo;have ef:=qH cr;have e1:=qH cu;have ec:=qH bl;have fp:(x:Int)<(k:Int):=by omega
              unfold maxLen at dh;clear cv r az bo cr cu bl au ag;go_wp2
              go_loopw [13,14,15,64,68] (fun u13 u14 u15 y u68 wr=>ql1 ks a d B zz x D y wr) (fun _ _ _ y _ _=>n-(intOf y).toNat)
              case atStart=>exact ca.o
              case round=>
                clear ca;obtain ⟨j,e6,rfl,r⟩:=hrel;rw [<- R.o,<- a1.o] at e6;by_cases fg:j<n
                · have av:j<l.length:=by rw [<- a1.o];exact fg
                  obtain ⟨dz,d2,rfl,dl,c5⟩:=Row.at_ (ec.o) (by simp;omega);have q3:=(r.below.cell (p:=⟨dz,d2+j,none⟩) dl).trans (c5 j (nmV l[j]) (by simp [av]));obtain ⟨key,qaD⟩:=qE (l[j]);rw [<- qaD] at q3;have b6:key∈a:=(e1.o) key (by rw [qaD];exact pA av);obtain ⟨q,U,V⟩:=nC b6;have F:qaW a:=by rw [ar.o];exact qga _
                  obtain ⟨ad,bw⟩:=qmk F U;rw [V] at ad bw;have ai:=qwb B 0 a D ⟨key.toArray⟩ wr r.dict.dictR F (by have :=e8.o;omega);simp only [ad,bw,if_true] at ai;obtain ⟨vs,G⟩:=r.owners;have bb:q<D.length:=by rw [G.glen];exact U
                  have cp:q<vs.length:=by rw [G.vlen];exact U
                  rw [qaI bb] at ai;have K:=G.many.own q cp;obtain ⟨cw,c3,ao,b7,d1,ff⟩:=qaU K;clear ff;have c8:(a.map fun n=>(asJ ks x j n).length)[q]'(by simpa using U)=(asJ ks x j key).length:=by rw [eC,V]
                  have cz:(a.map fun n=>qeM (asJ ks x j n))[q]'(by simpa using U)=qeM (asJ ks x j key):=by rw [eC,V]
                  rw [c8] at ao b7 K;rw [cz] at K;have du:=qBU ks x j key;have bu:=fun I=>qAn (ks:=ks) (i:=x) (j:=j) ef.o (by rw [<- R.o];exact av) I
                  have da:(ks.getD x [])[j]'(by rw [<- R.o];exact av)=a[q]:=by
                    rw [V,qaD];simp only [R.o]
                  simp only [da] at bu;obtain ⟨ax,bh⟩:=qE (D[q]);obtain ⟨nq,bk⟩:=qE ((asJ ks x j key).length);rw [<- bh] at ai;rw [<- bk] at ao b7 K du;rw [ao] at K;have ex:=qH ai;have dj:=qH G;have eq:=qH K;have a4:=qH ao;have ap:=qH bh;have e0:=qH bu;have aq:=qH r.dict;have bd:=qH r.below;have ea:=qH F;have eh:=qH V;have ed:=qH bk;have fu:(j:Int)<(n:Int):=by omega
                  unfold maxLen at d1;clear ai G K ao bh bu r F da c8 cz ad bw b6 qaD c5 V bk
                  go_wp2_with (first
                    | (go_at_call 134; refine (ex.o).mono ?_; rintro e C ⟨rfl, Y⟩
                       have a8:=(dj.o).below Y;have ba:=a8.cells q bb cp;rw [<- ap.o,a4.o] at ba;have fm:=kG ba;have dn:=qH a8;have cj:=qH Y;have c6:=qH (qaf eq.o Y);have br:qI (d.heap.size<=C.heap.size):=qH (lA (bd.o).size Y.size);clear a8 ba Y)
                    | (at_builtin; refine wpList_append_own_at _ rfl (.tmp 78) (.tmp 80) 23 rfl d.heap.size 3 eu _ 1 8 underlying23 eb ei en d5 rfl (by omega) (.slice cw nq c3) nq (qeM (asJ ks x j key)) rfl (c6.o.alloc _) ⟨C.heap.size, 0, none⟩ 1 1 [.int .i64 (x : Int)] rfl rfl (qaH C [.int .i64 (x : Int)] 3) (by intro u ck; simp at ck; subst ck; rfl) (by unfold maxLen; omega) (by omega) (by have := br.o; simp; omega) ?_
                       intro fx b8 bi a5 _ b3;obtain ⟨d4,fc,rfl,_,_,d9⟩:=qaU bi;clear d9;obtain ⟨am,bn⟩:=((dn.o).below ((bA C.heap.size C).alloc (aA _) (.cells #[.int .i64 (x:Int)] 3))).step ea.o U e0.o (by rw [eh.o,<- ed.o];exact bi) (by rw [a4.o];exact a5) (by rw [a4.o];exact b3);rw [<- ap.o,a4.o] at am;rw [<- ap.o] at bn;have fk:=kG am;have fy:=nG am;have dw:=qH bn;have dv:=qH am;have cf:=qH a5;clear bn am bi a5 b3))
                  have a7:wG C (C.alloc (.cells #[.int .i64 (x:Int)] 3)):=(bA C.heap.size C).alloc (aA _) _;have bx:=qaf c6.o a7;have cc:d.heap.size<=ax:=(e2.o) ax (by rw [ap.o];exact pA bb);have J:ql1 ks a d B zz x D (.int .i64 ((j:Int)+1)) (b8.setCell ⟨ax,0,none⟩ (.slice d4 (nq+1) fc)):=by
                    refine ⟨j+1,by rw [<- R.o,<- a1.o];omega,rfl,⟨_,dw.o⟩,?_,?_⟩
                    · refine ((((aq.o).keep (w':=C) fun aj cs t h _=> ?_).keep (w':=C.alloc (.cells #[.int .i64 (x:Int)] 3)) fun aj cs t h _=> ?_).keep (w':=b8) fun aj cs t h a2=> ?_).keep fun aj cs t h a2=> ?_
                      · rw [(cj.o).block aj (gA.1 h).1,h]
                      · rw [a7.block aj (gA.1 h).1,h]
                      · exact qBT bx cf.o h (by rcases a2 with rfl|rfl<;>decide)
                      · rw [rA _ _ _ _ (fun e=> ?_),h]
                        simp only at e;rw [e,dv.o] at h;injection h with h
                        injection h with _ h
                        rw [<- h] at a2;exact absurd a2 (by decide)
                    · exact (((bd.o).trans ((cj.o).mono (bd.o).size)).alloc br.o _).grown cf.o (by have :=br.o;simp;omega) (fun z fb=>(bx.lt z fb).1) |>.setCell (p:=⟨ax,0,none⟩) cc _
                  have M:=qH J;clear J a7 bx cc;go_roundw
                  case rel=>exact M.o
                  case measure=>simp [intOf];omega
                · have b5:j=(ks.getD x []).length:=by have :=a1.o;rw [<- R.o];omega
                  have ae:asJ ks x j=asJ ks (x+1) 0:=funext fun I=>qAo b5 I
                  have J:ql0 ks a d B zz D (.int .i64 ((x:Int)+1)) wr:=by
                    obtain ⟨vs,E⟩:=r.owners;rw [ae] at E;exact ⟨x+1,by rw [bq.o];omega,rfl,⟨vs,E⟩,r.dict,r.below⟩
                  have M:=qH J;clear J ae b5 r;go_wp2;go_roundw
                  case rel=>exact M.o
                  case measure=>simp [intOf];omega
            · have bz:x=Ls.length:=by have :=co.o;omega
              have ae:asJ ks x 0=qbv Ls:=funext fun I=>by rw [bp.o,bz];exact qAp Ls I
              have J:qrr Ls w (.returned (.pointer (some ⟨B,0,none⟩))) wr:=by
                obtain ⟨vs,E⟩:=r.owners;rw [ae] at E;have cg:a=qbo (Ls.map qah):=by rw [ar.o,bp.o]
                refine ⟨B,D,vs,rfl,?_,?_,(bs.o).trans (r.below.mono (bs.o).size)⟩
                · rw [<- cg]
                  exact r.dict.dictR
                · rw [<- cg]
                  exact ⟨E.glen,E.vlen,E.cells,E.many.low (bs.o).size,E.once⟩
              have M:=qH J;clear J ae bz r;go_wp2;go_ret;exact M.o
def qjk (w:World) (B:Nat) (A:Option Addr) (ls:List (List Pn)):Prop:=∃ cs,LG 0 w ls cs/\Row w B A cs
def qjk.at_ {ls:List (List Pn)} (j:qjk w B A ls) {k:Nat} (l:k<ls.length):∃ b c d a,A=some ⟨b,c,none⟩/\b<B/\w.cell? ⟨b,c+k,none⟩=some (.slice d ls[k].length a)/\(ls[k].length<=a/\a<=maxLen)/\qbn 0 w d ls[k]:=by
 obtain ⟨cs,h1,h2⟩:=j;have ⟨d,a,m,g,i⟩:=h1.2 k l;obtain ⟨b,c,rfl,h,e⟩:=h2.at_ (by rw [h1.1];omega);exact ⟨b,c,d,a,rfl,h,e k _ m,g,i⟩
def qdg.lpg {a:Option Addr} {x:qai} (c:qdg w A A' C a x):qjk w w.heap.size a x.lists:=by
 have ⟨cs,d,b⟩:=c.lists;exact ⟨cs,d,b.row⟩
def qru (l:List Pn) (w0 w:World) (e:Ending) (w':World):Prop:=∃ A c,e= .returned (.slice A l.length c)/\(l.length<=c/\c<=maxLen)/\qbn 0 w0 A l/\wG w w'
def qBW (P aa q n:Option Addr) (O M T R a D d z:Nat) (x:qai) (key:ByteArray) (w0 w:World) (K:wG w0 w) (h3:x.keys.length=a) (X:x.lists.length=d) (N:Row w0 w0.heap.size q (qad x.keys)) (Y:qjk w0 w0.heap.size n x.lists) (ay:a<=d) (a1:a<=9223372036854775807):
  yG 44 #[.agg #[.slice P O M,.slice aa T R,.slice q a D,.slice n d z],.string key] w (qru (qcM x key.data.toList) w0 w):=by
 have F:=qH K;have ai:=qH N;have aj:=qH Y;have G:=qH h3;have ah:=qH X;have ⟨V,L⟩:=qE (#[.slice P O M,.slice aa T R,.slice q a D,.slice n d z]:Array Value);have y:=qH L;clear N Y h3 X L K
 go_enter func44,ntmps44
 go_wp2
 go_loopw [4,5] (fun r i wr=>qz2 w V x.keys key r i wr) (fun _ i _=>a-(intOf i).toNat)
 case atStart=>
  refine ⟨rfl,0,kA _,rfl,?_,fun j _ b=>by omega⟩;rw [y.o];exact qz1 w _
 case round=>
  obtain ⟨rfl,k,az,rfl,l,W⟩:=hrel;have h:=l.1;have J:wG w0 wr:=F.o.trans (h.mono F.o.size);have aq:=qH l;have E:=qH W;have q2:wr.cell? ⟨w.heap.size,2,none⟩=some (.slice q a D):=by have :=l.2.2;rw [y.o] at this;exact (qgZ this).2.2.1
  have q3:wr.cell? ⟨w.heap.size,3,none⟩=some (.slice n d z):=by have :=l.2.2;rw [y.o] at this;exact (qgZ this).2.2.2
  clear W l;by_cases ar:k<a
  ·have U:k<x.keys.length:=by rw [G.o];exact ar
   have Q:k<x.lists.length:=by rw [ah.o];omega
   have ⟨a2,a4,al,ax,an⟩:=qdr (ai.o.below J) U;subst al;have ⟨ak,ae,ao,ad,ab,au,A,Z,H⟩:=aj.o.at_ Q
   replace A:=(J.cell (p:=⟨ak,ae+k,none⟩) au).trans A
   subst ab;have a5:(0:Int)<=k:=by omega
   have a0:(k:Int)<a:=by omega
   have a3:(k:Int)<d:=by omega
   have ⟨s,S,v⟩:=qa8 x.keys[k];rw [<- S] at an;have am:=qH H;have af:=qH Z;have ⟨m,B⟩:=qE (x.lists[k].length);rw [<- B] at A;have ac:=qH B;have C:=qH h;clear S B H Z h;by_cases g:x.keys[k]=key.data.toList
   ·have av:=qeY (s:=s) (t:=key) (by rw [v,g])
    have c:qI (qcM x key.data.toList=x.lists[k]):=qH (qlx U Q g fun j b I=>E.o j b I);clear v g;go_wp2;go_ret;refine ⟨ao,ad,by rw [c.o,ac.o];rfl,by rw [c.o];exact af.o,?_,C.o⟩;rw [c.o];exact am.o
   ·have av:=qfl (s:=s) (t:=key) (by rw [v];exact g)
    have ag:qI (∀ j (b:j<x.keys.length),j<k+1->x.keys[j]≠key.data.toList):=qH fun j b I=>by
     by_cases e:j=k
     ·subst e;exact g
     ·exact E.o j b (by omega)
    clear v g;go_wp2;go_roundw
    case rel=>exact ⟨rfl,k+1,by omega,by go_num,aq.o,ag.o⟩
    case measure=>simp [intOf];omega
  ·have c:qI (qcM x key.data.toList=[]):=qH (qlw fun aw ap=>by
    obtain ⟨j,b,rfl⟩:=List.mem_iff_getElem.1 ap;exact E.o j b (by have :=G.o;omega))
   have C:=qH h;clear h;go_wp2;go_ret;refine ⟨none,0,by rw [c.o];rfl,by rw [c.o];exact ⟨aA _,kA _⟩,?_,C.o⟩;rw [c.o];exact ⟨[],rfl,.inl rfl⟩
