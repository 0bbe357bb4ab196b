import Derived.Test.YtpehcaidjlemiaaGreatDoorMMQ02
import Derived.Shelf.Spec.SlicesInsertGrow
import Derived.Laws.CopyOwn
import Derived.Test.YtpehcaidjlemiaaGreatDoorRows
import Derived.Deep.Grids
import Derived.Lib.LaidTab
import Derived.MakeChecks
set_option maxHeartbeats 8000000
set_option maxRecDepth 100000
set_option linter.all false
namespace Go.Proofs.YtpehcaidjlemiaaGreatDoor
open Go Go.RowKit Go.Lib Go.Proofs.Tryz
open Plain (Wd WS Rep qaJ qdp getW)
variable {w w' W w0:World} {k n b c i zz B D:Nat} {A:Option Addr} {v v' V u:Value} {xs cs:List Value} {t:TypeId} {fr:Nat × Nat} {R:Array Value} {ws:List (Nat × Nat)}
theorem qkI:(prog.info? 104).map (fun i=>(i.zero,i.size,i.bytes))=some (some (.agg #[.int .i64 0,.int .u64 0]),2,16):=by kernel_rfl
def qfP (w:World) (zz:Nat) (v:Value) (ws:List Wd) (v':Value) (w':World):Prop:=
 w'.ownsRow zz 104 2 v' ws.length (qab ws)/\w.grownBy w' v.ownBlock/\∀ g,v'.ownBlock=some g->v.ownBlock=some g\/w.heap.size<=g
def qwA {g:Nat} (i:w.ownsRow zz 104 2 (.slice (some ⟨g,0,none⟩) n c) n (qab ws)):
  ∃ a:Array Value,zz<=g/\w.heap[g]?=some (.cells a 104 (0,0))/\n<=c/\c<=maxLen/\a.size=c*2/\a.toList.take (n*2)=qab ws:=by
 rcases i.2 with ⟨b,_⟩|⟨p,m,a,b,h,d,k,j,e,l⟩
 ·simp at b
 ·simp only [mF,jB,Addr.mk.injEq,and_true,true_and] at b
  obtain ⟨rfl,rfl⟩:=b;exact ⟨a,h,d,k,j,e,l⟩
def qkJ {g:Nat} {e:TypeId} (d:w.heap[g]?=some (.cells R e (0,0))) (j:zz<=g) (h:n<=c) (i:c<=maxLen) (a:R.size=c*2) (b:R.toList.take (n*2)=xs):
  w.ownsRow zz e 2 (.slice (some ⟨g,0,none⟩) n c) n xs:=by
 refine ⟨?_,.inr ⟨g,c,R,rfl,j,d,h,i,a,b⟩⟩;rw [<- b,sA,wC,a];omega
def qwB (w:World) (zz:Nat) (v:Value) (n:Nat) (ws:List Wd) (p:Wd) (b m:Nat) (h:w.ownsRow zz 104 2 v n (qab ws)) (z:ws.length=n) (Q:n<=33554432)
  (M:w.cell? ⟨b,0,none⟩=some (.int .i64 p.1)) (N:w.cell? ⟨b,1,none⟩=some (.int .u64 p.2)) (A:zz<=w.heap.size):
  ∃ v' w',(Builtin.append_ #[99,99] 99 #[v,.slice (some ⟨b,0,none⟩) 1 m]).run prog w= .ok v' w'/\qfP w zz v (ws++[p]) v' w':=by
 have ⟨r,s,x,l,t⟩:=lG qkI;have q:∀ j u,(qab [p])[j]?=some u->w.cell? ((⟨b,0,none⟩:Addr).add j)=some u:=by
  intro j u a;rw [cC,kB]
  match j,a with
  |0,a=>simp [qab] at a;subst a;exact M
  |1,a=>simp [qab] at a;subst a;exact N
  |j+2,a=>simp [qab] at a
 have B:=qgh [p];have E:(ws++[p]).length=n+1:=by simp [z]
 have G:qab (ws++[p])=qab ws++qab [p]:=qho _ _;have e:=qeZ ws;rw [z] at e;unfold qfP;rw [E,G];have L:=h;rcases L.2 with ⟨rfl,rfl⟩|⟨g,d,U,rfl,S,y,O,V,R,T⟩
 ·have J:w.ownsRow w.heap.size 104 2 (.slice none 0 0) 0 (qab ws):=⟨h.1,.inl ⟨rfl,rfl⟩⟩
  have ⟨v',w',c,h2,h3,_⟩:=run_append_own (P:=prog) w w.heap.size 99 99 104 r _ 2 16 underlying99 s x l t rfl (by decide) _ 0 _ J ⟨b,0,none⟩ 1 m (qab [p]) rfl q B (by unfold maxLen;omega) (by omega) (aA _);exact ⟨v',w',c,qbk h2 A,h3,fun g y=> .inr (h2.lt g y).1⟩
 ·by_cases K:n+1<=d
  ·have ⟨w',c,h2,h3⟩:=run_append_fits (P:=prog) w zz 99 99 104 r 2 underlying99 s l g n d _ h ⟨b,0,none⟩ 1 m (qab [p]) rfl q B K
   exact ⟨_,w',c,h2,h3,fun H i=> .inl i⟩
  ·have D:∀ j u,(qab ws)[j]?=some u->w.cell? ((⟨g,0,none⟩:Addr).add j)=some u:=h.cells (g:=g) rfl
   have c:=run_append_grow (P:=prog) w 99 99 104 r _ underlying99 s x ⟨g,0,none⟩ n d (qab ws) (by rw [l];exact e) D ⟨b,0,none⟩ 1 m (qab [p]) (by rw [l];rfl) q (by omega) (by omega) (by rw [t];exact growslice_fits (by omega) (by omega));have F:=grownCap_ge w (n+1) d 104;have C:=grownCap_le_maxLen w (n+1) d 104 (by unfold maxLen;omega);refine ⟨_,_,c,qkJ (jA w.drew _) A F C ?_ ?_,⟨rfl,rfl,rfl,by simp,fun k I _=>pB w.drew _ _ I⟩,fun H i=> .inr ?_⟩
   ·simp only [Array.size_append,iD,size_zeroCells,e]
    simp [qab,Value.cells];omega
   ·simp only [Array.toList_append,iB]
    rw [<- iB,wF (by simp [e,qab];omega)];exact nB (by simp [e,qab];omega)
   ·simp [Value.ownBlock] at i
    subst i;exact aA _
def qiz (w:World) (g o c p:Nat) (a:Addr) (h x:Nat) (b:Array Value) (cs:List Value) (n:Nat)
  (k:w.heap[g]?=some (.cells b 104 (0,0))) (m:n=Nat.min h c) (s:cs.length=n*2)
  (l:∀ j v,cs[j]?=some v->w.cell? (a.add j)=some v) (q:o+cs.length<=b.size) (h1:∀ v∈cs,v.oneCell'=true):
  (Builtin.copy_ #[99,99] 3 #[.slice (some ⟨g,o,none⟩) c p,.slice (some a) h x]).run prog w=
   .ok (goInt n) (w.setRow g (splice b.toList o cs).toArray):=by
 have ⟨A,t,z,r,y⟩:=lG qkI;have i:=run_loadCells_list (P:=prog) w a cs l;have d:=run_storeCells_at prog g o 104 cs 0 b w k (by simpa using q) h1;have e:splice b.toList o cs=b.toList.take o++cs++b.toList.drop (o+cs.length):=by simp [splice]
 rw [e];rw [s] at i;simp only [Nat.add_zero] at d;simp [Builtin.copy_,rC underlying99,Builtin.lenOf,Builtin.firstCells,sizeOf,typeInfo,t,r,<- m,i,d]
def qiA (w:World) (zz:Nat) (v:Value) (ws:List Wd) (e:Ending) (w':World):Prop:=∃ v',e= .returned v'/\qfP w zz v ws v' w'
def qwC (w:World) (zz:Nat) (A:Option Addr) (n c:Nat) (ws:List Wd) (p:Wd) (a l:Nat) (e:w.ownsRow zz 104 2 (.slice A n c) n (qab ws)) (v:ws.length=n) (s:n<=33554432)
  (y:w.cell? ⟨a,0,none⟩=some (.int .i64 p.1)) (z:w.cell? ⟨a,1,none⟩=some (.int .u64 p.2)) (x:zz<=w.heap.size):
  yG 74 #[.slice A n c,.int .i64 n,.slice (some ⟨a,0,none⟩) 1 l] w (qiA w zz (.slice A n c) (ws++[p])):=by
 have ⟨v',w',j,m⟩:=qwB w zz _ n ws p a l e v s y z x;have b:=qH j;have h:=qH m;have q:(A=none/\n=0/\c=0)\/∃ g,A=some ⟨g,0,none⟩/\n<=c/\c<=maxLen:=by
  rcases e.2 with ⟨d,t⟩|⟨g,B,C,d,_,_,k,i,_⟩
  ·injection d with h1 h2 h3
   exact .inl ⟨h1,t,h3⟩
  ·injection d with h1 h2 h3
   subst h3;exact .inr ⟨g,h1,k,i⟩
 clear j m e;rcases q with ⟨rfl,rfl,rfl⟩|⟨g,rfl,k,i⟩
 ·go_enter func74,ntmps74
  go_wp2_with (at_builtin;refine Lib.wpList_append_run _ rfl _ _ _ _ rfl _ _ rfl rfl _ _ b.o ?_)
  go_ret;exact ⟨_,rfl,h.o⟩
 ·unfold maxLen at i
  by_cases r:c=n
  ·subst r
   go_enter func74,ntmps74
   go_wp2_with (at_builtin;refine Lib.wpList_append_run _ rfl _ _ _ _ rfl _ _ rfl rfl _ _ b.o ?_)
   go_ret;exact ⟨_,rfl,h.o⟩
  ·go_enter func74,ntmps74
   go_wp2_with (at_builtin;refine Lib.wpList_append_run _ rfl _ _ _ _ rfl _ _ rfl rfl _ _ b.o ?_)
   go_ret;exact ⟨_,rfl,h.o⟩
def qiB {α:Type} (A X a:List α) (k:Nat) (b:A.length=k):splice (A++a) k X=A++(X++a.drop X.length):=by
 subst b;unfold splice;rw [List.take_left,<- List.drop_drop,List.drop_left]
def qwD (w:World) (zz g n k:Nat) (ws:List Wd) (p:Wd) (m Z:Nat) (C:w.ownsRow zz 104 2 (.slice (some ⟨g,0,none⟩) n n) n (qab ws)) (aa:ws.length=n) (ax:n<=33554432) (a0:k<n)
  (Q:w.cell? ⟨m,0,none⟩=some (.int .i64 p.1)) (ac:w.cell? ⟨m,1,none⟩=some (.int .u64 p.2)) (ap:zz<=w.heap.size):
  yG 74 #[.slice (some ⟨g,0,none⟩) n n,.int .i64 k,.slice (some ⟨m,0,none⟩) 1 Z] w (qiA w zz (.slice (some ⟨g,0,none⟩) n n) (ws.take k++p::ws.drop k)):=by
 have ⟨ab,aq,ak,al,V⟩:=lG qkI;have ah:=qeZ ws;rw [aa] at ah;have F:∀ j u,(qab ws)[j]?=some u->w.cell? ⟨g,j,none⟩=some u:=fun j u b=>by have :=C.cells (g:=g) rfl j u b;rwa [cC,kB] at this
 have I:=(C.lt g rfl).2;have i:(qab (ws.take k)).length=k*2:=by rw [qeZ,sA];omega
 have ad:(Builtin.firstCells ab.size k (.slice (some ⟨g,0,none⟩) k n)).run prog w.drew= .ok (qab (ws.take k)).toArray w.drew:=by
  rw [al];exact run_firstCells_some w.drew 2 k ⟨g,0,none⟩ k n _ i (fun j v c=>by
   rw [cC,kB];rw [qnq,List.getElem?_take] at c;split at c
   ·exact F j v c
   ·cases c)
 have l:=Lib.run_append_grow_zeros (P:=prog) w 99 3 99 104 ab _ .i64 .i64 underlying99 underlying3 aq ak (some ⟨g,0,none⟩) k n (qab (ws.take k)) ad (n+1-k) (by omega) (by omega) (by omega) (by omega) (by rw [V];omega) (by rw [V];exact growslice_fits (by omega) (by omega));rw [show k+(n+1-k)=n+1 by omega] at l;rw [show ((n+1-k:Nat):Int)=(n:Int)+1-(k:Int) by omega] at l;have S:=grownCap_ge w (n+1) n 104;have E:=grownCap_le_maxLen w (n+1) n 104 (by unfold maxLen;omega);have ⟨h,T⟩:=qE (grownCap w (n+1) n 104);rw [<- T] at l S E;have ⟨a,O⟩:=qE ((Builtin.zeroCells (Value.agg #[.int .i64 0,.int .u64 0]).cells (n+1-k)++Builtin.zeroCells (Value.agg #[.int .i64 0,.int .u64 0]).cells (h-(n+1))).toList:List Value);have J:a.length=(h-k)*2:=by
  rw [O,wC,Array.size_append,size_zeroCells,size_zeroCells];simp [Value.cells];omega
 have X:(qab (ws.take k)).toArray++Builtin.zeroCells (Value.agg #[.int .i64 0,.int .u64 0]).cells (n+1-k)++Builtin.zeroCells (Value.agg #[.int .i64 0,.int .u64 0]).cells (h-(n+1))=(qab (ws.take k)++a).toArray:=by
  rw [O];apply Array.toList_inj.1;simp
 rw [X] at l;clear X O ad T I;have ⟨d,s⟩:=qE (w.drew.alloc (.cells (qab (ws.take k)++a).toArray 104));rw [<- s] at l;have ag:=qH l;clear l;have ao:=E;unfold maxLen at ao;have G:d.heap[w.heap.size]?=some (.cells (qab (ws.take k)++a).toArray 104 (0,0)):=by rw [s];exact jA w.drew _
 have M:∀ j,j<w.heap.size->d.heap[j]?=w.heap[j]?:=fun j c=>by rw [s];exact pB w.drew _ _ c
 have t:d.heap.size=w.heap.size+1/\d.os=w.os/\d.tape=w.tape/\d.output=w.output:=by rw [s];exact ⟨by simp,rfl,rfl,rfl⟩
 clear s;have an:m<w.heap.size:=vC w _ Q;have U:∀ j u,(qab [p])[j]?=some u->d.cell? ((⟨m,0,none⟩:Addr).add j)=some u:=by
  intro j u b;rw [cC,kB,tC (w:=w) (M m an)]
  match j,b with
  |0,b=>simp [qab] at b;subst b;exact Q
  |1,b=>simp [qab] at b;subst b;exact ac
  |j+2,b=>simp [qab] at b
 have q:=qiz d w.heap.size (k*2) (n+1-k) (h-k) ⟨m,0,none⟩ 1 Z _ (qab [p]) 1 G (by show 1=min 1 (n+1-k);omega) rfl U (by simp [i,J,qab];omega) (qgh [p]);rw [show (qab (ws.take k)++a).toArray.toList=qab (ws.take k)++a from rfl,qiB _ _ _ _ i] at q
 have z:=setRow_heap d w.heap.size _ (qab (ws.take k)++(qab [p]++a.drop (qab [p]).length)).toArray _ _ G;have D:∀ j,j<w.heap.size->(d.setRow w.heap.size (qab (ws.take k)++(qab [p]++a.drop (qab [p]).length)).toArray).heap[j]?=w.heap[j]?:=fun j c=>by rw [setRow_other _ _ _ _ (by omega)];exact M j c
 have ⟨e,N⟩:=qE (d.setRow w.heap.size (qab (ws.take k)++(qab [p]++a.drop (qab [p]).length)).toArray);have y:e.heap.size=w.heap.size+1/\e.os=w.os/\e.tape=w.tape/\e.output=w.output:=by rw [N];exact ⟨by simp [World.setRow,t.1],t.2.1,t.2.2.1,t.2.2.2⟩
 rw [<- N] at q z D;clear N G M t U;have I:=(C.lt g rfl).2;have x:(qab (ws.drop k)).length=(n-k)*2:=by rw [qeZ,rB,aa]
 have R:∀ j u,(qab (ws.drop k))[j]?=some u->e.drew.cell? ((⟨g,k*2,none⟩:Addr).add j)=some u:=by
  intro j u b;rw [cC,tC (w:=w) (w':=e.drew) (D g I)];rw [qj6,List.getElem?_drop] at b;exact F _ u b
 have af:(qab (ws.take k)++qab [p]).length=(k+1)*2:=by rw [iA,i];simp [qab];omega
 have B:=qiz e.drew w.heap.size ((k+1)*2) (n+1-(k+1)) (h-(k+1)) ⟨g,k*2,none⟩ (n-k) (n-k) _ (qab (ws.drop k)) (n-k) z (by show n-k=min (n-k) (n+1-(k+1));omega) x R (by simp [i,J,x,qab];omega) (qgh _);rw [show (qab (ws.take k)++(qab [p]++a.drop (qab [p]).length)).toArray.toList=(qab (ws.take k)++qab [p])++a.drop (qab [p]).length by simp,qiB _ _ _ _ af] at B;have L:=setRow_heap e.drew w.heap.size _ ((qab (ws.take k)++qab [p])++(qab (ws.drop k)++(a.drop (qab [p]).length).drop (qab (ws.drop k)).length)).toArray _ _ z;have K:∀ j,j<w.heap.size->(e.drew.setRow w.heap.size ((qab (ws.take k)++qab [p])++(qab (ws.drop k)++(a.drop (qab [p]).length).drop (qab (ws.drop k)).length)).toArray).heap[j]?=w.heap[j]?:=fun j c=>by rw [setRow_other _ _ _ _ (by omega)];exact D j c
 have ⟨r,H⟩:=qE (e.drew.setRow w.heap.size ((qab (ws.take k)++qab [p])++(qab (ws.drop k)++(a.drop (qab [p]).length).drop (qab (ws.drop k)).length)).toArray);have A:r.heap.size=w.heap.size+1/\r.os=w.os/\r.tape=w.tape/\r.output=w.output:=by rw [H];exact ⟨by simp [World.setRow,y.1],y.2.1,y.2.2.1,y.2.2.2⟩
 rw [<- H] at B L K;clear H z D y R;have aj:(ws.take k++p::ws.drop k).length=n+1:=by simp;omega
 have Y:qfP w zz (.slice (some ⟨g,0,none⟩) n n) (ws.take k++p::ws.drop k) (.slice (some ⟨w.heap.size,0,none⟩) (n+1) h) r:=by
  unfold qfP;rw [aj];refine ⟨qkJ L ap S E ?_ ?_,⟨A.2.1,A.2.2.1,A.2.2.2,by omega,fun j c _=>K j c⟩,fun az W=> .inr ?_⟩
  ·simp [i,J,x,qab]
   omega
  ·rw [qho,show qab (p::ws.drop k)=qab [p]++qab (ws.drop k) from rfl]
   show List.take ((n+1)*2) ((qab (ws.take k)++qab [p])++(qab (ws.drop k)++(a.drop (qab [p]).length).drop (qab (ws.drop k)).length))=_;rw [<- iB,wF (by simp [i,x,qab];omega),nB (by simp [i,x,qab];omega),iB]
  ·simp [Value.ownBlock] at W
   subst W;exact aA _
 have ai:=qH Y;have ae:=qH q;have am:=qH B;have au:k+1<h:=by omega
 clear Y q B L K A F C Q ac
 go_enter func74,ntmps74
 have q:=ae.o
 go_wp2_with (at_builtin;refine Lib.wpList_append_run _ rfl _ _ _ _ rfl _ _ rfl rfl _ _ ag.o ?_)
 clear q;have a1:IntKind.i64.wrap ((k:Int)+1)=(k:Int)+1:=by rw [IntKind.wrap_i64];omega
 have ay:(0:Int)<=(k:Int)+1:=by omega
 have aw:((k:Int)+1).toNat=k+1:=by omega
 have a2:¬ (h=k+1):=by omega
 have av:¬ (n=k):=by omega
 have ar:(k:Int)<=(n:Int):=by omega
 have a3:(k:Int)+1<=(n:Int)+1:=by omega
 go_region_law (refine step_copy_runI rfl _ _ 99 99 rfl (.slice (some ⟨w.heap.size,(k+1)*2,none⟩) (n+1-(k+1)) (h-(k+1))) (.slice (some ⟨g,k*2,none⟩) (n-k) (n-k)) (by simp [Act.eval,Act.put]) (by simp [Act.eval,Act.put]) am.o ?_)
 all_goals
  go_wp2;go_ret;exact ⟨_,rfl,ai.o⟩
def qwE (w:World) (zz g n c k:Nat) (ws:List Wd) (p:Wd) (h z:Nat) (F:w.ownsRow zz 104 2 (.slice (some ⟨g,0,none⟩) n c) n (qab ws)) (ab:ws.length=n) (az:n<=33554432) (a2:k<n) (ao:n+1<=c)
  (t:w.heap[h]?=some (.cells #[.int .i64 p.1,.int .u64 p.2] 104 (0,0))) (Q:h≠g):
  yG 74 #[.slice (some ⟨g,0,none⟩) n c,.int .i64 k,.slice (some ⟨h,0,none⟩) 1 z] w (qiA w zz (.slice (some ⟨g,0,none⟩) n c) (ws.take k++p::ws.drop k)):=by
 have aq:=qeZ ws;rw [ab] at aq;have ⟨l,ap,J,aw,ac,G,aa⟩:=qwA F;have m:(qab (ws.take k)).length=k*2:=by rw [qeZ,sA];omega
 have i:(qab (ws.drop k)).length=(n-k)*2:=by rw [qeZ,rB,ab]
 have af:l.toList.length=c*2:=by rw [wC,G]
 have N:l.toList=qab (ws.take k)++(qab (ws.drop k)++l.toList.drop (n*2)):=by
  rw [<- iB,<- qho,gD,<- aa,gD]
 have ⟨R,B⟩:=qE (l.toList.drop (n*2));have Y:R.length=(c-n)*2:=by rw [B,rB,af];omega
 rw [<- B] at N;clear B aa;have ⟨X,K⟩:=qE ((qab (ws.drop k)++R).take 2);have ⟨b,C⟩:=qE ((qab (ws.drop k)++R).drop 2);have L:X.length=2:=by rw [K,sA,iA,i,Y];omega
 have ak:b.length=(c-k-1)*2:=by rw [C,rB,iA,i,Y];omega
 have S:l.toList=(qab (ws.take k)++X)++b:=by rw [N,K,C,iB,gD]
 have aj:(qab (ws.take k)++X).length=(k+1)*2:=by rw [iA,m,L];omega
 have O:∀ j u,(qab ws)[j]?=some u->w.cell? ⟨g,j,none⟩=some u:=fun j u a=>by have :=F.cells (g:=g) rfl j u a;rwa [cC,kB] at this
 have P:∀ j u,(qab (ws.drop k))[j]?=some u->w.drew.cell? ((⟨g,k*2,none⟩:Addr).add j)=some u:=by
  intro j u a;rw [cC];rw [qj6,List.getElem?_drop] at a;exact O _ u a
 have A:=qiz w.drew g ((k+1)*2) (n+1-(k+1)) (c-(k+1)) ⟨g,k*2,none⟩ (n+1-k) (c-k) l (qab (ws.drop k)) (n-k) J (by show n-k=min (n+1-k) (n+1-(k+1));omega) i P (by rw [G,i];omega) (qgh _);rw [S,qiB _ _ _ _ aj] at A;have x:=setRow_heap w.drew g l ((qab (ws.take k)++X)++(qab (ws.drop k)++b.drop (qab (ws.drop k)).length)).toArray _ _ J;have v:∀ j,j≠g->(w.drew.setRow g ((qab (ws.take k)++X)++(qab (ws.drop k)++b.drop (qab (ws.drop k)).length)).toArray).heap[j]?=w.heap[j]?:=fun j q=>setRow_other w.drew g j _ q
 have ⟨d,D⟩:=qE (w.drew.setRow g ((qab (ws.take k)++X)++(qab (ws.drop k)++b.drop (qab (ws.drop k)).length)).toArray);have r:d.heap.size=w.heap.size/\d.os=w.os/\d.tape=w.tape/\d.output=w.output:=by rw [D];exact ⟨by simp [World.setRow],rfl,rfl,rfl⟩
 rw [<- D] at A x v;clear D;have W:∀ j u,(qab [p])[j]?=some u->d.cell? ((⟨h,0,none⟩:Addr).add j)=some u:=by
  intro j u a;have ⟨ad,an,_,_⟩:=qfL t;rw [cC,kB,tC (w:=w) (v h Q)]
  match j,a with
  |0,a=>simp [qab] at a;subst a;exact ad
  |1,a=>simp [qab] at a;subst a;exact an
  |j+2,a=>simp [qab] at a
 have U:=qiz d g (k*2) (n+1-k) (c-k) ⟨h,0,none⟩ 1 z _ (qab [p]) 1 x (by show 1=min 1 (n+1-k);omega) rfl W (by simp [m,L,i,qab];try omega) (qgh [p])
 have V:((qab (ws.take k)++X)++(qab (ws.drop k)++b.drop (qab (ws.drop k)).length)).toArray.toList=qab (ws.take k)++(X++(qab (ws.drop k)++b.drop (qab (ws.drop k)).length)):=by simp
 have T:(X++(qab (ws.drop k)++b.drop (qab (ws.drop k)).length)).drop (qab [p]).length=qab (ws.drop k)++b.drop (qab (ws.drop k)).length:=by
  rw [show (qab [p]).length=X.length by rw [L];rfl,List.drop_left]
 rw [V,qiB _ _ _ _ m,T] at U;have I:=setRow_heap d g _ (qab (ws.take k)++(qab [p]++(qab (ws.drop k)++b.drop (qab (ws.drop k)).length))).toArray _ _ x;have H:∀ j,j≠g->(d.setRow g (qab (ws.take k)++(qab [p]++(qab (ws.drop k)++b.drop (qab (ws.drop k)).length))).toArray).heap[j]?=w.heap[j]?:=fun j q=>by rw [setRow_other _ _ _ _ q];exact v j q
 have ⟨s,M⟩:=qE (d.setRow g (qab (ws.take k)++(qab [p]++(qab (ws.drop k)++b.drop (qab (ws.drop k)).length))).toArray);have y:s.heap.size=w.heap.size/\s.os=w.os/\s.tape=w.tape/\s.output=w.output:=by rw [M];exact ⟨by simp [World.setRow,r.1],r.2.1,r.2.2.1,r.2.2.2⟩
 rw [<- M] at U I H;clear M;have ai:(ws.take k++p::ws.drop k).length=n+1:=by simp;omega
 have Z:qfP w zz (.slice (some ⟨g,0,none⟩) n c) (ws.take k++p::ws.drop k) (.slice (some ⟨g,0,none⟩) (n+1) c) s:=by
  unfold qfP;rw [ai];refine ⟨qkJ I ap ao ac ?_ ?_,⟨y.2.1,y.2.2.1,y.2.2.2,by omega,fun j q al=>H j (by rintro rfl;exact al rfl)⟩,fun a1 am=> .inl am⟩
  ·simp [m,ak,i,qab]
   try omega
  ·rw [qho,show qab (p::ws.drop k)=qab [p]++qab (ws.drop k) from rfl]
   show List.take ((n+1)*2) (qab (ws.take k)++(qab [p]++(qab (ws.drop k)++b.drop (qab (ws.drop k)).length)))=_;rw [<- iB,<- iB,wF (by simp [m,i,qab];try omega),nB (by simp [m,i,qab];try omega),iB]
 have ar:∀ w,(Go.sizeOf 104).run prog w= .ok 2 w:=Tryz.sizeOf104;have ag:∀ lb E,(callFunc 124 #[.slice (some ⟨h,0,none⟩) 1 z,.slice (some ⟨g,(k+1)*2,none⟩) lb E]).run prog w= .ok (.value (.bool false)) w:=fun lb E=>by
  rw [run_callFunc_extern func124 (by kernel_rfl) (by kernel_rfl) (by kernel_rfl) (e:=Extern.SlicesOverlaps.overlaps #[99,99] #[4]) (by kernel_rfl),
   Lib.run_overlaps_apart w 99 4 104 underlying99 2 ar ⟨h,0,none⟩ ⟨g,(k+1)*2,none⟩ 1 z lb E Q 104 104 2 (c*2)
    (by simp [World.shape?,t]) (by simp [World.shape?,J,G]) (by omega) (by simp [World.frozen?,t]) (by simp [World.frozen?,t])]
  rfl
 have ah:=qH Z;have ae:=qH A;clear Z A x I v H r y O P W F V T N S K C;unfold maxLen at ac;have a3:IntKind.i64.wrap ((k:Int)+1)=(k:Int)+1:=by rw [IntKind.wrap_i64];omega
 have a0:(0:Int)<=(k:Int)+1:=by omega
 have ay:((k:Int)+1).toNat=k+1:=by omega
 have ax:¬ (c=k):=by omega
 have au:¬ (c=k+1):=by omega
 have av:(k:Int)<=(n:Int)+1:=by omega
 have a4:(k:Int)+1<=(n:Int)+1:=by omega
 go_enter func74,ntmps74
 go_wp2_with (simp only [ag])
 go_region_law (refine step_copy_runI rfl _ _ 99 99 rfl (.slice (some ⟨g,(k+1)*2,none⟩) (n+1-(k+1)) (c-(k+1))) (.slice (some ⟨g,k*2,none⟩) (n+1-k) (c-k)) (by simp [Act.eval,Act.put]) (by simp [Act.eval,Act.put]) ae.o ?_)
 all_goals
  go_wp2;go_ret;exact ⟨_,rfl,ah.o⟩
def qwF (w:World) (zz:Nat) (v:Value) (n k:Nat) (ws:List Wd) (p:Wd) (a:Nat) (b:w.ownsRow zz 104 2 v n (qab ws)) (d:ws.length=n) (h:n<=33554432) (B:k<=n)
  (m:w.heap[a]?=some (.cells #[.int .i64 p.1,.int .u64 p.2] 104 (0,0))) (t:v.ownBlock≠some a) (j:zz<=w.heap.size):
  yG 74 #[v,.int .i64 k,.slice (some ⟨a,0,none⟩) 1 1] w (qiA w zz v (ws.take k++p::ws.drop k)):=by
 have ⟨i,l,_,_⟩:=qfL m;by_cases q:k=n
 ·subst q
  have e:ws.take k++p::ws.drop k=ws++[p]:=by rw [<- d,fC,List.drop_length]
  rw [e];obtain ⟨A,c,rfl,_,_⟩:=qaK b;exact qwC w zz A k c ws p a 1 b d h i l j
 ·have r:=b
  rcases r.2 with ⟨rfl,x⟩|⟨g,c,y,rfl,_,_,z,_⟩
  ·omega
  ·by_cases s:n+1<=c
   ·exact qwE w zz g n c k ws p a 1 b d h (by omega) s m (by rintro rfl;exact t rfl)
   ·obtain rfl:c=n:=by omega
    exact qwD w zz g c k ws p a 1 b d h (by omega) i l j
theorem qwG:(prog.info? 232).map (fun i=>(i.zero,i.size,i.bytes))=some (some (.agg #[.string ByteArray.empty,.pointer none]),2,24):=by kernel_rfl
def qok (B o:Nat) (l:List Nm) (vs:List Nat) (w:World) (a:qce w B o l vs):
  yG 135 #[.pointer (some ⟨B,o,none⟩)] w fun e w'=>e= .returned (.int .i64 (l.length:Int))/\w=w':=by
 obtain ⟨_,_,A,c,b,_⟩:=a
 go_enter func135,ntmps135
 go_wp2;go_ret;exact ⟨rfl,rfl⟩
open Plain (hasB mayB turnB qjp ones qjq qjr)
def qbK (r:List Bool):List Value:=r.map Value.bool
def qwH (r:List Bool):(qbK r).length=r.length:=by simp [qbK]
def qol {r:List Bool} (e:Row w B A (qbK r)) {k:Nat} (g:k<r.length):
  ∃ b a,A=some ⟨b,a,none⟩/\b<B/\w.cell? ⟨b,a+k,none⟩=some (.bool (r.getD k false)):=by
 obtain ⟨b,a,rfl,d,c⟩:=e.at_ (by rw [qwH];omega);refine ⟨b,a,rfl,d,c k _ ?_⟩;simp [qbK,g]
theorem qwI:(prog.info? 4).map (fun i=>(i.zero,i.size,i.bytes))=some (some (.bool false),1,1):=by kernel_rfl
def qCQ (r:List Bool):∀ u∈qbK r,u.oneCell'=true:=by
 intro u a;simp only [qbK,tA] at a;obtain ⟨b,_,rfl⟩:=a;rfl
def qwJ (r:List Bool) (k:Nat) (b:Bool):qbK (r.set k b)=(qbK r).set k (.bool b):=by simp [qbK,List.map_set]
def qdZ (l:List Nat):List Value:=l.map fun (k:Nat)=>Value.int .i64 (k:Int)
def qwK (a b:List Nat):qdZ (a++b)=qdZ a++qdZ b:=by simp [qdZ]
def qwL (l:List Nat):∀ u∈qdZ l,u.oneCell'=true:=by
 intro u a;simp only [qdZ,tA] at a;obtain ⟨b,_,rfl⟩:=a;rfl
def qom (l:List Nat) (w:World) (e:Ending) (w':World):Prop:=∃ v,e= .returned v/\w'.ownsRow w.heap.size 3 1 v l.length (qdZ l)/\wG w w'
theorem qwM:(prog.info? 3).map (fun i=>(i.zero,i.size,i.bytes))=some (some (.int .i64 0),1,8):=by kernel_rfl
def qdF:List (Int × Nat)->List Value
 |[]=>[]
 |p::r=> .int .i64 p.1:: .int .i64 (p.2:Int)::qdF r
def qon:∀ l:List (Int × Nat),(qdF l).length=l.length*2
 |[]=>rfl
 |p::r=>by simp only [qdF,nA,qon r];omega
def qoo:∀ a b:List (Int × Nat),qdF (a++b)=qdF a++qdF b
 |[],b=>rfl
 |p::a,b=>by simp only [bC,qdF,qoo a b]
def qop:∀ (l:List (Int × Nat)) (k:Nat) (p:Int × Nat),l[k]?=some p->(qdF l)[k*2]?=some (.int .i64 p.1)/\(qdF l)[k*2+1]?=some (.int .i64 (p.2:Int))
 |[],k,p,h=>by simp at h
 |q::l,0,p,h=>by
  simp only [List.getElem?_cons_zero,jB] at h;subst h;exact ⟨rfl,rfl⟩
 |q::l,k+1,p,h=>by
  rw [dF] at h;have a:=qop l k p h;rw [qdF,show (k+1)*2=k*2+1+1 by omega];exact a
theorem qwN:(prog.info? 206).map (fun i=>(i.zero,i.size,i.bytes))=some (some (.agg #[.int .i64 0,.int .i64 0]),2,16):=by kernel_rfl
def qfq (l:List Po):List Value:=qdF (qdY l (qaN l.length))
def qwO (l:List Po):(qfq l).length=qaN l.length*2:=by rw [qfq,qon,qgg]
def LAt (w:World) (zz B:Nat) (bs:List UInt8) (l:List Po):Prop:=
 zz<=B/\∃ a b,w.heap[B]?=some (.cells #[a,b,.int .i64 (l.length:Int),.int .i64 (qaG l:Int)] 181 (0,0))/\
  w.ownsRow zz 5 1 a bs.length (Lib.byteCells bs)/\w.ownsRow zz 206 2 b (qaN l.length) (qfq l)
def qfQ {a b c d:Value} (h:w.heap[B]?=some (.cells #[a,b,c,d] t (0,0))):
  (w.cell? ⟨B,0,none⟩=some a/\w.cell? ⟨B,1,none⟩=some b/\w.cell? ⟨B,2,none⟩=some c/\w.cell? ⟨B,3,none⟩=some d)/\
  w.frozen? ⟨B,0,none⟩=false/\w.frozen? ⟨B,1,none⟩=false/\w.frozen? ⟨B,2,none⟩=false/\w.frozen? ⟨B,3,none⟩=false:=by
 simp [World.cell?,World.frozen?,h]
section
variable {w w':World} {zz B:Nat} {bs:List UInt8} {l:List Po}
def LAt.lt (h:LAt w zz B bs l):B<w.heap.size:=by
 obtain ⟨_,b,c,a,_⟩:=h;exact (gA.1 a).1
def LAt.below (h:LAt w zz B bs l) (a:wG w w'):LAt w' zz B bs l:=by
 have g:=h.lt;obtain ⟨h1,d,b,e,c,i⟩:=h;exact ⟨h1,d,b,(a.block B g).trans e,qaf c a,qaf i a⟩
def LAt.cellsKept (h:LAt w zz B bs l) (d:∀ (k:Nat) (o:Obj),w.heap[k]?=some o->o.isCells=true->w'.heap[k]?=some o):LAt w' zz B bs l:=by
 obtain ⟨h1,i,e,j,a,m⟩:=h;have key:∀ {E:TypeId} {size:Nat} {v:Value} {n:Nat} {xs:List Value},w.ownsRow zz E size v n xs->w'.ownsRow zz E size v n xs:=fun a=>by
  refine qaq a fun g b=> ?_
  rcases a.2 with ⟨rfl,_⟩|⟨r,q,p,rfl,_,c,_⟩
  ·cases b
  ·simp only [Value.ownBlock,jB] at b
   subst b;rw [d _ _ c rfl,c]
 exact ⟨h1,i,e,d B _ j rfl,key a,key m⟩
def LAt.read (h:LAt w zz B bs l):∃ j d b a,(w.cell? ⟨B,0,none⟩=some (.slice j bs.length d)/\w.cell? ⟨B,1,none⟩=some (.slice b (qaN l.length) a)/\w.cell? ⟨B,2,none⟩=some (.int .i64 (l.length:Int))/\w.cell? ⟨B,3,none⟩=some (.int .i64 (qaG l:Int)))/\
  bs.length<=d/\d<=maxLen/\qaN l.length<=a/\Row w w.heap.size j (Lib.byteCells bs)/\Row w w.heap.size b (qfq l)/\(j=none->bs.length=0/\d=0):=by
 obtain ⟨_,y,v,q,n,t⟩:=h;have p:=(qfQ q).1;obtain ⟨b,a,rfl,k,m⟩:=qaK t;rcases n.2 with ⟨rfl,i⟩|⟨g,c,x,rfl,_,_,s,r,_,_⟩
 ·exact ⟨none,0,b,a,by rw [i];exact p,by omega,by unfold maxLen;omega,k,by rw [sB i];exact Row.nil,m,fun _=>⟨i,rfl⟩⟩
 ·exact ⟨_,c,b,a,p,s,r,k,qbx n,m,fun e=>by cases e⟩
end
def LIn (w:World) (B:Nat) (bs:List UInt8) (l:List Po):Prop:=
 B<w.heap.size/\∃ c a d b,(w.cell? ⟨B,0,none⟩=some (.slice c bs.length a)/\w.cell? ⟨B,1,none⟩=some (.slice d (qaN l.length) b)/\w.cell? ⟨B,2,none⟩=some (.int .i64 (l.length:Int))/\w.cell? ⟨B,3,none⟩=some (.int .i64 (qaG l:Int)))/\
  bs.length<=a/\a<=maxLen/\qaN l.length<=b/\Row w w.heap.size c (Lib.byteCells bs)/\Row w w.heap.size d (qfq l)
def LAt.in_ {bs:List UInt8} {l:List Po} (h:LAt w zz B bs l):LIn w B bs l:=by
 have ⟨e,b,c,a,h1,h2,h3,d,g,i,_⟩:=h.read;exact ⟨h.lt,e,b,c,a,h1,h2,h3,d,g,i⟩
def LIn.below {bs:List UInt8} {l:List Po} (h:LIn w B bs l) (a:wG w w'):LIn w' B bs l:=by
 obtain ⟨b,k,g,i,d,⟨m,q,r,e⟩,h2,h3,j,n,s⟩:=h;have c:=a.size;refine ⟨by omega,k,g,i,d,⟨(a.cell (p:=⟨B,0,none⟩) b).trans m,(a.cell (p:=⟨B,1,none⟩) b).trans q,(a.cell (p:=⟨B,2,none⟩) b).trans r,(a.cell (p:=⟨B,3,none⟩) b).trans e⟩,h2,h3,j,(n.below a).more c,(s.below a).more c⟩
def qwP {l:List Po} (h:Row w D A (qfq l)) {k:Nat} (e:k<qaN l.length):
  ∃ b a,A=some ⟨b,a,none⟩/\b<D/\w.cell? ⟨b,a+k*2,none⟩=some (.int .i64 (qaP (-1) (l.take (8*(k+1)))))/\w.cell? ⟨b,a+k*2+1,none⟩=some (.int .i64 ((qae (-1) (l.take (8*(k+1)))).length:Int)):=by
 obtain ⟨b,a,rfl,d,c⟩:=h.at_ (by rw [qwO];omega);have h2:=qop _ _ _ (qno l (qaN l.length) k e);exact ⟨b,a,rfl,d,c _ _ h2.1,by rw [uB];exact c _ _ h2.2⟩
section
variable (B:Nat) (bs:List UInt8) (l:List Po) (w:World) (h:LIn w B bs l)
include h
theorem qoq:yG 141 #[.pointer (some ⟨B,0,none⟩)] w fun e w'=>e= .returned (.int .i64 (qaN l.length:Int))/\w=w':=by
 obtain ⟨_,Ab,cb,Ae,ce,⟨c0,c1,c2,c3⟩,_⟩:=h
 go_enter func141,ntmps141
 go_wp2;go_ret;exact ⟨rfl,rfl⟩
theorem qor (k:Nat) (hk:k<=qaN l.length) (hl:l.length<=1073741824):yG 165 #[.pointer (some ⟨B,0,none⟩),.int .i64 (k:Int)] w fun e w'=>
  e= .returned (.agg #[.int .i64 (qaP (-1) (l.take (8*k))),.int .i64 ((qae (-1) (l.take (8*k))).length:Int)])/\wG w w':=by
 have hlt:=h.1;obtain ⟨_,Ab,cb,Ae,ce,⟨c0,c1,c2,c3⟩,_,_,hce,_,hre⟩:=h;have hbl:qaN l.length<=1073741824:=by unfold qaN;omega
 clear c0 c2 c3;rcases sF k with rfl|hpos
 ·go_enter func165,ntmps165
  go_wp2;refine pE (aG (P:=prog) rfl _ _ w.heap.size 206 _ (0,0) _ rfl (by first|rfl|exact jA _ _) underlying206 rfl (by kernel_rfl)) rfl ?_
  exact ⟨rfl,by repeat (first|exact (bA _ _).alloc (aA _) _|refine Below.setCell ?_ (by simp) _)⟩
 ·obtain ⟨j,rfl⟩:∃ j,k=j+1:=⟨k-1,by omega⟩
  obtain ⟨b,o,rfl,hb,e0,e1⟩:=qwP hre (k:=j) (by omega);obtain ⟨n,hn⟩:=qE (qaN l.length);rw [<- hn] at c1 hk hce hbl;obtain ⟨x,hx⟩:=qE (qaP (-1) (l.take (8*(j+1))));obtain ⟨y,hy⟩:=qE ((qae (-1) (l.take (8*(j+1)))).length);rw [<- hx] at e0 ⊢;rw [<- hy] at e1 ⊢;have hj:((j+1:Nat):Int)=(j:Int)+1:=by omega
  have hz:((j:Int)+1==0)=false:=by rw [nD];omega
  rw [hj];have hjn:j<n:=by omega
  clear hn hx hy hre hj hk hpos
  go_enter func165,ntmps165
  go_wp2;refine pE (aG (P:=prog) rfl _ _ w.heap.size 206 _ (0,0) _ rfl (by first|rfl|exact jA _ _) underlying206 rfl (by kernel_rfl)) rfl ?_
  exact ⟨rfl,by repeat (first|exact (bA _ _).alloc (aA _) _|refine Below.setCell ?_ (by simp) _)⟩
end
section
variable (zz B:Nat) (bs:List UInt8) (l:List Po) (w:World) (h:LAt w zz B bs l)
include h
def qos:yG 141 #[.pointer (some ⟨B,0,none⟩)] w fun e w'=>e= .returned (.int .i64 (qaN l.length:Int))/\w=w':=qoq B bs l w h.in_
def qwQ (k:Nat) (b:k<=qaN l.length) (a:l.length<=1073741824):yG 165 #[.pointer (some ⟨B,0,none⟩),.int .i64 (k:Int)] w fun e w'=>
  e= .returned (.agg #[.int .i64 (qaP (-1) (l.take (8*k))),.int .i64 ((qae (-1) (l.take (8*k))).length:Int)])/\wG w w':=qor B bs l w h.in_ k b a
end
def qgO (zz:Nat) (w:World) (A:Option Addr) (xs:List Value):Prop:=qcU 0 w A xs/\(xs=[]\/∃ b a,A=some ⟨b,a,none⟩/\zz<=b)
def qgO.of_own (a:w.ownsRow k 3 1 (.slice A n c) n xs) (j:zz<=k):qgO zz w A xs:=by
 refine ⟨qcU.of_own a,?_⟩;rcases a.2 with ⟨b,d⟩|⟨g,i,h,b,e,_⟩
 ·exact .inl (sB (by rw [a.1,d]))
 ·injection b with h1 h2 h3
  exact .inr ⟨g,0,h1,by omega⟩
def qbH (zz:Nat) (w:World) (v:Value) (l:List Po):Prop:=∃ cs,w.ownsRow zz 74 2 v l.length cs/\qao (qgO zz w) l cs
section
variable {zz:Nat} {w w':World} {v v':Value} {l:List Po}
def qbH.nil:qbH zz w (.slice none 0 0) []:=⟨[],vA _ _ _ _,rfl⟩
def qbH.below (a:qbH zz w v l) (b:wG w w'):qbH zz w' v l:=by
 obtain ⟨cs,h1,h2⟩:=a;exact ⟨cs,qaf h1 b,h2.imp fun _ _ a=>⟨a.1.below b,a.2⟩⟩
def qbH.push (h1:w.ownsRow zz 74 2 v l.length cs) (h2:qao (qgO zz w) l cs) {A:Option Addr} {c:Nat} {d:Int} {ps:List Int} (i:ps.length<=c) (j:c<=maxLen) (e:qgO zz w A (qaa ps))
  (h:w'.ownsRow zz 74 2 v' (l.length+1) (cs++[.int .i64 d,.slice A ps.length c])) (a:w.grownBy w' v.ownBlock):qbH zz w' v' (l++[(d,ps)]):=by
 have b:=qbk h1 (kA zz);refine ⟨_,?_,(h2.imp fun _ _ g=>⟨g.1.grown b (by decide) a,g.2⟩).snoc i j ⟨e.1.grown b (by decide) a,e.2⟩⟩;rw [iA,bB];exact h
end
def qbH.low {l:List Po} (a:qbH zz w v l) (d:k<=zz):qbH k w v l:=by
 obtain ⟨cs,h1,h2⟩:=a;exact ⟨cs,qbk h1 d,h2.imp fun _ _ a=>⟨a.1,a.2.imp id fun ⟨b,c,e,g⟩=>⟨b,c,e,by omega⟩⟩⟩
def qfR (l:List Po) (w:World) (e:Ending) (w':World):Prop:=∃ v,e= .returned v/\qbH w.heap.size w' v l/\wG w w'
open Plain (Wd WS Rep qaJ qdp getW hasB mayB turnB qjp)
def qdG (w:World) (B:Nat):Option Nat:=match w.heap[B]? with|some (.cells cs _ _)=>(cs.getD 1 undef).ownBlock|_=>none
structure qcx (B:Nat) (w w':World):Prop where
 os:w'.os=w.os
 tape:w'.tape=w.tape
 output:w'.output=w.output
 size:w.heap.size<=w'.heap.size
 keep:∀ k,k<w.heap.size->k≠B->qdG w B≠some k->w'.heap[k]?=w.heap[k]?
 own:∀ g,qdG w' B=some g->qdG w B=some g\/w.heap.size<=g
def qcx.refl (B:Nat) (w:World):qcx B w w:=⟨rfl,rfl,rfl,aA _,fun _ _ _ _=>rfl,fun g a=> .inl a⟩
def qcx.trans {a b c:World} (d:qcx B a b) (k:qcx B b c):qcx B a c:=by
 refine ⟨k.os.trans d.os,k.tape.trans d.tape,k.output.trans d.output,lA d.size k.size,fun i h h1 h2=> ?_,fun g j=> ?_⟩
 ·rw [k.keep i (tB h d.size) h1 (fun e=> ?_),d.keep i h h1 h2]
  rcases d.own i e with h3|h3
  ·exact h2 h3
  ·omega
 ·rcases k.own g j with h1|h1
  ·exact d.own g h1
  ·exact .inr (lA d.size h1)
def qgm {x:Value} (a:w.heap[B]?=some (.cells #[x,v] t fr)):qdG w B=v.ownBlock:=by unfold qdG;rw [a];rfl
def qkK (a:w'.heap[B]?=w.heap[B]?):qdG w' B=qdG w B:=by unfold qdG;rw [a]
def qcx.of_below (a:wG w w') (d:B<w.heap.size):qcx B w w':=
 ⟨a.os,a.tape,a.output,a.size,fun k c _ _=>a.block k c,fun g b=> .inl (by rw [<- qkK (a.block B d)];exact b)⟩
def qbr.own (b:qbr w zz B n ws):∀ g,qdG w B=some g->zz<=g/\g<w.heap.size:=by
 obtain ⟨_,v,d,c⟩:=b;intro g a;rw [qgm d] at a;exact c.lt g a
def qcx.below (b:qbr w zz B n ws) (a:qcx B w w'):Below zz w w':=by
 have c:=b.lt;refine ⟨a.os,a.tape,a.output,a.size,fun k d=>a.keep k (by have :=b.1;omega) (by have :=b.1;omega) fun e=> ?_⟩;have :=(b.own k e).1;omega
def qbd.turned_below {r:List Bool} (a:qbd w zz B r) (b:qcx B w w'):Below zz w w':=by
 obtain ⟨ws,h1,_⟩:=a;exact b.below h1
def qbr.other (d:qbr w zz B n ws) {k:Nat} {cs:Array Value} {t:TypeId} {fr:Nat × Nat} (a:w.heap[k]?=some (.cells cs t fr)) (h1:t≠101) (h2:t≠104):k≠B/\qdG w B≠some k:=by
 obtain ⟨_,v,b,c⟩:=d;refine ⟨?_,?_⟩
 ·rintro rfl
  rw [b] at a;simp at a;exact h1 a.2.1.symm
 ·rw [qgm b]
  exact qan c a h2
def qbd.row {r:List Bool} (l:qbd w zz B r) (j:qcx B w w') {i:Nat} {e:TypeId} {size n:Nat} {v:Value} {xs:List Value} (h:w.ownsRow i e size v n xs) (h1:e≠101) (h2:e≠104):
  w'.ownsRow i e size v n xs:=by
 obtain ⟨ws,k,_⟩:=l;refine qaq h fun g c=> ?_
 rcases h.2 with ⟨rfl,_⟩|⟨m,q,p,rfl,_,d,_⟩
 ·cases c
 ·simp only [Value.ownBlock,jB] at c
  subst c;have ⟨a,b⟩:=k.other d h1 h2;exact j.keep m (gA.1 d).1 a b
def qbr.drew (a:qbr w zz B n ws):qbr w.drew zz B n ws:=a
def qcx.drew {a:World} (b:qcx B a w):qcx B a w.drew:=⟨b.os,b.tape,b.output,b.size,b.keep,b.own⟩
def qot (zz B:Nat) (r:List Bool) (b:Bool) (w:World) (e:Ending) (w':World):Prop:=e= .returned (.bool b)/\qbd w' zz B r/\qcx B w w'
def qou {g y a x:Nat} (b:w.heap[B]?=some (.cells #[.int .i64 n,.slice (some ⟨g,0,none⟩) ws.length c] 101 (0,0))) (p:zz<=B)
  (h:w.ownsRow zz 104 2 (.slice (some ⟨g,0,none⟩) ws.length c) ws.length (qab ws)) (r:ws[k]?=some (a,x)):
  qbr (w.setCell ⟨g,k*2+1,none⟩ (.int .u64 y)) zz B n (ws.set k (a,y))/\qcx B w (w.setCell ⟨g,k*2+1,none⟩ (.int .u64 y)):=by
 have i:some g≠some B:=qan h b (by decide);have l:g≠B:=fun e=>i (by rw [e])
 have q:=h.stored (k*2+1) (.int .u64 y);have d:(w.setCell ⟨g,k*2+1,none⟩ (.int .u64 y)).heap[B]?=w.heap[B]?:=rA _ _ _ _ (fun e=>l e.symm);refine ⟨⟨p,_,d.trans b,?_⟩,rfl,rfl,rfl,by simp [World.setCell],fun j s h1 h2=>rA _ _ _ _ ?_,fun t m=> .inl ?_⟩
 ·rw [qns ws k a x y r,uC]
  exact q.1
 ·rintro rfl
  rw [qgm b] at h2;exact h2 rfl
 ·rw [<- qkK d]
  exact m
def qwR {x y:Value} (a:w.heap[B]?=some (.cells #[x,y] t (0,0))):(w.setCell ⟨B,1,none⟩ u).heap[B]?=some (.cells #[x,u] t (0,0)):=
 lB w B 1 #[x,y] t u a
def qwS {w3:World} {h:List Wd} {o:Obj} (q:zz<=B) (a:w.heap[B]?=some (.cells #[.int .i64 n,v] 101 (0,0))) (r:w.ownsRow zz 104 2 v ws.length (qab ws))
  (t:qfP (w.alloc o) zz v h v' w3):
  qbr (w3.setCell ⟨B,1,none⟩ v') zz B n h/\qcx B w (w3.setCell ⟨B,1,none⟩ v')/\w3.cell? ⟨B,1,none⟩=some v/\w3.frozen? ⟨B,1,none⟩=false:=by
 obtain ⟨h1,h2,h3⟩:=t;have p:B<w.heap.size:=(gA.1 a).1;have m:v.ownBlock≠some B:=qan r a (by decide);have b:w3.heap[B]?=some (.cells #[.int .i64 n,v] 101 (0,0)):=by
  rw [h2.block B (by simp;omega) (fun e=>m e.symm),pB _ _ _ p];exact a
 have ⟨_,y,_,l⟩:=qfL b;have x:v'.ownBlock≠some B:=qan h1 b (by decide);have d:=qwR (u:=v') b;refine ⟨⟨q,v',d,pG h1 x v'⟩,⟨h2.os,h2.tape,h2.output,?_,fun j i s k=> ?_,fun g c=> ?_⟩,y,l⟩
 ·have :=h2.size
  simp [World.setCell] at this ⊢;omega
 ·rw [rA _ _ _ _ s,h2.block j (by simp;omega) (fun e=>k (by rw [qgm a];exact e.symm)),pB _ _ _ i]
 ·rw [qgm d] at c
  rcases h3 g c with h4|h4
  ·exact .inl (by rw [qgm a];exact h4)
  ·exact .inr (by simp at h4;omega)
def qwT (zz B:Nat) (r:List Bool) (i:Int) (w:World) (ay:qbd w zz B r) (V:r.length<=big) (bx:i<9223372036854775808) (bz: -9223372036854775808<=i) (b2:zz<=w.heap.size):
  yG 34 #[.pointer (some ⟨B,0,none⟩),.int .i64 i] w (qot zz B (turnB r i true) (mayB r.length i&& !hasB r i) w):=by
 obtain ⟨ws,I,b⟩:=ay;have R:=qH (quG zz B r.length ws i w I V);cases hm:mayB r.length i
 ·have ba:turnB r i true=r:=by
   unfold turnB;unfold mayB at hm;split
   ·rename_i bs
    simp only [bs,decide_true,sD,uF] at hm;rw [List.set_eq_of_length_le (by omega)]
   ·rfl
  rw [ba,oE];rw [hm] at R;have H:qI (qbd w zz B r):=qH ⟨ws,I,b⟩;clear ba hm I b
  go_enter func34,ntmps34
  go_wp2_with (go_at_call 72;(with_reducible refine R.o.mono ?_);rintro e w' ⟨rfl,rfl⟩)
  go_ret;exact ⟨rfl,H.o,qcx.refl _ _⟩
 ·rw [hm] at R
  have ag:=hm;unfold mayB at ag;simp only [xA,iC] at ag;obtain ⟨m,rfl⟩:∃ m:Nat,i=(m:Int):=⟨i.toNat,by omega⟩;have bc:m<r.length:=by omega
  have b0:=(qgH b.wds V).1;have ap:hasB r (m:Int)=(getW ws (m/64)).testBit (m%64):=by
   unfold hasB;have :=b.mem m;unfold Plain.memW at this;rw [<- this];simp
  have a0:turnB r (m:Int) true=r.set m true:=by unfold turnB;rw [eA (by omega),rD]
  rw [a0,sD,ap];have af:=qH (fun w ay=>quj zz B r.length ws (m/64) w ay b.wds V (by omega));have aj:=qH (fun w=>qnb m w (by omega));have C:=Plain.bit_fits (Nat.mod_lt m (show 0<64 by decide));cases hkept:qdp ws (m/64)
  ·have F:=Plain.getW_not b.wds.asc hkept
   have bl:=b.wds.insert (a:=m/64) (y:=0) hkept (by omega) (by omega) (fun j s=>by simp at s);obtain ⟨a9,bb⟩:=bl;have ac:=Plain.posW_le ws (m/64);have p:(ws.take (qaJ ws (m/64))++(m/64,0)::ws.drop (qaJ ws (m/64)))[qaJ ws (m/64)]?=some (m/64,0):=by
    rw [oC (by rw [sA];omega),sA,eD ac,bE];rfl
   have Y:∀ j,(0 ||| 2^(m%64)).testBit j=true->m/64*64+j<r.length:=by
    intro j s;rw [Plain.or_pow_bit] at s;split at s
    ·rename_i e;subst e;omega
    ·simp at s
   have ⟨O,S⟩:=a9.set (y:=0 ||| 2^(m%64)) p (Plain.or_fits (by omega) C) Y;have U:Rep (r.set m true) ((ws.take (qaJ ws (m/64))++(m/64,0)::ws.drop (qaJ ws (m/64))).set (qaJ ws (m/64)) (m/64,0 ||| 2^(m%64))):=
    b.turned bc O (y:=0 ||| 2^(m%64)) (fun a=>by
     rw [S,bb];by_cases e:a=m/64
     ·rw [eA e,eA e]
     ·rw [dA e,dA e,dA e]) (fun j=>by rw [Plain.or_pow_bit,F])
   have aa:=Plain.or_pow_ne 0 (m%64);rw [F,<- aa];have ad:(ws.take (qaJ ws (m/64))++(m/64,0)::ws.drop (qaJ ws (m/64))).length=ws.length+1:=by simp;omega
   have W:bits .or .u64 (0:Int) ((2^(m%64):Nat):Int)=((0 ||| 2^(m%64):Nat):Int):=bits_or_u64_nat 0 (2^(m%64)) (by omega) C;have N:=Plain.or_fits (a:=0) (by omega) C;have l:=qH p;have E:=qH I;have g:qI (∀ w',qbr w' zz B r.length ((ws.take (qaJ ws (m/64))++(m/64,0)::ws.drop (qaJ ws (m/64))).set (qaJ ws (m/64)) (m/64,0 ||| 2^(m%64)))->qbd w' zz B (r.set m true)):=fun w' a1=>⟨_,by rw [uC];exact a1,U⟩
   have ak:=qH (fun (w:World) (v:Value) (bf:Nat) (d:w.ownsRow zz 104 2 v ws.length (qab ws)) n bn bq=>qwF w zz v ws.length (qaJ ws (m/64)) ws (m/64,0) bf d rfl (by omega) ac n bn bq);clear a0 U S O F I b p Y aa ap hm a9 bb;have ⟨q,Q⟩:=qE (m/64);have bd:(m:Int)/64=(q:Int):=by omega
   have bj:q<=144115188075855872:=by omega
   rw [<- Q] at af l g ak hkept ad ac;clear Q;have ⟨k,G⟩:=qE (qaJ ws q);rw [<- G] at l g ak ad ac;have ax:=qH G;have az:=qH hkept;have ⟨y,P⟩:=qE (2^(m%64));rw [<- P] at aj C W N g ⊢;have ⟨z,Z⟩:=qE (0 ||| y);rw [<- Z] at W N g ⊢;have ⟨a6,a4⟩:=qE (ws.take k++(q,0)::ws.drop k);rw [<- a4] at l g ak ad;clear G hkept P Z V ag a4
   go_enter func34,ntmps34
   go_wp2_with (go_at_call 72;(with_reducible refine R.o.mono ?_);rintro e w' ⟨rfl,rfl⟩)
   go_wp2_with (go_at_call 73;(with_reducible refine (af.o _ E.o).mono ?_))
   rintro e ab ⟨rfl,t⟩;rw [<- ax.o,az.o];have av:=qH (E.o.below t);have am:=qH (qcx.of_below t E.o.lt);have bp:=t.size;clear t;have ⟨ae,v,n,d⟩:=av.o;have ⟨a2,a5,_,_⟩:=qfL n;have be:=qH n;have bk:=qH d;have a7:v.ownBlock≠some ab.heap.size:=fun e=>by have :=(d.lt _ e).2;omega
   have bi:=qH (ak.o (ab.alloc (.cells #[.int .i64 q,.int .u64 (0:Nat)] 104)) v ab.heap.size (d.alloc _) (jA ab _) a7 (by simp;omega));clear n d a2 a7 bp
   go_wp2_with (go_at_call 74;refine bi.o.mono ?_)
   rintro e w3 ⟨v',rfl,a3⟩;have ⟨bg,a8,bm,bv⟩:=qwS ae be.o bk.o a3;have bh:=qH (am.o.trans a8);have ai:=a3.1;obtain ⟨_,u4,al,au⟩:=bg;have bo:u4=v':=by
    have h1:(w3.setCell ⟨B,1,none⟩ v').cell? ⟨B,1,none⟩=some u4:=(qfL al).2.1;rw [World.cell?_setCell_same' _ _ _ (by rw [bm];rfl)] at h1;injection h1 with h1
    exact h1.symm
   subst bo;obtain ⟨A,c,rfl,ao,X⟩:=qaK ai;have ⟨K,aq,J,_,T,D⟩:=qgF X (k:=k) (by omega);have L:a6[k]'(by omega)=(q,0):=(yC.1 l.o).2;rw [L] at T D;have aw:aq=0:=by
    rcases ai.2 with ⟨h,_⟩|⟨br,_,_,h,_⟩
    ·rw [J] at h;injection h with h1;cases h1
    ·rw [J] at h;injection h with h1;injection h1 with h1;injection h1
   subst J;subst aw;have bt:=ai.frozenAt (k*2+1);have ar:B≠K:=fun e=>qan au al (by decide) (by rw [e];rfl)
   have bu:¬ K=B:=fun e=>ar e.symm
   have M:=qH (qou (y:=z) al ae au l.o);rw [kB] at T D;have b1:w3.cell? ⟨K,k*2+1,none⟩=some (.int .u64 0):=D;have bw:(k:Int)<a6.length:=by omega
   clear X ai al au L ao D a5 a3 a8 ad;go_wp2
   go_region_with (go_at_call 75;(with_reducible refine (aj.o _).mono ?_);rintro e w' ⟨rfl,rfl⟩)
   all_goals
    go_wp2;go_ret;exact ⟨qel (by rw [kD];simp only [bne_iff_ne,ne_eq];omega),g.o _ M.o.1.drew,bh.o.trans M.o.2.drew⟩
  ·have ⟨x,p,ah⟩:=Plain.keptW_at hkept
   have F:=Plain.getW_kept b.wds p;have an:=b.wds.fits _ (iE p);have Y:∀ j,(x ||| 2^(m%64)).testBit j=true->m/64*64+j<r.length:=by
    intro j s;rw [Plain.or_pow_bit] at s;split at s
    ·rename_i e;subst e;omega
    ·exact b.wds.inn _ (iE p) j s
   have ⟨O,S⟩:=b.wds.set (k:=qaJ ws (m/64)) (y:=x ||| 2^(m%64)) p (Plain.or_fits an C) Y;have U:Rep (r.set m true) (ws.set (qaJ ws (m/64)) (m/64,x ||| 2^(m%64))):=
    b.turned bc O S (fun j=>by rw [Plain.or_pow_bit,F])
   have aa:=Plain.or_pow_ne x (m%64);rw [F,<- aa];have W:=bits_or_u64_nat x (2^(m%64)) an C;have N:=Plain.or_fits an C;have l:=qH p;have E:=qH I;have g:qI (∀ w',qbr w' zz B r.length (ws.set (qaJ ws (m/64)) (m/64,x ||| 2^(m%64)))->qbd w' zz B (r.set m true)):=fun w' a1=>⟨_,by rw [uC];exact a1,U⟩
   clear a0 U S O F I b p Y aa ap hm;have ⟨q,Q⟩:=qE (m/64);have bd:(m:Int)/64=(q:Int):=by omega
   have bj:q<=144115188075855872:=by omega
   rw [<- Q] at af l g hkept ah;clear Q;have ⟨k,G⟩:=qE (qaJ ws q);rw [<- G] at l g ah;have ax:=qH G;have az:=qH hkept;have ⟨y,P⟩:=qE (2^(m%64));rw [<- P] at aj C W N g ⊢;have ⟨z,Z⟩:=qE (x ||| y);rw [<- Z] at W N g ⊢;clear G hkept P Z V ag
   go_enter func34,ntmps34
   go_wp2_with (go_at_call 72;(with_reducible refine R.o.mono ?_);rintro e w' ⟨rfl,rfl⟩)
   go_wp2_with (go_at_call 73;(with_reducible refine (af.o _ E.o).mono ?_))
   rintro e ab ⟨rfl,t⟩;rw [<- ax.o,az.o];have av:=qH (E.o.below t);have am:=qH (qcx.of_below t E.o.lt);clear t;have ⟨ae,v,n,d⟩:=av.o;obtain ⟨A,c,rfl,ao,X⟩:=qaK d;have ⟨K,aq,J,_,T,D⟩:=qgF X ah;have L:ws[k]'ah=(q,x):=(yC.1 l.o).2;rw [L] at T D;have aw:aq=0:=by
    rcases d.2 with ⟨h,_⟩|⟨br,_,_,h,_⟩
    ·rw [J] at h;injection h with h1;cases h1
    ·rw [J] at h;injection h with h1;injection h1 with h1;injection h1
   subst J;subst aw;have bt:=d.frozenAt (k*2+1);have ar:B≠K:=fun e=>qan d n (by decide) (by rw [e];rfl)
   have bu:¬ K=B:=fun e=>ar e.symm
   have ⟨a2,a5,_,_⟩:=qfL n;have M:=qH (qou (y:=z) n ae d l.o);rw [kB] at T D;clear X d n L a2 ao;go_wp2
   go_region_with (go_at_call 75;(with_reducible refine (aj.o _).mono ?_);rintro e w' ⟨rfl,rfl⟩)
   all_goals
    go_wp2;go_ret;exact ⟨qel (by rw [kD];simp only [bne_iff_ne,ne_eq];omega),g.o _ M.o.1.drew,am.o.trans M.o.2.drew⟩
open Go.Deep Go.ChangeShapes Go.WideShapes
def qwU (w:World) (a:Option Addr) (len c:Nat) (b:List Bool):Prop:=b.length=len/\len<=9223372036854775807/\Row w w.heap.size a (qbK b)
def qkL (w:World) (a:Option Addr) (len b:Nat) (c:List Bool):Prop:=qwU w a len b c/\len<=b
def qwV {H:Type} {enc:TypeId × Value->H} {y:Bool} {a:Option Addr} {len:Nat} {x:DataW H × List MemPlace}
  (z:DataW.trod enc prog W 0 (fun _=>true) y k 24 [.slice a len n]=some x):∃ q,qkL W a len n q:=by
 rcases open_bools underlying24 underlying4 (by kernel_rfl) z with ⟨d,_⟩|⟨C,l,c,B,d,_,v,s,_,g⟩
 ·simp at d
  obtain ⟨rfl,rfl,rfl⟩:=d;exact ⟨[],⟨rfl,by omega,.inl rfl⟩,by omega⟩
 ·simp at d
  obtain ⟨rfl,rfl,rfl⟩:=d;refine ⟨(List.range len).map B,⟨by simp,by unfold maxLen at s;omega,?_⟩,v⟩;by_cases w:len=0
  ·subst w
   exact .inl (by simp [qbK])
  ·have i:=g 0 (by omega)
   obtain ⟨b,p,A⟩:=C;have r:A=none:=by simpa [Addr.add] using World.cell?_spot i
   subst r;refine .inr ⟨b,p,rfl,by simpa [cC] using vC W _ i,fun j u e=> ?_⟩;simp only [qbK,List.map_map] at e;rw [uE] at e;obtain ⟨D,t,rfl⟩:=Option.map_eq_some_iff.1 e;have ⟨m,h⟩:=yC.1 t;simp at m h;subst h;have :=g j (by omega);rwa [cC] at this
def qgP:List (String × DataW Unit):=[("math/bits.deBruijn64tab",Rows.laid_math_bits_deBruijn64tab)]
def qiC:List Int:=Lib.deBruijn64tab.map fun (n:Nat)=>(n:Int)
def qwW:(Rows.laid_math_bits_deBruijn64tab:DataW Unit)=Lib.tabData .u8 qiC:=by
 simp [Rows.laid_math_bits_deBruijn64tab,Lib.tabData,qiC,Lib.deBruijn64tab]
def qov:prog.globalNamed "math/bits.deBruijn64tab" =some 0:=by kernel_rfl
def qwX (a:laidMetH prog qgP W):Tab W:=by
 rw [MakeChecks.laidMetH_plain _ _ _ (by kernel_rfl)] at a;unfold qgP at a;rw [qwW] at a;have d:=Lib.tabIs_of_head (t:=323) (e:=5) (n:=64) qov (by kernel_rfl) underlying323 underlying5 (by kernel_rfl) (by kernel_rfl) a;intro j b;have c:=d.cell qov j (by unfold qiC;rw [gB];exact b);rw [c];congr 2;unfold qiC;rw [mA,mA,uE];rw [oA b];rfl
def qwY {a b x y:Value} (c:w.heap[B]?=some (.cells #[a,b] t (0,0))):((w.setCell ⟨B,0,none⟩ x).setCell ⟨B,1,none⟩ y).heap[B]?=some (.cells #[x,y] t (0,0)):=
 lB _ B 1 #[x,b] t y (lB w B 0 #[a,b] t x c)
def qkM {x y:Value} (a:w.heap[B]?=some (.cells #[x,y] t (0,0))):w.cell? ⟨B,0,none⟩=some x/\w.cell? ⟨B,1,none⟩=some y/\w.frozen? ⟨B,0,none⟩=false/\w.frozen? ⟨B,1,none⟩=false:=by
 simp [World.cell?,World.frozen?,a]
def qkN (l:List Po):l.take (8*qaN l.length)=l:=nB (by unfold qaN;omega)
def qwZ (zz B:Nat) (bs:List UInt8) (l:List Po) (w:World) (j:LAt w zz B bs l) (s:l.length<=1073741824):
  yG 118 #[.pointer (some ⟨B,0,none⟩)] w fun e w'=>e= .returned (.agg #[.int .i64 (qaP (-1) l),.int .i64 ((qae (-1) l).length:Int)])/\wG w w':=by
 have d:=(bA w.heap.size w).alloc (aA _) (.cells #[.int .i64 0,.int .i64 0] 206);have h1:=j.below d;have h:=qos zz B bs l _ h1;have g:=qwQ zz B bs l _ h1 (qaN l.length) (aA _) s;rw [qkN] at g;have v:=qH d;have k:=qH h;have a:=qH g;have ⟨n,p⟩:=qE (qaN l.length);rw [<- p] at a k;have ⟨x,m⟩:=qE (qaP (-1) l);have ⟨y,i⟩:=qE ((qae (-1) l).length);rw [<- m,<- i] at a ⊢;clear j h1 d h g p m i
 go_enter func118,ntmps118
 go_wp2_with (first
  |(go_at_call 141;refine k.o.mono ?_;rintro e w' ⟨rfl,rfl⟩)
  |(go_at_call 165;refine a.o.mono ?_))
 rintro e w3 ⟨rfl,b⟩;have c:w3.heap[w.heap.size]?=some (.cells #[.int .i64 0,.int .i64 0] 206 (0,0)):=(b.block w.heap.size (by simp)).trans (jA w _);have ⟨D,z,C,A⟩:=qkM c;have q:=v.o.trans (b.mono (by simp));have r:=qH c;have t:=qH q;clear c q b;go_wp2;refine pE (aG (P:=prog) rfl _ _ w.heap.size 206 _ (0,0) _ rfl (qwY r.o) underlying206 rfl (by kernel_rfl)) rfl ?_;exact ⟨rfl,(t.o.setCell (aA _) _).setCell (aA _) _⟩
attribute [local go_sem] gG
def qe4 (a b:Nat) (A B:World):Prop:=A.heap.size<=B.heap.size/\(a<A.heap.size->B.heap[a]?=A.heap[a]?)/\(b<A.heap.size->B.heap[b]?=A.heap[b]?)
def qe4.trans {A B C:World} (a:qe4 n b A B) (k:qe4 n b B C):qe4 n b A C:=
 ⟨lA a.1 k.1,fun e=>(k.2.1 (tB e a.1)).trans (a.2.1 e),fun e=>(k.2.2 (tB e a.1)).trans (a.2.2 e)⟩
def qe4.putObj (W:World) (l:Nat) (o:Obj) (h1:k≠l) (h2:n≠l):qe4 k n W (W.putObj l o):=
 ⟨by simp [World.putObj],fun _=>World.putObj_heap_other h1,fun _=>World.putObj_heap_other h2⟩
def qgn (b a n k:Nat):Value:= .slice (some ⟨b,a+8*k*2,none⟩) (min 8 (n-8*k)) (min 8 (n-8*k))
def qw0 (b d n:Nat) (A:Option Addr) (c:Nat) (e:List Nat->World->Prop) (i:Value) (wr:World):Prop:=
 ∃ k a:Nat,a=8*k/\a<n+8/\i= .int .i64 (a:Int)/\e (List.range k) wr/\wr.heap[b]?=some (.cells #[.slice A n c] 71 (0,0))/\wr.heap[d]?=some (.cells #[.int .i64 8] 3 (0,0))
def qw1 (m g d n c:Nat) (A:Option Addr) (b p:Nat) (an:1<=m) (E:0<n->A=some ⟨b,p,none⟩) (ao:n<=c) (ah:c<=maxLen) (aw:n<=1000000) (w:World) (C:w.heap[g]?=some (.cells #[.slice A n c] 71 (0,0))) (s:w.heap[d]?=some (.cells #[.int .i64 8] 3 (0,0))):
  qij m prog 162 #[.pointer (some ⟨g,0,none⟩),.pointer (some ⟨d,0,none⟩)] (fun k:Nat=>#[qgn b p n k]) (qe4 g d) (fun pre k _=>k=pre.length/\k<qaN n) (fun ys=>ys=List.range (qaN n)) w:=by
 intro l ab W y R J M;have j:W.heap[g]?=some (.cells #[.slice A n c] 71 (0,0)):=(y.block g (mG C)).trans C;have h:W.heap[d]?=some (.cells #[.int .i64 8] 3 (0,0)):=(y.block d (mG s)).trans s;refine vG func162 rfl trivial ?_ rfl;simp only [ntmps162,iD,nA,vB,Nat.reduceAdd,Nat.reduceSub,tD,uD,jD,vD,lC,bC];have ad:=qH J;have U:=qH R;have ae:=qH M;have T:=qH E;have X:=qH j;have ai:=qH h;clear J R M y C s j h E;unfold maxLen at ah;gi_wp2
 gi_loopw [4] (fun i wr=>qw0 g d n A c ab i wr) (fun i _=>n+8-(intOf i).toNat)
 case atStart=>exact ⟨0,0,rfl,by omega,rfl,ae.o,X.o,ai.o⟩
 case round=>
  obtain ⟨k,a,S,ak,rfl,H,j,h⟩:=hrel;have ag:=kG j;have aj:=kG h;have F:=qH H;have D:=qH j;have P:=qH h;have r:=qH S;clear H j h S;by_cases ax:a<n
  ·have V:=T.o (by omega)
   subst V;have ⟨q,O⟩:=qE (min 8 (n-a));have aq:0<q/\q<=8/\a+q<=n:=by omega
   have K:qgn b p n k= .slice (some ⟨b,p+a*2,none⟩) q q:=by unfold qgn;rw [<- r.o,<- O]
   have ⟨fn,tmps,assign,body,I,G⟩:=ad.o (List.range k) k (wr.drew) (U.o _ _ _ F.o (bA _ _).drew) ⟨by simp,by have :=r.o;unfold qaN;omega⟩;rw [K] at I;clear K;have ar:(if ((n-a:Nat):Int)<8 then ((n-a:Nat):Int) else 8)=(q:Int):=by split<;>omega
   have au:min (8:Int) ((n-a:Nat):Int)=(q:Int):=by omega
   have N:List.range (k+1)=List.range k++[k]:=List.range_succ;have Z:=qH N;have ap:a+q<=c:=by omega
   have am:a+q-a=q:=by omega
   clear O N;gi_wp2
   gi_region
   gi_wp2;refine G.mono ?_;rintro e Q ⟨rfl,t,v⟩;have x:Q.heap[g]?=some (.cells #[.slice (some ⟨b,p,none⟩) n c] 71 (0,0)):=(v.2.1 (mG D.o)).trans D.o;have B:Q.heap[d]?=some (.cells #[.int .i64 8] 3 (0,0)):=(v.2.2 (mG P.o)).trans P.o;have av:=kG x;have al:=kG B;rw [<- Z.o] at t;have af:=qH t;have aa:=qH x;have ac:=qH B;clear t v x B I G ag aj;gi_wp2;go_roundw
   case rel=>exact ⟨k+1,a+8,by have :=r.o;omega,by omega,by go_num,af.o,aa.o,ac.o⟩
   case measure=>simp [intOf];omega
  ·have L:k=qaN n:=by have :=r.o;unfold qaN;omega
   have z:=F.o;rw [L] at z;have Y:=qH z;clear L z;gi_wp2
   go_end0
   exact ⟨⟨_,rfl⟩,_,rfl,Y.o⟩
def qow (A:Option Addr) (n c:Nat) (w:World):
  yG 116 #[.slice A n c,.int .i64 8] w fun e w'=>e= .returned (.func (.func 162) #[] #[.pointer (some ⟨w.heap.size,0,none⟩),.pointer (some ⟨w.heap.size+1,0,none⟩)])/\
   w'.heap[w.heap.size]?=some (.cells #[.slice A n c] 71 (0,0))/\w'.heap[w.heap.size+1]?=some (.cells #[.int .i64 8] 3 (0,0))/\wG w w'/\w'.heap.size=w.heap.size+2:=by
 go_enter func116,ntmps116
 go_wp2;go_ret;have h1:=jA (w.alloc (.cells #[.slice A n c] 71)) (.cells #[.int .i64 8] 3);rw [tE] at h1;refine ⟨rfl,?_,h1,((bA _ w).alloc (aA _) _).alloc (by simp) _,by simp⟩;exact (pB _ _ _ (by simp)).trans (jA w _)
def qaE.lat (N zz B:Nat) (bs:List UInt8) (l:List Po):qaE N (fun W=>LAt W zz B bs l):=fun W k o h i d c g=>g.cellsKept fun j u a b=>by
 by_cases e:j=k
 ·subst e
  rw [d] at a;injection a with a
  subst a;rw [c] at b;cases b
 ·exact (World.putObj_heap_other e).trans a
def qw2 (x a:Int) (w:World):Sem.run prog (Instr.field 206 (.agg #[.int .i64 x,.int .i64 a]) 0) w= .ok (.int .i64 x) w:=by
 simp [Instr.field,go_sem,part,asAgg]
section
variable (zz B:Nat) (bs:List UInt8) (l:List Po) (w:World) (h:LAt w zz B bs l)
include h
end
section
variable (B:Nat) (bs:List UInt8) (l:List Po) (w:World) (h:LIn w B bs l)
include h
def qw3 (k:Int) (g: -1<=k):yG 175 #[.pointer (some ⟨B,0,none⟩),.int .i64 k] w fun e w'=>e= .returned (.bool (decide (0<=k/\k<(qaN l.length:Int))))/\w=w':=by
 have c:=qH (qoq B bs l w h);clear h;have ⟨n,b⟩:=qE (qaN l.length);rw [<- b] at c;rw [<- b];clear b;by_cases i:k<0
 ·have a:decide (0<=k/\k<(n:Int))=false:=uA (by omega)
  rw [a];have d:decide (0<=k)=false:=uA (by omega)
  go_enter func175,ntmps175
  go_wp2;go_ret;exact ⟨rfl,rfl⟩
 ·have d:decide (0<=k)=true:=yA (by omega)
  have a:decide (0<=k/\k<(n:Int))=decide (k<(n:Int)):=by
   by_cases h2:k<(n:Int)
   ·rw [yA h2,yA ⟨by omega,h2⟩]
   ·rw [uA h2,uA (fun h=>h2 h.2)]
  rw [a];clear a
  go_enter func175,ntmps175
  go_wp2_with (go_at_call 141;refine c.o.mono ?_;rintro e w' ⟨rfl,rfl⟩)
  go_ret;exact ⟨rfl,rfl⟩
end
def qc6 (a:List Int) (l:List Po):List Po:=l.filterMap fun q=>if a.getD q.1.toNat 0<0 then none else some (a.getD q.1.toNat 0,q.2)
def qw4 (a:List Int) (l:List Po) (q:Po):qc6 a (l++[q])=if a.getD q.1.toNat 0<0 then qc6 a l else qc6 a l++[(a.getD q.1.toNat 0,q.2)]:=by
 unfold qc6;rw [List.filterMap_append];by_cases b:a.getD q.1.toNat 0<0
 ·simp only [List.filterMap_cons,List.filterMap_nil,eA b,mC]
 ·simp only [List.filterMap_cons,List.filterMap_nil,dA b]
def qw5 (a:List Int) (l:List Po):(qc6 a l).length<=l.length:=List.length_filterMap_le _ _
def qgQ (R:Option Addr->List Value->Prop) (l:List Po) (w:World) (e:Ending) (w':World):Prop:=∃ v cs,e= .returned v/\w'.ownsRow w.heap.size 74 2 v l.length cs/\qao R l cs/\wG w w'
def qkO (R:Option Addr->List Value->Prop) (a:List Int) (l:List Po) (w:World) (b c:Value) (wr:World):Prop:=∃ (k:Nat) (cs:List Value),k<=l.length/\c= .int .i64 (k:Int)/\wr.ownsRow w.heap.size 74 2 b (qc6 a (l.take k)).length cs/\qao R (qc6 a (l.take k)) cs/\wG w wr
def qw6 (R:Option Addr->List Value->Prop) (T:List Value) (A aa:Option Addr) (m c n ba:Nat) (l:List Po) (a:List Int) (w:World) (U:qao R l T) (P:Row w w.heap.size A T) (ah:Row w w.heap.size aa (qaa a)) (ai:l.length=m) (ae:a.length=n) (bn:m<=1000000) (be:n<=1000000) (aj:∀ q∈l,0<=q.1/\q.1<(n:Int)):
  yG 86 #[.slice A m c,.slice aa n ba] w (qgQ R (qc6 a l) w):=by
 have ⟨ap,a4,a1,a2,a6⟩:=lG qfN;have af:=qH U;have am:=qH P;have aw:=qH ah;have H:=qH ai;have F:=qH ae;have av:=qH aj;clear U P ah ai ae aj
 go_enter func86,ntmps86
 go_wp2
 go_loopw [5,7,8,11] (fun a5 u7 u8 E wr=>qkO R a l w a5 E wr) (fun _ _ _ E _=>m-(intOf E).toNat)
 case atStart=>exact ⟨0,[],kA _,rfl,by simpa [qc6] using vA _ _ _ _,by simp [qc6,qao],bA _ _⟩
 case round=>
  obtain ⟨k,cs,a0,rfl,h,i,e⟩:=hrel;rw [H.o] at a0;by_cases a8:k<m
  ·have t:k<l.length:=by rw [H.o];exact a8
   have ⟨ad,L,J,X,I,a7,x⟩:=(af.o).at_ t;have ay:l.getD k (0,[])=l[k]:=by rw [mA,oA t];rfl
   rw [ay] at ad X I x;have ⟨bh,aq⟩:=(av.o) _ (pA t);obtain ⟨b,bk,rfl,bl,y⟩:=Row.at_ ((am.o).below e) (by rw [(af.o).len];omega);have ax:=y _ _ ad;have q2:=y _ _ X;rw [<- uB] at q2;have g:qc6 a (l.take (k+1))=if a.getD l[k].1.toNat 0<0 then qc6 a (l.take k) else qc6 a (l.take k)++[(a.getD l[k].1.toNat 0,l[k].2)]:=by
    rw [aB t,qw4]
   obtain ⟨j,B⟩:∃ j:Nat,l[k].1=(j:Int):=⟨l[k].1.toNat,by omega⟩;rw [B,rD] at g;rw [B] at aq ax;have O:j<n:=by omega
   obtain ⟨D,Y,rfl,bf,q3⟩:=qbR ((aw.o).below e) (k:=j) (by rw [F.o];exact O);have ar:a.getD j 0=a[j]'(by rw [F.o];exact O):=by rw [mA,oA (by rw [F.o];exact O)];rfl
   rw [<- ar] at q3;have ⟨d,K⟩:=qE (a.getD j 0);rw [<- K] at q3 g;have ⟨N,C⟩:=qE (l[k].2.length);rw [<- C] at q2 I;have S:=qw5 a (l.take k);rw [sA] at S;have ⟨M,s⟩:=qE ((qc6 a (l.take k)).length);rw [<- s] at h S;have bd:M<=1000000:=by omega
   have bj:=e.size;have bm:(k:Int)<(m:Int):=by omega
   have bo:(j:Int)<(n:Int):=by omega
   have G:=qH h;have Z:=qH i;have bg:=qH g;have ak:=qH e;have a9:=qH s;have ag:=qH C;have az:=qH x;have bi:∀ z,(wr.alloc z).cell? ⟨D,Y+j,none⟩=some (.int .i64 d):=fun z=>(((bA wr.heap.size wr).alloc (aA _) z).cell (p:=⟨D,Y+j,none⟩) (by show D<_;omega)).trans q3
   unfold maxLen at a7;by_cases v:d<0
   ·have au:decide ((0:Int)<=d)=false:=uA (by omega)
    rw [eA v] at g;have r:qI (∀ z,qkO R a l w u5 (.int .i64 ((k:Int)+1)) (wr.alloc z)):=qH fun z=>⟨k+1,cs,by omega,rfl,by rw [g,<- s];exact h.alloc z,by rw [g];exact i,e.alloc e.size z⟩
    clear h i g e s C x K B y G Z v;go_wp2;go_roundw
    case rel=>exact r.o _
    case measure=>simp [intOf];omega
   ·have au:decide ((0:Int)<=d)=true:=yA (by omega)
    rw [dA v] at g;have ac:=qH g;have ⟨W,bc⟩:=qE wr.heap.size;clear h i g e s C x K B y v
    go_wp2_with (at_builtin;refine wB _ rfl (.tmp 22) (.tmp 27) 71 rfl w.heap.size 74 ap _ 2 32 underlying71 a4 a1 a2 a6 rfl (by omega) _ M cs rfl ((G.o.alloc _).alloc _) ⟨wr.heap.size+1,0,none⟩ 1 1 [.int .i64 d,.slice L N J] rfl rfl (by simpa using qaH (wr.alloc _) [.int .i64 d,.slice L N J] 74) (by intro u ab;simp at ab;rcases ab with rfl|rfl<;>rfl) (by unfold maxLen;omega) (by omega) (by simp;omega) ?_;intro bb ao Q V _)
    have al:qkO R a l w bb (.int .i64 ((k:Int)+1)) ao:=by
     refine ⟨k+1,cs++[.int .i64 d,.slice L N J],by omega,rfl,?_,?_,?_⟩
     ·rw [ac.o,iA,<- a9.o]
      exact Q
     ·rw [ac.o,ag.o]
      exact (Z.o).snoc (by rw [<- ag.o];exact I) (by unfold maxLen;omega) az.o
     ·exact (((ak.o).alloc (ak.o).size _).alloc (by simp;omega) _).grown V (by simp;omega) fun q a3=>((G.o).lt q a3).1
    have r:=qH al;clear al Q V;go_roundw
    case rel=>exact r.o
    case measure=>simp [intOf];omega
  ·have an:k=l.length:=by have :=H.o;omega
   subst an;rw [fC] at h i;have r:=qH (show qgQ R (qc6 a l) w (.returned u5) wr from ⟨_,cs,rfl,h,i,e⟩)
   clear h i e;go_wp2;go_ret;exact r.o
open Go.Shelf
open Plain (Wd WS Rep qbc qcu)
attribute [local go_sem] gG
def KpX (X:Nat->Prop) (W a:World):Prop:=W.heap.size<=a.heap.size/\∀ k,k<W.heap.size->¬ X k->∀ o:Obj,W.heap[k]?=some o->o.isCells=true->a.heap[k]?=some o
def KpX.refl (X:Nat->Prop) (W:World):KpX X W W:=⟨aA _,fun _ _ _ _ a _=>a⟩
def KpX.trans {X:Nat->Prop} {A B C:World} (a:KpX X A B) (k:KpX X B C):KpX X A C:=
 ⟨lA a.1 k.1,fun i b d o e c=>k.2 i (tB b a.1) d o (a.2 i b d o e c) c⟩
def KpX.of_below {X:Nat->Prop} (a:wG W w):KpX X W w:=⟨a.size,fun k c _ o b _=>by rw [a.block k c];exact b⟩
def KpX.putObj (X:Nat->Prop) (W:World) (l:Nat) (o c:Obj) (g:W.heap[l]?=some o) (d:o.isCells=false):KpX X W (W.putObj l c):=by
 refine ⟨by simp [World.putObj],fun k h _ p a b=> ?_⟩;by_cases e:k=l
 ·subst e
  rw [g] at a;injection a with a
  subst a;rw [d] at b;cases b
 ·simp only [World.putObj]
  rw [Array.getElem?_setIfInBounds_ne (by omega)];exact a
def KpX.cell {X:Nat->Prop} (g:KpX X W w') {a:Addr} {v:Value} (h:¬ X a.block) (b:W.cell? a=some v):w'.cell? a=some v:=by
 have d:=vC W a b;obtain ⟨o,c⟩:∃ o,W.heap[a.block]?=some o:=⟨_,Array.getElem?_eq_getElem d⟩;have e:o.isCells=true:=by
  cases o<;>simp [World.cell?,c] at b<;>rfl
 rw [tC (w:=W) (by rw [g.2 _ d h o c e,c])];exact b
def qbr.keepX {X:Nat->Prop} (h:qbr w zz B n ws) (i:KpX X w w') (h1:¬ X B) (h2:∀ g,qdG w B=some g->¬ X g):qbr w' zz B n ws/\qdG w' B=qdG w B:=by
 have l:=h.lt;obtain ⟨k,v,c,e⟩:=h;have d:=i.2 B l h1 _ c rfl;refine ⟨⟨k,v,d,qaq e fun g a=> ?_⟩,qkK (by rw [d,c])⟩;have j:qdG w B=some g:=by rw [qgm c];exact a
 rcases e.2 with ⟨rfl,_⟩|⟨m,q,p,rfl,_,b,_⟩
 ·cases a
 ·simp only [Value.ownBlock,jB] at a
  subst a;rw [i.2 m (gA.1 b).1 (h2 _ j) _ b rfl,b]
def Tab.keepX {X:Nat->Prop} (c:Tab w) (d:KpX X w w') (h1:¬ X 0):Tab w':=fun j b=>d.cell (a:=⟨0,j,none⟩) h1 (c j b)
structure qgR (X:Nat->Prop) (D C n:Nat) (ws:List Wd) (W:World):Prop where
 var:W.cell? ⟨D,0,none⟩=some (.pointer (some ⟨C,0,none⟩))
 set:qbr W 0 C n ws
 tab:Tab W
 xD:¬ X D
 xC:¬ X C
 xG:∀ g,qdG W C=some g->¬ X g
 xT:¬ X 0
def qgR.keep {X:Nat->Prop} {C:Nat} (b:qgR X D C n ws W) (c:KpX X W w):qgR X D C n ws w:=by
 have ⟨h1,h2⟩:=b.set.keepX c b.xC b.xG;exact ⟨c.cell (a:=⟨D,0,none⟩) b.xD b.var,h1,b.tab.keepX c b.xT,b.xD,b.xC,fun g d=>b.xG g (by rw [<- h2];exact d),b.xT⟩
def qkP {b:List Nat->World->Prop} (g:AbidesFrom B b) {s:List Nat} {W c:World} (d:b s W) (a:wG W c):b s c:=
 g s W c none d ⟨a.os,a.tape,a.output,a.size,fun k h _=>a.block k h⟩ (fun r e=>by cases e)
def qw7 (X:Nat->Prop) (ws:List Wd) (a:List Nat->World->Prop) (W:World) (i:Value) (wr:World):Prop:=
 ∃ k:Nat,k<=ws.length/\i= .int .i64 k/\a (qbc (ws.take k)) wr/\KpX X W wr
def qw8 (X:Nat->Prop) (ws:List Wd) (k:Nat) (p:Wd) (a:List Nat->World->Prop) (W:World) (v:Value) (wr:World):Prop:=
 ∃ (b y:Nat) (done:List Nat),v= .pointer (some ⟨b,0,none⟩)/\W.heap.size<=b/\wr.cell? ⟨b,0,none⟩=some (.int .i64 p.1)/\wr.cell? ⟨b,1,none⟩=some (.int .u64 y)/\y<18446744073709551616/\
  qcu p=done++qcu (p.1,y)/\a (qbc (ws.take k)++done) wr/\KpX X W wr
def qkQ (v:Value) (w:World):Nat:=match v with| .pointer (some a)=>(match w.cell? ⟨a.block,1,none⟩ with|some (.int _ z)=>z.toNat|_=>0)|_=>0
def qox {y:Nat} (a:w.cell? ⟨b,1,none⟩=some (.int .u64 y)):qkQ (.pointer (some ⟨b,0,none⟩)) w=y:=by simp [qkQ,a]
def qoy (a:k<ws.length):qbc (ws.take (k+1))=qbc (ws.take k)++qcu (ws[k]'a):=by
 rw [aB a,Plain.elems_append];simp [qbc]
def qw9 (a:k<ws.length):qbc ws=qbc (ws.take k)++(qcu (ws[k]'a)++qbc (ws.drop (k+1))):=by
 have e:qbc ws=qbc (ws.take (k+1))++qbc (ws.drop (k+1)):=by rw [<- Plain.elems_append,gD]
 rw [e,qoy a,iB]
def qxa (n l Q C N:Nat) (ca:1<=n) (X:Nat->Prop) (ws:List Wd) (F:WS N ws) (P:N<=big) (d aj:List Nat->World->Prop) (W:World) (a1:∀ k,X k->k<W.heap.size)
  (Z:AbidesFrom W.heap.size d)
  (au:∀ pre x K,d pre K->pre.length<(qbc ws).length->YieldAt Fence.wide (n-1) prog l #[.int .i64 ((x:Nat):Int)] K fun e g=>
   (e= .returned (.bool true)/\d (pre++[x]) g/\KpX X K g)\/(e= .returned (.bool false)/\aj (pre++[x]) g))
  (z:qgR X Q C N ws W) (ax:d [] W):
  CallsIn Fence.wide n prog 170 #[.func (.yield l) #[] #[],.pointer (some ⟨Q,0,none⟩)] W fun e g=>(∃ v,e= .returned v)/\
   ((∃ ys,ys=qbc ws/\d ys g)\/(∃ pre,pre<+:qbc ws/\aj pre g)):=by
 refine vG func170 rfl trivial ?_ rfl;simp only [ntmps170,iD,nA,vB,Nat.reduceAdd,Nat.reduceSub,tD,uD,jD,vD,lC,bC];have ⟨A,c,cf,b0,bx,bm⟩:=z.set.read;have b5:=z.var;have ae:=qH z;have a3:=qH au;have G:=qH Z;have a5:=qH a1;have bb:=qH ax;have U:=qH F;have a9:=qH P;have b7:=(qgH F P).1;clear z au Z a1 ax bm F P;gi_wp2
 gi_loopw [10] (qw7 X ws d W) (fun i _=>ws.length-(intOf i).toNat)
 case atStart=>exact ⟨0,kA _,rfl,bb.o,KpX.refl _ _⟩
 case round=>
  obtain ⟨k,b3,rfl,ad,B⟩:=hrel;have an:=qH (ae.o.keep B);have ab:=qH ad;have bf:=qH B;have br:=B.1;clear ad B;have cd:=an.o.var;have ⟨cc,cb,bn,b2,bl,aa⟩:=an.o.set.read;by_cases h:k<ws.length
  ·have ⟨bw,b4,bq,b1,bj,a2⟩:=qgF aa h
   subst bq;have ak:=U.o.fits _ (pA h);have bo:=(qgH U.o a9.o).2 _ (pA h);have H:=qH (qw9 h);have af:=qH (qoy h);have ⟨p,ap⟩:=qE (ws[k]'h);rw [<- ap] at bj a2 ak bo H af;have bv:(k:Int)<ws.length:=by omega
   clear ap aa bl bn;gi_wp2
   gi_loopw [4] (qw8 X ws k p d W) (fun v a7=>qkQ v a7)
   case atStart=>
    refine ⟨wr.heap.size,p.2,[],rfl,br,?_,?_,ak,rfl,?_,?_⟩
    ·simp [World.cell?_alloc_at]
    ·simp [World.cell?_alloc_at]
    ·rw [mC]
     exact qkP G.o ab.o ((bA _ _).alloc (aA _) _)
    ·exact bf.o.trans (KpX.of_below ((bA _ _).alloc (aA _) _))
   case round=>
    obtain ⟨b,y,done,rfl,ce,I,J,t,ay,aw,L⟩:=hrel;have D:=qH ay;have al:=qH aw;have aq:=qH L;have am:=qH (ae.o.keep L);have bt:=qH (qox J);clear ay aw L;by_cases j:y=0
    ·subst j
     have az:qbc (ws.take (k+1))=qbc (ws.take k)++done:=by
      rw [af.o];congr 1;have :=D.o;rw [Plain.elemW_zero,mC] at this;exact this
     have bc:=qH az;clear az;gi_wp2;go_roundw
     case rel=>exact ⟨k+1,by omega,by go_num,by rw [bc.o];exact al.o,aq.o⟩
     case measure=>simp [intOf];omega
    ·have q:=Plain.elemW_step (a:=p.1) t j
     have a4:=(Plain.ctz_bit t j).choose_spec.2;have T:=sG y (y-1) t (by omega);have E:=Plain.low_lt j;have bi:IntKind.u64.wrap ((y:Int)-1)=((y-1:Nat):Int):=by rw [jG];omega
     have ⟨bs,R⟩:=qE (y-1);rw [<- R] at T bi q E;have ⟨s,V⟩:=qE (y &&& bs);rw [<- V] at T q E;have M:=qH (fun w a8=>quO p.1 y w (by omega) t j a8);have ⟨x,ai⟩:=qE (p.1*64+Lib.ctz 64 y);rw [<- ai] at M q;have O:=qH q;have b8:((y:Int) != 0)=true:=by simp;omega
     have bh:=qH (show s<18446744073709551616 by omega);have a6:=qH E;clear q a4 R V ai j E
     gi_wp2_with (first|(refine ⟨trivial,?_⟩;gi_at_call 171;refine (uG.2 (M.o _ am.o.tab)).mono ?_)|(gi_at_call 171;refine (uG.2 (M.o _ am.o.tab)).mono ?_))
     rintro e w3 ⟨rfl,m⟩;have S:(qbc (ws.take k)++done).length<(qbc ws).length:=by
      rw [H.o,D.o,O.o];simp
      try omega
     have av:(qbc (ws.take k)++done)++[x]<+:qbc ws:=by
      rw [H.o,D.o,O.o];exact ⟨qcu (p.1,s)++qbc (ws.drop (k+1)),by simp⟩
     have bp:=qH av;have ⟨fn,tmps,assign,body,ba,ag⟩:=a3.o _ x w3 (qkP G.o al.o m) S;have ao:b<wr.heap.size:=vC wr _ I;have ah:¬ X b:=fun e=>by have :=a5.o b e;omega
     have a0:w3.cell? ⟨b,0,none⟩=some (.int .i64 p.1):=(m.cell (p:=⟨b,0,none⟩) ao).trans I;have Y:w3.cell? ⟨b,1,none⟩=some (.int .u64 y):=(m.cell (p:=⟨b,1,none⟩) ao).trans J;have ar:=qH (aq.o.trans (KpX.of_below m));have bu:=ar.o.1;clear S av I J m;gi_wp2;refine ag.mono ?_;rintro e be (⟨rfl,ac,r⟩|⟨rfl,bg⟩)
     ·have b9:=r.cell (a:=⟨b,0,none⟩) ah a0
      have bz:=r.cell (a:=⟨b,1,none⟩) ah Y;have b6:=r.1;have bd:=qH ac;have bk:=qH (ar.o.trans r);clear ac r a0 Y ba ag;gi_wp2;go_roundw
      case rel=>
       refine ⟨be.heap.size,s,done++[x],rfl,by omega,?_,?_,bh.o,?_,?_,?_⟩
       ·simp [World.cell?_alloc_at]
       ·simp [World.cell?_alloc_at]
       ·rw [D.o,O.o,iB]
        rfl
       ·rw [<- iB]
        exact qkP G.o bd.o ((bA _ _).alloc (aA _) _)
       ·exact bk.o.trans (KpX.of_below ((bA _ _).alloc (aA _) _))
      case measure=>
       rw [bt.o,qox (y:=s) (by simp [World.cell?_alloc_at])];exact a6.o
     ·gi_wp2
      refine pE (results_none rfl _ _ _) rfl ?_;exact ⟨⟨_,rfl⟩,.inr ⟨_,bp.o,bg⟩⟩
  ·obtain rfl:k=ws.length:=by omega
   gi_wp2
   go_end0
   exact ⟨⟨_,rfl⟩,.inl ⟨_,rfl,by have :=ab.o;rwa [fC] at this⟩⟩
def qe5 (t:TypeId):Prop:=t=181\/t=206\/t=5
structure qa9 (zz:Nat) (w w':World):Prop where
 below:Below zz w w'
 keep:∀ (k:Nat) (o:Obj),w.heap[k]?=some o->(∀ cs t fr,o= .cells cs t fr->¬ qe5 t)->w'.heap[k]?=some o
section
variable {zz:Nat} {w w' w'':World}
def qa9.trans (b:qa9 zz w w') (k:qa9 zz w' w''):qa9 zz w w'':=⟨b.below.trans k.below,fun i o c a=>k.keep i o (b.keep i o c a) a⟩
def qa9.of_below (a:wG w w') (c:zz<=w.heap.size):qa9 zz w w':=
 ⟨a.mono c,fun k o b _=>by rw [a.block k (gA.1 b).1,b]⟩
def qa9.setCell {cs:Array Value} (g:w.heap[B]?=some (.cells cs t fr)) (b:qe5 t) (c:zz<=B) (v:Value):qa9 zz w (w.setCell ⟨B,i,none⟩ v):=
  ⟨(bA zz w).setCell (p := ⟨B, i, none⟩) c v, fun k o a d => by
    by_cases e:k=B
    · subst e
      rw [g] at a;injection a with a
      exact absurd b (d _ _ _ a.symm)
    · rw [rA _ _ _ _ e,a]⟩
def qa9.grown {row:Option Nat} (b:w.grownBy w' row) (c:∀ k,row=some k->zz<=k/\∃ cs t fr,w.heap[k]?=some (.cells cs t fr)/\qe5 t) (d:zz<=w.heap.size):qa9 zz w w':=
  ⟨(bA zz w).grown b d (fun k e => (c k e).1), fun k o a g => by
    rw [b.block k (gA.1 a).1 ?_,a];intro e;have ⟨_,cs,t,fr,h1,h2⟩:=c k e.symm;rw [h1] at a;injection a with a
    exact g _ _ _ a.symm h2⟩
def qa9.keepsOthers (a:qa9 zz w w'):KeepsOthers w w':=
 ⟨a.below.size,fun k o c b=>a.keep k o c fun cs t fr e=>by subst e;cases b⟩
def qd0 {e:TypeId} {size:Nat} (d:w.ownsRow b e size v n xs) {g:Nat} (a:v.ownBlock=some g):∃ cs fr,w.heap[g]?=some (.cells cs e fr):=by
 rcases d.2 with ⟨rfl,_⟩|⟨j,i,h,rfl,_,c,r⟩
 ·cases a
 ·simp only [Value.ownBlock,jB] at a
  subst a;exact ⟨_,_,c⟩
def qa9.grownOwn {e:TypeId} {size:Nat} (a:w.ownsRow zz e size v n xs) (h:qe5 e) (c:w.grownBy w' v.ownBlock) (d:zz<=w.heap.size):qa9 zz w w':=
 qa9.grown c (fun k b=>⟨(a.lt k b).1,by have ⟨cs,fr,g⟩:=qd0 a b;exact ⟨cs,e,fr,g,h⟩⟩) d
def qe6 (zz:Nat) (w:World) (A:Option Addr) (xs:List Value):Prop:=
 xs=[]\/∃ b a,A=some ⟨b,a,none⟩/\b<w.heap.size/\(b<zz\/∃ cs t fr,w.heap[b]?=some (.cells cs t fr)/\¬ qe5 t)/\∀ j u,xs[j]?=some u->w.cell? ⟨b,a+j,none⟩=some u
def qe6.mild (g:qe6 zz w A xs) (d:qa9 zz w w'):qe6 zz w' A xs:=by
 rcases g with g|⟨b,h,e,l,c,k⟩
 ·exact .inl g
 ·have i:w'.heap[b]?=w.heap[b]?:=by
   rcases c with c|⟨cs,t,fr,h1,h2⟩
   ·exact d.below.block b c
   ·rw [d.keep b _ h1 (fun cs' p n e=>by cases e;exact h2),h1]
  refine .inr ⟨b,h,e,tB l d.below.size,c.imp id (fun ⟨cs,t,fr,h1,h2⟩=>⟨cs,t,fr,i.trans h1,h2⟩),fun j u m=> ?_⟩;rw [tC (a:=⟨b,h+j,none⟩) i];exact k j u m
def qe6.at_ (d:qe6 zz w A xs) (c:0<xs.length):∃ b a,A=some ⟨b,a,none⟩/\b<w.heap.size/\∀ j u,xs[j]?=some u->w.cell? ⟨b,a+j,none⟩=some u:=by
 rcases d with rfl|⟨b,a,e,h1,_,h2⟩
 ·simp at c
 ·exact ⟨b,a,e,h1,h2⟩
def qe6.of_row (a:Row w zz A xs) (d:zz<=w.heap.size):qe6 zz w A xs:=by
 rcases a with a|⟨b,c,e,h1,h2⟩
 ·exact .inl a
 ·exact .inr ⟨b,c,e,by omega,.inl h1,h2⟩
end
def qcK (w:World) (zz B:Nat) (bs:List UInt8) (es:List (Int × Nat)) (many qa7:Int):Prop:=
 zz<=B/\∃ a b,w.heap[B]?=some (.cells #[a,b,.int .i64 many,.int .i64 qa7] 181 (0,0))/\
  w.ownsRow zz 5 1 a bs.length (Lib.byteCells bs)/\w.ownsRow zz 206 2 b es.length (qdF es)
def qoz {bs:List UInt8} {l:List Po}:LAt w zz B bs l↔qcK w zz B bs (qdY l (qaN l.length)) (l.length:Int) (qaG l:Int):=by
 unfold LAt qcK qfq;rw [qgg]
section
variable {w w':World} {zz B:Nat} {bs:List UInt8} {es:List (Int × Nat)} {many qa7:Int}
def qcK.lt (a:qcK w zz B bs es many qa7):B<w.heap.size:=by
 obtain ⟨_,c,d,b,_⟩:=a;exact (gA.1 b).1
def qcK.below (b:qcK w zz B bs es many qa7) (a:wG w w'):qcK w' zz B bs es many qa7:=by
 have h:=b.lt;obtain ⟨h1,e,c,g,d,i⟩:=b;exact ⟨h1,e,c,(a.block B h).trans g,qaf d a,qaf i a⟩
def qfr {e:TypeId} {size:Nat} (c:w.ownsRow b e size v n xs) {B i:Nat} (d:v.ownBlock≠some B) (u:Value):(w.setCell ⟨B,i,none⟩ u).ownsRow b e size v n xs:=
 qaq c fun g a=>rA _ _ _ _ fun e=>d (by rw [a,e])
def qcK.setMany (g:qcK w zz B bs es many qa7) (m:Int):qcK (w.setCell ⟨B,2,none⟩ (.int .i64 m)) zz B bs es m qa7/\qa9 zz w (w.setCell ⟨B,2,none⟩ (.int .i64 m)):=by
 obtain ⟨h1,e,d,a,b,c⟩:=g;exact ⟨⟨h1,e,d,lB w B 2 _ _ _ a,qfr b (qan b a (by decide)) _,qfr c (qan c a (by decide)) _⟩,qa9.setCell a (.inl rfl) h1 _⟩
def qcK.setTotal (g:qcK w zz B bs es many qa7) (m:Int):qcK (w.setCell ⟨B,3,none⟩ (.int .i64 m)) zz B bs es many m/\qa9 zz w (w.setCell ⟨B,3,none⟩ (.int .i64 m)):=by
 obtain ⟨h1,e,d,a,b,c⟩:=g;exact ⟨⟨h1,e,d,lB w B 3 _ _ _ a,qfr b (qan b a (by decide)) _,qfr c (qan c a (by decide)) _⟩,qa9.setCell a (.inl rfl) h1 _⟩
def qcK.pushed {x:Int} {z:Nat} (j:zz<=B) (n:w.heap[B]?=some (.cells #[v,V,.int .i64 many,.int .i64 qa7] 181 (0,0))) (r:w.ownsRow zz 5 1 v bs.length (Lib.byteCells bs)) (s:w.ownsRow zz 206 2 V es.length (qdF es))
  (a:wG w w0) (c:w0.grownBy w' V.ownBlock) (l:w'.ownsRow zz 206 2 v' (es.length+1) (qdF es++[.int .i64 x,.int .i64 (z:Int)])):
  w'.heap[B]?=some (.cells #[v,V,.int .i64 many,.int .i64 qa7] 181 (0,0))/\qcK (w'.setCell ⟨B,1,none⟩ v') zz B bs (es++[(x,z)]) many qa7/\qa9 zz w (w'.setCell ⟨B,1,none⟩ v'):=by
 have q:B<w.heap.size:=(gA.1 n).1;have i:=(a.block B q).trans n;have d:=qaf s a;have h:=qaf r a;have b:w'.heap[B]?=some (.cells #[v,V,.int .i64 many,.int .i64 qa7] 181 (0,0)):=(c.block B (by have :=a.size;omega) (fun e=>qan d i (by decide) e.symm)).trans i;have k:w'.ownsRow zz 5 1 v bs.length (Lib.byteCells bs):=qaq h fun g m=>c.block g (h.lt g m).2 fun e=>qeU d h (by decide) m e.symm
 refine ⟨b,⟨j,v,v',lB w' B 1 _ _ _ b,qfr k (qan k b (by decide)) _,?_⟩,?_⟩
 ·refine qfr ?_ (qan l b (by decide)) _
  rw [qoo,iA,bB];exact l
 ·have p:zz<=w.heap.size:=by omega
  exact (qa9.of_below a p).trans ((qa9.grownOwn d (.inr (.inl rfl)) c (by have :=a.size;omega)).trans (qa9.setCell b (.inl rfl) j _))
end
def qxb (l:List Int) (r last i:Value):Prop:=r= .bool false/\∃ (k:Nat) (x:Int),k<=l.length/\i= .int .i64 (k:Int)/\last= .int .i64 x/\qen x (l.drop k)=qen (-1) l
def qoA (A:Option Addr) (m c:Nat) (l:List Int) (w:World) (g:Row w w.heap.size A (qaa l)) (s:l.length=m) (F:m<=9223372036854775807):
  yG 161 #[.slice A m c] w fun e w'=>e= .returned (.bool (qdk l))/\w=w':=by
 have q:=qH g;clear g;subst s;rw [qt8];have ⟨I,d⟩:=qE (qen (-1) l);rw [<- d];have b:=qH d;clear d
 go_enter func161,ntmps161
 go_wp2
 go_loop [2,3,8] (fun r last i=>qxb l r last i) (fun _ _ i=>l.length-(intOf i).toNat)
 case atStart=>exact ⟨rfl,0, -1,by omega,rfl,rfl,rfl⟩
 case round=>
  obtain ⟨rfl,k,x,G,rfl,rfl,a⟩:=hrel;by_cases n:k<l.length
  ·have ⟨D,H,t,_,v⟩:=qht q.o n
   subst t;rw [qt9 n] at a;have ⟨y,j⟩:=qE (l.getD k 0);rw [<- j] at v a;clear j;by_cases z:y<=x
   ·rw [uA (by omega),oE,oE,<- b.o] at a
    subst a;go_wp2;go_ret;exact ⟨rfl,rfl⟩
   ·have E:decide (y<=x)=false:=uA z
    by_cases C:2147483648<=y
    ·rw [uA (p:=y<2147483648) (by omega),Bool.and_false,oE,<- b.o] at a
     subst a;go_wp2;go_ret;exact ⟨rfl,rfl⟩
    ·rw [yA (p:=x<y) (by omega),yA (p:=y<2147483648) (by omega),sD,sD] at a
     have B:=qH a;clear a;go_wp2
     go_round
     case rel=>exact ⟨rfl,k+1,y,by omega,by go_num,rfl,B.o⟩
     case measure=>simp [intOf];omega
  ·have h:qen x (l.drop k)=true:=by rw [eE (by omega)];rfl
   rw [h,<- b.o] at a;subst a;clear h;go_wp2;go_ret;exact ⟨rfl,rfl⟩
open Plain (Wd WS Rep qbc qcu ones)
attribute [local go_sem] gG
def qoB (ws:List Wd) (w:World) (e:Ending) (w':World):Prop:=∃ v',e= .returned v'/\w'.ownsRow w.heap.size 104 2 v' ws.length (qab ws)/\Below w.heap.size w w'
def qxc (A:Option Addr) (n c:Nat) (ws:List Wd) (w:World) (y:ws.length=n) (b:Row w w.heap.size A (qab ws)) (d:A=none->n=0/\c=0) (C:n<=33554432):
  yG 208 #[.slice A n c] w (qoB ws w):=by
 have ⟨z,B,v,x,s⟩:=lG qud;have D:∀ (w:World) (a:Option Addr) (n c g e:Nat),(binOp .eql 99 (.slice a n c) (.slice none g e)).run prog w= .ok (.bool a.isNone) w:=fun w a n c g e=>Lib.run_eql_slice_nil w _ _ a n c g e underlying99
 subst y;cases A with
 |none=>
  obtain ⟨h,rfl⟩:=d rfl;obtain rfl:ws=[]:=sB h;clear d b h
  go_enter func208,ntmps208
  go_wp2;go_ret;exact ⟨_,rfl,vA w w.heap.size _ 2,bA _ _⟩
 |some E=>
  have l:=qH b;have i:=qeZ ws;have m:=qH i;have p:=qH (qgh ws);clear d b i;have j:(w.alloc (.cells #[] 104)).ownsRow w.heap.size 104 2 (.slice (some ⟨w.heap.size,0,none⟩) 0 0) 0 []:=World.ownsRow_made w #[] 0 (aA _) (kA _) rfl
  go_enter func208,ntmps208
  go_wp2_with (at_builtin;(refine qf9 _ rfl (.tmp 5) (.tmp 6) 99 rfl w.heap.size 104 z _ 2 16 underlying99 B v x s rfl (by decide) _ 0 [] rfl j _ _ ws.length c (qab ws) rfl m.o ((l.o.below ((bA _ w).alloc (aA _) (.cells #[] 104))).more (B':=(w.alloc (.cells #[] 104)).heap.size) (by simp)) p.o (by unfold maxLen;omega) (by omega) (by simp) ?_))
  intro v' w' t r;go_wp2;go_ret;exact ⟨_,rfl,t,((bA _ _).alloc (aA _) _).grown r (by simp) (fun k q=>by cases q;exact aA _)⟩
def qxd (a:Row w B A xs):Row w.drew B A xs:=a
def qxe (a:Below B w.drew w'):Below B w w':=⟨a.os,a.tape,a.output,a.size,a.block⟩
def qoC (r:List Bool) (w:World) (C:Nat) (w':World):Prop:=qbd w' w.heap.size C r/\Below w.heap.size w w'
def qxf (r:List Bool) (w:World) (e:Ending) (w':World):Prop:=∃ C,e= .returned (.pointer (some ⟨C,0,none⟩))/\qoC r w C w'
def qxg {r:List Bool} (b:Rep r ws) (c:r.length=n) (a:Below w.heap.size w w') (d:w'.ownsRow w.heap.size 104 2 v ws.length (qab ws)):
  qoC r w w'.heap.size (w'.alloc (.cells #[.int .i64 n,v] 101)):=by
 subst c;exact ⟨⟨ws,⟨a.size,v,jA w' _,d.alloc _⟩,b⟩,a.alloc a.size _⟩
def qxh (zz B:Nat) (r:List Bool) (w:World) (l:qbd w zz B r) (y:r.length<=big):
  yG 169 #[.pointer (some ⟨B,0,none⟩)] w (qxf r w):=by
 obtain ⟨ws,x,h⟩:=l;have L:=(qgH h.wds y).1;have s:=qH x.lt;obtain ⟨_,v,q,k⟩:=x;have ⟨z,D,_,_⟩:=qfL q;have b:∃ A c,v= .slice A ws.length c/\Row w w.heap.size A (qab ws)/\(A=none->ws.length=0/\c=0):=by
  rcases k.2 with ⟨rfl,i⟩|⟨g,c,P,rfl,_⟩
  ·exact ⟨none,0,by rw [i],by rw [sB i];exact Row.nil,fun _=>⟨i,rfl⟩⟩
  ·exact ⟨_,c,rfl,qbx k,fun e=>by cases e⟩
 obtain ⟨A,c,rfl,m,b⟩:=b;have F:qI (∀ a,Row a a.heap.size A (qab ws)->yG 208 #[.slice A ws.length c] a (qoB ws a)):=qH fun a l=>qxc A ws.length c ws a rfl l b (by omega)
 have C:=qH m;have G:=qH h;have J:=qH (rfl:r.length=r.length);have ⟨n,j⟩:=qE r.length;rw [<- j] at z;have E:=qH j.symm;clear j q k m b h y
 go_enter func169,ntmps169
 go_wp2
 go_region_with (go_at_call 208;refine (F.o _ (qxd C.o)).mono ?_;rintro e N ⟨v',rfl,t,d⟩;obtain ⟨Q,O,rfl,H,I⟩:=qaK t;have K:=(d.cell (p:=⟨B,0,none⟩) s.o).trans z;have M:=(d.cell (p:=⟨B,1,none⟩) s.o).trans D)
 all_goals
  go_wp2;go_ret;exact ⟨_,rfl,(qxg G.o E.o (qxe d) t)⟩
def qkR (r:List Bool) (w:World) (a C:Nat) (ws:List Wd) (w':World):Prop:=
 w.heap.size<=a/\w.heap.size<=C/\w'.cell? ⟨a,0,none⟩=some (.pointer (some ⟨C,0,none⟩))/\qbr w' w.heap.size C r.length ws/\Rep r ws/\Below w.heap.size w w'
def qoD (r:List Bool) (w:World) (e:Ending) (w':World):Prop:=∃ a C ws,e= .returned (.func (.func 170) #[] #[.pointer (some ⟨a,0,none⟩)])/\qkR r w a C ws w'
def qxi (zz B:Nat) (r:List Bool) (w:World) (h:qbd w zz B r) (c:r.length<=big):
  yG 130 #[.pointer (some ⟨B,0,none⟩)] w (qoD r w):=by
 have m:=qH (qxh zz B r w h c);clear h c
 go_enter func130,ntmps130
 go_wp2_with (go_at_call 169;refine m.o.mono ?_)
 rintro e k ⟨C,rfl,⟨⟨ws,b,g⟩,a⟩⟩;have i:=a.size;have d:=qH b;have j:=qH g;have l:=qH a;clear b g a;go_wp2;go_ret;refine ⟨k.heap.size,C,ws,rfl,i,d.o.1,by simp [World.cell?_alloc_at],d.o.below ((bA _ _).alloc (aA _) _),j.o,l.o.alloc i _⟩
def qkR.reads {r:List Bool} {C:Nat} (i:qkR r w D C ws w') (b:Tab w) {X:Nat->Prop} (a:∀ k,X k->k<w.heap.size) (d:¬ X 0):qgR X D C r.length ws w':=by
 obtain ⟨h1,h2,h3,c,l,j⟩:=i;refine ⟨h3,c.low (kA _),b.below j b.lt,fun e=> ?_,fun e=> ?_,fun g h e=> ?_,d⟩
 ·have :=a D e;omega
 ·have :=a C e;omega
 ·have :=a g e
  have :=(c.own g h).1;omega
def qxj (n a C:Nat) (i:1<=n) (X:Nat->Prop) (r:List Bool) (ws:List Wd) (c:Rep r ws) (d:r.length<=big) (w:World) (e:∀ k,X k->k<w.heap.size) (p:qgR X a C r.length ws w):
  SeqStopsK Fence.wide n prog 170 #[.pointer (some ⟨a,0,none⟩)] (fun x:Nat=>#[Value.int .i64 ((x:Nat):Int)]) (KpX X) (fun ys=>ys=ones r) (fun pre=>pre<+:ones r) (ones r).length w:=by
 intro l h j W b s _ m g;rw [<- Plain.elems_eq c] at*;exact qxa n l a C r.length i X ws c.wds d h j W (fun k q=>tB (e k q) b.size) s m (p.keep (KpX.of_below b)) g
def qxk (zz B:Nat) (r:List Bool) (w:World) (i:qbd w zz B r) (t:r.length<=big) (ab:Tab w):
  yG 81 #[.pointer (some ⟨B,0,none⟩)] w (qom (ones r) w):=by
 have ⟨ao,ah,a6,ad,a8⟩:=lG qwM;refine (uG (n:=6)).1 ?_;have N:=qH (quM zz B r w i t);have ba:qI (∀ A,qbd A zz B r->yG 130 #[.pointer (some ⟨B,0,none⟩)] A (qoD r A)):=qH fun A h2=>qxi zz B r A h2 t
 have g:=Plain.ones_length r;have H:=qH i;have S:=qH ab;have a3:=qH t;unfold big at t;have ⟨b,O⟩:=qE ((ones r).length);rw [<- O] at N g;have bf:=qH O;have bo:b<=1073741824:=by omega
 clear i ab t O g;refine callsIn_of_wp_marks func81 rfl trivial ?_ rfl;simp only [ntmps81,iD,nA,vB,Nat.reduceAdd,Nat.reduceSub,tD,uD,jD,vD,lC,bC]
 gi_wp2_with (first
  |(refine ⟨trivial,?_⟩;gi_at_call 129;refine (uG.2 N.o).mono ?_;rintro e w' ⟨rfl,rfl⟩)
  |(gi_at_call 129;refine (uG.2 N.o).mono ?_;rintro e w' ⟨rfl,rfl⟩)
  |(gi_at_make;refine wpListIn_make_own _ rfl _ _ 23 rfl w.heap.size 3 ao _ 1 underlying23 ah a6 ad _ _ _ b rfl rfl rfl (by rw [a8];omega) (by unfold maxLen;omega) (aA _) ?_))
 intro h d ac;have I:Below w.heap.size w h:=(bA _ _).grown ac (aA _) (fun k g=>by cases g);have bg:=I.size;have bj:=(d.lt w.heap.size rfl).2;have bb:=qH I;have av:=qH d;clear I d ac;have M:Below w.heap.size w (h.alloc (.cells #[.slice (some ⟨w.heap.size,0,none⟩) 0 b] 23)):=bb.o.alloc bg _;have aj:=qH (ba.o _ (H.o.below M));have T:=qH M;clear M
 gi_wp2_with (first
  |(refine ⟨trivial,?_⟩;gi_at_call 130;refine (uG.2 aj.o).mono ?_)
  |(gi_at_call 130;refine (uG.2 aj.o).mono ?_))
 rintro e w3 ⟨G,C,ws,rfl,E⟩;have ap:=E.2.2.2.2.1;have s:=E.2.2.2.2.2;have al:=s.size;simp only [tE] at al;have ag:Boxed w3 h.heap.size 23 (.slice (some ⟨w.heap.size,0,none⟩) 0 b):=(s.block h.heap.size (by simp)).trans (World.alloc_heap_new h _);have aa:w3.ownsRow w.heap.size 3 1 (.slice (some ⟨w.heap.size,0,none⟩) 0 b) 0 []:=qaf (av.o.alloc _) s;have ak:Below w.heap.size w w3:=T.o.trans (s.mono T.o.size);have an:=S.o.below T.o S.o.lt;have bn:=S.o.lt;have ai:=E.reads an (X:=fun k=>k=h.heap.size\/k=w.heap.size) (fun k g=>by simp;omega) (by omega);have F:=qxj 5 G C (by omega) (fun k=>k=h.heap.size\/k=w.heap.size) r ws ap a3.o w3 (fun k g=>by omega) ai;rw [<- bf.o] at F;have ⟨m,R⟩:=qE h.heap.size;have ⟨a,q⟩:=qE w.heap.size;rw [<- R,<- q] at F ag;rw [<- q] at aa ak;have bc:a<=m:=by omega
 have a0:a<=w3.heap.size:=by omega
 have z:=qH q;have be:=qH F;gi_wp2;rw [<- R,<- q];have a5:qI (∀ e w',qom (ones r) w e w'↔∃ v,e= .returned v/\w'.ownsRow a 3 1 v (ones r).length (qdZ (ones r))/\Below a w w'):=qH fun e w'=>by rw [z.o];exact Iff.rfl
 clear E s al ai F an R q ap;refine wpIn_rangeFunc_ownF rfl (by omega) (gf:=170) (lb:=#[.pointer (some ⟨G,0,none⟩)]) rfl trivial (enters_of func170 (by kernel_rfl) rfl)
  be.o (fun i k=>i.trans k) (fun W l o bd _ J V _=>KpX.putObj _ W l o bd J V) (bA _ _) (fun _=>rfl)
  (fun pre W=>(∃ v,Boxed W m 23 v/\W.ownsRow a 3 1 v pre.length (qdZ pre)/\v= .slice (some ⟨a,0,none⟩) pre.length b)/\Below a w W)
  (fun _ _ _=>False)
  (OwnFrom.and (Own.from (holdsRow_own a m 23 3 1 (fun pre=>pre.length) (fun pre=>qdZ pre) (fun pre v=>v= .slice (some ⟨a,0,none⟩) pre.length b)) _) (ownFrom_below (by rw [z.o];exact aA _) a0))
  (fun _ _ _ _ _ a9 _ _=>a9)
  ⟨⟨_,ag,aa,rfl⟩,ak⟩
  (fun x=>{tmps:=#[.pointer (some ⟨B,0,none⟩),undef,.slice none 0 0,.pointer (some ⟨m,0,none⟩),.int .i64 ((x:Nat):Int),.pointer (some ⟨B,0,none⟩),.int .i64 b,.slice (some ⟨a,0,none⟩) 0 b,.pointer (some ⟨B,0,none⟩),.func (.func 170) #[] #[.pointer (some ⟨G,0,none⟩)],.int .i64 ((x:Nat):Int),undef,undef,undef,undef,undef],defers:=[]}) ?assign ?body ?done ?stop
 case assign=>
  intro l x W bh y;gi_wp2;exact y
 case body=>
  rintro l pre x W ⟨⟨v,j,d,rfl⟩,p⟩ aw;have az:=j.cell;have bm:=p.size;have D:=qH d;have ay:=qH j;have L:=qH p;clear d j p
  gi_wp2_with (gi_at_builtin;refine wpListIn_append_fits _ rfl (.tmp 11) (.tmp 13) 23 rfl a 3 ao 1 underlying23 ah ad a pre.length b (qdZ pre) rfl (D.o.alloc _) ⟨W.heap.size,0,none⟩ 1 1 (qdZ [x]) rfl rfl (cell_one_new _ _ _) (qwL _) aw ?_)
  intro a4 am Q;have a1:a<=W.heap.size:=by have :=z.o;omega
  have ⟨P,U,af,Z,K⟩:=ay.o.appended (by decide) D.o a1 bc am Q;have bi:=P.cell;have bk:=P.frozen;have Y:KpX (fun k=>k=m\/k=a) W (a4.setCell ⟨m,0,none⟩ (.slice (some ⟨a,0,none⟩) (pre.length+1) b)):=by
   refine ⟨K.size,fun k g ae o J V=> ?_⟩;rw [rA _ _ _ _ (fun e=>ae (.inl e)),Q.block k (by simp;omega) (fun e=>ae (.inr (by injection e))),pB _ _ _ g];exact J
  have a7:=qH Y;have ar:=qH U;have au:=qH af;have ax:=qH Z;have a2:=qH K;clear Y P U af Z K am Q;gi_wp2;exact ⟨ax.o,a7.o,⟨_,ar.o,by rw [iA,qwK];exact au.o,by rw [iA];rfl⟩,L.o.trans a2.o⟩
 case done=>
  rintro aq ys W bl rfl ⟨⟨v,j,d,rfl⟩,p⟩ y;have az:=j.cell;have D:=qH d;have L:=qH p;clear d p j;gi_wp2;refine ⟨by simp,.inl ⟨_,_,rfl,run_takeDeferred y,?_⟩⟩;refine ⟨_,results_tmp rfl _ _ _,?_⟩;rw [a5.o];exact ⟨_,rfl,ownsRow_putObj D.o _ y rfl,L.o.trans (belowK_b (w:=w) (by rw [z.o];exact aA _) W aq _ _ (by have :=z.o;omega) y rfl rfl)⟩
 case stop=>
  rintro aq c pre W _ _ i _;exact i.elim
open Plain (Rep WS hasB mayB turnB qjp ones qjq qjr)
def qxl (n:Nat):Rep (List.replicate n false) []:=by
 refine ⟨⟨List.Pairwise.nil,(fun p a=>absurd a List.not_mem_nil),(fun p a=>absurd a List.not_mem_nil),(fun p a=>absurd a List.not_mem_nil)⟩,fun i=> ?_⟩;have :Plain.getW [] (i/64)=0:=rfl;unfold Plain.memW;rw [this,Nat.zero_testBit,mA,List.getElem?_replicate];split<;>rfl
def qxm (w:World) (n:Nat):qbd (w.alloc (.cells #[.int .i64 n,.slice none 0 0] 101)) w.heap.size w.heap.size (List.replicate n false):=
 ⟨[],⟨aA _,.slice none 0 0,by rw [rE];exact jA w _,vA _ _ _ _⟩,qxl n⟩
def qxn (n:Nat) (w:World) (e:Ending) (w':World):Prop:=e= .returned (.pointer (some ⟨w.heap.size,0,none⟩))/\qbd w' w.heap.size w.heap.size (List.replicate n false)/\wG w w'
def qxo (n:Int) (w:World) (c:n<9223372036854775808):
  yG 22 #[.int .i64 n] w (qxn n.toNat w):=by
 have d:∀ (w:World) (ts:Array TypeId) (t:TypeId),(Builtin.max_ ts t #[.int .i64 n,.int .i64 0]).run prog w= .ok (.int .i64 (n.toNat:Int)) w:=fun w ts t=>by rw [run_max_int2];congr 2;split<;>omega
 have b:=qH (qxm w n.toNat);have ⟨m,a⟩:=qE n.toNat;rw [<- a] at d b ⊢;clear a c
 go_enter func22,ntmps22
 go_wp2;go_ret;exact ⟨rfl,b.o,(bA _ _).alloc (aA _) _⟩
def qxp (zz B:Nat) (bs:List UInt8) (c:List (Int × Nat)) (a:List Po) (b qa7:Int) (w:World) (i:Value) (wr:World):Prop:=
 ∃ k:Nat,k<=a.length/\i= .int .i64 (k:Int)/\qcK wr zz B bs c b (qa7+(qaG (a.take k):Int))/\qa9 zz w wr
def qxq (zz B:Nat) (bs:List UInt8) (h:List (Int × Nat)) (g qa7:Int) (A:Option Addr) (m c:Nat) (a:List Po) (cs:List Value) (z:Nat) (w:World) (ab:qcK w zz B bs h g qa7) (bu:a.length=m) (be:m<=c) (cx:c<=maxLen)
    (G:qao (fun _ _=>True) a cs) (Z:qe6 zz w A cs) (bx:0<m) (bc:m<=1000) (cn:h.length<=1000000) (c1:0<=g/\g<=1000000000000) (ck:0<=qa7/\qa7+(qaG a:Int)<=1000000000000) (cy:z<=1000000000000):
    yG 119 #[.pointer (some ⟨B,0,none⟩),.slice A m c,.int .i64 (z:Int)] w fun e w'=>(∃ v,e= .returned v)/\
      qcK w' zz B bs (h++[((a.getD (m-1) (0,[])).1,z)]) (g+(m:Int)) (qa7+(qaG a:Int))/\qa9 zz w w':=by
  have ⟨bt,bm,bi,bj,br⟩:=lG qwN;subst bu;have c0:zz<=w.heap.size:=by have :=ab.lt;have :=ab.1;omega
  have ⟨j,a5⟩:=qE (a.length-1);have S:j<a.length:=by omega
  have ⟨af,bd⟩:=G.at_ S;have ⟨ad,aq,bw,ai,s⟩:=Z.at_ (by rw [G.len];omega);have W:=s _ _ af;have ⟨x,J⟩:=qE ((a.getD j (0,[])).1);rw [<- J] at W;rw [<- a5,<- J];have a7:IntKind.i64.wrap ((a.length:Int)-1)=(j:Int):=by rw [iG _ (by omega)];omega
  have b1:IntKind.i64.wrap (j:Int)=(j:Int):=iG _ (by omega);have ax:(a.length:Int)-1=(j:Int):=by omega
  obtain ⟨bv,cw,a3,I,al,a2⟩:=ab;have ⟨⟨ba,R,F,av⟩,ah,ag,a8,ak⟩:=qfQ I;have ⟨M,L⟩:=qE a.length;have a0:=qH G;have ao:=qH Z;have r:=qH L;have bk:B<w.heap.size:=(gA.1 I).1;have ac:=qH I;have ar:=qH al;have X:=qH a2;have b6:=qH J;have bl:∀ o,(w.alloc o).cell? ⟨B,1,none⟩=some a3:=fun o=>(((bA w.heap.size w).alloc (aA _) o).cell (p:=⟨B,1,none⟩) bk).trans R
  have bb:∀ o,(w.alloc o).cell? ⟨ad,aq+j*2,none⟩=some (.int .i64 x):=fun o=>(((bA w.heap.size w).alloc (aA _) o).cell (p:=⟨ad,aq+j*2,none⟩) ai).trans W
  subst bw;rw [<- L] at S be bx bc a7 ax;rw [<- L];clear G Z L I al a2 J af bd s a5
  go_enter func119,ntmps119
  go_upto_region 0 with fail
  go_cut [] from 8 to 26 (fun aj=>qcK aj zz B bs (h++[(x,z)]) g qa7/\qa9 zz w aj)
  case first=>
    go_region_law (first
      | (refine step_append_lies _ (by rfl) _ _ _ (by rfl) zz 206 bt _ 2 16 underlying179 bm bi bj br rfl (by omega) a3 h.length (qdF h) (by rfl) ((X.o.alloc _).drew)
          ⟨w.heap.size,0,none⟩ 1 1 [.int .i64 x,.int .i64 (z:Int)] (by rfl) (by rfl) (World.news_of_block (cs:=#[.int .i64 x,.int .i64 (z:Int)]) (t:=206) (fr:=(0,0)) (jA w _)) (by intro u hu;simp at hu;rcases hu with hu|hu<;>(subst hu;rfl))
          (by omega) (by unfold maxLen;omega) (by omega) (by simp;omega) (w.heap.size+1) (by simp) ?_
         intro cz cv cq bz bh cb Y;have ⟨bf,d,b⟩:=qcK.pushed bv ac.o ar.o X.o (((bA _ w).alloc (aA _) _).drew) bh bz;have ⟨⟨cd,ca,ct,cm⟩,cg,cl,b2,cj⟩:=qfQ bf))
    all_goals
      go_wp2_with fail
      go_meet;exact ⟨d,b⟩
  case rest=>
    clear bl bb W ba R F av ah ag a8 ak b1 a7 ax S ac ar X ai;obtain ⟨d,b⟩:=hcut;have b0:=ao.o.mild b;have ⟨D,E⟩:=d.setMany (g+(M:Int));have U:=qH D;have V:=qH (b.trans E);obtain ⟨_,bn,bo,C,_,_⟩:=d;have ⟨⟨ba,R,F,av⟩,ah,ag,a8,ak⟩:=qfQ C;clear C D E b b0;go_wp2
    go_loopw [37] (fun i wr=>qxp zz B bs (h++[(x,z)]) a (g+(M:Int)) qa7 w i wr) (fun i _=>M-(intOf i).toNat)
    case atStart=>exact ⟨0,by omega,rfl,by simpa [qaG] using U.o,V.o⟩
    case round=>
      obtain ⟨k,cf,rfl,d,b⟩:=hrel;by_cases Y:k<M
      · have a4:=ao.o.mild b
        have ⟨az,aw,F,ap,aa,b7,_⟩:=a0.o.at_ (k:=k) (by rw [<- r.o];exact Y);have ⟨b3,ch,Q,ci,s⟩:=a4.at_ (by rw [a0.o.len,<- r.o];omega);have a6:=s _ _ az;have N:=s _ _ ap;rw [<- uB] at N;injection Q with Q
        injection Q with e3 e4
        subst e3 e4;have O:=quR (l:=a) (k:=k) (by rw [<- r.o];exact Y);have bq:=qnB (l:=a) (k+1);have ⟨q,au⟩:=qE (a.getD k (0,[]));rw [<- au] at a6 N O aa;obtain ⟨y,ps⟩:=q;simp only at a6 N O aa;have ⟨P,ay⟩:=qE ps.length;rw [<- ay] at N O aa;have ⟨T,an⟩:=qE (qa7+(qaG (a.take k):Int):Int);rw [<- an] at d;have a1:T+(P:Int)=qa7+(qaG (a.take (k+1)):Int):=by omega
        have bg:zz<=wr.heap.size:=by have :=b.below.size;omega
        have H:=(bA wr.heap.size wr).alloc (aA _) (.cells #[.int .i64 y,.slice aw P F] 74);have a9:=d.below H;have am:=a9.below (bA _ (wr.alloc (.cells #[.int .i64 y,.slice aw P F] 74))).drew;have ⟨D,E⟩:=am.setTotal (T+(P:Int));have U:=qH D;have V:=qH ((b.trans (qa9.of_below H bg)).trans ((qa9.of_below (bA _ _).drew (by have :=H.size;omega)).trans E));have b4:0<=T:=by omega
        have cu:T+(P:Int)<=1000000000000:=by omega
        obtain ⟨_,bn,bo,C,_,_⟩:=a9;have ⟨⟨cr,b8,b9,cc⟩,cp,co,ce,b5⟩:=qfQ C;have ae:=qH a1;clear C D E b d am H a4 az ap s an a1 O bq au ay;have n:=U.o;rw [ae.o] at n;have K:=qH n;clear n;go_wp2
        go_region_law (fail)
        all_goals
          go_wp2;go_roundw
          case rel=>exact ⟨k+1,by have :=r.o;omega,by simp,by first|exact K.o|(have n:=K.o;rw [<- ae.o] at n ⊢;exact n),V.o⟩
          case measure=>simp [intOf];omega
      · obtain rfl:k=M:=by have :=r.o;omega
        rw [nB (by have :=r.o;omega)] at d;have K:=qH d;have bp:=qH b;clear d b;go_wp2
        go_end0
        exact ⟨⟨_,rfl⟩,K.o,bp.o⟩
def qxr (zz B:Nat) (bs:List UInt8) (l a:List Po) (n:Nat) (A:Option Addr) (m c:Nat) (cs:List Value) (z:Nat) (w:World) (t:LAt w zz B bs l) (h:l.length=8*n) (d:a.length=m) (q:m<=c) (x:c<=maxLen)
  (C:qao (fun _ _=>True) a cs) (j:qe6 zz w A cs) (i:0<m) (F:m<=8) (E:l.length<=1000000) (s:qaG (l++a)<=1000000000000) (D:z=(qae (-1) (l++a)).length) (p:z<=1000000000000):
  yG 119 #[.pointer (some ⟨B,0,none⟩),.slice A m c,.int .i64 (z:Int)] w fun e w'=>(∃ v,e= .returned v)/\LAt w' zz B bs (l++a)/\qa9 zz w w':=by
 have g:=qua h (b:=a) (by omega) (by omega);have r:=qoz.1 t;rw [qj3] at s;refine (qxq zz B bs _ _ _ A m c a cs z w r d q x C j i (by omega) (by rw [qgg];unfold qaN;omega) (by omega) (by omega) p).mono ?_;rintro e w' ⟨h1,h2,h3⟩;refine ⟨h1,qoz.2 ?_,h3⟩;rw [g.2,qub h (by omega) (by omega),qj3,iA,d,qjR,qnz (by omega),d,<- D];rw [g.1] at h2;have y:((l.length+m:Nat):Int)=(l.length:Int)+(m:Int):=by omega
 have k:((qaG l+qaG a:Nat):Int)=(qaG l:Int)+(qaG a:Int):=by omega
 rw [y,k];exact h2
def qxs (l:List Po) (w:World) (r last i:Value) (wr:World):Prop:=r= .bool false/\∃ (k:Nat) (x:Int),k<=l.length/\i= .int .i64 (k:Int)/\last= .int .i64 x/\qa5 x (l.drop k)=qa5 (-1) l/\wG w wr
def qoE (A:Option Addr) (n d:Nat) (l:List Po) (w:World) (W:l.length=n) (ad:n<=9223372036854775807) (I:qbf w w.heap.size A l) (H:∀ p∈l,p.2.length<=9223372036854775807):
  yG 115 #[.slice A n d] w fun e w'=>e= .returned (.bool (qa5 (-1) l))/\wG w w':=by
 subst W;have ⟨ae,B⟩:=qE (qa5 (-1) l);rw [<- B];have j:=qH B;have S:=qH I;have U:=qH H;clear B I H
 go_enter func115,ntmps115
 go_wp2
 go_loopw [2,3,8] (fun r last i wr=>qxs l w r last i wr) (fun _ _ i _=>l.length-(intOf i).toNat)
 case atStart=>exact ⟨rfl,0, -1,by omega,rfl,rfl,rfl,bA _ _⟩
 case round=>
  obtain ⟨rfl,k,x,ab,rfl,rfl,a,c⟩:=hrel;have O:=c.size;by_cases F:k<l.length
  ·have ⟨X,ac,R,aa,J,b,v,z,L,Z,h⟩:=(S.o.below c).at_ F
   subst R;have E:=U.o (l.getD k (0,[])) (by rw [mA,oA F];simp);rw [qny F] at a;have ⟨q,N⟩:=qE (l.getD k (0,[]));rw [<- N] at J z L h a E;obtain ⟨y,ps⟩:=q;simp only at J z L h E;have ⟨P,D⟩:=qE ps.length;rw [<- D] at z E;have M:=fun C (V:Row C C.heap.size b (qaa ps))=>qoA b P v ps C V D.symm (by omega)
   have K:Row (wr.alloc (.cells #[.int .i64 y,.slice b P v] 74)) (wr.alloc (.cells #[.int .i64 y,.slice b P v] 74)).heap.size b (qaa ps):=
    (h.below ((bA _ wr).alloc O _)).more (by simp;omega)
   have g:=M _ K;rw [qa5] at a;simp only at a;have t:=qH (c.trans (((bA _ wr).alloc (aA _) (.cells #[.int .i64 y,.slice b P v] 74)).mono O));clear M K h D N c;by_cases T:y<=x
   ·rw [uA (p:=x<y) (by omega),oE,oE,oE,<- j.o] at a
    subst a;clear g;go_wp2;go_ret;exact ⟨rfl,t.o⟩
   ·have Y:decide (y<=x)=false:=uA T
    by_cases Q:2147483648<=y
    ·rw [uA (p:=y<2147483648) (by omega),Bool.and_false,oE,oE,<- j.o] at a
     subst a;clear g;go_wp2;go_ret;exact ⟨rfl,t.o⟩
    ·have af:decide (2147483648<=y)=false:=uA Q
     rw [yA (p:=x<y) (by omega),yA (p:=y<2147483648) (by omega),sD,sD] at a;have m:=qH g;have s:=qH a;clear g a;rcases hpb:qdk ps with _|_
     ·rw [hpb] at m s
      go_wp2_with (go_at_call 161;refine m.o.mono ?_;rintro e w' ⟨rfl,rfl⟩)
      go_ret;exact ⟨qel (by rw [j.o,<- s.o,oE]),t.o⟩
     ·rw [hpb] at m s
      go_wp2_with (go_at_call 161;refine m.o.mono ?_;rintro e w' ⟨rfl,rfl⟩)
      go_roundw
      case rel=>exact ⟨rfl,k+1,y,by omega,by go_num,rfl,by rw [<- s.o,sD],t.o⟩
      case measure=>simp [intOf];omega
  ·have G:qa5 x (l.drop k)=true:=by rw [eE (by omega)];rfl
   rw [G,<- j.o] at a;subst a;clear G;go_wp2;go_ret;exact ⟨rfl,c⟩
def qoF (all:List UInt8) (l:List Po) (w:World) (last v i:Value) (wr:World):Prop:=
 ∃ (a:List UInt8) (k:Nat) (x:Int),k<=l.length/\i= .int .i64 (k:Int)/\last= .int .i64 x/\ -1<=x/\qa5 x (l.drop k)=true/\a.length<=all.length/\a++qae x (l.drop k)=all/\Own w.heap.size wr v a/\wG w wr
def qxt (A:Option Addr) (n d:Nat) (l:List Po) (r:Int) (w:World) (b9:l.length=n) (cl:n<=100) (ay:qbf w w.heap.size A l) (cb: -1<=r) (bm:qa5 r l=true) (bk:∀ p∈l,p.2.length<=2147483648) (bz:(qae r l).length<=400000000000):
  yG 117 #[.slice A n d,.int .i64 r] w (qgi w.heap.size (qae r l) w):=by
 have ⟨bg,a7,a2,a3,be⟩:=lG qik;subst b9;have ⟨all,S⟩:=qE (qae r l);rw [<- S] at bz;rw [<- S];have b0:=qH S;have bu:=qH ay;have ce:=qH bm;have bw:=qH bk;clear S ay bm bk
 go_enter func117,ntmps117
 go_wp2
 go_loopw [1,5,12] (fun last v i wr=>qoF all l w last v i wr) (fun _ _ i _=>l.length-(intOf i).toNat)
 case atStart=>exact ⟨[],0,r,by omega,rfl,rfl,cb,ce.o,by simp,b0.o.symm,vA _ _ _ _,bA _ _⟩
 case round=>
  obtain ⟨F,k,x,s,rfl,rfl,cs,j,cw,a,O,D⟩:=hrel;have bi:=D.size;by_cases ad:k<l.length
  ·have ⟨ck,cr,cc,cm,bd,b,c,h,aj,cz,K⟩:=(bu.o.below D).at_ ad
   subst cc;have Z:=bw.o (l.getD k (0,[])) (by rw [mA,oA ad];simp);rw [qny ad] at j a;have ⟨q,a4⟩:=qE (l.getD k (0,[]));rw [<- a4] at bd h aj K j a Z;obtain ⟨y,ps⟩:=q;simp only at bd h aj K Z;have ⟨cg,br,B,j⟩:=qfj.1 j;simp only at cg br B j;simp only [qae] at a;obtain ⟨g,z⟩:∃ g:Nat,y-(x+1)=(g:Int):=⟨(y-(x+1)).toNat,by omega⟩;rw [z,rD,<- iB,<- iB] at a;have ao:((F++qam g)++qbQ ps).length<=all.length:=by rw [<- a,iA (bs:=qae y _)];omega
   have bl:=qih B;have bc:g<9223372036854775808:=by omega
   have a0:∀ w',yG 164 #[.slice none 0 0,.int .i64 (y-(x+1))] w' (qgi w'.heap.size (qam g) w'):=fun w'=>by
    have :=qvs none 0 0 [] g w' rfl (aA _) Row.nil bc (by simp);rw [lC] at this;rwa [z]
   have ⟨P,R⟩:=qE ps.length;have I:=(bA wr.heap.size wr).alloc (aA _) (.cells #[.int .i64 y,.slice b P c] 74);have V:=qvC none 0 0 [] b P c ps (wr.alloc (.cells #[.int .i64 y,.slice b P c] 74)) rfl (aA _) Row.nil (by omega) R.symm (by omega) ((K.below (I.mono bi)).more (by simp;omega)) (fun x b5=>by have :=bl x b5;omega) (qgD.1 B).1;rw [lC] at V;rw [<- R] at h aj;have ci:=qm8 B (by omega);have ⟨Q,af⟩:=qE ((qbQ ps).length);rw [<- R,<- af] at ci;have cy:P<=2147483648:=by omega
   have ch:=qfG bc;have ⟨a6,ag⟩:=qE ((qam g).length);rw [<- ag] at ch;have J:=qH af;have G:=qH ag;have an:=qH a0;have al:=qH V;have b3:=qH I;have b4:=qH D;have b2:=qH a;have bv:=qH j;have aw:=qH ao;have bq:=qH (O.below I);have bj:qI (∀ k,u5.ownBlock=some k->k<wr.heap.size):=qH fun k s=>(O.lt k s).2
   clear a4 z a0 R I V af ag a j ao O bl B K Z D
   go_wp2_with (go_at_call 163;refine al.o.mono ?_)
   rintro e ac ⟨cq,rfl,ah,C⟩;obtain ⟨a9,bb,rfl,_,ap⟩:=ah.row;have cd:wr.heap.size<(wr.alloc (.cells #[.int .i64 y,.slice b P c] 74)).heap.size:=by simp
   have ae:ac.heap[wr.heap.size]?=some (.cells #[.int .i64 y,.slice b P c] 74 (0,0)):=(C.block wr.heap.size cd).trans (jA wr _);have b6:=(qkM ae).1;have az:=qH ah;have aa:=b4.o.trans ((b3.o.mono bi).trans (C.mono (by simp;omega)));have bt:=aa.size;have b7:=qH ap;have bn:=qH aa;have cu:wr.heap.size+1<=ac.heap.size:=by have :=C.size;simpa using this
   have a8:=qH (bq.o.below C);rw [<- J.o];clear ah C ap aa bq al
   go_wp2_with (go_at_call 164;refine (an.o _).mono ?_)
   rintro e E ⟨cv,rfl,ak,t⟩;obtain ⟨cf,bx,rfl,_,av⟩:=ak.row;have Y:E.heap[wr.heap.size]?=some (.cells #[.int .i64 y,.slice b P c] 74 (0,0)):=(t.block wr.heap.size (by omega)).trans ae;have N:=qH (a8.o.below t);have a5:=qH av;have U:=qH (az.o.below t);have W:=bn.o.trans (t.mono bt);have bo:=W.size;have au:=qH W;have cx:ac.heap.size<=E.heap.size:=t.size;rw [<- G.o];have ct:F.length+a6+Q<=all.length:=by have :=aw.o;rw [iA,iA,<- G.o,<- J.o] at this;omega
   clear ak t av W b6 ae a8 az b7 an bn
   go_wp2_with (at_builtin;refine qf9 _ rfl (.tmp 22) (.tmp 28) 178 rfl w.heap.size 5 bg _ 1 1 underlying178 a7 a2 a3 be rfl (by omega) _ F.length (Lib.byteCells F) rfl N.o _ cf a6 bx (Lib.byteCells (qam g)) rfl (by rw [Lib.byteCells_length,G.o];omega) a5.o (qke _) (by unfold maxLen;omega) (by omega) bo ?_)
   intro c0 m ba L;have M:Below w.heap.size E m:=(bA _ E).grown L bo fun k s=>(N.o.lt k s).1
   have ai:m.heap[wr.heap.size]?=some (.cells #[.int .i64 y,.slice b P c] 74 (0,0)):=(L.block wr.heap.size (by omega) (fun e=>qan N.o Y (by decide) e.symm)).trans Y;have a1:w.heap.size<=m.heap.size:=by have :=M.size;omega
   have co:E.heap.size<=m.heap.size:=M.size;have bf:Own (wr.alloc (.cells #[.int .i64 y,.slice b P c] 74)).heap.size m (.slice a9 (qbQ ps).length bb) (qbQ ps):=
    qaq U.o fun g z=>L.block g (U.o.lt g z).2 fun e=>by
     have h1:=bj.o g e.symm;have h2:=(U.o.lt g z).1;omega
   have ax:=qbx bf;have ca:=qH ax;have H:=qH (qkd G.o.symm ba);have ⟨T,h⟩:=qE (F++qam g);have cn:T.length+Q<=800000000000:=by rw [h,iA,<- G.o];omega
   rw [<- h] at H;have ar:=qH h;have b8:=qH (au.o.trans M);clear ba L M bf ax h au N U a5 bj Y
   go_wp2_with (at_builtin;refine qf9 _ rfl (.tmp 30) (.tmp 31) 178 rfl w.heap.size 5 bg _ 1 1 underlying178 a7 a2 a3 be rfl (by omega) _ T.length (Lib.byteCells T) rfl H.o _ a9 Q bb (Lib.byteCells (qbQ ps)) rfl (by rw [Lib.byteCells_length,J.o];omega) ca.o (qke _) (by unfold maxLen;omega) (by omega) a1 ?_)
   intro cj X am ab;have aq:Below w.heap.size m X:=(bA _ m).grown ab a1 fun k s=>(H.o.lt k s).1
   have bh:X.heap[wr.heap.size]?=some (.cells #[.int .i64 y,.slice b P c] 74 (0,0)):=(ab.block wr.heap.size (by omega) (fun e=>qan H.o ai (by decide) e.symm)).trans ai;have cp:=(qkM bh).1;have bp:qoF all l w (.int .i64 y) cj (.int .i64 ((k:Int)+1)) X:=by
    refine ⟨T++qbQ ps,k+1,y,by omega,by simp,rfl,by omega,bv.o,by rw [ar.o];exact aw.o,by rw [ar.o];exact b2.o,qkd J.o.symm am,b8.o.trans aq⟩
   have b1:=qH bp;clear bp am ab aq ai bh;go_wp2;go_roundw
   case rel=>exact b1.o
   case measure=>simp [intOf];omega
  ·rw [eE (by omega)] at a
   simp only [qae,mC] at a;subst a;go_wp2;go_ret;exact ⟨_,rfl,O,D⟩
def qxu {e:TypeId} {size:Nat} (c:w.ownsRow b e size v n xs) (h:∀ (k:Nat) (o:Obj),w.heap[k]?=some o->o.isCells=true->w'.heap[k]?=some o):w'.ownsRow b e size v n xs:=
 qaq c fun g d=>by
  have ⟨cs,fr,a⟩:=qd0 c d;rw [h _ _ a rfl,a]
def qcU.moved (d:qcU 0 w A xs) (m:∀ (k:Nat) (cs:Array Value) (fr:Nat × Nat),w.heap[k]?=some (.cells cs 3 fr)->w'.heap[k]?=some (.cells cs 3 fr)):qcU 0 w' A xs:=by
 rcases d with d|⟨b,g,e,⟨h1,h2⟩,i⟩
 ·exact .inl d
 ·have ⟨cs,fr,h⟩:=h2.resolve_left (Nat.not_lt_zero _)
  have c:=m _ _ _ h;refine .inr ⟨b,g,e,⟨(gA.1 c).1,.inr ⟨cs,fr,c⟩⟩,fun j u l=> ?_⟩;rw [tC (a:=⟨b,g+j,none⟩) (c.trans h.symm)];exact i j u l
def qxv {l:Nat} {o c:Obj} (g:W.heap[l]?=some o) (d:o.isCells=false):∀ (k:Nat) (u:Obj),W.heap[k]?=some u->u.isCells=true->(W.putObj l c).heap[k]?=some u:=fun k u a b=>by
 by_cases e:k=l
 ·subst e
  rw [g] at a;injection a with a
  subst a;rw [d] at b;cases b
 ·exact (World.putObj_heap_other e).trans a
def qbH.kept {l:List Po} (a:qbH zz w v l) (b:∀ (k:Nat) (o:Obj),w.heap[k]?=some o->o.isCells=true->w'.heap[k]?=some o):qbH zz w' v l:=by
 obtain ⟨cs,h1,h2⟩:=a;exact ⟨cs,qxu h1 b,h2.imp fun _ _ a=>⟨a.1.moved fun k cs fr c=>b k _ c rfl,a.2⟩⟩
def qaE.newPo (N zz:Nat) (v:Value) (l:List Po):qaE N (fun W=>qbH zz W v l):=fun W k o d _ a b c=>c.kept (qxv a b)
