import Derived.Test.YtpehcaidjlemiaaGreatDoorMMQ01
import Derived.Deep.CutRange
set_option maxHeartbeats 4000000
set_option maxRecDepth 100000
set_option linter.all false
namespace Go.Proofs.YtpehcaidjlemiaaGreatDoor
open Go Go.RowKit Go.Proofs.Tryz
variable {w w' wr:World} {k n b c i m zz B lo D:Nat} {A:Option Addr} {v:Value} {xs:List Value} {t:TypeId} {a:Int} {s:List Int} {fr:Nat × Nat} {Q:List (List Int)}
def qhr (l:List Int) (w:World) (e:Ending) (w':World):Prop:=∃ v,e= .returned v/\w'.ownsRow w.heap.size 3 1 v l.length (qaa l)/\wG w w'
def quS (s:ByteArray) (w:World) (ae:s.size<=1073741824):
  yG 191 #[.string s] w (qhr (qcH s.data.toList) w):=by
 have ⟨O,Q,I,J,F⟩:=lG qc4;have Z:=Lib.runeCount_le s
 go_enter func191,ntmps191
 go_wp2_with (go_at_call 226;refine (qsN s _ (by omega)).mono ?_)
 rintro e ab ⟨rfl,a,rfl⟩
 go_wp2_with (at_make;refine wpList_make_own _ rfl _ _ 23 rfl w.heap.size 3 O _ 1 underlying23 Q I J _ _ _ (Lib.runeCount s) rfl rfl rfl ?c1 ?c2 ?c3 ?_)
 case c1=>rw [F];omega
 case c2=>unfold maxLen;omega
 case c3=>show w.heap.size<=(w.heap.push _).size;simp
 intro b i V;have K:wG w b:=((bA _ w).alloc (aA _) (.stringIter s a)).grown V (by simp) (fun k v=>by cases v);have S:=K.size;go_wp2
 go_loopw [3] (fun l wr=>∃ (a:Nat) (c:List Int),a<=s.size/\c.length<=a/\wr.heap[b.heap.size]?=some (.stringIter s a)/\wr.ownsRow w.heap.size 3 1 l c.length (qaa c)/\wG w wr/\c++qcH (s.data.toList.drop a)=qcH s.data.toList) (fun _ wr=>s.size-wr.iterPos b.heap.size)
 case atStart=>
  refine ⟨0,[],kA _,aA _,?_,i.alloc _,K.alloc S _,rfl⟩;exact jA b _
 case round=>
  obtain ⟨a,c,aa,ac,h,i,y,n⟩:=hrel;by_cases A:a<s.size
  ·have G:∀ d,(Instr.next (.pointer (some ⟨b.heap.size,0,none⟩)) true d).run prog wr=_:=fun d=>Lib.run_next_any_at wr b.heap.size s a d h A
   have D:=qsz s a;have x:s.data.toList.drop a≠[]:=by
    intro W;have :=congrArg List.length W;rw [rB,vB] at this;have e:s.data.toList.length=s.size:=wC;omega
   have p:=qms _ x;have M:=qhf _ x;rw [List.drop_drop] at p;rw [<- D] at p M;have C:(s.data.toList.drop a).length=s.size-a:=by rw [rB];rfl
   rw [C] at M;have Y:=decode_le s a;have m:=qr6 (q:=a+(Utf8.decode s a).2) i h;have t:=Lib.iterAt_heap wr b.heap.size s a (a+(Utf8.decode s a).2) h;have z:=Lib.below_iterAt y (k:=b.heap.size) (by omega) s (a+(Utf8.decode s a).2);clear D x C;have T:=qH p;have r:=qH n;have X:=qH h;clear p n h i y;have ⟨N,L⟩:=qE (wr.iterAt b.heap.size s (a+(Utf8.decode s a).2));rw [<- L] at G m t z;have ad:=z.size;clear L
   go_wp2_with (at_builtin;refine wB _ rfl (.tmp 14) (.tmp 17) 23 rfl w.heap.size 3 O _ 1 8 underlying23 Q I J F rfl (by omega) _ c.length (qaa c) rfl (m.alloc _) ⟨N.heap.size,0,none⟩ 1 1 [.int .i64 (Utf8.decode s a).1] rfl rfl ?c1 ?c2 ?c3 ?c4 ?c5 ?_)
   case c1=>
    intro j u g
    match j,g with
    |0,g=>simp at g;subst g;simp [Addr.add]
    |(j+1),g=>simp at g
   case c2=>intro u P;simp at P;subst P;rfl
   case c3=>unfold maxLen;omega
   case c4=>omega
   case c5=>simp;omega
   intro v' w3 R B _;have H:w3.heap[b.heap.size]?=some (.stringIter s (a+(Utf8.decode s a).2)):=
    qr7 (m.alloc _) ((pB N _ _ (gA.1 t).1).trans t) B
   go_wp2;go_roundw
   case rel=>
    refine ⟨a+(Utf8.decode s a).2,c++[((Utf8.decode s a).1:Int)],by omega,by simp;omega,H,?_,?_,?_⟩
    ·simpa [qaa] using R
    ·exact (z.alloc (by omega) _).grown B (by simp;omega) (fun k v=>(m.lt k v).1)
    ·rw [<- r.o,T.o];simp
   case measure=>
    simp only [World.iterPos,H,X.o];omega
  ·have G:∀ d,(Instr.next (.pointer (some ⟨b.heap.size,0,none⟩)) true d).run prog wr=_:=fun d=>Lib.run_next_end_at wr b.heap.size s a d h A
   have r:=qH n;clear n;go_wp2;go_ret;have U:s.data.toList.drop a=[]:=eE (by rw [wC];exact Nat.le_of_not_lt A);have E:=r.o;rw [U,qmr,mC] at E;subst E;exact ⟨_,rfl,i,y⟩
def qaU {e:TypeId} {size:Nat} (b:w.ownsRow zz e size v n xs):∃ A c,v= .slice A n c/\n<=c/\c<=maxLen/\Row w w.heap.size A xs:=by
 obtain ⟨A,c,rfl,h,d⟩:=qaK b;refine ⟨A,c,rfl,h,?_,d⟩;rcases b.2 with ⟨a,_⟩|⟨g,k,j,a,_,_,_,i,_⟩
 ·injection a with _ _ e
  rw [e];exact kA _
 ·injection a with _ _ e
  rw [e];exact i
def quT {e:TypeId} {size:Nat} (c:w.ownsRow b e size v n xs) {B i:Nat} (d:v.ownBlock≠some B) (u:Value):(w.setCell ⟨B,i,none⟩ u).ownsRow b e size v n xs:=
 qaq c fun g a=>rA _ _ _ _ fun e=>d (by rw [a,e])
section
variable {α:Type} {f:α->Value} {w w':World} {B B':Nat} {A:Option Addr} {l:List (List α)} {cs:List Value}
def qfm (f:α->Value) (w:World) (B:Nat) (l:List (List α)) (cs:List Value):Prop:=cs.length=l.length/\∀ i (a:i<l.length),∃ A c,cs[i]?=some (.slice A l[i].length c)/\(l[i].length<=c/\c<=maxLen)/\Row w B A (l[i].map f)
def Lol (f:α->Value) (w:World) (B:Nat) (A:Option Addr) (l:List (List α)):Prop:=∃ cs,qfm f w B l cs/\Row w B A cs
def qfm.below (a:qfm f w B l cs) (d:Below B w w'):qfm f w' B l cs:=⟨a.1,fun i b=>by have ⟨A,c,h1,h2,h3⟩:=a.2 i b;exact ⟨A,c,h1,h2,h3.below d⟩⟩
def qfm.more (a:qfm f w B l cs) (d:B<=B'):qfm f w B' l cs:=⟨a.1,fun i b=>by have ⟨A,c,h1,h2,h3⟩:=a.2 i b;exact ⟨A,c,h1,h2,h3.more d⟩⟩
def Lol.below (b:Lol f w B A l) (a:Below B w w'):Lol f w' B A l:=by obtain ⟨cs,h1,h2⟩:=b;exact ⟨cs,h1.below a,h2.below a⟩
def Lol.more (b:Lol f w B A l) (a:B<=B'):Lol f w B' A l:=by obtain ⟨cs,h1,h2⟩:=b;exact ⟨cs,h1.more a,h2.more a⟩
def Lol.later (b:Lol f w w.heap.size A l) (a:wG w w'):Lol f w' w'.heap.size A l:=(b.below a).more a.size
def Lol.at_ (m:Lol f w B A l) {i:Nat} (e:i<l.length):∃ b c d a,A=some ⟨b,c,none⟩/\b<B/\w.cell? ⟨b,c+i,none⟩=some (.slice d l[i].length a)/\(l[i].length<=a/\a<=maxLen)/\Row w B d (l[i].map f):=by
 obtain ⟨cs,h1,h2⟩:=m;have ⟨d,a,n,h,k⟩:=h1.2 i e;obtain ⟨b,c,rfl,j,g⟩:=h2.at_ (by rw [h1.1];omega);exact ⟨b,c,d,a,rfl,j,g i _ n,h,k⟩
end
theorem qik:(prog.info? 5).map (fun i=>(i.zero,i.size,i.bytes))=some (some (.int .u8 0),1,1):=by kernel_rfl
def quU {xs:List UInt8} (e:Row w B A (Lib.byteCells xs)) {k:Nat} (g:k<xs.length):
  ∃ b a,A=some ⟨b,a,none⟩/\b<B/\w.cell? ⟨b,a+k,none⟩=some (.int .u8 ((xs.getD k 0).toNat:Int)):=by
 obtain ⟨b,a,rfl,d,c⟩:=e.at_ (by rw [Lib.byteCells_length];omega);refine ⟨b,a,rfl,d,c k _ ?_⟩;simp [Lib.byteCells,g]
def qke (l:List UInt8):∀ u∈Lib.byteCells l,u.oneCell'=true:=by
 intro u a;obtain ⟨b,_,rfl⟩:=tA.1 a;rfl
def quV (l:List Int):∀ u∈qaa l,u.oneCell'=true:=by
 intro u a;obtain ⟨b,_,rfl⟩:=tA.1 a;rfl
def Buf (zz:Nat) (w:World) (v:Value) (bs:List UInt8):Prop:=
 (∃ A,v= .slice A bs.length bs.length/\Row w zz A (Lib.byteCells bs))\/w.ownsRow zz 5 1 v bs.length (Lib.byteCells bs)
def Own (zz:Nat) (w:World) (v:Value) (bs:List UInt8):Prop:=w.ownsRow zz 5 1 v bs.length (Lib.byteCells bs)
def Own.buf {bs:List UInt8} (a:Own zz w v bs):Buf zz w v bs:= .inr a
def Own.below {bs:List UInt8} (a:Own zz w v bs) (b:wG w w'):Own zz w' v bs:=qaf a b
def Own.row {bs:List UInt8} (a:Own zz w v bs):∃ A c,v= .slice A bs.length c/\bs.length<=c/\Row w w.heap.size A (Lib.byteCells bs):=qaK a
def Buf.alloc {bs:List UInt8} (a:Buf zz w v bs) (c:zz<=w.heap.size) (o:Obj):Buf zz (w.alloc o) v bs:=by
 rcases a with ⟨A,rfl,b⟩|hown
 ·exact .inl ⟨A,rfl,b.below ((bA _ _).alloc c o)⟩
 ·exact .inr (hown.alloc o)
section
variable {P:Program} (w:World)
def qil {F:Array Oper} {rest:List Oper} {o:Oper} {a:Act} {Q:Exit->Act->World->Prop} (D:o.guard=none) (s x:Operand) (t:TypeId)
  (J:o.op= .call {callee:= .builtin .append,args:=#[s,x],argTypes:=#[t,t]})
  (zz:Nat) (i:TypeInfo) (z:Value) (n:P.underlying t=some (.slice 5)) (E:P.info? 5=some i) (H:i.zero=some z)
  (L:i.size=1) (G:i.bytes=1) (r:z.cells.size=1)
  (v:Value) (bs:List UInt8) (N:a.eval s=v) (S:Buf zz w v bs) (g:zz<=w.heap.size)
  (h:Addr) (c:Nat) (y:Int) (M:a.eval x= .slice (some h) 1 c) (I:∀ j u,[Value.int .u8 y][j]?=some u->w.cell? (h.add j)=some u)
  (u:UInt8) (T:y=(u.toNat:Int)) (V:bs.length<=1099511627776)
  (K:∀ v' w',Own zz w' v' (bs++[u])->Below zz w w'->wpList P F Q rest (a.put o.dst v') w'):wpList P F Q (o::rest) a w:=by
 have C:Lib.byteCells bs++[Value.int .u8 y]=Lib.byteCells (bs++[u]):=by rw [T,Lib.byteCells_append];rfl
 have B:bs.length+1=(bs++[u]).length:=by simp
 have h1:∀ q∈[Value.int .u8 y],q.oneCell'=true:=by intro q e;simp at e;subst e;rfl
 rcases S with ⟨A,rfl,p⟩|hown
 ·refine wpList_append_grows w D s x t J 5 i z 1 1 n E H L G r (by omega) A bs.length bs.length (Lib.byteCells bs) N ?_ (by rw [Lib.byteCells_length];omega) ?_ h 1 c _ M rfl I h1 (by omega) (by unfold maxLen;omega) (by omega) ?_
  ·rintro rfl
   rcases p with d|⟨b,R,d,_⟩
   ·have :=congrArg List.length d
    rw [Lib.byteCells_length] at this;simp at this;simp [this]
   ·cases d
  ·rintro b rfl j q e
   rcases p with d|⟨W,R,d,_,U⟩
   ·rw [d] at e;simp at e
   ·injection d with d
    subst d;rw [cC];exact U j q e
  ·intro v' w' hown m
   rw [C,B] at hown;exact K v' w' (qbk hown g) ((bA _ w).grown m g fun k l=>by cases l)
 ·refine wB w D s x t J zz 5 i z 1 1 n E H L G r (by omega) v bs.length (Lib.byteCells bs) N hown h 1 c _ M rfl I h1 (by unfold maxLen;omega) (by omega) g ?_
  intro v' w' O m _;rw [C,B] at O;exact K v' w' O ((bA _ w).grown m g fun k l=>(hown.lt k l).1)
end
def qkf (a b c d:Int) (w:World):(Op.equalIn 10000 88 (.agg #[.int .i64 a,.int .i64 b]) (.agg #[.int .i64 c,.int .i64 d])).run prog w= .ok (a==c&&b==d) w:=by
 have e:∀ k:Nat,(Op.equalIn (k+2) 88 (.agg #[.int .i64 a,.int .i64 b]) (.agg #[.int .i64 c,.int .i64 d])).run prog w= .ok (a==c&&b==d) w:=fun k=>by
  simp only [Op.equalIn,part];simp [rC underlying88,Tryz.sizeOf3];rw [show List.range' 0 2=[0,1] from rfl]
  simp only [List.forIn_cons,List.forIn_nil];by_cases h1:a=c<;>by_cases h2:b=d<;>simp [h1,h2,rC underlying3,Tryz.sizeOf3,Tryz.isAgg3]
 exact e 9998
section
variable {α:Type} (key:α->Int)
def qb5 (l:List α) (n:Nat):Prop:=∀ i (a:i<l.length),0<i->i<n->key (l[(i-1)/2]'(by omega))<=key l[i]
structure qe0 (l:List α) (j:Nat):Prop where
 but:∀ i (hi:i<l.length),0<i->i≠j->key (l[(i-1)/2]'(by omega))<=key l[i]
 kids:∀ c (hc:c<l.length) (_:0<c),∀ (hp:(c-1)/2=j) (h0:0<j),key (l[(j-1)/2]'(by omega))<=key l[c]
structure qkg (l:List α) (j n:Nat):Prop where
 but:∀ i (hi:i<l.length),0<i->i<n->(i-1)/2≠j->key (l[(i-1)/2]'(by omega))<=key l[i]
 kids:∀ c (hc:c<l.length),0<c->c<n->∀ (hp:(c-1)/2=j) (h0:0<j),key (l[(j-1)/2]'(by omega))<=key l[c]
def qcv (l:List α) (i j:Nat) (b:i<l.length) (a:j<l.length):List α:=(l.set i l[j]).set j l[i]
variable {key} {l:List α} {i j n:Nat}
def qe1 (b:i<l.length) (a:j<l.length):(qcv l i j b a).length=l.length:=by simp [qcv]
def qhs (b:i<l.length) (a:j<l.length):(qcv l i j b a).Perm l:=List.set_set_perm b a
def qeF (c:i<l.length) (b:j<l.length) {k:Nat} (d:k<(qcv l i j c b).length):
  (qcv l i j c b)[k]=if k=j then l[i] else if k=i then l[j] else l[k]'(by rw [qe1] at d;exact d):=by
 have g:(qcv l i j c b)[k]=((l.set i l[j]).set j l[i])[k]'(by simpa [qcv] using d):=rfl;rw [g,oF];by_cases a:j=k
 ·rw [eA a,eA a.symm]
 ·rw [dA a,dA (fun e=>a e.symm),oF]
  by_cases h2:i=k
  ·rw [eA h2,eA h2.symm]
  ·rw [dA h2,dA (fun e=>h2 e.symm)]
def qe0.top (a:qe0 key l 0):qb5 key l l.length:=fun i c b _=>a.but i c b (by omega)
def qe0.stop (c:qe0 key l j) (d:j<l.length) (g:¬ key l[j]<key (l[(j-1)/2]'(by omega))):qb5 key l l.length:=fun i b a _=>by
 by_cases e:i=j
 ·subst e;omega
 ·exact c.but i b a e
def qe0.step (a:qe0 key l j) (k:j<l.length) (m:0<j) (w:key l[j]<key (l[(j-1)/2]'(by omega))):qe0 key (qcv l ((j-1)/2) j (by omega) k) ((j-1)/2):=by
 constructor
 ·intro i n h p
  rw [qeF,qeF];have b:i<l.length:=by rwa [qe1] at n
  by_cases e:i=j
  ·subst e
   rw [eA rfl,dA (by omega),eA rfl];omega
  ·rw [dA e,dA p]
   by_cases d:(i-1)/2=j
   ·rw [eA d]
    exact a.kids i b h d m
   ·rw [dA d]
    by_cases g:(i-1)/2=(j-1)/2
    ·rw [eA g]
     have :=a.but i b h e;simp only [g] at this;omega
    ·rw [dA g]
     exact a.but i b h e
 ·intro c q s v h1
  rw [qeF,qeF];have r:c<l.length:=by rwa [qe1] at q
  have t:=a.but ((j-1)/2) (by omega) h1 (by omega);rw [dA (by omega),dA (by omega)];by_cases e:c=j
  ·rw [eA e];exact t
  ·rw [dA e,dA (by omega)]
   have :=a.but c r s e;simp only [v] at this;omega
def qb5.least (b:qb5 key l n) (d:n<=l.length):∀ i (a:i<n),key (l[0]'(by omega))<=key (l[i]'(by omega)):=by
 intro i
 induction i using Nat.strongRecOn with
 |_ i c=>
  intro a;by_cases e:i=0
  ·subst e;omega
  ·have h1:=c ((i-1)/2) (by omega) (by omega)
   have h2:=b i (by omega) (by omega) a;omega
def qb5.put (g:qb5 key l l.length) (x:α):qe0 key (l++[x]) l.length:=by
 constructor
 ·intro i d b h
  have a:i<l.length:=by simp at d;omega
  rw [cF (by omega),cF a];exact g i a b a
 ·intro c e b j _
  simp at e;omega
def qb5.pop (g:qb5 key l l.length) (h:0<l.length):qkg key (qcv l 0 (l.length-1) h (by omega)) 0 (l.length-1):=by
 constructor
 ·intro i d a j e
  have b:i<l.length:=by rwa [qe1] at d
  rw [qeF,qeF,dA (by omega),dA e,dA (by omega),dA (by omega)];exact g i b a b
 ·intro c _ _ _ _ a
  omega
end
def quW (c:Int):0<=qeA c/\qeA c<=1114111:=by
 have :=(qgb _).1 (qsD c);omega
def qnC {xs:List Int} (a:k<xs.length):text (xs.take (k+1))=text (xs.take k)++Lib.encodeRune (qeA xs[k]):=by
 rw [aB a,qsB,qmu];simp [text]
def qnD (xs:List Int) (k:Nat):(text (xs.take k)).length<=4*k:=by
 have h1:=qmt (xs.take k);have h2:=List.length_take_le k xs;omega
def quX (T E:TypeId) (w:World) (xs:List Int) (i:Value) (wr:World):Prop:=
 ∃ k:Nat,k<=xs.length/\i= .int .i64 k/\Lib.IsBuilderF T E w.heap.size w.heap.size (Lib.byteCells (text (xs.take k))) wr/\wG w wr/\w.heap.size<wr.heap.size
def qkh (l:List UInt8) (w:World) (e:Ending) (w':World):Prop:=e= .returned (.string ⟨l.toArray⟩)/\wG w w'
def quY (A:Option Addr) (c:Nat) (xs:List Int) (w:World) (b:Row w w.heap.size A (qaa xs)) (t:xs.length<=1073741824):
  yG 225 #[.slice A xs.length c] w (qkh (text xs) w):=by
 have q:=qH b;clear b
 go_enter func225,ntmps225
 go_wp2
 go_loopw [8] (fun i wr=>quX 333 5 w xs i wr) (fun i _=>xs.length-(intOf i).toNat)
 case atStart=>exact ⟨0,kA _,rfl,Lib.IsBuilderF.of (Lib.fresh_isBuilder _ _ w),(bA _ w).alloc (aA _) _,by simp⟩
 case round=>
  obtain ⟨k,v,rfl,h,d,C⟩:=hrel;by_cases j:k<xs.length
  ·have ⟨a,y,m,_,n⟩:=qbR (q.o.below d) j
   subst m;have g:=qnC j;have r:=qnD xs k;have ⟨x,b⟩:=qE (xs[k]);rw [<- b] at n g;clear b;have l:=qH g;clear g;have ⟨z,B⟩:=quW x
   go_wp2_with (go_at_call 244;refine (qty x _).mono ?_)
   rintro e w' ⟨rfl,rfl⟩
   go_wp2_with (go_at_call 243;refine (qsP w.heap.size w.heap.size _ _ (by omega) (by omega) _ h (by rw [Lib.byteCells_length];omega) (by omega)).mono ?_)
   rintro e p ⟨rfl,h1,a,s⟩;go_wp2;go_roundw
   case rel=>
    refine ⟨k+1,by omega,by go_num,?_,d.trans a,by have :=a.size;omega⟩;rw [l.o,Lib.byteCells_append,Lib.byteCells_encodeRune];exact Or.inr h1
   case measure=>simp [intOf];omega
  ·go_wp2_with (go_at_call 245;refine (qsO w.heap.size w.heap.size _ _ h (by omega)).mono ?_)
   rintro e p ⟨rfl,_,a,_⟩;go_wp2;go_ret;rw [nB (by omega)];exact ⟨rfl,d.trans a⟩
def ahead (l:List Int) (k:Nat):Int:=if k=0 then-1 else l.getD (k-1) 0
def quZ {l:List Int}:ahead l (k+1)=l.getD k 0:=by simp [ahead]
def qki {l:List Int} (a:k<l.length) (last:Int):qal last (l.drop k)=(decide (last<l.getD k 0)&&qal (l.getD k 0) (l.drop (k+1))):=by
 rw [yD a,qal,mA,oA a];rfl
def qnE {l:List Int} (a:l.length<=k) (last:Int):qal last (l.drop k)=true:=by rw [eE a];rfl
def qht {xs:List Int} (d:Row w B A (qaa xs)) {k:Nat} (c:k<xs.length):
  ∃ b a,A=some ⟨b,a,none⟩/\b<B/\w.cell? ⟨b,a+k,none⟩=some (.int .i64 (xs.getD k 0)):=by
 have ⟨b,a,h1,h2,h3⟩:=qbR d c;refine ⟨b,a,h1,h2,?_⟩;rw [h3,mA,oA c];rfl
def qu0 {l:List Int} (a:k<l.length) (last:Int):dB last (l.drop k)=qam (l.getD k 0-(last+1)).toNat++dB (l.getD k 0) (l.drop (k+1)):=by
 rw [yD a,dB,mA,oA a];rfl
def qu1 {l:List Int} (a:l.length<=k) (last:Int):dB last (l.drop k)=[]:=by rw [eE a];rfl
section
variable {α:Type} (key:α->Int)
def qfn (l:List α) (n m:Nat):Prop:=∀ i (a:i<l.length),0<i->i<n->m<=(i-1)/2->key (l[(i-1)/2]'(by omega))<=key l[i]
structure qep (l:List α) (j n m:Nat):Prop where
 but:∀ i (hi:i<l.length),0<i->i<n->m<=(i-1)/2->(i-1)/2≠j->key (l[(i-1)/2]'(by omega))<=key l[i]
 kids:∀ c (hc:c<l.length),0<c->c<n->∀ (hp:(c-1)/2=j) (h0:0<j),m<=(j-1)/2->key (l[(j-1)/2]'(by omega))<=key l[c]
variable {key} {l:List α} {i j n m:Nat}
def qfn.all (b:qfn key l n 0):qb5 key l n:=fun i d c a=>b i d c a (kA _)
def qu2 (l:List α) (n:Nat):qfn key l n (n/2):=fun i d b a c=>by omega
def qfn.down (e:qfn key l n (j+1)):qep key l j n j:=
 ⟨fun i d a g b k=>e i d a g (by omega),fun c m a p q h b=>by omega⟩
def qkg.f (b:qkg key l j n):qep key l j n 0:=⟨fun i e a m _ g=>b.but i e a m g,fun c h a k p d _=>b.kids c h a k p d⟩
def qep.stop (k:qep key l j n m) (p:n<=l.length) (h:∀ c (q:c<n) (a:0<c) (r:(c-1)/2=j),key (l[j]'(by omega))<=key (l[c]'(by omega))):qfn key l n m:=fun i g a b d=>by
 by_cases e:(i-1)/2=j
 ·have :=h i b a e
  simp only [e];exact this
 ·exact k.but i g a b d e
def qep.step (g:qep key l j n m) (G:n<=l.length) {k:Nat} (z:k<n) (q:0<k) (b:(k-1)/2=j) (E:m<=j) (C:key (l[k]'(by omega))<key (l[j]'(by omega)))
  (y:∀ c (p:c<n) (q:0<c) (b:(c-1)/2=j),key (l[k]'(by omega))<=key (l[c]'(by omega))):qep key (qcv l j k (by omega) (by omega)) k n m:=by
 constructor
 ·intro i w s r h A
  have t:i<l.length:=by rwa [qe1] at w
  rw [qeF,qeF,dA A];by_cases e:i=k
  ·subst e
   rw [eA b,eA rfl];exact Int.le_of_lt C
  ·rw [dA e]
   by_cases a:(i-1)/2=j
   ·rw [eA a,dA (by omega)]
    exact y i r s a
   ·rw [dA a]
    by_cases d:i=j
    ·rw [eA d]
     have :=g.kids k (by omega) q z b (by omega) (by omega);simp only [d];exact this
    ·rw [dA d]
     exact g.but i t s r h a
 ·intro c p B x D F h
  have v:c<l.length:=by rwa [qe1] at p
  rw [qeF,qeF,dA (by omega),eA b,dA (by omega),dA (by omega)];have :=g.but c v B x (by omega) (by omega);simp only [D] at this;exact this
def qb5.popF (b:qb5 key l l.length) (a:0<l.length):qep key (qcv l 0 (l.length-1) a (by omega)) 0 (l.length-1) 0:=(b.pop a).f
def qb5.init {x:α} (b:qb5 key (l++[x]) l.length):qb5 key l l.length:=fun i d c a=>by
 have :=b i (by simp;omega) c a;rwa [cF (by omega),cF d] at this
end
abbrev Hd:=Int × Nat × Nat
structure qdm (l:List (List Int)) (a:List Nat) (H:List Hd):Prop where
 ins:∀ x∈H,InO l x.2/\x.2.2=a.getD x.2.1 0/\x.1=qaA l x.2
 all:∀ i,InO l (i,a.getD i 0)->∃ x∈H,x.2.1=i
 once:(H.map (·.2.1)).Nodup
def qdm.perm {l:List (List Int)} {a:List Nat} {H g:List Hd} (b:qdm l a H) (d:g.Perm H):qdm l a g:=
 ⟨fun x c=>b.ins x (d.mem_iff.1 c),fun i h=>by have ⟨x,c,e⟩:=b.all i h;exact ⟨x,d.mem_iff.2 c,e⟩,(d.map _).nodup_iff.2 b.once⟩
def qhu {a:List Nat} (d:b<a.length) (v i:Nat):(a.set b v).getD i 0=if i=b then v else a.getD i 0:=by
 rw [mA,aE];by_cases e:b=i
 ·subst e;simp [d]
 ·rw [dA e,dA (fun c=>e c.symm),mA (l:=a) (i:=i)]
def qdm.rest {l:List (List Int)} {a:List Nat} {x:Hd} {R:List Hd} (c:qdm l a (x::R)):∀ y∈R,y.2.1≠x.2.1:=fun y b e=>by
 have :=c.once;rw [xB,List.nodup_cons] at this;exact this.1 (tA.2 ⟨y,b,e⟩)
def qdm.last {l:List (List Int)} {a:List Nat} {x:Hd} {R:List Hd} (m:a.length=l.length) (b:qdm l a (x::R)) (j:¬ InO l (x.2.1,x.2.2+1)):qdm l (a.set x.2.1 (x.2.2+1)) R:=by
 have k:=b.ins x (eB ..);have g:x.2.1<a.length:=by rw [m];exact k.1.1
 have h:=b.rest;refine ⟨fun y hy=> ?_,fun i c=> ?_,?_⟩
 ·have ⟨h1,h2,h3⟩:=b.ins y (oB _ hy)
  refine ⟨h1,?_,h3⟩;rw [qhu g,dA (h y hy)];exact h2
 ·rw [qhu g] at c
  split at c
  ·rename_i e
   subst e;exact absurd c j
  ·rename_i e
   have ⟨y,hy,d⟩:=b.all i c;rcases wA.1 hy with rfl|hy
   ·exact absurd d.symm e
   ·exact ⟨y,hy,d⟩
 ·have :=b.once
  rw [xB,List.nodup_cons] at this;exact this.2
def qdm.next {l:List (List Int)} {a:List Nat} {x:Hd} {R:List Hd} (m:a.length=l.length) (b:qdm l a (x::R)) (j:InO l (x.2.1,x.2.2+1)):qdm l (a.set x.2.1 (x.2.2+1)) ((qaA l (x.2.1,x.2.2+1),x.2.1,x.2.2+1)::R):=by
 have k:=b.ins x (eB ..);have d:x.2.1<a.length:=by rw [m];exact k.1.1
 have h:=b.rest;refine ⟨fun y hy=> ?_,fun i c=> ?_,?_⟩
 ·rcases wA.1 hy with rfl|hy
  ·exact ⟨j,by simp only;rw [qhu d,eA rfl],rfl⟩
  ·have ⟨h1,h2,h3⟩:=b.ins y (oB _ hy)
   refine ⟨h1,?_,h3⟩;rw [qhu d,dA (h y hy)];exact h2
 ·rw [qhu d] at c
  split at c
  ·rename_i e
   subst e;exact ⟨_,eB ..,rfl⟩
  ·rename_i e
   have ⟨y,hy,g⟩:=b.all i c;rcases wA.1 hy with rfl|hy
   ·exact absurd g.symm e
   ·exact ⟨y,oB _ hy,g⟩
 ·have :=b.once
  rw [xB] at this ⊢;exact this
def qdm.none {l:List (List Int)} {a:List Nat} {o:List Pl} {last:Int} (d:qdm l a []) (b:qdW l a o last):qbS l o:=
 b.done fun i c=>by
  apply Classical.byContradiction;intro g;have ⟨x,e,_⟩:=d.all i (qcm.2 ⟨c,by omega⟩);simp at e
def qdm.least {l:List (List Int)} {a:List Nat} {x:Hd} {R:List Hd} (b:qdm l a (x::R)) (c:∀ y∈R,x.1<=y.1):InO l (x.2.1,a.getD x.2.1 0)/\∀ i,InO l (i,a.getD i 0)->qaA l (x.2.1,a.getD x.2.1 0)<=qaA l (i,a.getD i 0):=by
 have ⟨h1,h2,h3⟩:=b.ins x (eB ..);rw [<- h2];refine ⟨h1,fun i d=> ?_⟩;obtain ⟨y,hy,rfl⟩:=b.all i d;have ⟨h,e,g⟩:=b.ins y hy;rw [<- e,<- show x.1=qaA l (x.2.1,x.2.2) from h3,<- show y.1=qaA l (y.2.1,y.2.2) from g]
 rcases wA.1 hy with rfl|hy
 ·exact Int.le_refl _
 ·exact c y hy
structure qeG (l:List (List Int)) (k:Nat) (H:List Hd):Prop where
 ins:∀ x∈H,InO l x.2/\x.2.2=0/\x.1=qaA l x.2/\x.2.1<k
 all:∀ i,i<k->InO l (i,0)->∃ x∈H,x.2.1=i
 once:(H.map (·.2.1)).Nodup
def qu3 (l:List (List Int)):qeG l 0 []:=⟨fun x a=>by simp at a,fun i a=>by omega,List.Pairwise.nil⟩
def qeG.skip {l:List (List Int)} {H:List Hd} (a:qeG l k H) (c:¬ InO l (k,0)):qeG l (k+1) H:=
 ⟨fun x d=>by have ⟨h1,h2,h3,h⟩:=a.ins x d;exact ⟨h1,h2,h3,by omega⟩,fun i g b=>by
  by_cases e:i=k
  ·subst e;exact absurd b c
  ·exact a.all i (by omega) b,a.once⟩
def qeG.put {l:List (List Int)} {H:List Hd} (a:qeG l k H) (c:InO l (k,0)):qeG l (k+1) (H++[(qaA l (k,0),k,0)]):=by
 refine ⟨fun x hx=> ?_,fun i j d=> ?_,?_⟩
 ·rcases aC.1 hx with hx|hx
  ·have ⟨h1,h2,h3,m⟩:=a.ins x hx;exact ⟨h1,h2,h3,by omega⟩
  ·rw [yB.1 hx]
   exact ⟨c,rfl,rfl,by simp⟩
 ·by_cases e:i=k
  ·subst e;exact ⟨_,List.mem_append_right _ (yB.2 rfl),rfl⟩
  ·have ⟨x,hx,b⟩:=a.all i (by omega) d
   exact ⟨x,List.mem_append_left _ hx,b⟩
 ·rw [jC,List.nodup_append]
  refine ⟨a.once,by simp,fun u h v g e=> ?_⟩;obtain ⟨x,hx,rfl⟩:=tA.1 h;simp at g;have :=(a.ins x hx).2.2.2;omega
def qeG.start {l:List (List Int)} {H:List Hd} (a:qeG l l.length H):qdm l (List.replicate l.length 0) H:=by
 have e:∀ i,(List.replicate l.length 0).getD i 0=0:=fun i=>by
  rw [mA,List.getElem?_replicate];split<;>rfl
 exact ⟨fun x c=>by have ⟨h1,h2,h3,d⟩:=a.ins x c;exact ⟨h1,by rw [e];exact h2,h3⟩,fun i b=>by rw [e] at b;exact a.all i b.1 b,a.once⟩
structure qcV (e:TypeId) (size lo:Nat) (w:World) (vs:List Value) (ns:List Nat) (xss:List (List Value)):Prop where
 len:ns.length=vs.length
 len2:xss.length=vs.length
 own:∀ q (h:q<vs.length),w.ownsRow lo e size vs[q] (ns[q]'(by omega)) (xss[q]'(by omega))
 apart:∀ q r (hq:q<vs.length) (hr:r<vs.length),q≠r->∀ g,vs[q].ownBlock=some g->vs[r].ownBlock≠some g
section
variable {e:TypeId} {size lo:Nat} {w w':World} {vs:List Value} {ns:List Nat} {xss:List (List Value)}
def qkj (e:TypeId) (size lo:Nat) (w:World) (m:Nat):qcV e size lo w (List.replicate m (.slice none 0 0)) (List.replicate m 0) (List.replicate m []):=
 ⟨by simp,by simp,fun q a=>by simpa using vA _ _ _ _,fun q r b c _ g a=>by simp [Value.ownBlock] at a⟩
def qcV.keep (b:qcV e size lo w vs ns xss) (k:∀ g (t:Array Value),w.heap[g]?=some (.cells t e (0,0))->lo<=g->w'.heap[g]?=some (.cells t e (0,0))):qcV e size lo w' vs ns xss:=
 ⟨b.len,b.len2,fun q h=>qaq (b.own q h) fun g a=>by
  have j:=b.own q h;rcases j.2 with ⟨c,_⟩|⟨n,m,l,c,i,d,_⟩
  ·rw [c] at a;cases a
  ·rw [c] at a
   simp only [Value.ownBlock,jB] at a;subst a;rw [k _ _ d i,d],b.apart⟩
def qcV.below (b:qcV e size lo w vs ns xss) (c:wG w w'):qcV e size lo w' vs ns xss:=
 b.keep fun g t a _=>by rw [c.block g (gA.1 a).1];exact a
def qcV.low (a:qcV e size lo w vs ns xss) {b:Nat} (k:b<=lo):qcV e size b w vs ns xss:=by
 refine ⟨a.len,a.len2,fun q m=> ?_,a.apart⟩;have c:=a.own q m;refine ⟨c.1,?_⟩;rcases c.2 with h|⟨g,j,i,l,d,r⟩
 ·exact .inl h
 ·exact .inr ⟨g,j,i,l,lA k d,r⟩
def qcV.other (h:qcV e size lo w vs ns xss) {B i:Nat} {cs:Array Value} {t:TypeId} {fr:Nat × Nat} (d:w.heap[B]?=some (.cells cs t fr)) (c:t≠e) (u:Value):qcV e size lo (w.setCell ⟨B,i,none⟩ u) vs ns xss:=
 h.keep fun g j a _=>by
  rw [rA _ _ _ _ (fun b=> ?_)]
  ·exact a
  ·simp only at b
   subst b;rw [d] at a;injection a with a
   injection a with _ a
   exact c a
def qcV.grow (b:qcV e size lo w vs ns xss) {q:Nat} (j:q<vs.length) {v':Value} {n:Nat} {xs:List Value} (y:w'.ownsRow lo e size v' n xs) (t:w.grownBy w' vs[q].ownBlock)
  (m:∀ g,v'.ownBlock=some g->vs[q].ownBlock=some g\/w.heap.size<=g):qcV e size lo w' (vs.set q v') (ns.set q n) (xss.set q xs):=by
 refine ⟨by simp [b.len],by simp [b.len2],fun r a=> ?_,fun r s a d h g h1 h2=> ?_⟩
 ·rw [uC] at a
  by_cases c:q=r
  ·subst c
   simpa using y
  ·rw [jE c,jE c,jE c]
   refine qaq (b.own r a) fun g l=>t.block g ((b.own r a).lt g l).2 (fun i=> ?_)
   exact b.apart q r j a c g i.symm l
 ·rw [uC] at a d
  have k:∀ x (p:x<vs.length),vs[x].ownBlock=some g->g<w.heap.size:=fun x p v=>((b.own x p).lt g v).2
  by_cases c:q=r
  ·subst c
   rw [List.getElem_set_self] at h1;rw [jE h] at h2;rcases m g h1 with h3|h3
   ·exact b.apart q s j d h g h3 h2
   ·have :=k s d h2;omega
  ·rw [jE c] at h1
   by_cases i:q=s
   ·subst i
    rw [List.getElem_set_self] at h2;rcases m g h2 with h3|h3
    ·exact b.apart r q a j h g h1 h3
    ·have :=k r a h1;omega
   ·rw [jE i] at h2
    exact b.apart r s a d h g h1 h2
end
def qu4 {l:List UInt8} (b:k<9) (a:k<l.length):∃ q p v:Nat,128^k=q/\qbp (l.take k)=v/\qbp (l.take (k+1))=v+p/\(((l.getD k 0).toNat:Int)%128)*(q:Int)=(p:Int)/\p<=9151314442816847872/\v+p<9223372036854775808/\q<=72057594037927936:=by
 have h1:=qsR a;have h2:=qmz l (k+1);have h3:=qmC b;refine ⟨_,(l.getD k 0).toNat%128*128^k,_,rfl,rfl,h1,by simp,?_,by omega,h3⟩;have :(l.getD k 0).toNat%128*128^k<=127*72057594037927936:=Nat.mul_le_mul (by omega) h3;omega
def qu5 {q:Nat} (a:128^k=q) (b:k<8):128^(k+1)=q*128/\q*128<=72057594037927936:=by
 have h1:=qmC (i:=k+1) (by omega);rw [Nat.pow_succ,a] at h1 ⊢;exact ⟨rfl,h1⟩
def qkk {a:Nat} {l:List UInt8} (d:Row w B (some ⟨b,k,none⟩) (Lib.byteCells l)) (g:l.length=m) (n:m<=c) (p:a<=m) (A:Option Addr) (hA:A=some ⟨b,k,none⟩/\c=a\/A=some ⟨b,k+a,none⟩):Row w B A (Lib.byteCells (l.drop a)):=by
 by_cases h:a=m
 ·refine .inl ?_
  rw [eE (by omega)];rfl
 ·rcases hA with ⟨_,hA⟩|hA
  ·omega
  ·have ⟨q,i,h1,h2,h3⟩:=d.at_ (by rw [Lib.byteCells_length];omega)
   injection h1 with h1
   injection h1 with h1 h4
   subst h1 h4 hA;refine .inr ⟨b,k+a,rfl,h2,fun j u e=> ?_⟩;have :=h3 (a+j) u (by rw [<- e];simp [Lib.byteCells]);rwa [<- uB] at this
def qu6 (z:Int × Int × Int) (w:World) (e:Ending) (w':World):Prop:=e= .returned (.tuple #[.int .i64 z.1,.int .i64 z.2.1,.int .i64 z.2.2])/\wG w w'
def qim (l:List UInt8) (a:Int):(∃ e:Int,qbY l a=(0,0,e)/\(e=1\/e=2))\/∃ n b:Nat,qbY l a=((n:Int),(b:Int),0)/\b<=l.length/\n<9223372036854775808:=by
 by_cases g:a<0\/(l.length:Int)<a
 ·exact .inl ⟨1,qmF g,.inl rfl⟩
 ·obtain ⟨k,rfl⟩:∃ k:Nat,a=k:=⟨a.toNat,by omega⟩
  have c:=qfH (l.drop k);rw [rB] at c;by_cases h2:(qaC (l.drop k)).2=0
  ·exact .inl ⟨2,qmG (by omega) h2,.inr rfl⟩
  ·obtain ⟨j,d⟩:∃ j,(qaC (l.drop k)).2=j+1:=⟨(qaC (l.drop k)).2-1,by omega⟩
   refine .inr ⟨(qaC (l.drop k)).1,k+(j+1),?_,by omega,c.1⟩;rw [qjH (n:=(qaC (l.drop k)).1) (k:=j) (by omega) (by rw [<- d])];simp
def qkl:Option (List Int × Nat)->List Int × Int × Int
 |none=>([],0,2)
 |some p=>(p.1,(p.2:Int),0)
def qkm {l:List UInt8} {e:Int} (c:qbY l a=(0,0,e)) (b:e≠0):qdj l a=([],0,e):=by
 unfold qdj;rw [c,dA (by simpa using b)]
def qkn {l:List UInt8} (c:qbY l a=((n:Int),(b:Int),0)):qdj l a=qkl (qcI l n (-1) b []):=by
 unfold qdj;rw [c];simp only [if_true,rD];rcases qcI l n (-1) b [] with _|⟨xs,q⟩<;>rfl
def qu7 (r:List Int × Int × Int) (w:World) (e:Ending) (w':World):Prop:=
 ∃ v,e= .returned (.tuple #[v,.int .i64 r.2.1,.int .i64 r.2.2])/\w'.ownsRow w.heap.size 3 1 v r.1.length (qaa r.1)/\wG w w'
def qko:∀ (g:Nat) (l:List UInt8) (x:Int) (a:Nat) (d xs:List Int) (b:Nat),qcI l g x a d=some (xs,b)->a<=l.length->xs.length+a<=d.length+b/\b<=l.length
 |0,l,x,a,d,xs,b,c,e=>by
  simp only [qcI,jB,lD] at c;obtain ⟨rfl,rfl⟩:=c;exact ⟨aA _,e⟩
 |m+1,l,x,a,d,xs,b,c,e=>by
  have h:=qfH (l.drop a);rw [rB] at h;rw [qcI] at c;split at c
  ·cases c
  ·have :=qko m l _ _ _ xs b c (by omega)
   simp only [iA,bB] at this;omega
def qu8 (l:List UInt8) (a:Int):(qdj l a).1.length<=l.length:=by
 rcases qim l a with ⟨e,c,i⟩|⟨d,b,c,g,_⟩
 ·rw [qkm c (by omega)];simp
 ·rw [qkn c]
  rcases h:qcI l d (-1) b [] with _|⟨xs,q⟩
  ·simp [qkl]
  ·have :=qko d l _ _ _ xs q h g
   simp only [qkl,vB] at this ⊢;omega
def qhv (l:List Int) (w:World) (e:Ending) (w':World):Prop:=∃ A c,e= .returned (.slice A l.length c)/\l.length<=c/\w'.ownsRow w.heap.size 3 1 (.slice A l.length c) l.length (qaa l)/\wG w w'
def qin (A:Option Addr) (m c:Nat) (ps:List Int) (w:World) (C:ps.length=m) (d:Row w w.heap.size A (qaa ps)) (s:m<=2147483648):
  yG 53 #[.slice A m c] w (qhv ps w):=by
 have ⟨D,F,z,B,x⟩:=lG qc4;have G:∀ (w:World) (a:Option Addr) (n c i b:Nat),(binOp .eql 23 (.slice a n c) (.slice none i b)).run prog w= .ok (.bool a.isNone) w:=fun w a n c i b=>Lib.run_eql_slice_nil w _ _ a n c i b underlying23
 subst C;cases A with
 |none=>
  obtain rfl:ps=[]:=by
   rcases sF ps.length with h0|h0
   ·exact sB h0
   ·have ⟨_,_,e,_⟩:=d.at_ (by simpa [qaa] using h0)
    cases e
  clear d
  go_enter func53,ntmps53
  go_wp2;go_ret;exact ⟨none,0,rfl,kA _,vA _ _ _ _,bA _ _⟩
 |some H=>
  have r:=qH d;have p:(qaa ps).length=ps.length:=by simp [qaa]
  have j:=qH p;clear d p;have q:(w.alloc (.cells #[] 3)).ownsRow w.heap.size 3 1 (.slice (some ⟨w.heap.size,0,none⟩) 0 0) 0 []:=World.ownsRow_made w #[] 0 (aA _) (kA _) rfl;have ⟨m,g⟩:=qE ps.length;rw [<- g] at j s;rw [<- g];have h:=qH g;clear g
  go_enter func53,ntmps53
  go_wp2_with (at_builtin;(refine qf9 _ rfl (.tmp 5) (.tmp 6) 23 rfl w.heap.size 3 D _ 1 8 underlying23 F z B x rfl (by decide) _ 0 [] rfl q _ _ m c (qaa ps) rfl (by rw [j.o];omega) ((r.o.below ((bA _ w).alloc (aA _) (.cells #[] 3))).more (B':=(w.alloc (.cells #[] 3)).heap.size) (by simp)) (quV _) (by unfold maxLen;omega) (by omega) (by simp) ?_))
  intro v' w' l v;obtain ⟨y,b,rfl,E,_⟩:=qaK l;go_wp2;go_ret;refine ⟨y,b,by rw [<- h.o];rfl,by rw [<- h.o];exact E,by rw [<- h.o];simpa using l,((bA _ _).alloc (aA _) _).grown v (by simp) (fun k t=>by cases t;exact aA _)⟩
def qgi (zz:Nat) (bs:List UInt8) (w:World) (e:Ending) (w':World):Prop:=∃ v,e= .returned v/\Own zz w' v bs/\Below zz w w'
def qu9 (zz:Nat) (all:List UInt8) (n:Nat) (w:World) (v i:Value) (wr:World):Prop:=
 ∃ (a:List UInt8) (x:Nat),i= .int .i64 (x:Int)/\x<=n/\a.length<=all.length/\a++qam x=all/\Buf zz wr v a/\Below zz w wr
def qva (v:Value) (bs:List UInt8) (n:Nat) (zz:Nat) (w:World) (m:Buf zz w v bs) (N:zz<=w.heap.size) (H:n<9223372036854775808) (J:bs.length<=1073741824):
  yG 204 #[v,.int .i64 (n:Int)] w (qgi zz (bs++qam n) w):=by
 have ⟨C,D,t,z,r⟩:=lG qik;have K:=qfG H;have ⟨all,e⟩:=qE (bs++qam n);have L:all.length<=1073741833:=by rw [e,iA];omega
 rw [<- e];have B:=qH e;have G:=qH m;clear e m
 go_enter func204,ntmps204
 go_wp2
 go_loopw [0,1] (fun v i wr=>qu9 zz all n w v i wr) (fun _ i _=>(intOf i).toNat)
 case atStart=>exact ⟨bs,n,rfl,aA _,by rw [B.o];simp,B.o.symm,G.o,bA _ _⟩
 case round=>
  obtain ⟨d,x,rfl,M,I,q,s,l⟩:=hrel;have O:=l.size;have y:=qH s;have p:=qH q;clear s q;by_cases F:128<=x
  ·have ⟨c,a⟩:=qE (UInt8.ofNat (128+x%128))
   have k:qI (c.toNat=128+x%128):=qH (by rw [a,qeT (by omega)]);have b:(d++[c])++qam (x/128)=all:=by
    rw [<- p.o,qeS F,iB,a];rfl
   have A:(d++[c]).length<=all.length:=by rw [<- b,iA (bs:=qam (x/128))];omega
   clear a;have g:=qH b;have E:=qH A;clear b A
   go_wp2_with (at_builtin;refine qil _ rfl (.tmp 9) (.tmp 14) 178 rfl zz C _ underlying178 D t z r rfl _ d rfl (y.o.alloc (by omega) _) (by simp;omega) ⟨wr.heap.size,0,none⟩ 1 _ rfl (qaH wr [.int .u8 _] 5) c (by rw [k.o];omega) (by omega) ?_)
   intro v' w3 j h;go_wp2;go_roundw
   case rel=>exact ⟨_,x/128,by go_num,by omega,E.o,g.o,j.buf,(l.alloc (by omega) _).trans h⟩
   case measure=>simp [intOf];omega
  ·have ⟨c,a⟩:=qE (UInt8.ofNat x)
   have k:qI (c.toNat=x):=qH (by rw [a,qeT (by omega)]);have b:d++[c]=all:=by rw [<- p.o,qeB (by omega),a]
   clear a;have g:=qH b;clear b
   go_wp2_with (at_builtin;refine qil _ rfl (.tmp 16) (.tmp 19) 178 rfl zz C _ underlying178 D t z r rfl _ d rfl (y.o.alloc (by omega) _) (by simp;omega) ⟨wr.heap.size,0,none⟩ 1 _ rfl (qaH wr [.int .u8 _] 5) c (by rw [k.o]) (by omega) ?_)
   intro v' w3 j h;go_wp2;go_ret;exact ⟨_,rfl,by rw [<- g.o];exact j,(l.alloc (by omega) _).trans h⟩
def qc5 (w:World) (lo hi:Nat) (A:Option Addr) (xs:List Value):Prop:=
 xs=[]\/∃ b a,A=some ⟨b,a,none⟩/\lo<=b/\b<hi/\∀ j u,xs[j]?=some u->w.cell? ⟨b,a+j,none⟩=some u
section
variable {w w':World} {lo hi hi':Nat} {A:Option Addr} {xs:List Value}
def qc5.nil:qc5 w lo hi A []:= .inl rfl
def qc5.row (a:qc5 w lo hi A xs):Row w hi A xs:=by
 rcases a with a|⟨b,d,h1,_,h3,c⟩
 ·exact .inl a
 ·exact .inr ⟨b,d,h1,h3,c⟩
def qc5.more (a:qc5 w lo hi A xs) (e:hi<=hi'):qc5 w lo hi' A xs:=by
 rcases a with a|⟨b,d,h1,h2,h3,c⟩
 ·exact .inl a
 ·exact .inr ⟨b,d,h1,h2,by omega,c⟩
def qc5.keep (c:qc5 w lo hi A xs) (h:∀ b,lo<=b->b<hi->w'.heap[b]?=w.heap[b]?):qc5 w' lo hi A xs:=by
 rcases c with c|⟨b,d,h1,h2,h3,e⟩
 ·exact .inl c
 ·exact .inr ⟨b,d,h1,h2,h3,fun j u g=>(tC (a:=⟨b,d+j,none⟩) (h b h2 h3)).trans (e j u g)⟩
def qkp {e:TypeId} {size:Nat} (d:w.ownsRow zz e size v n xs) (p:lo<=zz):∃ A c,v= .slice A n c/\n<=c/\c<=maxLen/\qc5 w lo w.heap.size A xs:=by
 obtain ⟨A,c,rfl,h1,h2,h3⟩:=qaU d;refine ⟨A,c,rfl,h1,h2,?_⟩;rcases h3 with h3|⟨b,h,rfl,i,j⟩
 ·exact .inl h3
 ·refine .inr ⟨b,h,rfl,?_,i,j⟩
  rcases d.2 with ⟨a,_⟩|⟨g,m,l,a,k,_⟩
  ·cases a
  ·injection a with a
   injection a with a
   injection a with a
   omega
end
section
variable {α:Type} {f:α->Value} {w w':World} {lo hi hi':Nat} {l:List (List α)} {cs:List Value}
def qcw (f:α->Value) (w:World) (lo hi:Nat) (l:List (List α)) (cs:List Value):Prop:=cs.length=l.length/\∀ i (a:i<l.length),∃ A c,cs[i]?=some (.slice A l[i].length c)/\(l[i].length<=c/\c<=maxLen)/\qc5 w lo hi A (l[i].map f)
def qcw.keep (a:qcw f w lo hi l cs) (d:∀ b,lo<=b->b<hi->w'.heap[b]?=w.heap[b]?):qcw f w' lo hi l cs:=⟨a.1,fun i hi=>by have ⟨A,c,h1,h2,h3⟩:=a.2 i hi;exact ⟨A,c,h1,h2,h3.keep d⟩⟩
def qcw.below (a:qcw f w lo hi l cs) (d:Below hi w w'):qcw f w' lo hi l cs:=a.keep fun b _ c=>d.block b c
def qcw.more (a:qcw f w lo hi l cs) (b:hi<=hi'):qcw f w lo hi' l cs:=⟨a.1,fun i hi=>by have ⟨A,c,h1,h2,h3⟩:=a.2 i hi;exact ⟨A,c,h1,h2,h3.more b⟩⟩
def qcw.ahead (a:qcw f w lo hi l cs) {p:Addr} (c:p.block<lo) (u:Value):qcw f (w.setCell p u) lo hi l cs:=a.keep fun b h1 _=>rA _ _ _ _ (by omega)
def qkq (w:World) (lo hi m:Nat):qcw f w lo hi (List.replicate m []) (List.replicate m (.slice none 0 0)):=
 ⟨by simp,fun i hi=>by
  simp at hi;exact ⟨none,0,by simp [hi],by simp [maxLen],by simpa using qc5.nil⟩⟩
def qcw.set (b:qcw f w lo hi l cs) {i:Nat} {x:List α} {A:Option Addr} {c:Nat} (d:x.length<=c/\c<=maxLen) (k:qc5 w lo hi A (x.map f)):qcw f w lo hi (l.set i x) (cs.set i (.slice A x.length c)):=by
 refine ⟨by simp [b.1],fun j a=> ?_⟩;rw [uC] at a;by_cases e:i=j
 ·subst e
  refine ⟨A,c,?_,?_,?_⟩
  ·rw [aE,eA rfl,eA (by rw [b.1];exact a)];simp
  ·simpa using d
  ·simpa using k
 ·have ⟨g,h,h1,h2,h3⟩:=b.2 j a
  refine ⟨g,h,?_,?_,?_⟩
  ·rw [aE,dA e,jE e];exact h1
  ·rw [jE e];exact h2
  ·rw [jE e];exact h3
def qcw.lolC (a:qcw f w lo hi l cs):qfm f w hi l cs:=⟨a.1,fun i hi=>by have ⟨A,c,h1,h2,h3⟩:=a.2 i hi;exact ⟨A,c,h1,h2,h3.row⟩⟩
structure qcf (f:α->Value) (t:TypeId) (zz D m lo hi:Nat) (w:World) (l:List (List α)) (cs:List Value):Prop where
 own:w.ownsRow zz t 1 (.slice (some ⟨D,0,none⟩) m m) m cs
 lt:D<lo
 len:l.length=m
 rows:qcw f w lo hi l cs
 top:hi<=w.heap.size
section
variable {t:TypeId} {zz D m:Nat}
def qcf.from_ (b:qcf f t zz D m lo hi w l cs):zz<=D:=by
 rcases b.own.2 with ⟨a,_⟩|⟨g,e,d,a,c,_⟩
 ·cases a
 ·injection a with a
  injection a with a
  injection a with a
  omega
def qcf.keep (a:qcf f t zz D m lo hi w l cs) (h1:w'.heap[D]?=w.heap[D]?) (d:∀ b,lo<=b->b<hi->w'.heap[b]?=w.heap[b]?) (e:w.heap.size<=w'.heap.size):qcf f t zz D m lo hi w' l cs:=
 ⟨qaq a.own fun g c=>by simp only [Value.ownBlock,jB] at c;subst c;exact h1,a.lt,a.len,a.rows.keep d,lA a.top e⟩
def qcf.later (c:qcf f t zz D m lo hi w l cs) (a:wG w w'):qcf f t zz D m lo hi w' l cs:=by
 have h:D<w.heap.size:=by
  rcases c.own.2 with ⟨d,_⟩|⟨g,k,j,d,i,e,_⟩
  ·cases d
  ·cases d
   exact (gA.1 e).1
 exact c.keep (a.block D h) (fun b _ h2=>a.block b (tB h2 c.top)) a.size
def qcf.other (a:qcf f t zz D m lo hi w l cs) {p:Addr} (h1:p.block≠D) (h2:p.block<lo) (u:Value):qcf f t zz D m lo hi (w.setCell p u) l cs:=
 a.keep (rA _ _ _ _ fun e=>h1 e.symm) (fun b c _=>rA _ _ _ _ (by omega)) (by simp [World.setCell])
theorem qcf.lol (h:qcf f t zz D m lo hi w l cs):Lol f w w.heap.size (some ⟨D,0,none⟩) l:=by
 obtain ⟨A,c,e,_,hr⟩:=qaK h.own;injection e with e
 subst e;exact ⟨cs,(h.rows.more h.top).lolC,hr⟩
def qcf.set (a:qcf f t zz D m lo hi w l cs) {i:Nat} {x:List α} {A:Option Addr} {c:Nat} (e:x.length<=c/\c<=maxLen) (d:qc5 w lo hi A (x.map f)):qcf f t zz D m lo hi (w.setCell ⟨D,i,none⟩ (.slice A x.length c)) (l.set i x) (cs.set i (.slice A x.length c)):=
 ⟨(a.own.stored i _).1,a.lt,by rw [uC,a.len],(a.rows.ahead (p:=⟨D,i,none⟩) a.lt _).set e (d.keep fun b h1 _=>rA _ _ _ _ (by have :=a.lt;simp only;omega)),by simpa [World.setCell] using a.top⟩
end
end
def qvb {P:Program} {l:List UInt8} (q:Row w B A (Lib.byteCells l)) (d g e:TypeId) (c:Nat)
  (i:P.underlying d=some (.slice e)) (m:P.underlying e=some (.int .u8)) (k:P.underlying g=some .string):
  (convert d g (.slice A l.length c)).run P w= .ok (.string ⟨l.toArray⟩) w:=by
 by_cases n:l=[]
 ·subst n
  rcases A with _|a
  ·exact run_convert_bytes_nil w d e i m 0 c g k
  ·exact run_convert_bytes_back w d g e a c [] i m k (fun j h=>absurd h (by simp))
 ·have r:0<l.length:=List.length_pos_iff.2 n
  obtain ⟨b,s,rfl,_,p⟩:=q.at_ (by rw [Lib.byteCells_length];exact r);refine run_convert_bytes_back w d g e _ c l i m k (fun j h=> ?_)
  rw [cC];exact p j _ (by simp [Lib.byteCells,h])
theorem qvc:(prog.info? 5).map (fun i=>(i.zero,i.size,i.bytes))=some (some (.int .u8 0),1,1):=by kernel_rfl
def qvd (w:World) (xs:List Int) (o i:Value) (wr:World):Prop:=
 ∃ k:Nat,k<=xs.length/\i= .int .i64 k/\wr.ownsRow w.heap.size 5 1 o (text (xs.take k)).length (Lib.byteCells (text (xs.take k)))/\wG w wr
def qve {xs:List Int} (b:k<xs.length) {bs:List Int} (a:Lib.encodeRuneZ xs[k]=bs):
  (text (xs.take (k+1))).length=(text (xs.take k)).length+bs.length/\Lib.byteCells (text (xs.take (k+1)))=Lib.byteCells (text (xs.take k))++bs.map (Value.int .u8):=by
 have e:text (xs.take (k+1))=text (xs.take k)++Lib.encodeRune xs[k]:=by rw [qnC b,qmu]
 refine ⟨?_,?_⟩
 ·rw [e,iA,Lib.encodeRune,gB,a]
 ·rw [e,Lib.byteCells_append,Lib.byteCells_encodeRune,Lib.runeCells,a]
def qvf (A:Option Addr) (c:Nat) (xs:List Int) (w:World) (y:Row w w.heap.size A (qaa xs)) (P:xs.length<=1073741824):
  yG 182 #[.slice A xs.length c] w (qkh (text xs) w):=by
 have ⟨t,v,r,s,q⟩:=lG qvc;have J:=qH y;clear y
 go_enter func182,ntmps182
 go_wp2
 go_loopw [3,4] (fun o i wr=>qvd w xs o i wr) (fun _ i _=>xs.length-(intOf i).toNat)
 case atStart=>exact ⟨0,kA _,rfl,vA _ _ _ _,bA _ w⟩
 case round=>
  obtain ⟨k,g,rfl,d,p⟩:=hrel;have W:=p.size;by_cases D:k<xs.length
  ·have ⟨L,Q,G,_,H⟩:=qbR (J.o.below p) D
   subst G;have F:=qnD xs k;have e:=qH (fun bs=>qve D (bs:=bs));have ⟨x,y⟩:=qE (xs[k]);rw [<- y] at H e;clear y;have ⟨m,z⟩:=qE ((text (xs.take k)).length);have ⟨cs,B⟩:=qE (Lib.byteCells (text (xs.take k)));rw [<- z] at d F e;rw [<- B] at d e;clear z B;by_cases O:x<0
   ·skip
    have ⟨b,a⟩:=e.o [239,191,189] (Lib.encodeRuneZ_bad (by omega));have l:=qH b;have n:=qH a;clear b a e
    go_wp2_with (at_builtin;refine wB _ rfl (.tmp 52) (.tmp 66) 178 rfl w.heap.size 5 t _ 1 1 underlying178 v r s q rfl (by omega) _ m cs rfl (d.alloc _) ⟨wr.heap.size,0,none⟩ 3 3 (List.map (Value.int .u8) [239,191,189]) rfl rfl (qaH _ _ _) (tG _ _) (by unfold maxLen;omega) (by omega) (by simp;omega) ?_)
    intro v' w3 j h _;go_wp2;go_roundw
    case rel=>
     refine ⟨k+1,by omega,by go_num,?_,(p.alloc (by omega) _).grown h (by simp;omega) (fun k g=>(d.lt k g).1)⟩;rw [l.o,n.o];exact j
    case measure=>simp [intOf];omega
   by_cases U:x<=127
   ·skip
    have ⟨b,a⟩:=e.o [x] (Lib.encodeRuneZ_one (by omega) (by omega));have l:=qH b;have n:=qH a;clear b a e
    go_wp2_with (at_builtin;refine wB _ rfl (.tmp 32) (.tmp 35) 178 rfl w.heap.size 5 t _ 1 1 underlying178 v r s q rfl (by omega) _ m cs rfl (d.alloc _) ⟨wr.heap.size,0,none⟩ 1 1 (List.map (Value.int .u8) [x]) rfl rfl (qaH _ _ _) (tG _ _) (by unfold maxLen;omega) (by omega) (by simp;omega) ?_)
    intro v' w3 j h _;go_wp2;go_roundw
    case rel=>
     refine ⟨k+1,by omega,by go_num,?_,(p.alloc (by omega) _).grown h (by simp;omega) (fun k g=>(d.lt k g).1)⟩;rw [l.o,n.o];exact j
    case measure=>simp [intOf];omega
   by_cases K:x<=2047
   ·skip
    have ⟨b,a⟩:=e.o [192+x/64,128+x%64] (Lib.encodeRuneZ_two (by omega) (by omega));have l:=qH b;have n:=qH a;clear b a e
    go_wp2_with (at_builtin;refine wB _ rfl (.tmp 39) (.tmp 48) 178 rfl w.heap.size 5 t _ 1 1 underlying178 v r s q rfl (by omega) _ m cs rfl (d.alloc _) ⟨wr.heap.size,0,none⟩ 2 2 (List.map (Value.int .u8) [192+x/64,128+x%64]) rfl rfl (qaH _ _ _) (tG _ _) (by unfold maxLen;omega) (by omega) (by simp;omega) ?_)
    intro v' w3 j h _;go_wp2;go_roundw
    case rel=>
     refine ⟨k+1,by omega,by go_num,?_,(p.alloc (by omega) _).grown h (by simp;omega) (fun k g=>(d.lt k g).1)⟩;rw [l.o,n.o];exact j
    case measure=>simp [intOf];omega
   by_cases T:x<55296
   ·skip
    have ⟨b,a⟩:=e.o [224+x/4096,128+x/64%64,128+x%64] (Lib.encodeRuneZ_three (by omega));have l:=qH b;have n:=qH a;clear b a e
    go_wp2_with (at_builtin;refine wB _ rfl (.tmp 52) (.tmp 66) 178 rfl w.heap.size 5 t _ 1 1 underlying178 v r s q rfl (by omega) _ m cs rfl (d.alloc _) ⟨wr.heap.size,0,none⟩ 3 3 (List.map (Value.int .u8) [224+x/4096,128+x/64%64,128+x%64]) rfl rfl (qaH _ _ _) (tG _ _) (by unfold maxLen;omega) (by omega) (by simp;omega) ?_)
    intro v' w3 j h _;go_wp2;go_roundw
    case rel=>
     refine ⟨k+1,by omega,by go_num,?_,(p.alloc (by omega) _).grown h (by simp;omega) (fun k g=>(d.lt k g).1)⟩;rw [l.o,n.o];exact j
    case measure=>simp [intOf];omega
   by_cases N:x<=57343
   ·skip
    have ⟨b,a⟩:=e.o [239,191,189] (Lib.encodeRuneZ_bad (by omega));have l:=qH b;have n:=qH a;clear b a e
    go_wp2_with (at_builtin;refine wB _ rfl (.tmp 52) (.tmp 66) 178 rfl w.heap.size 5 t _ 1 1 underlying178 v r s q rfl (by omega) _ m cs rfl (d.alloc _) ⟨wr.heap.size,0,none⟩ 3 3 (List.map (Value.int .u8) [239,191,189]) rfl rfl (qaH _ _ _) (tG _ _) (by unfold maxLen;omega) (by omega) (by simp;omega) ?_)
    intro v' w3 j h _;go_wp2;go_roundw
    case rel=>
     refine ⟨k+1,by omega,by go_num,?_,(p.alloc (by omega) _).grown h (by simp;omega) (fun k g=>(d.lt k g).1)⟩;rw [l.o,n.o];exact j
    case measure=>simp [intOf];omega
   by_cases R:x<=65535
   ·skip
    have ⟨b,a⟩:=e.o [224+x/4096,128+x/64%64,128+x%64] (Lib.encodeRuneZ_three (by omega));have l:=qH b;have n:=qH a;clear b a e
    go_wp2_with (at_builtin;refine wB _ rfl (.tmp 52) (.tmp 66) 178 rfl w.heap.size 5 t _ 1 1 underlying178 v r s q rfl (by omega) _ m cs rfl (d.alloc _) ⟨wr.heap.size,0,none⟩ 3 3 (List.map (Value.int .u8) [224+x/4096,128+x/64%64,128+x%64]) rfl rfl (qaH _ _ _) (tG _ _) (by unfold maxLen;omega) (by omega) (by simp;omega) ?_)
    intro v' w3 j h _;go_wp2;go_roundw
    case rel=>
     refine ⟨k+1,by omega,by go_num,?_,(p.alloc (by omega) _).grown h (by simp;omega) (fun k g=>(d.lt k g).1)⟩;rw [l.o,n.o];exact j
    case measure=>simp [intOf];omega
   by_cases S:x<=1114111
   ·skip
    have ⟨b,a⟩:=e.o [240+x/262144,128+x/4096%64,128+x/64%64,128+x%64] (Lib.encodeRuneZ_four (by omega) (by omega));have l:=qH b;have n:=qH a;clear b a e
    go_wp2_with (at_builtin;refine wB _ rfl (.tmp 68) (.tmp 87) 178 rfl w.heap.size 5 t _ 1 1 underlying178 v r s q rfl (by omega) _ m cs rfl (d.alloc _) ⟨wr.heap.size,0,none⟩ 4 4 (List.map (Value.int .u8) [240+x/262144,128+x/4096%64,128+x/64%64,128+x%64]) rfl rfl (qaH _ _ _) (tG _ _) (by unfold maxLen;omega) (by omega) (by simp;omega) ?_)
    intro v' w3 j h _;go_wp2;go_roundw
    case rel=>
     refine ⟨k+1,by omega,by go_num,?_,(p.alloc (by omega) _).grown h (by simp;omega) (fun k g=>(d.lt k g).1)⟩;rw [l.o,n.o];exact j
    case measure=>simp [intOf];omega
   ·skip
    have ⟨b,a⟩:=e.o [239,191,189] (Lib.encodeRuneZ_bad (by omega));have l:=qH b;have n:=qH a;clear b a e
    go_wp2_with (at_builtin;refine wB _ rfl (.tmp 52) (.tmp 66) 178 rfl w.heap.size 5 t _ 1 1 underlying178 v r s q rfl (by omega) _ m cs rfl (d.alloc _) ⟨wr.heap.size,0,none⟩ 3 3 (List.map (Value.int .u8) [239,191,189]) rfl rfl (qaH _ _ _) (tG _ _) (by unfold maxLen;omega) (by omega) (by simp;omega) ?_)
    intro v' w3 j h _;go_wp2;go_roundw
    case rel=>
     refine ⟨k+1,by omega,by go_num,?_,(p.alloc (by omega) _).grown h (by simp;omega) (fun k g=>(d.lt k g).1)⟩;rw [l.o,n.o];exact j
    case measure=>simp [intOf];omega
  ·have E:k=xs.length:=by omega
   subst E;rw [fC] at d;obtain ⟨V,I,rfl,_,C⟩:=qaK d;have M:=qvb C 178 9 5 I underlying178 underlying5 underlying9;clear C d;go_wp2;go_ret;exact ⟨rfl,p⟩
def qnF (A:Option Addr) (n c:Nat) (xs:List Int) (w:World) (a:xs.length=n) (b:Row w w.heap.size A (qaa xs)) (d:n<=1073741824):
  yG 182 #[.slice A n c] w (qkh (text xs) w):=by
 subst a;exact qvf A c xs w b d
def qkr (c:Int) (w:World):
  yG 223 #[.int .i64 c] w fun e w'=>e= .returned (.bool (qbq c))/\w=w':=by
 have a:=fun w=>qtt c w
 have b:=fun w=>qtv c w
 unfold qbq;cases hL:qez c<;>cases hD:qfg c<;>rw [hL] at a<;>rw [hD] at b
 all_goals
  have g:=qH a;have d:=qH b;clear a b hL hD
  go_enter func223,ntmps223
  go_wp2_with (first
   |(go_at_call 241;refine (g.o _).mono ?_;rintro e w' ⟨rfl,rfl⟩)
   |(go_at_call 242;refine (d.o _).mono ?_;rintro e w' ⟨rfl,rfl⟩))
  go_ret;exact ⟨rfl,rfl⟩
def qio (c:Int) (w:World):
  yG 180 #[.int .i64 c] w fun e w'=>e= .returned (.bool (qbq c))/\w=w':=by
 have b:=fun w=>qtu c w
 cases hL:qez c<;>rw [hL] at b
 all_goals
  have d:=qH b;have a:qbq c=(qez c || qfg c):=rfl;rw [hL] at a;have g:=qH a;clear b hL a
  go_enter func180,ntmps180
  go_wp2_with (go_at_call 219;refine (d.o _).mono ?_;rintro e w' ⟨rfl,rfl⟩)
  all_goals
   go_ret;refine ⟨qel ?_,rfl⟩;rw [g.o,kD];simp [qfg]
   try omega
def qvg (zz B:Nat) (xs:List Value) (w:World) (e:Ending) (w':World):Prop:=
 e= .returned (.tuple #[])/\qbJ 40 9 zz B xs w'/\qcl B w w'
def qvh (zz B:Nat) (xs:List Value) (s:ByteArray) (w:World) (j:qbJ 40 9 zz B xs w) (t:xs.length<=1073741824) (A:zz<=w.heap.size):
  yG 190 #[.string s,.pointer (some ⟨B,0,none⟩)] w (qvg zz B (xs++[.string s]) w):=by
 have ⟨m,n,h,i,g⟩:=lG qfh;obtain ⟨v,a,b⟩:=j;have r:=kG a
 go_enter func190,ntmps190
 go_wp2_with (at_builtin;refine wB _ rfl (.tmp 3) (.tmp 5) 40 rfl zz 9 m _ 1 16 underlying40 n h i g rfl (by omega) _ xs.length xs rfl (b.alloc _) ⟨w.heap.size,0,none⟩ 1 1 [.string s] rfl rfl (qaH w [.string s] 9) (by intro u d;simp at d;subst d;rfl) (by unfold maxLen;omega) (by omega) (by simp;omega) ?_)
 intro v' y c e _;obtain ⟨x,z,rfl,_,_⟩:=c.form (by omega);have ⟨p,q,l,k⟩:=pushed (by decide) a rfl b ((bA _ w).alloc (aA _) _) e c rfl;go_wp2
 go_end0
 exact ⟨rfl,l,k⟩
structure qcW (zz Bl Bt Bn:Nat) (st:List (List Int) × List Int) (w:World):Prop where
 base_le:zz<=w.heap.size
 outs:qbJ 40 9 zz Bl (qad (st.1.map text)) w
 tell:w.heap[Bt]?=some (.cells #[.func (.func 190) #[] #[.pointer (some ⟨Bl,0,none⟩)]] 287 (0,0))
 own:qbJ 23 3 zz Bn (qaa st.2) w
def qcW.keep {d:List (List Int) × List Int} (a:qcW zz k n b d w) (c:wG w w'):qcW zz k n b d w':=
 ⟨lA a.base_le c.size,a.outs.below c,(c.block n (mG a.tell)).trans a.tell,a.own.below c⟩
def qcW.owned {e d:List (List Int) × List Int} (a:qcW zz k n b e w) (c:qcl b w w') (h1:d.1=e.1) (g:qbJ 23 3 zz b (qaa d.2) w'):qcW zz k n b d w':=
 ⟨lA a.base_le c.2.2.2.1,by rw [h1];exact a.outs.other a.own c (by decide) (by decide) (by decide) (by decide),qcl.block a.own c a.tell (by decide) (by decide),g⟩
def qcW.told {e d:List (List Int) × List Int} (a:qcW zz k n b e w) (c:qcl k w w') (h1:d.2=e.2) (g:qbJ 40 9 zz k (qad (d.1.map text)) w'):qcW zz k n b d w':=
 ⟨lA a.base_le c.2.2.2.1,g,qcl.block a.outs c a.tell (by decide) (by decide),by rw [h1];exact a.own.other a.outs c (by decide) (by decide) (by decide) (by decide)⟩
def qgI (zz a c b:Nat) (d:List (List Int) × List Int) (w:World) (e:Ending) (w':World):Prop:=
 e= .returned (.tuple #[])/\qcW zz a c b d w'/\qbF zz a b w w'
def qvi {a:List (List Int) × List Int} {c:Int} (d:qcW zz k n b a w) (h:qbq c=true) (g:qcl b w w')
  (i:qbJ 23 3 zz b (qaa a.2++[.int .i64 (qcj c)]) w'):qgI zz k n b (step a c) w (.returned (.tuple #[])) w':=by
 have e:step a c=(a.1,a.2++[qcj c]):=qia h;rw [e];refine ⟨rfl,d.owned g rfl ?_,(g.aside d.own d.base_le).swap⟩;simpa [qaa] using i
def qvj (zz m h b:Nat) (a:List (List Int) × List Int) (c:Int) (w:World) (l:qcW zz m h b a w) (M:a.2.length<=1073741824) (i:qbq c=true):
    yG 222 #[.int .i64 c,.pointer (some ⟨b,0,none⟩),.pointer (some ⟨h,0,none⟩)] w (qgI zz m h b (step a c) w):=by
  have ⟨F,G,A,B,x⟩:=lG qc4;have Q:=l.base_le;have ⟨v,d,k⟩:=l.own;have r:=kG d;have L:=nG d;have j:=fun w=>qtw c w
  have g:=fun w=>qkr c w
  have tk:=fun (w':World)=>qvi (w':=w') l i
  generalize qcj c=y at j tk;rw [i] at g;rw [qhi] at k;have O:(w.alloc (.cells #[.int .i64 y] 3)).cell? ⟨b,0,none⟩=some v:=(((bA _ w).alloc (aA _) _).cell (p:=⟨b,0,none⟩) (mG d)).trans r;have n:=qH j;have D:=qH g;have q:=qH tk;clear j g tk i
  go_enter func222,ntmps222
  go_wp2_with (go_at_call 223;refine (D.o _).mono ?_;rintro e w' ⟨rfl,rfl⟩)
  go_region_law (first
      | (refine step_append_lies _ (by rfl) _ _ _ (by rfl) zz 3 F _ 1 8 underlying23 G A B x rfl (by omega) v a.2.length (qaa a.2) (by rfl) ((k.alloc _).drew)
          ⟨w.heap.size,0,none⟩ 1 1 [.int .i64 y] (by rfl) (by rfl) (World.news_of_block (cs:=#[.int .i64 y]) (t:=3) (fr:=(0,0)) (jA w _)) (by simp [Value.oneCell'])
          (by omega) (by unfold maxLen;omega) (by omega) (by simp;omega) (w.heap.size+1) (by simp) ?_
         intro N J g z s H P;have ⟨I,K,E,C⟩:=pushed (by decide) d (qhi _) k (((bA _ w).alloc (aA _) _).drew) s z rfl)
      |(go_simp;go_at_call 224;refine (n.o _).mono ?_;rintro e w' ⟨rfl,rfl⟩))
  all_goals
    go_wp2
    go_end0
    exact q.o _ C E
def qvk (zz g a d:Nat) (h:List (List Int)) (c:Int) (w:World) (i:qcW zz g a d (h,[]) w) (m:qbq c=false):
  yG 222 #[.int .i64 c,.pointer (some ⟨d,0,none⟩),.pointer (some ⟨a,0,none⟩)] w (qgI zz g a d (h,[]) w):=by
 have ⟨v,n,l⟩:=i.own;have p:=kG n;have b:=fun w=>qkr c w
 rw [m] at b;have j:=qH b;clear b;obtain ⟨A,k,rfl,_,_⟩:=qaK l
 go_enter func222,ntmps222
 go_wp2_with (go_at_call 223;refine (j.o _).mono ?_;rintro e w' ⟨rfl,rfl⟩)
 go_end0
 exact ⟨rfl,i,qbF.refl _ _ _ _⟩
def qvl {own:List Int} {w3:World} (d:qcW zz k n b (Q,own) w) (c:wG w w')
  (e:qbJ 40 9 zz k (qad (Q.map text)++[.string ⟨(text own).toArray⟩]) w3) (a:qcl k w' w3):
  qcW zz k n b (Q++[own],own) w3/\qbF zz k b w w3:=by
 have h2:=d.keep c;refine ⟨h2.told a rfl (by simpa [qad] using e),(qbF.of (c.mono d.base_le)).trans (a.aside h2.outs h2.base_le)⟩
def qvm (zz l b a:Nat) (m:List (List Int)) (own:List Int) (c:Int) (w:World) (i:qcW zz l b a (m,own) w) (X:own.length<=1073741824) (Y:m.length<=1073741824) (U:qbq c=false) (ac:own≠[]):
    yG 222 #[.int .i64 c,.pointer (some ⟨a,0,none⟩),.pointer (some ⟨b,0,none⟩)] w (qgI zz l b a (m++[own],[]) w):=by
  have W:0<own.length:=List.length_pos_iff.2 ac;have ⟨v,x,B⟩:=i.own;rw [qhi] at B;obtain ⟨g,s,rfl,_,_⟩:=B.form W;have ⟨A,k,N,_,D⟩:=qaK B;have H:A=some ⟨g,0,none⟩:=by injection N with h1 h2 h3;exact h1.symm
  rw [H] at D;have V:=kG x;have Z:=kG i.tell;have M:=mG x;have K:=mG i.tell;have C:=fun w=>qkr c w
  rw [U] at C;have aa:=qH C;have P:=qH D;have r:=qH i;clear C N H D i
  go_enter func222,ntmps222
  go_wp2_with (go_at_call 223;refine (aa.o _).mono ?_;rintro e w' ⟨rfl,rfl⟩)
  go_region_held3 (fun w'=>w'.cell? ⟨b,0,none⟩=some (.func (.func 190) #[] #[.pointer (some ⟨l,0,none⟩)])/\w'.cell? ⟨a,0,none⟩=some (.slice (some ⟨g,0,none⟩) own.length s))
    (first|go_keep|exact ⟨O,S⟩|exact ⟨R,ad⟩)
    (first
      | (go_at_call 225; refine (quY _ _ own w.drew (P.o.below (bA _ w).drew) X).mono ?_; rintro e ae ⟨rfl, J⟩
         have j:wG w ae:=(bA _ w).drew.trans J;have q:=qH j;have O:=(j.cell (p:=⟨b,0,none⟩) K).trans Z;have S:=(j.cell (p:=⟨a,0,none⟩) M).trans V;have F:=(r.o.keep j).outs;clear j J)
      | (go_at_call 190; refine (qvh zz l (qad (m.map text)) _ _ F (by rw [qfJ, gB]; exact Y) (r.o.keep q.o).base_le).mono ?_; rintro e w3 ⟨rfl, ab, t⟩
         have R:=kG (qcl.block F t ((q.o.block b K).trans r.o.tell) (by decide) (by decide));have n:=qcl.block F t ((q.o.block a M).trans x) (by decide) (by decide);have ad:=kG n;have af:=nG n))
  have ⟨h,I⟩:=qvl r.o q.o ab t;have d:w3.ownsRow zz 3 1 (.slice (some ⟨g,0,none⟩) own.length s) own.length (qaa own):=by
    have ⟨ag,y,d⟩:=h.own;rw [n] at y;simp at y;rw [<- y,qhi] at d;exact d
  have ⟨G,z⟩:=qtg (T:=23) (E:=3) (by decide) n d;have L:qgI zz l b a (m++[own],[]) w (.returned (.tuple #[])) (w3.setCell ⟨a,0,none⟩ (.slice (some ⟨g,0,none⟩) 0 s)):=
    ⟨rfl,h.owned z rfl G,I.trans (z.aside h.own h.base_le).swap⟩
  have Q:=qH L;clear h I d G z L;go_wp2
  go_end0
  exact Q.o
def qnG (zz e b d:Nat) (a:List (List Int) × List Int) (c:Int) (w:World) (i:qcW zz e b d a w) (l:a.2.length<=1073741824) (m:a.1.length<=1073741824):
  yG 222 #[.int .i64 c,.pointer (some ⟨d,0,none⟩),.pointer (some ⟨b,0,none⟩)] w (qgI zz e b d (step a c) w):=by
 by_cases j:qbq c=true
 ·exact qvj zz e b d a c w i l j
 ·have g:qbq c=false:=by simpa using j
  obtain ⟨k,own⟩:=a;by_cases h:own=[]
  ·subst h
   rw [qhj g];exact qvk zz e b d k c w i g
  ·rw [qhk g h]
   exact qvm zz e b d k own c w i l m g h
def qvn (l:List Int) (r i:Value):Prop:=r= .bool false/\∃ (k:Nat),k<=l.length/\i= .int .i64 (k:Int)/\qal (ahead l k) (l.drop k)=qal (-1) l/\ -1<=ahead l k
def qvo (A:Option Addr) (m c:Nat) (l:List Int) (w:World) (B:Row w w.heap.size A (qaa l)) (M:l.length=m) (T:m<=9223372036854775807):
  yG 88 #[.slice A m c] w fun e w'=>e= .returned (.bool (qal (-1) l))/\wG w w':=by
 have D:=qH B;clear B;subst M;have ⟨W,s⟩:=qE (qal (-1) l);rw [<- s];have C:=qH s;clear s
 go_enter func88,ntmps88
 go_wp2
 go_loopw [2,3] (fun r i wr=>qvn l r i/\wG w wr) (fun _ i _=>l.length-(intOf i).toNat)
 case atStart=>exact ⟨⟨rfl,0,by omega,rfl,rfl,by simp [ahead]⟩,bA _ _⟩
 case round=>
  obtain ⟨⟨rfl,k,U,rfl,a,R⟩,b⟩:=hrel;by_cases I:k<l.length
  ·have ⟨L,P,N,_,F⟩:=qht (D.o.below b) I
   subst N;have d:0<k->wr.cell? ⟨L,P+(k-1),none⟩=some (.int .i64 (ahead l k)):=fun h=>by
    have ⟨S,X,q,_,K⟩:=qht (D.o.below b) (k:=k-1) (by omega);injection q with q
    injection q with e3 e4
    subst e3 e4;rw [K];simp [ahead];omega
   have g:k=0->ahead l k= -1:=fun h=>by simp [ahead,h]
   rw [qki I] at a;have t:=quZ (l:=l) (k:=k);have ⟨y,E⟩:=qE (l.getD k 0);rw [<- E] at F a t;have ⟨x,G⟩:=qE (ahead l k);rw [<- G] at a R d g;have p:=qH t;clear E t G;by_cases V:y<=x
   ·rw [uA (by omega),oE,<- C.o] at a
    subst a;by_cases v:y<0
    ·go_wp2
     go_quiet (fail)
     go_wp2;go_ret;exact ⟨rfl,b.trans ⟨rfl,rfl,rfl,aA _,fun _ _=>rfl⟩⟩
    ·have J:decide (y<0)=false:=uA v
     have hk0:0<k:=by
      rcases sF k with h|h
      ·have :=g h;omega
      ·exact h
     have z:=d hk0;have ⟨j,n⟩:=qE (k-1);have Q:IntKind.i64.wrap ((k:Int)-1)=(j:Int):=by rw [iG _ (by omega)];omega
     have O:j<l.length:=by omega
     rw [<- n] at z;clear d g n;go_wp2
     go_quiet (fail)
     go_wp2;go_ret;exact ⟨rfl,b.trans ⟨rfl,rfl,rfl,aA _,fun _ _=>rfl⟩⟩
   ·rw [yA (by omega),sD] at a
    have H:=qH a;clear a;have v:¬ y<0:=by omega
    have J:decide (y<0)=false:=uA v;rcases sF k with hk0|hk0
    ·clear d g
     subst hk0;rw [Nat.add_zero] at F;go_wp2
     go_quiet (fail)
     go_wp2;go_roundw
     case rel=>exact ⟨⟨rfl,0+1,by omega,by go_num,by rw [p.o];exact H.o,by rw [p.o];omega⟩,b.trans ⟨rfl,rfl,rfl,aA _,fun _ _=>rfl⟩⟩
     case measure=>simp [intOf];omega
    ·have z:=d hk0
     have ⟨j,n⟩:=qE (k-1);have Q:IntKind.i64.wrap ((k:Int)-1)=(j:Int):=by rw [iG _ (by omega)];omega
     have O:j<l.length:=by omega
     rw [<- n] at z;clear d g n;go_wp2
     go_quiet (fail)
     go_wp2;go_roundw
     case rel=>exact ⟨⟨rfl,k+1,by omega,by go_num,by rw [p.o];exact H.o,by rw [p.o];omega⟩,b.trans ⟨rfl,rfl,rfl,aA _,fun _ _=>rfl⟩⟩
     case measure=>simp [intOf];omega
  ·rw [qnE (by omega),<- C.o] at a
   subst a;go_wp2;go_ret;exact ⟨rfl,b⟩
def hds:List Hd->List Value
 |[]=>[]
 |x::H=> .int .i64 x.1:: .int .i64 (x.2.1:Int):: .int .i64 (x.2.2:Int)::hds H
def qip:∀ H:List Hd,(hds H).length=H.length*3
 |[]=>rfl
 |x::H=>by simp [hds,qip H];omega
def qiq:∀ a b:List Hd,hds (a++b)=hds a++hds b
 |[],b=>rfl
 |x::a,b=>by simp [hds,qiq a b]
def qvp:∀ (H:List Hd) (k:Nat),hds (H.take k)=(hds H).take (k*3)
 |H,0=>by simp [hds]
 |[],k+1=>by simp [hds]
 |x::H,k+1=>by rw [show (k+1)*3=k*3+1+1+1 by omega];simp [hds,qvp H k]
def qnH:∀ {H:List Hd} {k:Nat} (a:k<H.length),(hds H)[k*3]?=some (.int .i64 H[k].1)/\(hds H)[k*3+1]?=some (.int .i64 (H[k].2.1:Int))/\(hds H)[k*3+2]?=some (.int .i64 (H[k].2.2:Int))
 |[],k,a=>by simp at a
 |x::H,0,a=>⟨rfl,rfl,rfl⟩
 |x::H,k+1,a=>by
  have :=qnH (H:=H) (k:=k) (by simpa using a);rw [show (k+1)*3=k*3+1+1+1 by omega];simpa [hds] using this
def qnI:∀ (H:List Hd) (k:Nat) (x:Hd),hds (H.set k x)=(((hds H).set (k*3) (.int .i64 x.1)).set (k*3+1) (.int .i64 (x.2.1:Int))).set (k*3+2) (.int .i64 (x.2.2:Int))
 |[],k,x=>by simp [hds]
 |y::H,0,x=>by simp [hds]
 |y::H,k+1,x=>by
  rw [zF,hds,hds,qnI H k x,show (k+1)*3=k*3+1+1+1 by omega];simp
def qeH (t:TypeId):Prop:=t=170\/t=165
structure qaQ (zz:Nat) (w w':World):Prop where
 below:Below zz w w'
 keep:∀ (k:Nat) (o:Obj),w.heap[k]?=some o->(∀ cs t fr,o= .cells cs t fr->¬ qeH t)->w'.heap[k]?=some o
section
variable {zz:Nat} {w w' w'':World}
def qaQ.refl (zz:Nat) (w:World):qaQ zz w w:=⟨bA _ _,fun _ _ a _=>a⟩
def qaQ.trans (b:qaQ zz w w') (k:qaQ zz w' w''):qaQ zz w w'':=⟨b.below.trans k.below,fun i o c a=>k.keep i o (b.keep i o c a) a⟩
def qaQ.of_below (a:wG w w') (c:zz<=w.heap.size):qaQ zz w w':=
 ⟨a.mono c,fun k o b _=>by rw [a.block k (gA.1 b).1,b]⟩
def qaQ.setCell {cs:Array Value} (g:w.heap[B]?=some (.cells cs t fr)) (b:qeH t) (c:zz<=B) (v:Value):qaQ zz w (w.setCell ⟨B,i,none⟩ v):=
  ⟨(bA zz w).setCell (p := ⟨B, i, none⟩) c v, fun k o a d => by
    by_cases e:k=B
    · subst e
      rw [g] at a;injection a with a
      exact absurd b (d _ _ _ a.symm)
    · rw [rA _ _ _ _ e,a]⟩
def qaQ.grown {row:Option Nat} (b:w.grownBy w' row) (c:∀ k,row=some k->zz<=k/\∃ cs t fr,w.heap[k]?=some (.cells cs t fr)/\qeH t) (d:zz<=w.heap.size):qaQ zz w w':=
  ⟨(bA zz w).grown b d (fun k e => (c k e).1), fun k o a g => by
    rw [b.block k (gA.1 a).1 ?_,a];intro e;have ⟨_,cs,t,fr,h1,h2⟩:=c k e.symm;rw [h1] at a;injection a with a
    exact g _ _ _ a.symm h2⟩
def qfO {e:TypeId} {size:Nat} (d:w.ownsRow b e size v n xs) {g:Nat} (a:v.ownBlock=some g):∃ cs,w.heap[g]?=some (.cells cs e (0,0)):=by
 rcases d.2 with ⟨rfl,_⟩|⟨j,i,h,rfl,_,c,r⟩
 ·cases a
 ·simp only [Value.ownBlock,jB] at a
  subst a;exact ⟨_,c⟩
def qaQ.grownOwn {e:TypeId} {size:Nat} (a:w.ownsRow zz e size v n xs) (h:qeH e) (c:w.grownBy w' v.ownBlock) (d:zz<=w.heap.size):qaQ zz w w':=
 qaQ.grown c (fun k b=>⟨(a.lt k b).1,by have ⟨cs,g⟩:=qfO a b;exact ⟨cs,e,_,g,h⟩⟩) d
def qaQ.owned (k:qaQ zz w w') {b:Nat} {e:TypeId} {size n:Nat} {v:Value} {xs:List Value} (a:w.ownsRow b e size v n xs) (p:¬ qeH e):w'.ownsRow b e size v n xs:=by
 refine ⟨a.1,?_⟩;rcases a.2 with d|⟨g,j,h,l,c,i,r⟩
 ·exact .inl d
 ·exact .inr ⟨g,j,h,l,c,k.keep g _ i (fun cs t fr m=>by cases m;exact p),r⟩
def qvq {e:TypeId} {size g:Nat} (c:w.ownsRow b e size (.slice (some ⟨g,0,none⟩) n k) n xs) (h:m<=n):w.ownsRow b e size (.slice (some ⟨g,0,none⟩) m k) m (xs.take (m*size)):=by
 have p:m*size<=n*size:=dE _ h;refine ⟨by rw [sA,c.1];omega,?_⟩;rcases c.2 with ⟨a,_⟩|⟨r,q,i,a,d,j,h1,h2,h3,l⟩
 ·cases a
 ·cases a
  refine .inr ⟨g,k,i,rfl,d,j,by omega,h2,h3,?_⟩;rw [<- l,List.take_take,eD p]
end
def HAt (zz:Nat) (w:World) (B:Nat) (H:List Hd):Prop:=
 zz<=B/\∃ v,w.heap[B]?=some (.cells #[v] 165 (0,0))/\w.ownsRow zz 170 3 v H.length (hds H)
section
variable {zz B:Nat} {w w':World} {H:List Hd}
def HAt.below (b:HAt zz w B H) (a:wG w w'):HAt zz w' B H:=by
 obtain ⟨h1,v,h2,h3⟩:=b;exact ⟨h1,v,by rw [a.block B (gA.1 h2).1,h2],qaf h3 a⟩
def HAt.lt (a:HAt zz w B H):B<w.heap.size:=by
 obtain ⟨_,v,h2,_⟩:=a;exact (gA.1 h2).1
def HAt.read (a:HAt zz w B H):∃ A c,w.cell? ⟨B,0,none⟩=some (.slice A H.length c)/\H.length<=c/\c<=maxLen/\Row w w.heap.size A (hds H):=by
 obtain ⟨_,v,h2,h3⟩:=a;obtain ⟨A,c,rfl,d,e,b⟩:=qaU h3;exact ⟨A,c,kG h2,d,e,b⟩
def HAt.at_ (h:HAt zz w B H) {k:Nat} (m:k<H.length):∃ g c,w.heap[B]?=some (.cells #[.slice (some ⟨g,0,none⟩) H.length c] 165 (0,0))/\w.ownsRow zz 170 3 (.slice (some ⟨g,0,none⟩) H.length c) H.length (hds H)/\H.length<=c/\c<=maxLen/\g≠B/\
  w.cell? ⟨g,k*3,none⟩=some (.int .i64 H[k].1)/\w.cell? ⟨g,k*3+1,none⟩=some (.int .i64 (H[k].2.1:Int))/\w.cell? ⟨g,k*3+2,none⟩=some (.int .i64 (H[k].2.2:Int)):=by
 obtain ⟨_,v,h2,h3⟩:=h;rcases h3.2 with ⟨rfl,e⟩|⟨g,d,q,rfl,p,a,j,n,_⟩
 ·have :=h3.1
  rw [e,qip] at*;simp at this;omega
 ·have ⟨i,b,l⟩:=qnH m
  have r:k*3+2<H.length*3:=by omega
  refine ⟨g,d,h2,h3,j,n,fun e=> ?_,?_,?_,?_⟩
  ·subst e
   rw [h2] at a;injection a with a
   injection a with _ a
   exact absurd a (by decide)
  ·rw [h3.cellAt _ (by omega)];exact i
  ·rw [h3.cellAt _ (by omega)];exact b
  ·rw [h3.cellAt _ (by omega)];exact l
end
def qvr (zz:Nat) (all:List UInt8) (n:Nat) (w:World) (v i:Value) (wr:World):Prop:=
 ∃ (a:List UInt8) (x:Nat),i= .int .i64 (x:Int)/\x<=n/\a.length<=all.length/\a++qam x=all/\Buf zz wr v a/\Below zz w wr
def qnJ (v:Value) (bs:List UInt8) (n:Nat) (zz:Nat) (w:World) (m:Buf zz w v bs) (N:zz<=w.heap.size) (H:n<9223372036854775808) (J:bs.length<=1000000000000):
  yG 204 #[v,.int .i64 (n:Int)] w (qgi zz (bs++qam n) w):=by
 have ⟨C,D,t,z,r⟩:=lG qik;have K:=qfG H;have ⟨all,e⟩:=qE (bs++qam n);have L:all.length<=1000000000009:=by rw [e,iA];omega
 rw [<- e];have B:=qH e;have G:=qH m;clear e m
 go_enter func204,ntmps204
 go_wp2
 go_loopw [0,1] (fun v i wr=>qvr zz all n w v i wr) (fun _ i _=>(intOf i).toNat)
 case atStart=>exact ⟨bs,n,rfl,aA _,by rw [B.o];simp,B.o.symm,G.o,bA _ _⟩
 case round=>
  obtain ⟨d,x,rfl,M,I,q,s,l⟩:=hrel;have O:=l.size;have y:=qH s;have p:=qH q;clear s q;by_cases F:128<=x
  ·have ⟨c,a⟩:=qE (UInt8.ofNat (128+x%128))
   have k:qI (c.toNat=128+x%128):=qH (by rw [a,qeT (by omega)]);have b:(d++[c])++qam (x/128)=all:=by
    rw [<- p.o,qeS F,iB,a];rfl
   have A:(d++[c]).length<=all.length:=by rw [<- b,iA (bs:=qam (x/128))];omega
   clear a;have g:=qH b;have E:=qH A;clear b A
   go_wp2_with (at_builtin;refine qil _ rfl (.tmp 9) (.tmp 14) 178 rfl zz C _ underlying178 D t z r rfl _ d rfl (y.o.alloc (by omega) _) (by simp;omega) ⟨wr.heap.size,0,none⟩ 1 _ rfl (qaH wr [.int .u8 _] 5) c (by rw [k.o];omega) (by omega) ?_)
   intro v' w3 j h;go_wp2;go_roundw
   case rel=>exact ⟨_,x/128,by go_num,by omega,E.o,g.o,j.buf,(l.alloc (by omega) _).trans h⟩
   case measure=>simp [intOf];omega
  ·have ⟨c,a⟩:=qE (UInt8.ofNat x)
   have k:qI (c.toNat=x):=qH (by rw [a,qeT (by omega)]);have b:d++[c]=all:=by rw [<- p.o,qeB (by omega),a]
   clear a;have g:=qH b;clear b
   go_wp2_with (at_builtin;refine qil _ rfl (.tmp 16) (.tmp 19) 178 rfl zz C _ underlying178 D t z r rfl _ d rfl (y.o.alloc (by omega) _) (by simp;omega) ⟨wr.heap.size,0,none⟩ 1 _ rfl (qaH wr [.int .u8 _] 5) c (by rw [k.o]) (by omega) ?_)
   intro v' w3 j h;go_wp2;go_ret;exact ⟨_,rfl,by rw [<- g.o];exact j,(l.alloc (by omega) _).trans h⟩
def qvs (A:Option Addr) (m c:Nat) (bs:List UInt8) (n:Nat) (w:World) (b:bs.length=m) (k:m<=c) (a:Row w w.heap.size A (Lib.byteCells bs)) (d:n<9223372036854775808) (j:bs.length<=1073741824):
  yG 164 #[.slice A m c,.int .i64 (n:Int)] w (qgi w.heap.size (bs++qam n) w):=by
 have i:=qH a;clear a;subst b
 go_enter func164,ntmps164
 go_wp2_with (go_at_call 204;refine (qva _ bs n w.heap.size _ (.inl ⟨A,?_,i.o⟩) (aA _) d j).mono ?_)
 ·rfl
 rintro e l ⟨v,rfl,g,h⟩;go_wp2;go_ret;exact ⟨_,rfl,g,h⟩
def qvt (l:List Int) (r last i:Value):Prop:=r= .bool false/\∃ (k:Nat) (x:Int),k<=l.length/\i= .int .i64 (k:Int)/\last= .int .i64 x/\qal x (l.drop k)=qal (-1) l
def qvu (A:Option Addr) (m c:Nat) (l:List Int) (w:World) (d:Row w w.heap.size A (qaa l)) (n:l.length=m) (C:m<=9223372036854775807):
  yG 203 #[.slice A m c] w fun e w'=>e= .returned (.bool (qal (-1) l))/\w=w':=by
 have q:=qH d;clear d;subst n;have ⟨B,b⟩:=qE (qal (-1) l);rw [<- b];have g:=qH b;clear b
 go_enter func203,ntmps203
 go_wp2
 go_loop [2,3,8] (fun r last i=>qvt l r last i) (fun _ _ i=>l.length-(intOf i).toNat)
 case atStart=>exact ⟨rfl,0, -1,by omega,rfl,rfl,rfl⟩
 case round=>
  obtain ⟨rfl,k,x,D,rfl,rfl,a⟩:=hrel;by_cases j:k<l.length
  ·have ⟨z,v,s,_,t⟩:=qht q.o j
   subst s;rw [qki j] at a;have ⟨y,h⟩:=qE (l.getD k 0);rw [<- h] at t a;clear h;by_cases E:y<=x
   ·rw [uA (by omega),oE,<- g.o] at a
    subst a;go_wp2;go_ret;exact ⟨rfl,rfl⟩
   ·rw [yA (by omega),sD] at a
    have p:=qH a;clear a;go_wp2
    go_round
    case rel=>exact ⟨rfl,k+1,y,by omega,by go_num,rfl,p.o⟩
    case measure=>simp [intOf];omega
  ·rw [qnE (by omega),<- g.o] at a
   subst a;go_wp2;go_ret;exact ⟨rfl,rfl⟩
def qvv (l:List UInt8) (a c n b i:Value):Prop:=
 a= .int .i64 0/\c= .int .i64 0/\∃ k:Nat,k<=9/\k<=l.length/\i= .int .i64 (k:Int)/\n= .int .i64 (qbp (l.take k):Int)/\qdS l k/\∃ z:Int,b= .int .i64 z/\(k<9->z=((128^k:Nat):Int))
def qvw (p:Nat × Nat) (w:World) (e:Ending) (w':World):Prop:=e= .returned (.tuple #[.int .i64 (p.1:Int),.int .i64 (p.2:Int)])/\w=w'
def qks (A:Option Addr) (m c:Nat) (l:List UInt8) (w:World) (U:l.length=m) (G:Row w w.heap.size A (Lib.byteCells l)) (al:m<=400000000000):
  yG 248 #[.slice A m c] w (qvw (qaC l) w):=by
 have S:=qH G;clear G;subst U;have ⟨r,F⟩:=qE (qaC l);rw [<- F];have t:=qH F;clear F;obtain ⟨a,Y⟩:∃ a:Nat,(if (9:Int)<(l.length:Int) then (9:Int) else (l.length:Int))=(a:Int):=by
  by_cases b:(9:Int)<(l.length:Int)
  ·exact ⟨9,by rw [eA b];rfl⟩
  ·exact ⟨l.length,by rw [dA b]⟩
 have ar:a<=9/\a<=l.length/\(a=9\/a=l.length):=by split at Y<;>omega
 go_enter func248,ntmps248
 go_wp2
 go_loop [2,3,4,5,11] (fun Q ad n ab i=>qvv l Q ad n ab i) (fun _ _ _ _ i=>a-(intOf i).toNat)
 case atStart=>exact ⟨rfl,rfl,0,by omega,by omega,rfl,by simp [qbp],qdS.zero l,1,rfl,fun _=>by simp⟩
 case round=>
  obtain ⟨rfl,rfl,k,an,ah,rfl,rfl,E,z,rfl,L⟩:=hrel;by_cases ap:k<a
  ·have ⟨ai,am,V,_,W⟩:=quU S.o (k:=k) (by omega)
   subst V;have ⟨q,p,v,D,H,O,y,ao,ag,ak⟩:=qu4 (l:=l) (k:=k) (by omega) (by omega);have K:=L (by omega);rw [D] at K;subst K;rw [H];have ⟨c,e⟩:=qE ((l.getD k 0).toNat);have af:c<256:=by rw [e];exact UInt8.toNat_lt _
   have g:=qH e;have x:=qH E;have M:=qH D;have j:=qH O;rw [<- e] at W y;clear e E L D H O;by_cases h:c=0/\0<k
   ·obtain ⟨h,ae⟩:=h
    have d:r=(0,0):=by rw [t.o];exact qsT x.o (by omega) (by omega) ae (by rw [<- g.o];exact h)
    have s:=qH d;subst h;clear d;go_wp2;go_ret2;rw [s.o];exact ⟨rfl,rfl⟩
   ·have B:qI (c<128->r=(v+p,k+1)):=qH fun b=>by rw [t.o,qmB x.o (by omega) (by omega) (by rw [<- g.o];exact b) (by rw [<- g.o];omega),j.o]
    have C:qI (128<=c->qdS l (k+1)):=qH fun b=>x.o.succ (by rw [<- g.o];exact b)
    by_cases ac:c<128
    ·have I:=qH (B.o ac)
     clear B C;by_cases Z:c=0
     ·have P:((c:Int)==0)=true:=by rw [pD];omega
      have aq:decide ((0:Int)<(k:Int))=false:=uA (by omega);have aa:qI (p=0):=qH (by rw [Z] at y;simp at y;omega);go_wp2;go_ret2;rw [I.o,aa.o];exact ⟨by simp,rfl⟩
     ·have P:((c:Int)==0)=false:=by rw [nD];omega
      go_wp2;go_ret2;rw [I.o];exact ⟨by simp,rfl⟩
    ·have J:=qH (C.o (by omega))
     clear B C;have P:((c:Int)==0)=false:=by rw [nD];omega
     by_cases X:k<8
     ·have ⟨N,aj⟩:=qu5 M.o X
      have R:=qH N;clear N;go_wp2
      go_round
      case rel=>exact ⟨rfl,rfl,k+1,by omega,by omega,by go_num,by rw [j.o];go_num,J.o,_,rfl,fun _=>by rw [R.o];simp⟩
      case measure=>simp [intOf]<;>omega
     ·have T:q=72057594037927936:=by
       have :=M.o;rw [show k=8 by omega] at this;rw [<- this]
      subst T;go_wp2
      go_round
      case rel=>exact ⟨rfl,rfl,k+1,by omega,by omega,by go_num,by rw [j.o];go_num,J.o,_,rfl,fun b=>by omega⟩
      case measure=>simp [intOf]<;>omega
  ·have d:r=(0,0):=by rw [t.o];exact qsS E (by omega)
   have s:=qH d;clear d;go_wp2;go_ret2;rw [s.o];exact ⟨rfl,rfl⟩
abbrev qbg:Value:= .slice none 0 0
def upL {α:Type} (L:List α) (k:Nat) (d:α):List α:=L.take k++List.replicate (L.length-k) d
def qir {α:Type} {L:List α} {d:α} (a:k<=L.length):(upL L k d).length=L.length:=by simp [upL];omega
def qkt {α:Type} (L:List α) (d:α):upL L 0 d=List.replicate L.length d:=by simp [upL]
def qnK {α:Type} (L:List α) (d:α):upL L L.length d=L:=by simp [upL]
def qhw {α:Type} {a:List α} {d x:α} (b:0<n):(a++List.replicate n d).set a.length x=a++x::List.replicate (n-1) d:=by
 obtain ⟨m,rfl⟩:∃ m,n=m+1:=⟨n-1,by omega⟩;rw [List.set_append_right _ _ (aA _),bE,List.replicate_succ,zE,Nat.add_sub_cancel]
def qku {α:Type} {L:List α} {d:α} (b:k<L.length):(upL L k d).set k L[k]=upL L (k+1) d:=by
 have h1:(L.take k).length=k:=by rw [sA];omega
 have :=qhw (a:=L.take k) (n:=L.length-k) (d:=d) (x:=L[k]) (by omega);rw [h1] at this;unfold upL;rw [this,aB b,iB,show L.length-k-1=L.length-(k+1) by omega];rfl
theorem qis:(prog.info? 23).map (fun i=>(i.zero,i.size,i.bytes))=some (some (.slice none 0 0),1,24):=by kernel_rfl
def qbi (L:List (List Int)) (w:World) (D m lo k:Nat) (wr:World):Prop:=∃ cs0:List Value,cs0.length=k/\k<=m/\L.length=m/\qcf (Value.int .i64) 23 w.heap.size D m lo wr.heap.size wr (upL L k []) (cs0++List.replicate (m-k) qbg)/\wG w wr
structure qdD (L:List (List Int)) (w:World) (D m lo k Bk j:Nat) (s:List Int) (v:Value) (cs0:List Value) (wx:World):Prop where
 own:wx.ownsRow w.heap.size 23 1 (.slice (some ⟨D,0,none⟩) m m) m (cs0++v::List.replicate (m-k-1) qbg)
 rows:qcw (Value.int .i64) wx lo Bk (upL L k []) (cs0++List.replicate (m-k) qbg)
 mine:wx.ownsRow Bk 3 1 v j (qaa (s.take j))
 le:j<=s.length
 low:D<lo/\lo<=Bk
 top:Bk<=wx.heap.size
 below:wG w wx
def qbi.begin {L:List (List Int)} (d:wr.heap.size<lo/\lo<=w'.heap.size) (a:L.length=m) (b:wG w wr) (e:w'.ownsRow w.heap.size 23 1 (.slice (some ⟨wr.heap.size,0,none⟩) m m) m (List.replicate m qbg)) (c:wr.grownBy w' none):qbi L w wr.heap.size m lo 0 w':=by
 refine ⟨[],rfl,kA _,a,⟨by simpa using e,d.1,by rw [qir (kA _),a],?_,aA _⟩,b.grown c b.size (fun k g=>by cases g)⟩;rw [qkt,a];exact qkq _ _ _ _
def qbi.mid {L:List (List Int)} (c:qbi L w D m lo k wr) (e:k<m) (b:lo<=wr.heap.size):∃ cs0,cs0.length=k/\qdD L w D m lo k wr.heap.size 0 s qbg cs0 wr:=by
 obtain ⟨cs0,h1,h2,h3,a,d⟩:=c;refine ⟨cs0,h1,⟨?_,a.rows,vA _ _ _ _,kA _,⟨a.lt,b⟩,aA _,d⟩⟩;have :=a.own;rwa [show m-k=(m-k-1)+1 by omega,List.replicate_succ] at this
section
variable {L:List (List Int)} {w wx wy w6:World} {D m lo k Bk j:Nat} {s:List Int} {v v6:Value} {cs0:List Value}
def qdD.later (a:qdD L w D m lo k Bk j s v cs0 wx) (b:wG wx wy):qdD L w D m lo k Bk j s v cs0 wy:=
 ⟨qaf a.own b,a.rows.below (b.mono a.top),qaf a.mine b,a.le,a.low,lA a.top b.size,a.below.trans (b.mono a.below.size)⟩
def qdD.cell (a:qdD L w D m lo k Bk j s v cs0 wx) (b:cs0.length=k) (c:k<m):wx.cell? ⟨D,k,none⟩=some v/\wx.frozen? ⟨D,k,none⟩=false:=by
 refine ⟨?_,a.own.frozenAt k⟩;rw [a.own.cellAt k (by omega),oC (by omega),b,bE];rfl
def qdD.grow (a:qdD L w D m lo k Bk j s v cs0 wy) (i:cs0.length=k) (B:k<m) (r:j<s.length) (n:w6.ownsRow Bk 3 1 v6 (j+1) (qaa (s.take j)++[.int .i64 s[j]])) (d:wy.grownBy w6 v.ownBlock):
  w6.cell? ⟨D,k,none⟩=some v/\w6.frozen? ⟨D,k,none⟩=false/\qdD L w D m lo k Bk (j+1) s v6 cs0 (w6.setCell ⟨D,k,none⟩ v6):=by
 have h:∀ g,v.ownBlock=some g->Bk<=g:=fun g c=>(a.mine.lt g c).1
 have t:=(a.own.lt D rfl).2;have y:D<Bk:=tB a.low.1 a.low.2;have h1:w6.ownsRow w.heap.size 23 1 (.slice (some ⟨D,0,none⟩) m m) m (cs0++v::List.replicate (m-k-1) qbg):=
  qaq a.own fun g c=>by
   simp only [Value.ownBlock,jB] at c;subst c;exact d.block _ t (fun e=>by have :=h _ e.symm;omega)
 have x:w6.cell? ⟨D,k,none⟩=some v:=by
  rw [h1.cellAt k (by omega),oC (by omega),i,bE];rfl
 refine ⟨x,h1.frozenAt k,?_⟩;have l:=(h1.stored k v6).1;rw [List.set_append_right _ _ (by omega),i,bE,zE] at l;refine ⟨l,?_,?_,by omega,a.low,?_,?_⟩
 ·refine qcw.ahead (a.rows.keep fun b A z=> ?_) (p:=⟨D,k,none⟩) a.low.1 v6
  exact d.block b (tB z a.top) (fun e=>by have :=h _ e.symm;omega)
 ·rw [show qaa (s.take (j+1))=qaa (s.take j)++[.int .i64 s[j]] by rw [aB r,qaa,qaa,jC];rfl]
  exact pG n (fun e=>by have :=(n.lt _ e).1;simp only at this;omega) _
 ·simpa [World.setCell] using lA a.top d.size
 ·have q:w.heap.size<=D:=(a.own.lt D rfl).1
  exact (a.below.grown d a.below.size fun g c=>lA q (lA (Nat.le_of_lt y) (h g c))).setCell (p:=⟨D,k,none⟩) q v6
def qdD.done (b:qdD L w D m lo k Bk j s v cs0 wx) (h:cs0.length=k) (q:k<m) (r:L.length=m) (t:j=s.length) (y:∀ q:k<L.length,L[k]=s):qbi L w D m lo (k+1) wx:=by
 have l:k<L.length:=by omega
 have p:=b.mine;rw [t,fC] at p;have ⟨A,c,e,h1,h2,h3⟩:=qkp (lo:=lo) p b.low.2;have g:=(b.rows.more b.top).set (i:=k) (x:=s) (A:=A) (c:=c) ⟨h1,h2⟩ h3;have z:(cs0++List.replicate (m-k) qbg).set k (.slice A s.length c)=(cs0++[v])++List.replicate (m-(k+1)) qbg:=by
  have :=qhw (a:=cs0) (n:=m-k) (d:=qbg) (x:=v) (by omega);rw [h] at this;rw [<- e,this,iB,show m-k-1=m-(k+1) by omega];rfl
 rw [z,show (upL L k []).set k s=upL L (k+1) [] by rw [<- y l];exact qku l] at g;refine ⟨cs0++[v],by simp [h],q,r,⟨?_,b.low.1,by rw [qir (by omega),r],g,aA _⟩,b.below⟩;have :=b.own;rwa [show cs0++v::List.replicate (m-k-1) qbg=(cs0++[v])++List.replicate (m-(k+1)) qbg by rw [iB,show m-k-1=m-(k+1) by omega];rfl] at this
end
def qbi.all {L:List (List Int)} (a:qbi L w D m lo m wr):Lol (Value.int .i64) wr wr.heap.size (some ⟨D,0,none⟩) L:=by
 obtain ⟨cs0,h1,h2,h3,b,c⟩:=a;have :=b.lol;rwa [<- h3,qnK] at this
def qgJ (l:List (List UInt8)) (w:World) (e:Ending) (w':World):Prop:=∃ v,e= .returned v/\w'.ownsRow w.heap.size 9 1 v l.length (qad l)/\wG w w'
def qeb (l:List Int) (k:Nat):List (List Int) × List Int:=(l.take k).foldl step ([],[])
def qnL {l:List Int} (a:k<l.length):qeb l (k+1)=step (qeb l k) l[k]:=by
 unfold qeb;rw [aB a,fF];rfl
def qvx (l:List Int):(step (qeb l l.length) 32).1=qeV l:=by
 unfold qeb qeV qcT;rw [fC,fF];rfl
def qvy (a:List (List Int) × List Int) (c:Int):(step a c).1.length+(step a c).2.length<=a.1.length+a.2.length+1:=by
 unfold step;split
 ·simp;omega
 ·split
  ·omega
  ·simp
def qnM (l:List Int):∀ k,k<=l.length->(qeb l k).1.length+(qeb l k).2.length<=k
 |0,_=>by simp [qeb]
 |k+1,a=>by
  have h1:=qnM l k (by omega);have h2:=qvy (qeb l k) l[k];rw [qnL (by omega)];omega
def qvz (l:List Int) (zz B:Nat) (a:World) (i:Value) (wr:World):Prop:=
 ∃ k:Nat,k<=l.length/\i= .int .i64 k/\qcW zz B (B+1) (B+2) (qeb l k) wr/\qbF zz B (B+2) a wr
def made (w:World):World:=
 ((w.alloc (.cells #[.slice none 0 0] 40)).alloc (.cells #[.func (.func 190) #[] #[.pointer (some ⟨w.heap.size,0,none⟩)]] 287)).alloc (.cells #[.slice none 0 0] 23)
def qnN (w:World):(made w).heap.size=w.heap.size+3:=by simp [made]
def qnO (w:World):wG w (made w):=(((bA _ w).alloc (aA _) _).alloc (by simp) _).alloc (by simp;omega) _
def qvA (w a:World) (b:Below (made w).heap.size (made w) a):qcW a.heap.size w.heap.size (w.heap.size+1) (w.heap.size+2) ([],[]) a:=by
 have c:=qnN w;have h1:(made w).heap[w.heap.size]?=some (.cells #[.slice none 0 0] 40 (0,0)):=by
  unfold made;rw [pB _ _ _ (by simp;omega),pB _ _ _ (by simp)];exact jA w _
 have h2:(made w).heap[w.heap.size+1]?=some (.cells #[.func (.func 190) #[] #[.pointer (some ⟨w.heap.size,0,none⟩)]] 287 (0,0)):=by
  unfold made;rw [pB _ _ _ (by simp)];have :=jA (w.alloc (.cells #[.slice none 0 0] 40)) (.cells #[.func (.func 190) #[] #[.pointer (some ⟨w.heap.size,0,none⟩)]] 287);simpa using this
 have h3:(made w).heap[w.heap.size+2]?=some (.cells #[.slice none 0 0] 23 (0,0)):=by
  unfold made;have :=jA ((w.alloc (.cells #[.slice none 0 0] 40)).alloc (.cells #[.func (.func 190) #[] #[.pointer (some ⟨w.heap.size,0,none⟩)]] 287)) (.cells #[.slice none 0 0] 23);simpa using this
 exact ⟨aA _,⟨_,(b.block _ (by omega)).trans h1,vA _ _ _ _⟩,(b.block _ (by omega)).trans h2,⟨_,(b.block _ (by omega)).trans h3,vA _ _ _ _⟩⟩
def qnP (s:ByteArray) (w:World) (Q:s.size<=1073741824):
  yG 155 #[.string s] w (qgJ (qaX s.data.toList) w):=by
 have z:=qh5 s.data.toList;have P:s.data.toList.length=s.size:=wC;rw [P] at z;have r:(step (qeb (qcH s.data.toList) (qcH s.data.toList).length) 32).1.map text=qaX s.data.toList:=by rw [qvx];rfl
 go_enter func155,ntmps155
 go_wp2_with (first
  |(go_at_call 189;go_in)
  |(go_at_call 191;refine (quS s _ Q).mono ?_))
 rintro e a ⟨v,rfl,b,h⟩;have y:=qnN w;have E:=qvA w a h;have C:wG w a:=(qnO w).trans (h.mono (qnO w).size);have b:a.ownsRow (w.heap.size+3) 3 1 v (qcH s.data.toList).length (qaa (qcH s.data.toList)):=by rw [<- y];exact b
 obtain ⟨A,c,rfl,_,_⟩:=qaK b;have ⟨l,n⟩:=qE (qcH s.data.toList);rw [<- n] at b z r;rw [<- n];have O:=qH E;have m:=qH C;have N:=qH b;have J:=qH r;clear n y E C h b r;go_wp2
 go_loopw [12] (fun i wr=>qvz l a.heap.size w.heap.size a i wr) (fun i _=>l.length-(intOf i).toNat)
 case atStart=>exact ⟨0,kA _,rfl,O.o,qbF.refl _ _ _ _⟩
 case round=>
  obtain ⟨k,M,rfl,q,d⟩:=hrel;have V:=qnM l k M;have I:=qH (qbx (qmS N.o (by omega) (by omega) (aA _) d));have t:=qH d;have D:=q.outs;by_cases G:k<l.length
  ·have ⟨T,U,K,_,L⟩:=qbR I.o G
   subst K;have B:=qH (qnL G);have ⟨x,F⟩:=qE (l[k]);rw [<- F] at L B;clear F d D
   go_wp2_with (go_at_call 222;refine (qnG a.heap.size w.heap.size (w.heap.size+1) (w.heap.size+2) (qeb l k) x _ q (by omega) (by omega)).mono ?_;rintro e S ⟨rfl,p,j⟩)
   go_roundw
   case rel=>exact ⟨k+1,by omega,by go_num,by rw [B.o];exact p,t.o.trans j⟩
   case measure=>simp [intOf];omega
  ·have H:k=l.length:=by omega
   clear D d
   go_wp2_with (go_at_call 222;refine (qnG a.heap.size w.heap.size (w.heap.size+1) (w.heap.size+2) (qeb l k) 32 _ q (by omega) (by omega)).mono ?_;rintro e S ⟨rfl,p,j⟩;have ⟨W,R,g⟩:=p.outs;have X:=kG R)
   go_ret;subst H;rw [J.o] at g;refine ⟨_,rfl,?_,m.o.trans ((t.o.trans j).below m.o.size (aA _) (by omega))⟩;rw [qfJ] at g;exact qbk g m.o.size
def qvB (zz:Nat) (all:List UInt8) (l:List Int) (w:World) (v last i:Value) (wr:World):Prop:=
 ∃ (a:List UInt8) (k:Nat) (x:Int),k<=l.length/\i= .int .i64 (k:Int)/\last= .int .i64 x/\ -1<=x/\qal x (l.drop k)=true/\a.length<=all.length/\a++dB x (l.drop k)=all/\Own zz wr v a/\Below zz w wr
def qvC (A:Option Addr) (m c:Nat) (bs:List UInt8) (C:Option Addr) (n d:Nat) (l:List Int) (w:World) (Q:bs.length=m) (af:m<=c) (D:Row w w.heap.size A (Lib.byteCells bs)) (ah:m<=400000000000)
  (ab:l.length=n) (ag:n<=2147483648) (z:Row w w.heap.size C (qaa l)) (t:∀ x∈l,x<=9223372036854775807) (j:qal (-1) l=true):
  yG 163 #[.slice A m c,.slice C n d] w fun e w'=>∃ v,e= .returned (.tuple #[v,.int .i64 0])/\Own w.heap.size w' v (bs++qbQ l)/\wG w w':=by
 subst Q ab;have Z:=qjI l (-1) (by omega) j t;have ai:=qfG (n:=l.length) (by omega);have ⟨all,r⟩:=qE (bs++qbQ l);have an:all.length<=800000000000:=by rw [r,qbQ,iA,iA];omega
 rw [<- r];have I:=qH r;have L:=qH D;have R:=qH z;have Y:=qH t;have s:=qvu C l.length d l w z rfl (by omega);rw [j] at s;have W:=qH j;have J:=qH s;clear r D z t s j Z
 go_enter func163,ntmps163
 go_wp2_with (first
  |(go_at_call 203;refine J.o.mono ?_;rintro e w' ⟨rfl,rfl⟩)
  |(go_at_call 204;refine (qnJ _ bs l.length w.heap.size _ (.inl ⟨A,rfl,L.o⟩) (aA _) (by omega) (by omega)).mono ?_))
 rintro e aq ⟨v,rfl,h,F⟩;have M:=qH h;have V:=qH F;clear h F;go_wp2
 go_loopw [0,6,23] (fun v last i wr=>qvB w.heap.size all l w v last i wr) (fun _ _ i _=>l.length-(intOf i).toNat)
 case atStart=>exact ⟨bs++qam l.length,0, -1,by omega,rfl,rfl,by omega,W.o,by rw [I.o,qbQ,iA,iA,iA];omega,by rw [I.o,qbQ,iB];rfl,M.o,V.o⟩
 case round=>
  obtain ⟨B,k,x,aj,rfl,rfl,ao,b,ad,a,h,p⟩:=hrel;have ap:=p.size;have H:=qH h;clear h;by_cases q:k<l.length
  ·have ⟨ae,al,T,_,U⟩:=qht (R.o.below p) q
   subst T;rw [qki q,xA,gC] at b;rw [qu0 q,<- iB] at a;have K:l.getD k 0<=9223372036854775807:=Y.o _ (by rw [mA,oA q];simp);have ⟨y,E⟩:=qE (l.getD k 0);rw [<- E] at U b a K;obtain ⟨ak,b⟩:=b;obtain ⟨g,aa⟩:∃ g:Nat,y-(x+1)=(g:Int):=⟨(y-(x+1)).toNat,by omega⟩;rw [aa,rD] at a;have G:(B++qam g).length<=all.length:=by rw [<- a,iA (bs:=dB y _)];omega
   have S:=qH a;have X:=qH b;have P:=qH G;have ac:qI (yG 204 #[u0,.int .i64 (g:Int)] wr (qgi w.heap.size (B++qam g) wr)):=
    qH (by exact qnJ u0 B g w.heap.size _ H.o.buf (by omega) (by omega) (by omega))
   clear a b G E
   go_wp2_with (go_at_call 204;refine ac.o.mono ?_)
   rintro e w3 ⟨am,rfl,O,N⟩;go_wp2;go_roundw
   case rel=>exact ⟨_,k+1,y,by omega,by go_num,rfl,by omega,X.o,P.o,S.o,O,p.trans N⟩
   case measure=>simp [intOf];omega
  ·rw [qu1 (by omega),mC] at a
   subst a;go_wp2;go_ret2;exact ⟨_,rfl,H.o,p⟩
structure qcg (Be Bb Ba:Nat) (A:Option Addr) (m c:Nat) (e a:Int) (w:World):Prop where
 err:w.heap[Be]?=some (.cells #[.int .i64 e] 34 (0,0))
 bytes:w.heap[Bb]?=some (.cells #[.slice A m c] 178 (0,0))
 place:w.heap[Ba]?=some (.cells #[.int .i64 a] 3 (0,0))
def qit {a:Nat} {u v:Array Value} {s:TypeId} {f g:Nat × Nat} (d:w.heap[a]?=some (.cells u t f)) (h2:w.heap[b]?=some (.cells v s g)) (c:t≠s):a≠b:=by
 rintro rfl;rw [d] at h2;simp at h2;exact c h2.2.1
section
variable {Be Bb Ba:Nat} {A:Option Addr} {m c:Nat} {e a:Int} {w w':World}
def qcg.setErr (b:qcg Be Bb Ba A m c e a w) (x:Int):qcg Be Bb Ba A m c x a (w.setCell ⟨Be,0,none⟩ (.int .i64 x)):=
 ⟨rG b.err,(rA _ _ _ _ (qit b.bytes b.err (by decide))).trans b.bytes,(rA _ _ _ _ (qit b.place b.err (by decide))).trans b.place⟩
def qcg.setPlace (b:qcg Be Bb Ba A m c e a w) (x:Int):qcg Be Bb Ba A m c e x (w.setCell ⟨Ba,0,none⟩ (.int .i64 x)):=
 ⟨(rA _ _ _ _ (qit b.err b.place (by decide))).trans b.err,(rA _ _ _ _ (qit b.bytes b.place (by decide))).trans b.bytes,rG b.place⟩
end
def qfo (Be Bb Ba:Nat) (A:Option Addr) (m c:Nat) (n b e:Int) (a:Int) (w:World) (d:Ending) (w':World):Prop:=
 d= .returned (.tuple #[.int .i64 n,.int .i64 b,.int .i64 e])/\qcg Be Bb Ba A m c e a w'/\qbF w.heap.size Be Ba w w'
def qkv {C:Nat} (x:Value):qbF w.heap.size B C w (w.setCell ⟨B,0,none⟩ x):=
 ⟨rfl,rfl,rfl,by simp,fun k _ a _=>rA _ _ _ _ a⟩
def qcg.drewN {Be Bb Ba:Nat} {e:Int} (b:qcg Be Bb Ba A m c e a w) (n:Nat):qcg Be Bb Ba A m c e a (w.drewN n):=⟨b.1,b.2,b.3⟩
def qbF.drewN {C:Nat} (a:qbF zz B C w w') (n:Nat):qbF zz B C w (w'.drewN n):=⟨a.1,a.2.1,a.2.2.1,a.2.2.2.1,a.2.2.2.2⟩
def qvD (Be Bb Ba:Nat) (A:Option Addr) (m c:Nat) (e a g:Int) (w:World) (b:qcg Be Bb Ba A m c e a w) (d:e≠0):
  yG 247 #[.int .i64 g,.pointer (some ⟨Be,0,none⟩),.pointer (some ⟨Bb,0,none⟩),.pointer (some ⟨Ba,0,none⟩)] w (qfo Be Bb Ba A m c 0 0 e a w):=by
 have i:=kG b.err;have j:(e==0)=false:=by rw [nD];exact d
 have h:=qH b;clear b d
 go_enter func247,ntmps247
 go_wp2
 go_quiet (fail)
 go_wp2
 go_ret3
 exact ⟨rfl,h.o.drewN _,(qbF.refl _ _ _ _).drewN _⟩
def qvE (Be Bb Ba:Nat) (b e:Nat) (m c:Nat) (a:Nat) (h:Int) (l:List UInt8) (n k:Nat) (w:World) (d:qcg Be Bb Ba (some ⟨b,e,none⟩) m c 0 a w) (i:Row w w.heap.size (some ⟨b,e,none⟩) (Lib.byteCells l)) (p:l.length=m) (r:m<=c) (z:c<=maxLen) (t:a<=m) (H:m<=400000000000)
  (x:qaC (l.drop a)=(n,k)) (E:k=0\/h<(n:Int)):
  yG 247 #[.int .i64 h,.pointer (some ⟨Be,0,none⟩),.pointer (some ⟨Bb,0,none⟩),.pointer (some ⟨Ba,0,none⟩)] w (qfo Be Bb Ba (some ⟨b,e,none⟩) m c 0 0 2 a w):=by
 have I:=kG d.err;have F:=nG d.err;have G:=kG d.bytes;have L:=kG d.place;have g:=fun A C v h1 h2 h3=>qks A C v (l.drop a) w h1 h2 h3
 rw [x] at g;have q:=qH g;have y:=qH d;have j:=qH i;unfold maxLen at z;clear d i g;have s:qI (∀ nq,qfo Be Bb Ba (some ⟨b,e,none⟩) m c 0 0 2 a w (.returned (.tuple #[.int .i64 0,.int .i64 0,.int .i64 2])) ((w.setCell ⟨Be,0,none⟩ (.int .i64 2)).drewN nq)):=
  qH fun nq=>⟨rfl,(y.o.setErr 2).drewN _,(qkv _).drewN _⟩
 rcases sF k with hk|hk
 ·subst hk
  go_enter func247,ntmps247
  go_wp2_with (go_at_call 248;refine (q.o _ _ _ (by rw [rB];omega) (qkk j.o p r t _ (by first|exact .inl ⟨rfl,by omega⟩|exact .inr rfl)) (by omega)).mono ?_)
  all_goals
   rintro B D ⟨rfl,rfl⟩;go_wp2
   go_quiet (fail)
   go_wp2
   go_ret3
   exact s.o _
 ·have K:((k:Int)==0)=false:=by rw [nD];omega
  have J:h<(n:Int):=by omega
  go_enter func247,ntmps247
  go_wp2_with (go_at_call 248;refine (q.o _ _ _ (by rw [rB];omega) (qkk j.o p r t _ (by first|exact .inl ⟨rfl,by omega⟩|exact .inr rfl)) (by omega)).mono ?_)
  all_goals
   rintro B D ⟨rfl,rfl⟩;go_wp2
   go_quiet (fail)
   go_wp2
   go_ret3
   exact s.o _
def qvF (Be Bb Ba:Nat) (b e:Nat) (m c:Nat) (a:Nat) (j:Int) (l:List UInt8) (n k:Nat) (w:World) (d:qcg Be Bb Ba (some ⟨b,e,none⟩) m c 0 a w) (h:Row w w.heap.size (some ⟨b,e,none⟩) (Lib.byteCells l)) (s:l.length=m) (v:m<=c) (y:c<=maxLen) (C:a<=m) (E:m<=400000000000)
  (i:qaC (l.drop a)=(n,k)) (F:0<k) (J:(n:Int)<=j):
  yG 247 #[.int .i64 j,.pointer (some ⟨Be,0,none⟩),.pointer (some ⟨Bb,0,none⟩),.pointer (some ⟨Ba,0,none⟩)] w (qfo Be Bb Ba (some ⟨b,e,none⟩) m c n ((a:Int)+k) 0 ((a:Int)+k) w):=by
 have I:=kG d.err;have D:=kG d.bytes;have L:=kG d.place;have G:=nG d.place;have p:=qfH (l.drop a);rw [i,rB] at p;simp only at p;have g:=fun z A q h1 h2 h3=>qks z A q (l.drop a) w h1 h2 h3
 rw [i] at g;have t:=qH g;have x:=qH d;have r:=qH h;unfold maxLen at y;clear d h g;have B:qI (∀ nq,qfo Be Bb Ba (some ⟨b,e,none⟩) m c n ((a:Int)+k) 0 ((a:Int)+k) w (.returned (.tuple #[.int .i64 n,.int .i64 ((a:Int)+k),.int .i64 0])) ((w.setCell ⟨Ba,0,none⟩ (.int .i64 ((a:Int)+k))).drewN nq)):=
  qH fun nq=>⟨rfl,(x.o.setPlace _).drewN _,(qkv _).swap.drewN _⟩
 have K:((k:Int)==0)=false:=by rw [nD];omega
 go_enter func247,ntmps247
 go_wp2_with (go_at_call 248;refine (t.o _ _ _ (by rw [rB];omega) (qkk r.o s v C _ (by first|exact .inl ⟨rfl,by omega⟩|exact .inr rfl)) (by omega)).mono ?_)
 all_goals
  rintro H M ⟨rfl,rfl⟩;go_wp2
  go_quiet (fail)
  go_wp2
  go_ret3
  exact B.o _
section
variable {L:List (List Int)} {w wr w' wy w6:World} {D m lo k Bk j:Nat} {s:List Int} {v v6:Value} {cs0:List Value}
def qbi.begin2 (c:wr.ownsRow w.heap.size 23 1 (.slice (some ⟨D,0,none⟩) m m) m (List.replicate m qbg)) (b:D<lo) (a:L.length=m) (d:wG w wr):qbi L w D m lo 0 wr:=by
 refine ⟨[],rfl,kA _,a,⟨by simpa using c,b,by rw [qir (kA _),a],?_,aA _⟩,d⟩;rw [qkt,a];exact qkq _ _ _ _
def qbi.low (b:qbi L w D m lo k wr):D<lo/\D<wr.heap.size/\wG w wr/\k<=m:=by
 obtain ⟨cs0,h1,h2,h3,a,c⟩:=b;exact ⟨a.lt,(a.own.lt _ rfl).2,c,h2⟩
def qbi.later (e:qbi L w D m lo k wr) (b:wG wr w'):qbi L w D m lo k w':=by
 obtain ⟨cs0,h1,h2,h3,d,c⟩:=e;have a:=d.later b;exact ⟨cs0,h1,h2,h3,⟨a.own,a.lt,a.len,a.rows.more b.size,aA _⟩,c.trans (b.mono c.size)⟩
def qbi.put (y:qbi L w D m lo k wr) (q:k<m) (C:lo<=wr.heap.size) (h:wG wr w') (H:∀ q:k<L.length,L[k]=s) (F:w'.ownsRow wr.heap.size 3 1 v s.length (qaa s)):
  w'.cell? ⟨D,k,none⟩=some qbg/\w'.frozen? ⟨D,k,none⟩=false/\∃ A c,v= .slice A s.length c/\s.length<=c/\c<=maxLen/\qc5 (w'.setCell ⟨D,k,none⟩ v) lo w'.heap.size A (qaa s)/\qbi L w D m lo (k+1) (w'.setCell ⟨D,k,none⟩ v):=by
 have ⟨J,K,N,_⟩:=y.low;obtain ⟨cs0,h1,h2,h3,z,B⟩:=y;have j:k<L.length:=by omega
 have e:=z.later h;obtain ⟨A,c,rfl,r,l,t⟩:=qkp (lo:=lo) F C;have G:w'.cell? ⟨D,k,none⟩=some qbg:=by
  rw [e.own.cellAt k (by omega),oC (by omega),h1,bE,show m-k=(m-k-1)+1 by omega,List.replicate_succ];rfl
 refine ⟨G,e.own.frozenAt k,A,c,rfl,r,l,t.keep fun b M O=>rA _ _ _ _ (by simp only;omega),?_⟩;have g:=qcf.set (i:=k) (x:=s) (A:=A) (c:=c) (⟨e.own,e.lt,e.len,e.rows.more h.size,aA _⟩:qcf (Value.int .i64) 23 w.heap.size D m lo w'.heap.size w' _ _) ⟨r,l⟩ t;have E:(cs0++List.replicate (m-k) qbg).set k (.slice A s.length c)=(cs0++[.slice A s.length c])++List.replicate (m-(k+1)) qbg:=by
  have :=qhw (a:=cs0) (n:=m-k) (d:=qbg) (x:= .slice A s.length c) (by omega);rw [h1] at this;rw [this,iB,show m-k-1=m-(k+1) by omega];rfl
 rw [E,show (upL L k []).set k s=upL L (k+1) [] by rw [<- H j];exact qku j] at g;have I:(w'.setCell ⟨D,k,none⟩ (.slice A s.length c)).heap.size=w'.heap.size:=by simp [World.setCell]
 refine ⟨cs0++[.slice A s.length c],by simp [h1],q,h3,⟨g.own,g.lt,g.len,by rw [I];exact g.rows,aA _⟩,?_⟩;exact (B.trans (h.mono B.size)).setCell (p:=⟨D,k,none⟩) z.from_ _
def qbi.other (h:qbi L w D m lo k wr) {a i:Nat} (e:a≠D) (d:a<lo) (c:w.heap.size<=a) (u:Value):qbi L w D m lo k (wr.setCell ⟨a,i,none⟩ u):=by
 obtain ⟨cs0,h1,h2,h3,g,j⟩:=h;have b:=g.other (p:=⟨a,i,none⟩) e d u;have l:(wr.setCell ⟨a,i,none⟩ u).heap.size=wr.heap.size:=by simp [World.setCell]
 exact ⟨cs0,h1,h2,h3,⟨b.own,b.lt,b.len,by rw [l];exact b.rows,aA _⟩,j.setCell (p:=⟨a,i,none⟩) c _⟩
def qdD.kept (a:qdD L w D m lo k Bk j s v cs0 wy) (c:wy.grownBy w6 v.ownBlock) {b:Nat} (g:b<Bk) (d:b≠D):(w6.setCell ⟨D,k,none⟩ v6).heap[b]?=wy.heap[b]?:=by
 rw [rA _ _ _ _ d,c.block b (tB g a.top) (fun e=> ?_)];have :=(a.mine.lt b e.symm).1;omega
structure qgj (L:List (List Int)) (w:World) (D m lo k Bk:Nat) (wx:World):Prop where
 up:∃ cs0:List Value,cs0.length=k/\k<=m/\L.length=m/\qcf (Value.int .i64) 23 w.heap.size D m lo Bk wx (upL L k []) (cs0++List.replicate (m-k) qbg)
 below:wG w wx
def qbi.stay (a:qbi L w D m lo k wr):qgj L w D m lo k wr.heap.size wr:=by
 obtain ⟨cs0,h1,h2,h3,c,b⟩:=a;exact ⟨⟨cs0,h1,h2,h3,c⟩,b⟩
def qgj.keep (g:qgj L w D m lo k Bk wy) (j:lo<=Bk) (c:∀ b,b<Bk->(b=D\/lo<=b)->w'.heap[b]?=wy.heap[b]?) (d:wy.heap.size<=w'.heap.size) (e:wG w w'):qgj L w D m lo k Bk w':=by
 obtain ⟨⟨cs0,h1,h2,h3,a⟩,n⟩:=g;have l:=a.lt;exact ⟨⟨cs0,h1,h2,h3,a.keep (c D (by omega) (.inl rfl)) (fun b i h=>c b h (.inr i)) d⟩,e⟩
def qgj.up_ (b:qgj L w D m lo k Bk wy):qbi L w D m lo k wy:=by
 obtain ⟨⟨cs0,h1,h2,h3,a⟩,c⟩:=b;exact ⟨cs0,h1,h2,h3,⟨a.own,a.lt,a.len,a.rows.more a.top,aA _⟩,c⟩
end
def qvG (b e d:Nat) (A:Option Addr) (m c:Nat) (q:Int) (w:World) (a:qcg b e d A m c 0 0 w) (l:m=0) (p:c<=maxLen):
  yG 247 #[.int .i64 q,.pointer (some ⟨b,0,none⟩),.pointer (some ⟨e,0,none⟩),.pointer (some ⟨d,0,none⟩)] w (qfo b e d A m c 0 0 2 0 w):=by
 subst l;have z:=kG a.err;have x:=nG a.err;have y:=kG a.bytes;have B:=kG a.place;have i:qaC []=(0,0):=by decide
 have g:=fun r t k h1 h2 h3=>qks r t k [] w h1 h2 h3
 rw [i] at g;have h:=qH g;have n:=qH a;unfold maxLen at p;clear a g i;have j:qI (∀ nq,qfo b e d A 0 c 0 0 2 0 w (.returned (.tuple #[.int .i64 0,.int .i64 0,.int .i64 2])) ((w.setCell ⟨b,0,none⟩ (.int .i64 2)).drewN nq)):=
  qH fun nq=>⟨rfl,(n.o.setErr 2).drewN _,(qkv _).drewN _⟩
 rcases A with _|ad
 ·go_enter func247,ntmps247
  go_wp2_with (go_at_call 248;refine (h.o none 0 _ rfl Row.nil (by omega)).mono ?_)
  all_goals
   rintro s v ⟨rfl,rfl⟩;go_wp2
   go_quiet (fail)
   go_wp2
   go_ret3
   exact j.o _
 ·go_enter func247,ntmps247
  go_wp2_with (go_at_call 248;refine (h.o _ 0 _ rfl Row.nil (by omega)).mono ?_)
  all_goals
   rintro s v ⟨rfl,rfl⟩;go_wp2
   go_quiet (fail)
   go_wp2
   go_ret3
   exact j.o _
def qnQ (e d g:Nat) (A:Option Addr) (m c:Nat) (a:Nat) (h:Int) (l:List UInt8) (w:World) (n:qcg e d g A m c 0 a w) (k:Row w w.heap.size A (Lib.byteCells l)) (i:l.length=m) (r:m<=c) (p:c<=maxLen) (v:a<=m) (y:m<=400000000000)
  (x:(qaC (l.drop a)).2=0\/h<((qaC (l.drop a)).1:Int)):
  yG 247 #[.int .i64 h,.pointer (some ⟨e,0,none⟩),.pointer (some ⟨d,0,none⟩),.pointer (some ⟨g,0,none⟩)] w (qfo e d g A m c 0 0 2 a w):=by
 by_cases j:l=[]
 ·subst j
  have s:m=0:=by simpa using i.symm
  have t:a=0:=by omega
  subst t;exact qvG e d g A m c h w n s p
 ·obtain ⟨b,q,rfl,_,_⟩:=k.at_ (by rw [Lib.byteCells_length];exact List.length_pos_iff.2 j)
  exact qvE e d g b q m c a h l _ _ w n k i r p v y rfl x
def qnR (e d g:Nat) (A:Option Addr) (m c:Nat) (a:Nat) (h:Int) (l:List UInt8) (w:World) (k:qcg e d g A m c 0 a w) (i:Row w w.heap.size A (Lib.byteCells l)) (j:l.length=m) (q:m<=c) (t:c<=maxLen) (s:a<=m) (v:m<=400000000000)
  (x:(qaC (l.drop a)).2≠0) (r:((qaC (l.drop a)).1:Int)<=h):
  yG 247 #[.int .i64 h,.pointer (some ⟨e,0,none⟩),.pointer (some ⟨d,0,none⟩),.pointer (some ⟨g,0,none⟩)] w
   (qfo e d g A m c ((qaC (l.drop a)).1:Int) ((a:Int)+((qaC (l.drop a)).2:Int)) 0 ((a:Int)+((qaC (l.drop a)).2:Int)) w):=by
 have p:=qfH (l.drop a);rw [rB] at p;obtain ⟨b,n,rfl,_,_⟩:=i.at_ (by rw [Lib.byteCells_length];omega);exact qvF e d g b n m c a h l _ _ w k i j q t s v rfl (by omega) r
def qnS (A:Option Addr) (m c:Nat) (a:Int) (w:World) (e:Ending) (w':World):Prop:=
 e= .returned (.func (.func 247) #[] #[.pointer (some ⟨w.heap.size+2,0,none⟩),.pointer (some ⟨w.heap.size,0,none⟩),.pointer (some ⟨w.heap.size+1,0,none⟩)])/\
 qcg (w.heap.size+2) w.heap.size (w.heap.size+1) A m c (if a<0\/(m:Int)<a then 1 else 0) a w'/\wG w w'/\w'.heap.size=w.heap.size+3
def qkw (A:Option Addr) (m c:Nat) (a:Int) (w:World) (h:m<=400000000000):
  yG 232 #[.slice A m c,.int .i64 a] w (qnS A m c a w):=by
 have fin:qI (∀ x:Int,x=(if a<0\/(m:Int)<a then 1 else 0)->qnS A m c a w
   (.returned (.func (.func 247) #[] #[.pointer (some ⟨w.heap.size+1+1,0,none⟩),.pointer (some ⟨w.heap.size,0,none⟩),.pointer (some ⟨w.heap.size+1,0,none⟩)]))
   (((w.alloc (.cells #[.slice A m c] 178)).alloc (.cells #[.int .i64 a] 3)).alloc (.cells #[.int .i64 x] 34))):=qH fun x g=>by
  have e:(w.alloc (.cells #[.slice A m c] 178)).heap.size=w.heap.size+1:=by simp
  have b:((w.alloc (.cells #[.slice A m c] 178)).alloc (.cells #[.int .i64 a] 3)).heap.size=w.heap.size+2:=by simp
  refine ⟨rfl,⟨?_,?_,?_⟩,?_,by simp⟩
  ·rw [<- g,<- b]
   exact jA _ _
  ·exact (pB _ _ _ (by omega)).trans ((pB _ _ _ (by omega)).trans (jA _ _))
  ·refine (pB _ _ _ (by omega)).trans ?_
   rw [<- e];exact jA _ _
  ·exact (((bA _ w).alloc (aA _) _).alloc (by omega) _).alloc (by omega) _
 by_cases d:a<0
 ·go_enter func232,ntmps232
  go_wp2;go_ret;exact fin.o 1 (by rw [eA (.inl d)])
 ·by_cases h1:(m:Int)<a
  ·go_enter func232,ntmps232
   go_wp2;go_ret;exact fin.o 1 (by rw [eA (.inr h1)])
  ·go_enter func232,ntmps232
   go_wp2;go_ret;exact fin.o 0 (by rw [dA (by omega)])
def qvH (d g b:Nat) (A:Option Addr) (m c:Nat) (z:Int × Int × Int) (w:World) (e:Ending) (w':World):Prop:=
 e= .returned (.tuple #[.int .i64 z.1,.int .i64 z.2.1,.int .i64 z.2.2])/\(∃ a,qcg d g b A m c z.2.2 a w'/\(z.2.2=0->a=z.2.1))/\qbF w.heap.size d b w w'
def qkx (d b g:Nat) (A:Option Addr) (m c:Nat) (a:Int) (l:List UInt8) (w:World) (h:qcg d b g A m c (if a<0\/(m:Int)<a then 1 else 0) a w) (s:Row w w.heap.size A (Lib.byteCells l)) (p:l.length=m) (t:m<=c) (v:c<=maxLen) (x:m<=400000000000):
  yG 247 #[.int .i64 9223372036854775807,.pointer (some ⟨d,0,none⟩),.pointer (some ⟨b,0,none⟩),.pointer (some ⟨g,0,none⟩)] w (qvH d b g A m c (qbY l a) w):=by
 by_cases i:a<0\/(m:Int)<a
 ·rw [eA i] at h
  rw [qmF (by rw [p];exact i)];refine (qvD d b g A m c 1 a _ w h (by decide)).mono ?_;rintro e w' ⟨h1,h2,h3⟩;exact ⟨h1,⟨_,h2,fun q=>absurd q (by decide)⟩,h3⟩
 ·rw [dA i] at h
  obtain ⟨k,rfl⟩:∃ k:Nat,a=k:=⟨a.toNat,by omega⟩;have y:k<=m:=by omega
  have z:=qfH (l.drop k);by_cases h2:(qaC (l.drop k)).2=0
  ·rw [qmG (by omega) h2]
   refine (qnQ d b g A m c k _ l w h s p t v y x (.inl h2)).mono ?_;rintro e w' ⟨h1,h2,h3⟩;exact ⟨h1,⟨_,h2,fun q=>absurd q (by decide)⟩,h3⟩
  ·obtain ⟨j,r⟩:∃ j,(qaC (l.drop k)).2=j+1:=⟨(qaC (l.drop k)).2-1,by omega⟩
   rw [qjH (n:=(qaC (l.drop k)).1) (k:=j) (by omega) (by rw [<- r]),<- r];refine (qnR d b g A m c k _ l w h s p t v y x h2 (by omega)).mono ?_;rintro e w' ⟨h1,h2,h3⟩;exact ⟨h1,⟨_,h2,fun _=>rfl⟩,h3⟩
def qvI (A:Option Addr) (m c:Nat) (a:Int) (l:List UInt8) (w:World) (h:Row w w.heap.size A (Lib.byteCells l)) (p:l.length=m) (q:m<=c) (r:c<=maxLen) (k:m<=400000000000):
  yG 216 #[.slice A m c,.int .i64 a] w (qu6 (qbY l a) w):=by
 have n:=qH h;clear h;have ⟨z,d⟩:=qE (qbY l a);rw [<- d];have s:=qH d;clear d
 go_enter func216,ntmps216
 go_wp2_with (go_at_call 232;refine (qkw A m c a _ k).mono ?_)
 rintro v B ⟨rfl,g,b,C⟩;have i:=n.o.below b;have e:=qkx _ _ _ A m c a l B g (i.more (by omega)) p q r k;rw [<- s.o] at e;have y:=qH e;have t:=qH b;clear e i g b
 go_wp2_with (go_at_call 247;refine y.o.mono ?_)
 rintro v w3 ⟨rfl,_,h3⟩;have j:=t.o.trans (h3.below (by omega) (by omega) (by omega));have x:=qH j;clear j h3;go_wp2
 go_ret3
 exact ⟨rfl,x.o⟩
def qcg.keep {e:Int} (g:qcg k n b A m c e a w) {B:Nat} (d:Below B w w') (h1:k<B) (h2:n<B) (h3:b<B):qcg k n b A m c e a w':=
 ⟨(d.block _ h1).trans g.err,(d.block _ h2).trans g.bytes,(d.block _ h3).trans g.place⟩
def qnT (b zz:Nat) (A:Option Addr) (m c:Nat) (l:List UInt8) (g:Nat) (w:World) (r:Option (List Int × Nat)) (at_ p n j e h last i:Value) (wr:World):Prop:=
 p= .slice none 0 0/\n= .int .i64 0/\j= .int .i64 0/\e= .int .i64 0/\∃ (d:List Int) (x:Int) (a k:Nat),k<=g/\i= .int .i64 (k:Int)/\last= .int .i64 x/\at_= .int .i64 (a:Int)/\d.length=k/\k<=a/\a<=m/\ -1<=x/\x<=4611686018427387904/\
  r=qcI l (g-k) x a d/\wr.ownsRow zz 3 1 h k (qaa d)/\qcg (b+2) b (b+1) A m c 0 a wr/\Below b w wr/\zz<=wr.heap.size
def qvJ (A:Option Addr) (m c:Nat) (a:Int) (l:List UInt8) (w:World) (I:Row w w.heap.size A (Lib.byteCells l)) (L:l.length=m) (O:m<=c) (V:c<=maxLen) (br:m<=400000000000):
  yG 217 #[.slice A m c,.int .i64 a] w (qu7 (qdj l a) w):=by
 have ⟨bh,bc,a9,ba,bg⟩:=lG qc4;have Y:=qH I;clear I;rcases qim l a with ⟨e,D,bj⟩|⟨s,b,D,U,bv⟩
 ·have h:=qkm D (by omega)
  rw [h];have ab:=qH D;clear D h bj
  go_enter func217,ntmps217
  go_wp2_with (go_at_call 232;refine (qkw A m c a _ (by omega)).mono ?_)
  rintro N y ⟨rfl,p,U,ac⟩;have K:=Y.o.below U;have d:=qkx _ _ _ A m c a l y p (K.more (by omega)) L O V (by omega);rw [ab.o] at d;have B:=qH d;have ag:=qH U;clear d K p U
  go_wp2_with (go_at_call 247;refine B.o.mono ?_)
  rintro N w3 ⟨rfl,_,h3⟩;have Q:=qH (ag.o.trans (h3.below (by omega) (by omega) (by omega)));clear h3;go_wp2
  go_loop [1,9,10,23] (fun t bb W i=>t= .int .i64 0/\bb= .int .i64 e/\W= .slice none 0 0/\i= .int .i64 0) (fun _ _ _ _=>0)
  case atStart=>exact ⟨rfl,rfl,rfl,rfl⟩
  case round=>
   obtain ⟨rfl,rfl,rfl,rfl⟩:=hrel;go_wp2
   go_ret3
   exact ⟨_,rfl,vA _ _ _ _,Q.o⟩
 ·have h:=qkn D
  have ⟨r,I⟩:=qE (qcI l s (-1) b []);rw [<- I] at h;have ⟨z,af⟩:=qE (qdj l a);rw [<- af];rw [<- af] at h;have ab:=qH D;have ao:=qH h;have be:=qH I;clear D h I af
  go_enter func217,ntmps217
  go_wp2_with (go_at_call 232;refine (qkw A m c a _ (by omega)).mono ?_)
  rintro N y ⟨rfl,p,aa,ac⟩;have K:=Y.o.below aa;have d:=qkx _ _ _ A m c a l y p (K.more (by omega)) L O V (by omega);rw [ab.o] at d;have B:=qH d;have ag:=qH aa;clear d K p aa
  go_wp2_with (go_at_call 247;refine B.o.mono ?_)
  rintro N w3 ⟨rfl,⟨a7,al,ax⟩,h3⟩;have a2:a7=(b:Int):=ax rfl;subst a2;have bl:y.heap.size<=w3.heap.size:=h3.2.2.2.1;have Q:=qH (ag.o.trans (h3.below (by omega) (by omega) (by omega)));have an:=qH al;clear h3 al ax;have ⟨v,F⟩:=qE w.heap.size;rw [<- F] at an;rw [<- F] at Q;rw [<- F] at ac;rw [<- F];have J:=qH F;clear F;go_wp2
  go_loopw [1,4,5,6,9,10,11,23] (fun t a4 bi a8 e W last i wr=>qnT v y.heap.size A m c l s w r t a4 bi a8 e W last i wr) (fun _ _ _ _ _ _ _ i _=>s-(intOf i).toNat)
  case atStart=>exact ⟨rfl,rfl,rfl,rfl,[], -1,b,0,by omega,rfl,rfl,rfl,rfl,by omega,by omega,by omega,by omega,be.o,vA _ _ _ _,an.o,Q.o,bl⟩
  case round=>
   obtain ⟨rfl,rfl,rfl,rfl,M,x,q,k,am,rfl,rfl,rfl,ai,bq,aq,bu,bp,n,S,p,H,bt⟩:=hrel;by_cases bo:k<s
   ·obtain ⟨j,ad⟩:∃ j,s-k=j+1:=⟨s-k-1,by omega⟩
    rw [ad,qcI] at n;have Z:=qfH (l.drop q);rw [rB,L] at Z;have T:=(Y.o.below (J.o▸H)).more (J.o▸H).size;have P:=qH H;have a1:=qH S;by_cases G:(qaC (l.drop q)).2=0\/4611686018427387904-(x+1)<((qaC (l.drop q)).1:Int)
    ·rw [eA G] at n
     have d:=qnQ (v+2) v (v+1) A m c q (4611686018427387904-(x+1)) l wr p T L O V aq (by omega) G;have B:=qH d;have h:z=([],0,2):=by rw [ao.o,n];rfl
     have X:=qH h;clear h d G n Z ad T H S p
     go_wp2_with (go_at_call 247;refine B.o.mono ?_)
     rintro N E ⟨rfl,_,C⟩;have ae:=qH (P.o.trans (C.below (by have :=P.o.size;omega) (by omega) (by omega)));clear C;go_wp2
     go_ret3
     rw [X.o];exact ⟨_,rfl,vA _ _ _ _,by have z:=ae.o;rw [J.o] at z;exact z⟩
    ·rw [dA G] at n
     have d:=qnR (v+2) v (v+1) A m c q (4611686018427387904-(x+1)) l wr p T L O V aq (by omega) (by omega) (by omega);have ⟨f,aj⟩:=qE ((qaC (l.drop q)).1);have ⟨g,ah⟩:=qE ((qaC (l.drop q)).2);rw [<- aj,<- ah] at d n;rw [<- aj,<- ah] at Z G;have B:=qH d;have a3:=qH n;have bm:(f:Int)<=4611686018427387904-(x+1):=by omega
     have bs:1<=g:=by omega
     have a5:qI (j=s-(k+1)):=qH (by omega);clear d G n ad T H S p aj ah
     go_wp2_with (go_at_call 247;refine B.o.mono ?_)
     rintro N E ⟨rfl,aw,C⟩;have bn:wr.heap.size<=E.heap.size:=C.2.2.2.1;have av:=qmS a1.o (by omega) (by omega) (aA _) C;have ae:=qH (P.o.trans (C.below (by have :=P.o.size;omega) (by omega) (by omega)));have bd:=qH aw;have az:=qH av;clear C aw av
     go_wp2_with (at_builtin;refine wB _ rfl (.tmp 41) (.tmp 43) 23 rfl y.heap.size 3 bh _ 1 8 underlying23 bc a9 ba bg rfl (by omega) _ k (qaa M) rfl (az.o.alloc _) ⟨E.heap.size,0,none⟩ 1 1 [.int .i64 (x+((f:Int)+1))] rfl rfl (qaH E [.int .i64 (x+((f:Int)+1))] 3) (by intro u ap;simp at ap;subst ap;rfl) (by unfold maxLen;omega) (by omega) (by simp;omega) ?_)
     intro bf ar ak ay _;have R:Below y.heap.size E ar:=((bA _ E).alloc (by omega) _).grown ay (by simp;omega) fun k am=>(az.o.lt k am).1
     have a0:qnT v y.heap.size A m c l s w r (.int .i64 ((q:Int)+(g:Int))) (.slice none 0 0) (.int .i64 0) (.int .i64 0) (.int .i64 0) bf (.int .i64 (x+((f:Int)+1))) (.int .i64 ((k:Int)+1)) ar:=
      ⟨rfl,rfl,rfl,rfl,M++[x+((f:Int)+1)],x+((f:Int)+1),q+g,k+1,by omega,by simp,rfl,by simp,by simp [ai],by omega,by omega,by omega,by omega,
       by rw [<- a5.o];exact a3.o,by rw [show qaa (M++[x+((f:Int)+1)])=qaa M++[.int .i64 (x+((f:Int)+1))] by simp [qaa],ac];exact ak,
       by rw [Int.natCast_add];exact bd.o.keep R (by omega) (by omega) (by omega),ae.o.trans (R.mono (by omega)),by have :=R.size;omega⟩
     have a6:=qH a0;clear a0 R ay ak;go_wp2;go_roundw
     case rel=>exact a6.o
     case measure=>simp [intOf];omega
   ·have au:s-k=0:=by omega
    rw [au,qcI] at n;have h:z=(M,(q:Int),0):=by rw [ao.o,n];rfl
    have X:=qH h;have bk:=qH ai;clear h n au ai;go_wp2
    go_ret3
    rw [X.o];refine ⟨_,rfl,?_,by have z:=H;rw [J.o] at z;exact z⟩;simp only;rw [bk.o];exact qbk S (by rw [<- J.o];omega)
