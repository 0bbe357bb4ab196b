import Derived.StillTailTactics
import Derived.Test.YtpehcaidjlemiaaGreatDoorMMQ05
import Derived.Lib.EndianBits
set_option maxHeartbeats 4000000
set_option maxRecDepth 100000
set_option linter.all false
namespace Go.Proofs.YtpehcaidjlemiaaGreatDoor
open Go Go.RowKit
variable {w w' W w0 wr:World} {k n b c m zz B lo D:Nat} {A:Option Addr} {v v':Value} {xs:List Value} {t E T:TypeId} {z:Int} {l:List (List UInt8)} {fr:Nat × Nat}
def plc:List Pl->List Value
 |[]=>[]
 |p::o=> .int .i64 (p.1:Int):: .int .i64 (p.2:Int)::plc o
def qnU:∀ o:List Pl,(plc o).length=o.length*2
 |[]=>rfl
 |p::o=>by simp [plc,qnU o];omega
def qiu:∀ a b:List Pl,plc (a++b)=plc a++plc b
 |[],b=>rfl
 |p::a,b=>by simp [plc,qiu a b]
def qhx:∀ {o:List Pl} {k:Nat} (a:k<o.length),(plc o)[k*2]?=some (.int .i64 (o[k].1:Int))/\(plc o)[k*2+1]?=some (.int .i64 (o[k].2:Int))
 |[],k,a=>by simp at a
 |p::o,0,a=>⟨rfl,rfl⟩
 |p::o,k+1,a=>by
  have :=qhx (o:=o) (k:=k) (by simpa using a);rw [show (k+1)*2=k*2+1+1 by omega];simpa [plc] using this
def qgK {o:List Pl} (e:Row w B A (plc o)) {k:Nat} (g:k<o.length):
  ∃ b a,A=some ⟨b,a,none⟩/\b<B/\w.cell? ⟨b,a+k*2,none⟩=some (.int .i64 (o[k].1:Int))/\w.cell? ⟨b,a+k*2+1,none⟩=some (.int .i64 (o[k].2:Int)):=by
 obtain ⟨b,a,rfl,d,c⟩:=e.at_ (by rw [qnU];omega);have ⟨h1,h2⟩:=qhx g;exact ⟨b,a,rfl,d,c _ _ h1,by have :=c _ _ h2;rwa [<- uB] at this⟩
open Go.Proofs.Tryz
def qky {α:Type} [DecidableEq α] {xs ys:List α} {k:Nat} (c:k<xs.length) (b:k<ys.length) (a:xs[k]≠ys[k]):decide (xs=ys)=false:=uA fun e=>a (by subst e;rfl)
def qnV {α:Type} [DecidableEq α] {xs ys:List α} (b:xs.length=ys.length) (a:∀ j (c:j<xs.length),xs[j]=ys[j]'(by omega)):decide (xs=ys)=true:=yA (dD b fun j h1 _=>a j h1)
def qvK (xs ys:List Int) (w:World) (i:Value) (wr:World):Prop:=∃ k:Nat,k<=xs.length/\i= .int .i64 (k:Int)/\wG w wr/\∀ j (a:j<xs.length) (b:j<ys.length),j<k->xs[j]=ys[j]
def qkz (A C:Option Addr) (n m c d:Nat) (xs ys:List Int) (w:World) (O:xs.length=n) (I:ys.length=m) (a:Row w w.heap.size A (qaa xs)) (h:Row w w.heap.size C (qaa ys)) (R:n<=9223372036854775807) (Z:m<=9223372036854775807):
  yG 24 #[.slice A n c,.slice C m d] w fun e w'=>e= .returned (.bool (decide (xs=ys)))/\wG w w':=by
 subst O I;have P:=qH a;have K:=qH h;have ⟨z,s⟩:=qE (decide (xs=ys));rw [<- s];have v:=qH s;clear a h s;by_cases B:xs.length=ys.length
 ·go_enter func24,ntmps24
  go_wp2
  go_loopw [4,5] (fun r i wr=>r= .bool false/\qvK xs ys w i wr) (fun _ i _=>xs.length-(intOf i).toNat)
  case atStart=>exact ⟨rfl,0,kA _,rfl,bA _ _,fun j _ _ g=>by omega⟩
  case round=>
   obtain ⟨rfl,k,U,rfl,l,p⟩:=hrel;by_cases G:k<xs.length
   ·have H:k<ys.length:=by omega
    have ⟨S,W,M,_,D⟩:=qbR (P.o.below l) G;have ⟨Q,X,J,_,q⟩:=qbR (K.o.below l) H;subst M J;have aa:(0:Int)<=k:=by omega
    have V:(k:Int)<xs.length:=by omega
    have Y:(k:Int)<ys.length:=by omega
    by_cases b:xs[k]=ys[k]
    ·have L:qI (∀ j (g:j<xs.length) (F:j<ys.length),j<k+1->xs[j]=ys[j]):=qH fun j g F T=>by
      by_cases e:j=k
      ·subst e;exact b
      ·exact p j g F (by omega)
     rw [<- b] at q;have ⟨x,a⟩:=qE (xs[k]);rw [<- a] at D q;clear p b a;go_wp2
     go_quiet (fail)
     go_wp2;go_roundw
     case rel=>exact ⟨rfl,k+1,by omega,by go_num,l.trans ⟨rfl,rfl,rfl,aA _,fun _ _=>rfl⟩,L.o⟩
     case measure=>simp [intOf];omega
    ·have t:z=false:=by rw [v.o];exact qky G H b
     subst t;have E:(xs[k] != ys[k])=true:=by simpa using b
     have ⟨x,a⟩:=qE (xs[k]);have ⟨y,h⟩:=qE (ys[k]);rw [<- a] at D E;rw [<- h] at q E;clear p b a h;go_wp2
     go_quiet (fail)
     go_wp2;go_ret;exact ⟨rfl,l.trans ⟨rfl,rfl,rfl,aA _,fun _ _=>rfl⟩⟩
   ·have N:z=true:=by rw [v.o];exact qnV B fun j g=>p j g (by omega) (by omega)
    subst N;clear p;go_wp2;go_ret;exact ⟨rfl,l⟩
 ·have t:z=false:=by rw [v.o];exact uA fun e=>B (by rw [e])
  subst t
  go_enter func24,ntmps24
  go_wp2;go_ret;exact ⟨rfl,bA _ _⟩
def qvL (zz:Nat) (l:List Nm) (w:World) (e:Ending) (w':World):Prop:=∃ v,e= .returned v/\qaB zz w' v l/\wG w w'
def qhy (zz:Nat) (s:ByteArray):∀ u∈[Value.string s],u.oneCell'=true:=by intro u a;simp at a;subst a;rfl
def qec {d:Array Oper} {rest:List Oper} {o:Oper} {a:Act} {Q:Exit->Act->World->Prop} (w:World) (h:o.guard=none) (s x:Operand)
  (q:o.op= .call {callee:= .builtin .append,args:=#[s,x],argTypes:=#[40,40]})
  (zz:Nat) (v:Value) (l:List Nm) (j:a.eval s=v) (e:qaB zz w v l) (A:Option Addr) (m c:Nat) (b:List Nm) (B:a.eval x= .slice A m c) (C:b.length=m) (i:Row w w.heap.size A (qad b))
  (E:l.length+m<=1073741824) (g:zz<=w.heap.size)
  (y:∀ v' w',qaB zz w' v' (l++b)->Below zz w w'->wpList prog d Q rest (a.put o.dst v') w'):wpList prog d Q (o::rest) a w:=by
 have ⟨z,D,r,t,n⟩:=lG qfh;refine qf9 w h s x 40 q zz 9 z _ 1 16 underlying40 D r t n rfl (by decide) v l.length (qad l) j e w.heap.size A m c (qad b) B (by rw [qfJ];omega) i (qtX _) (by unfold maxLen;omega) (by omega) g fun v' w' h1 h2=>y v' w' ?_ ?_
 ·unfold qaB
  rw [iA,C,qjY];exact h1
 ·exact (bA zz w).grown h2 g fun k p=>(e.lt k p).1
def qkA (w:World) (x:Nm):Row (w.alloc (.cells #[.string ⟨x.toArray⟩] 9)) (w.alloc (.cells #[.string ⟨x.toArray⟩] 9)).heap.size (some ⟨w.heap.size,0,none⟩) (qad [x]):=by
 refine .inr ⟨w.heap.size,0,rfl,by simp,fun j u a=> ?_⟩;have :=qaH w (qad [x]) 9 j u a;rw [cC] at this;exact this
def qnW (zz:Nat) (v:Value) (l:List Nm) (s:ByteArray) (w:World) (K:qaB zz w v l) (S:zz<=w.heap.size) (ap:l.length<=1048576):
    yG 77 #[v,.string s] w (qvL zz (qbw l s.data.toList) w):=by
  obtain ⟨A,c,rfl,am,P⟩:=K.row;have af:=qH K;have ac:=qH P;have ⟨n,y⟩:=qE l.length;have D:=quu A l.length c l s w P rfl (by omega);have aa:=qgy l s.data.toList;have H:=qjA (l:=l) (s:=s.data.toList);have O:=qjz (l:=l) (s:=s.data.toList);have ⟨p,L⟩:=qE (qaF l s.data.toList);have ⟨z,F⟩:=qE (isN l s.data.toList);rw [<- L,<- F,<- y] at D;rw [<- L,<- F] at H;rw [<- L] at aa;rw [<- F] at O;rw [<- y] at am;rw [<- y];have ao:c<=maxLen:=by
    rcases K.2 with ⟨t,_⟩|⟨g,al,au,N,_,_,_,ay,_⟩
    · injection t with _ _ t;omega
    · injection N with _ _ N;omega
  unfold maxLen at ao;cases z with
  |true=>
    rw [O rfl];have M:=qH D;have an:=qH y;clear H O L F D y P K
    go_enter func77,ntmps77
    go_wp2_with (go_at_call 128;refine (M.o).mono ?_;rintro e X ⟨rfl,b⟩)
    go_ret;refine ⟨_,rfl,?_,b⟩;rw [an.o];exact af.o.below b
  |false=>
    have ⟨x,Q⟩:=qE (s.data.toList:Nm);have ar:s=⟨x.toArray⟩:=by rw [Q]
    rw [<- Q] at H;rw [<- Q];have ad:=H rfl;have Y:=qH ad;have aw:p<=n:=by omega
    have U:=qH y;have M:=qH D;clear H O L F D y P ad K aa;have aj:=U.o;have V:qI ((l.take p).length=p):=qH (by rw [sA];omega);have Z:qI ((l.drop p).length=n-p):=qH (by rw [rB];omega);have R:qI (([]++l.take p).length+1<=1073741824):=qH (by simp;omega);have W:qI (([]++l.take p++[x]).length+(n-p)<=1073741824):=qH (by simp;omega);have ax:n<=1048576:=by omega
    subst ar;clear aj Q ap;rcases af.o.2 with ⟨t,_⟩|⟨g,al,au,N,_⟩
    · injection t with hA t hc
      subst hA hc;have av:n=0:=by omega
      have aq:p=0:=by omega
      subst av aq
      go_enter func77,ntmps77
      go_wp2_with (first
        |(go_at_call 128;refine (M.o).mono ?_;rintro e X ⟨rfl,b⟩;have a:=qH b;clear b)
        | (at_builtin; refine qec _ rfl (.tmp 16) (.tmp 19) rfl w.heap.size _ [] rfl qaB.nil none 0 0 (l.take 0) rfl V.o ((show Row w w.heap.size none (qad (l.take 0)) from .inl (by simp [qad])).later a.o) (by simp <;> omega) a.o.size ?_
           intro ab ae j k;have E:=qH j;have d:=qH (a.o.trans k);clear j k)
        | (at_builtin; refine qec _ rfl (.tmp 21) (.tmp 23) rfl w.heap.size _ ([] ++ l.take 0) rfl (E.o.below ((bA _ _).alloc (aA _) _)) _ 1 1 [x] rfl rfl (qkA _ x) R.o (by have := d.o.size; simp; omega) ?_
           intro ag w3 q i;have B:=qH q;have h:=qH (d.o.trans (((bA _ _).alloc (aA _) _).mono d.o.size |>.trans i))
           clear q i)
        | (at_builtin; refine qec _ rfl (.tmp 25) (.tmp 28) rfl w.heap.size _ ([] ++ l.take 0 ++ [x]) rfl B.o none 0 0 (l.drop 0) rfl (by have := Z.o; omega) ((show Row w w.heap.size none (qad (l.drop 0)) from .inl (by rw [sB U.o.symm]; rfl)).later h.o) (by have := W.o; omega) h.o.size ?_
           intro J C m r;have G:=qH m;have I:=qH (h.o.trans r);clear m r))
      go_ret;refine ⟨_,rfl,?_,I.o⟩;rw [Y.o];exact (by simpa using G.o:qaB w.heap.size C J _).low S
    · injection N with hA t hc
      subst hA;clear t hc;have ah:qI (Row w w.heap.size (some ⟨g,0,none⟩) (qad (l.take p))):=qH (by have :=ac.o.cut p;rwa [show (qad l).take p=qad (l.take p) by simp [qad,List.map_take]] at this);by_cases ai:c=p
      · have T:qI (Row w w.heap.size (some ⟨g,0,none⟩) (qad (l.drop p))):=qH (.inl (by rw [pC (by have :=U.o;omega)];rfl))
        have ak:=ai.symm;clear ai;subst ak
        go_enter func77,ntmps77
        go_wp2_with (first
          |(go_at_call 128;refine (M.o).mono ?_;rintro e X ⟨rfl,b⟩;have a:=qH b;clear b)
          | (at_builtin; refine qec _ rfl (.tmp 16) (.tmp 19) rfl w.heap.size _ [] rfl qaB.nil (some ⟨g, 0, none⟩) p _ (l.take p) rfl V.o ((ah.o).later a.o) (by simp <;> omega) a.o.size ?_
             intro ab ae j k;have E:=qH j;have d:=qH (a.o.trans k);clear j k)
          | (at_builtin; refine qec _ rfl (.tmp 21) (.tmp 23) rfl w.heap.size _ ([] ++ l.take p) rfl (E.o.below ((bA _ _).alloc (aA _) _)) _ 1 1 [x] rfl rfl (qkA _ x) R.o (by have := d.o.size; simp; omega) ?_
             intro ag w3 q i;have B:=qH q;have h:=qH (d.o.trans (((bA _ _).alloc (aA _) _).mono d.o.size |>.trans i))
             clear q i)
          | (at_builtin; refine qec _ rfl (.tmp 25) (.tmp 28) rfl w.heap.size _ ([] ++ l.take p ++ [x]) rfl B.o _ _ _ (l.drop p) rfl (by have := Z.o; omega) ((T.o).later h.o) (by have := W.o; omega) h.o.size ?_
             intro J C m r;have G:=qH m;have I:=qH (h.o.trans r);clear m r))
        go_ret;refine ⟨_,rfl,?_,I.o⟩;rw [Y.o];exact (by simpa using G.o:qaB w.heap.size C J _).low S
      · have T:qI (Row w w.heap.size (some ⟨g,p,none⟩) (qad (l.drop p))):=qH (by have :=ac.o.dropped p;rwa [kB] at this)
        have az:p<c:=by omega
        go_enter func77,ntmps77
        go_wp2_with (first
          |(go_at_call 128;refine (M.o).mono ?_;rintro e X ⟨rfl,b⟩;have a:=qH b;clear b)
          | (at_builtin; refine qec _ rfl (.tmp 16) (.tmp 19) rfl w.heap.size _ [] rfl qaB.nil (some ⟨g, 0, none⟩) p _ (l.take p) rfl V.o ((ah.o).later a.o) (by simp <;> omega) a.o.size ?_
             intro ab ae j k;have E:=qH j;have d:=qH (a.o.trans k);clear j k)
          | (at_builtin; refine qec _ rfl (.tmp 21) (.tmp 23) rfl w.heap.size _ ([] ++ l.take p) rfl (E.o.below ((bA _ _).alloc (aA _) _)) _ 1 1 [x] rfl rfl (qkA _ x) R.o (by have := d.o.size; simp; omega) ?_
             intro ag w3 q i;have B:=qH q;have h:=qH (d.o.trans (((bA _ _).alloc (aA _) _).mono d.o.size |>.trans i))
             clear q i)
          | (at_builtin; refine qec _ rfl (.tmp 25) (.tmp 28) rfl w.heap.size _ ([] ++ l.take p ++ [x]) rfl B.o _ _ _ (l.drop p) rfl (by have := Z.o; omega) ((T.o).later h.o) (by have := W.o; omega) h.o.size ?_
             intro J C m r;have G:=qH m;have I:=qH (h.o.trans r);clear m r))
        go_ret;refine ⟨_,rfl,?_,I.o⟩;rw [Y.o];exact (by simpa using G.o:qaB w.heap.size C J _).low S
def qiv (A:Option Addr) (m c:Nat) (l:List Nm) (w:World) (C:Row w w.heap.size A (qad l)) (L:l.length=m) (W:m<=1073741824):
  yG 120 #[.slice A m c] w fun e w'=>e= .returned (.bool (qdB l))/\wG w w':=by
 have E:=qH C;clear C;subst L;have ⟨G,v⟩:=qE (qdB l);rw [<- v];have D:=qH v;clear v
 go_enter func120,ntmps120
 go_wp2
 go_loopw [2,3] (fun r i wr=>quy l w r i wr) (fun _ i _=>l.length-(intOf i).toNat)
 case atStart=>exact ⟨rfl,1,by omega,rfl,bA _ _,fun j _ _ _=>by omega⟩
 case round=>
  obtain ⟨rfl,k,X,rfl,d,g⟩:=hrel;by_cases H:k<l.length
  ·have ⟨J,Q,O,_,P⟩:=qdr (E.o.below d) H
   subst O;have F:wr.cell? ⟨J,Q+(k-1),none⟩=some (.string ⟨l[k-1].toArray⟩):=by
    have ⟨T,Y,p,_,I⟩:=qdr (E.o.below d) (k:=k-1) (by omega);injection p with p
    injection p with e3 e4
    subst e3 e4;exact I
   have ⟨x,B,h⟩:=qa8 l[k];have ⟨y,q,n⟩:=qa8 l[k-1];rw [<- B] at P;rw [<- q] at F;have ⟨j,a⟩:=qE (k-1);have Z:IntKind.i64.wrap ((k:Int)-1)=(j:Int):=by rw [iG _ (by omega)];omega
   have V:j<l.length:=by omega
   rw [<- a] at F;by_cases b:l[k-1]<l[k]
   ·have S:=qjW (s:=y) (t:=x) (by rw [h,n];exact b)
    have N:qI (∀ j (a:j<l.length),0<j->j<k+1->l[j-1]<l[j]):=qH fun j a z U=>by
     by_cases e:j=k
     ·subst e;exact b
     ·exact g j a z (by omega)
    clear B h q n a g b;go_wp2
    go_quiet (fail)
    go_wp2;go_roundw
    case rel=>exact ⟨rfl,k+1,by omega,by go_num,d.trans ⟨rfl,rfl,rfl,aA _,fun _ _=>rfl⟩,N.o⟩
    case measure=>simp [intOf];omega
   ·have K:G=false:=by rw [D.o];exact qso H (by omega) b
    subst K;have S:=qjX (s:=y) (t:=x) (by rw [h,n];exact b);clear B h q n a g b;go_wp2
    go_quiet (fail)
    go_wp2;go_ret;exact ⟨rfl,d.trans ⟨rfl,rfl,rfl,aA _,fun _ _=>rfl⟩⟩
  ·have R:G=true:=by rw [D.o];exact qsp fun i M z=>g i M z (by omega)
   subst R;clear g;go_wp2;go_ret;exact ⟨rfl,d⟩
structure qgL (B o b1 b2:Nat) (l:List Nm) (vs:List Nat) (s:ByteArray) (W:World):Prop where
 dict:qce W B o l vs
 var:W.heap[b1]?=some (.cells #[.pointer (some ⟨B,o,none⟩)] 139 (0,0))
 text:W.heap[b2]?=some (.cells #[.string s] 9 (0,0))
def qgL.below {o:Nat} {vs:List Nat} {s:ByteArray} (a:qgL B o k n l vs s W) (b:wG W w):qgL B o k n l vs s w:=
 ⟨a.dict.below b,(b.block _ (mG a.var)).trans a.var,(b.block _ (mG a.text)).trans a.text⟩
def qvM (B o i g k:Nat) (l:List Nm) (vs:List Nat) (s:ByteArray) (W:World) (a:qgL B o i g l vs s W) (m:k<l.length) (v:l.length<=1073741824):
  yG 178 #[.int .i64 (k:Int),.pointer (some ⟨i,0,none⟩),.pointer (some ⟨g,0,none⟩)] W fun e w'=>e= .returned (.int .i64 (qaO l[k] s.data.toList))/\∃ q,w'=W.drewN q:=by
 have ⟨b,D,c,h1,h2,h3,H,y,A⟩:=a.dict.ent m;have E:=kG a.var;have C:=kG a.text;have ⟨x,p,h⟩:=qa8 l[k];rw [<- p] at y;have d:=fun w=>qnv x s w
 rw [h] at d;have ⟨z,j⟩:=qE (qaO l[k] s.data.toList);rw [<- j] at d ⊢;have t:qI (∀ n,yG 153 #[.string x,.string s] (W.drewN n) fun e w'=>e= .returned (.int .i64 z)/\w'=W.drewN n):=qH fun n=>(d _).mono fun _ _ a=>⟨a.1,a.2.symm⟩
 have ⟨n,r⟩:=qE l.length;rw [<- r] at h1 h2 v m;have G:(0:Int)<=(k:Int):=by omega
 have F:(k:Int)<(n:Int):=by omega
 clear p h j r a d A
 go_enter func178,ntmps178
 go_wp2
 go_quiet ((go_at_call 153;exact Calls.quiet_of_same (t.o _)))
 go_wp2;go_ret;exact ⟨rfl,_,rfl⟩
def qnX (B o e d:Nat) (l:List Nm) (vs:List Nat) (s:ByteArray) (w:World) (u4 u5 u6 u7:Value) (wr:World):Prop:=
 u4= .int .i64 0/\u5= .bool false/\∃ a b:Nat,u6= .int .i64 (a:Int)/\u7= .int .i64 (b:Int)/\a<=b/\b<=l.length/\wG w wr/\
  (∀ j (c:j<l.length),j<a->l[j]<s.data.toList)/\∀ j (c:j<l.length),b<=j->s.data.toList<l[j]
def qvN (B o t r:Nat) (l:List Nm) (vs:List Nat) (s:ByteArray) (w:World) (A:qgL B o t r l vs s w) (M:qaW l) (O:l.length<=1073741824):
  yG 177 #[.int .i64 (l.length:Int),.func (.func 178) #[] #[.pointer (some ⟨t,0,none⟩),.pointer (some ⟨r,0,none⟩)]] w
   fun e w'=>e= .returned (.tuple #[.int .i64 (qaF l s.data.toList),.bool (isN l s.data.toList)])/\wG w w':=by
 have H:=qH A;have D:=qH M;have U:=qH O;have ⟨n,J⟩:=qE l.length;rw [<- J] at O ⊢;have g:=qH J;have ⟨p,I⟩:=qE (qaF l s.data.toList);have ⟨z,E⟩:=qE (isN l s.data.toList);rw [<- I,<- E];have N:=qH I;have P:=qH E;clear A M J I E
 go_enter func177,ntmps177
 go_wp2
 go_loopw [4,5,6,7] (qnX B o t r l vs s w) (fun _ _ a b _=>(intOf b-intOf a).toNat)
 case atStart=>exact ⟨rfl,rfl,0,n,rfl,rfl,by omega,by have :=g.o;omega,bA _ _,fun j _ d=>by omega,fun j d ae=>by have :=g.o;omega⟩
 case round=>
  obtain ⟨rfl,rfl,a,b,rfl,rfl,Z,V,i,k,x⟩:=hrel;rw [<- g.o] at V;by_cases Q:a<b
  ·have ⟨m,S⟩:=qE (a+(b-a)/2:Nat)
   have af:(a:Int)+((b:Int)-(a:Int))/2=(m:Int):=by omega
   have ai:a<=m:=by omega
   have ac:m<b:=by omega
   have y:m<l.length:=by rw [<- g.o];omega
   have h:=qH (qvM B o t r m l vs s wr (H.o.below i) y U.o);have ak:decide ((a:Int)<(b:Int))=true:=yA (by omega);have aj:decide (a<b)=true:=yA Q;have ab:(0:Int)<=(b:Int)-(a:Int):=by omega
   have ad:(b:Int)-(a:Int)<=1073741824:=by omega
   have ag:(0:Int)<=(m:Int):=by omega
   have ah:(m:Int)<=1073741824:=by omega
   have aa:(a:Int)<=1073741824:=by omega
   have Y:=qH k;have W:=qH x;clear S k x;rcases qey l[m] s.data.toList with v|heq|hgt
   ·have c:qaO l[m] s.data.toList= -1:=by simp [qaO,v]
    rw [c] at h;have X:qI (∀ j (d:j<l.length),j<m+1->l[j]<s.data.toList):=qH fun j d C=>by
     by_cases e:j=m
     ·subst e;exact v
     ·exact qdq (qeR D.o y (by omega)) v
    clear c v
    go_wp2_with (go_at_call 178;refine (h.o).mono ?_;rintro e w' ⟨rfl,q,rfl⟩)
    go_roundw
    case rel=>exact ⟨rfl,rfl,m+1,b,by go_num,rfl,by omega,by rw [<- g.o];omega,i.trans ⟨rfl,rfl,rfl,aA _,fun _ _=>rfl⟩,X.o,W.o⟩
    case measure=>simp [intOf];omega
   ·have c:qaO l[m] s.data.toList=0:=by
     unfold qaO;rw [dA (by rw [heq];exact qff _),eA heq]
    rw [c] at h;have L:=qjx y (fun j d C=>by have :=qeR D.o y C;rwa [heq] at this) heq;have F:p=m:=by rw [N.o];exact L.1
    have G:z=true:=by rw [P.o];exact L.2
    subst F G;clear c heq L
    go_wp2_with (go_at_call 178;refine (h.o).mono ?_;rintro e w' ⟨rfl,q,rfl⟩)
    go_ret2;exact ⟨rfl,i.trans ⟨rfl,rfl,rfl,aA _,fun _ _=>rfl⟩⟩
   ·have c:qaO l[m] s.data.toList=1:=by
     unfold qaO;rw [dA (qha hgt),dA (qjw hgt).symm]
    rw [c] at h;have T:qI (∀ j (d:j<l.length),m<=j->s.data.toList<l[j]):=qH fun j d C=>by
     by_cases e:m=j
     ·subst e;exact hgt
     ·exact qdq hgt (qeR D.o d (by omega))
    clear c hgt
    go_wp2_with (go_at_call 178;refine (h.o).mono ?_;rintro e w' ⟨rfl,q,rfl⟩)
    go_roundw
    case rel=>exact ⟨rfl,rfl,a,m,rfl,rfl,by omega,by rw [<- g.o];omega,i.trans ⟨rfl,rfl,rfl,aA _,fun _ _=>rfl⟩,Y.o,T.o⟩
    case measure=>simp [intOf];omega
  ·have R:a=b:=by omega
   subst R;have K:=qmj (s:=s.data.toList) (by rw [<- g.o];omega) k (fun A=>x a A (aA _));have F:p=a:=by rw [N.o];exact K.1
   have G:z=false:=by rw [P.o];exact K.2
   subst F G;clear k x K Q;go_wp2;go_ret2;exact ⟨rfl,i⟩
def qvO (B o:Nat) (l:List Nm) (vs:List Nat) (s:ByteArray) (w:World) (q:qce w B o l vs) (j:qaW l) (t:l.length<=1073741824):
  yG 143 #[.pointer (some ⟨B,o,none⟩),.string s] w fun e w'=>e= .returned (.tuple #[.int .i64 (qaF l s.data.toList),.bool (isN l s.data.toList)])/\wG w w':=by
 have ⟨b,a⟩:=qE ((w.alloc (.cells #[.pointer (some ⟨B,o,none⟩)] 139)).alloc (.cells #[.string s] 9));have g:wG w b:=by rw [a];exact ((bA _ _).alloc (aA _) _).alloc (by simp) _
 have d:qgL B o w.heap.size (w.heap.size+1) l vs s b:=by
  refine ⟨q.below g,?_,?_⟩
  ·rw [a,pB _ _ _ (by simp)];exact jA w _
  ·rw [a];have :=jA (w.alloc (.cells #[.pointer (some ⟨B,o,none⟩)] 139)) (.cells #[.string s] 9);simpa using this
 have k:=qH (qj9 B o l vs b d.dict);have c:=qH (qvN B o _ _ l vs s b d j t);have r:=qH g;have ⟨n,m⟩:=qE l.length;rw [<- m] at k c;have ⟨p,i⟩:=qE (qaF l s.data.toList);have ⟨z,h⟩:=qE (isN l s.data.toList);rw [<- i,<- h] at c;rw [<- i,<- h];have v:=qH a;clear i h m q j t g d a
 go_enter func143,ntmps143
 go_wp2_with (first
  |(go_at_call 98;rw [<- v.o];refine (k.o).mono ?_;rintro e w' ⟨rfl,rfl⟩)
  |(go_at_call 177;refine (c.o).mono ?_;rintro e w' ⟨rfl,x⟩))
 go_ret2;exact ⟨rfl,r.o.trans (x.mono r.o.size)⟩
def qvP (B o:Nat) (l:List Nm) (vs:List Nat) (s:ByteArray) (w:World) (h:qce w B o l vs) (v:qaW l) (t:l.length<=1073741824):
  yG 101 #[.pointer (some ⟨B,o,none⟩),.string s] w
   fun e w'=>e= .returned (.tuple #[.pointer (if isN l s.data.toList=true then some ⟨vs.getD (qaF l s.data.toList) 0,0,none⟩ else none),.bool (isN l s.data.toList)])/\wG w w':=by
 have d:=qvO B o l vs s w h v t;have i:=qjy (l:=l) (s:=s.data.toList);have ⟨p,j⟩:=qE (qaF l s.data.toList);have ⟨z,g⟩:=qE (isN l s.data.toList);rw [<- j,<- g] at d ⊢;rw [<- g] at i;cases z with
 |true=>
  have r:p<l.length:=by rw [j];exact (i rfl).1
  have H:=qH h;have m:=qH d;have C:=qH r;rw [eA rfl];have ⟨y,k⟩:=qE (vs.getD p 0);rw [<- k];have x:=qH k;have ⟨n,q⟩:=qE l.length;have A:=qH q;rw [<- q] at t r;have K:(0:Int)<=(p:Int):=by omega
  have J:(p:Int)<(n:Int):=by omega
  clear h d i j g q k
  go_enter func101,ntmps101
  go_wp2_with (go_at_call 143;refine (m.o).mono ?_)
  rintro e D ⟨rfl,a⟩;have ⟨b,I,c,h1,h2,h3,L,F,G⟩:=(H.o.below a).ent C.o;rw [<- A.o] at h1 h2;rw [<- x.o] at G;have E:=qH a;clear F a;go_wp2;go_ret2;exact ⟨rfl,E.o⟩
 |false=>
  have m:=qH d;rw [dA (by decide)];clear h d i j g
  go_enter func101,ntmps101
  go_wp2_with (go_at_call 143;refine (m.o).mono ?_;rintro e D ⟨rfl,a⟩)
  go_ret2;exact ⟨rfl,a⟩
structure qnY (b D:Nat) (l:List Nm) (vs:List Nat) (W:World):Prop where
 vlen:vs.length=l.length
 var:∃ A c,W.heap[D]?=some (.cells #[.slice A l.length c] 106 (0,0))/\l.length<=c/\c<=maxLen/\Row W b A (qaY l vs)
def qnZ (b:Nat) (l:List Nm) (vs:List Nat) (w:World) (e:Ending) (w':World):Prop:=
 ∃ a,e= .returned (.func (.func 99) #[] #[.pointer (some ⟨a,0,none⟩)])/\w.heap.size<=a/\qnY b a l vs w'/\wG w w'/\w'.heap.size=a+1
def qn0 (B o:Nat) (i:Int) (l:List Nm) (vs:List Nat) (w0 w:World) (h:qce w0 B o l vs) (r:wG w0 w) (ad:l.length<=1048576) (au:i<=9223372036854775807):
  yG 54 #[.pointer (some ⟨B,o,none⟩),.int .i64 i] w (qnZ w0.heap.size (l.drop i.toNat) (vs.drop i.toNat) w):=by
 have D:=h.below r;have J:=D.2.1;have S:=r.size;have M:=qH (fun W (E:wG w W)=>qj9 B o l vs W (D.below E));have ⟨m,x⟩:=qE (i.toNat:Nat);have ⟨n,L⟩:=qE l.length;have ⟨k,z⟩:=qE (min m n:Nat);have ay:∀ (w:World) (ts:Array TypeId) (t:TypeId),(Builtin.max_ ts t #[.int .i64 i,.int .i64 0]).run prog w= .ok (.int .i64 (m:Int)) w:=fun w ts t=>by rw [run_max_int2,x];congr 2;split<;>omega
 have av:∀ (w:World) (ts:Array TypeId) (t:TypeId),(Builtin.min_ ts t #[.int .i64 m,.int .i64 n]).run prog w= .ok (.int .i64 (k:Int)) w:=fun w ts t=>by rw [run_min_int2,z];congr 2;split<;>omega
 have O:l.drop i.toNat=l.drop k:=by
  rw [<- x];by_cases h1:m<=n
  ·rw [z,eD h1]
  ·rw [pC (by omega),pC (by omega)]
 have U:vs.drop i.toNat=vs.drop k:=by
  rw [<- x];by_cases h1:m<=n
  ·rw [z,eD h1]
  ·rw [pC (by omega),pC (by omega)]
 rw [O,U];have az:k<=n:=by omega
 have ⟨A,c,T,Z,ak,a,V⟩:=h.read;have G:=(r.cell (p:=⟨B,o,none⟩) h.lt).trans T;have K:=a.below r;clear T a;have ⟨b0,P⟩:=qE w0.heap.size;rw [<- P] at K S ⊢;rw [<- L] at G Z M ad;have y:=qH L;have Y:=qH J;have ab:=qH K;have aq:(0:Int)<=(k:Int):=by omega
 have aw:(k:Int)<=(n:Int):=by omega
 have ap:(n:Int)<=(c:Int):=by omega
 have ax:(n:Int)<=1048576:=by omega
 have R:=qH D.lt;unfold maxLen at ak;have Q:qI (∀ C q W,(W.heap.size=w.heap.size+1/\wG w W/\W.heap[w.heap.size]?=some (.cells #[.slice C (n-k) q] 106 (0,0)))->n-k<=q->q<=maxLen->Row w b0 C (qaY (l.drop k) (vs.drop k))->
   qnZ b0 (l.drop k) (vs.drop k) w (.returned (.func (.func 99) #[] #[.pointer (some ⟨w.heap.size,0,none⟩)])) W):=qH fun C q W ⟨h1,h2,h3⟩ ai al an=>
  ⟨w.heap.size,rfl,aA _,⟨by rw [rB,rB,J],C,q,by rw [rB,<- y.o];exact h3,by rw [rB,<- y.o];exact ai,al,an.below (h2.mono S)⟩,h2,by omega⟩
 clear D h r P x z O U K J L;rcases V with ⟨rfl,I,rfl⟩|⟨g,rfl⟩
 ·have ah:n=0:=by rw [y.o,I];rfl
  have aa:k=0:=by omega
  have a:Row w b0 none (qaY (l.drop k) (vs.drop k)):= .inl (by rw [I];simp [qfM]);subst ah aa;have ao:min (m:Int) 0=0:=by omega
  have N:=qH a;have b:((w.alloc (.cells #[.slice none 0 0] 106)).drew).heap[w.heap.size]?=some (.cells #[.slice none 0 0] 106 (0,0)):=jA w _;have d:wG w (w.alloc (.cells #[.slice none 0 0] 106)).drew:=((bA _ w).alloc (aA _) _).drew;have ae:=kG b;have ac:=nG b;have aj:=(d.cell (p:=⟨B,o,none⟩) R.o).trans G;have H:=qH d;clear a b d I
  go_enter func54,ntmps54
  go_wp2
  go_region_law (first
    |(go_simp;go_at_call 98;refine (M.o _ (by first|exact (bA _ w).drew|exact H.o)).mono ?_;rintro e w' ⟨rfl,rfl⟩))
  all_goals
   have s:=Q.o none 0 ((w.alloc (.cells #[.slice none 0 0] 106)).drew) ⟨by simp,((bA _ w).alloc (aA _) _).drew,jA w _⟩ (by omega) (by unfold maxLen;omega) N.o;have F:=qH s;clear s;go_wp2;go_ret;exact F.o
 ·obtain ⟨v,ag⟩:∃ v,(if c=k then (some ⟨g,0,none⟩:Option Addr) else some ⟨g,k*2,none⟩)=v:=⟨_,rfl⟩
  have a:Row w b0 v (qaY (l.drop k) (vs.drop k)):=by
   rw [<- ag];by_cases af:c=k
   ·exact .inl (by rw [pC (by rw [<- y.o];omega)];simp [qfM])
   ·rw [dA af,<- qj8 k Y.o]
    rcases ab.o with h|⟨a0,ar,e,E,X⟩
    ·exact .inl (by rw [h];simp)
    ·injection e with e
     injection e with e1 e2
     subst e1 e2;refine .inr ⟨g,k*2,rfl,E,fun j u am=> ?_⟩;have :=X (k*2+j) u (by rw [<- am];simp);rwa [kB] at this
  have N:=qH a;have b:((w.alloc (.cells #[.slice none 0 0] 106)).drew).heap[w.heap.size]?=some (.cells #[.slice none 0 0] 106 (0,0)):=jA w _;have d:wG w (w.alloc (.cells #[.slice none 0 0] 106)).drew:=((bA _ w).alloc (aA _) _).drew;have ae:=kG b;have ac:=nG b;have aj:=(d.cell (p:=⟨B,o,none⟩) R.o).trans G;have H:=qH d;clear a b d
  go_enter func54,ntmps54
  go_wp2
  go_region_law (first
    |(go_simp;go_at_call 98;refine (M.o _ (by first|exact (bA _ w).drew|exact H.o)).mono ?_;rintro e w' ⟨rfl,rfl⟩))
  all_goals
   have s:=Q.o v (c-k) ((w.alloc (.cells #[.slice v (n-k) (c-k)] 106)).drew) ⟨by simp,((bA _ w).alloc (aA _) _).drew,jA w _⟩ (by omega) (by unfold maxLen;omega) N.o;have F:=qH s;clear s;go_wp2;go_ret;exact F.o
theorem qn1:(prog.info? 88).map (fun i=>(i.zero,i.size,i.bytes))=some (some (.agg #[.int .i64 0,.int .i64 0]),2,16):=by kernel_rfl
def qvQ (l:List (List Int)) (w:World) (e:Ending) (w':World):Prop:=∃ (a:Int) (o:List Pl) (A:Option Addr) (c:Nat),qea l a o/\e= .returned (.tuple #[.slice A o.length c,.int .i64 a])/\(o.length<=c/\c<=maxLen)/\Row w' w'.heap.size A (plc o)/\wG w w'
def qvR (l:List (List Int)) (w:World) (e:Ending) (w':World):Prop:=∃ (a:Int) (o:List Pl) (A:Option Addr) (c:Nat),qea l a o/\e= .returned (.tuple #[.slice A o.length c,.int .i64 a])/\(o.length<=c/\c<=maxLen)/\Row w' w'.heap.size A (plc o)/\wG w w'/\o.length<=1000000
def qvS (l:List (List Int)) (w:World) (e:Ending) (w':World):Prop:=∃ (a:Int) (o:List Pl) (v:Value),qea l a o/\e= .returned (.tuple #[v,.int .i64 a])/\w'.ownsRow w.heap.size 88 2 v o.length (plc o)/\wG w w'/\o.length<=1000000
def qaL (a:List Nat):List Int:=a.map fun (x:Nat)=>(x:Int)
def qvT (a:List Nat) (b v:Nat):qaa (qaL (a.set b v))=(qaa (qaL a)).set b (.int .i64 (v:Int)):=by simp [qaa,qaL,List.map_set]
def qkB:∀ (a:List Nat) (b:Nat),b<a.length->(a.set b (a.getD b 0+1)).sum=a.sum+1
 |x::a,0,_=>by simp;omega
 |x::a,b+1,c=>by
  have :=qkB a b (by simpa using c);simp at this ⊢;omega
def qhz:∀ {l:List (List Int)} {a:List Nat},a.length=l.length->(∀ i (c:i<l.length),a.getD i 0<=l[i].length)->a.sum<=(l.map List.length).sum
 |[],a,b,_=>by simp at b;subst b;simp
 |s::l,[],b,_=>by simp at b
 |s::l,x::a,b,d=>by
  have e:=d 0 (by simp);have h1:=qhz (l:=l) (a:=a) (by simpa using b) fun i c=>by
   have :=d (i+1) (by simpa using c);rw [zC] at this;simpa using this
  simp at e ⊢;omega
def qn2 {l:List (List Int)} (b:l.length=m) (g:m<=1000) (e:∀ s∈l,s.length<=1000):(l.map List.length).sum<=1000000:=by
 have :∀ l:List (List Int),(∀ s∈l,s.length<=1000)->(l.map List.length).sum<=l.length*1000:=by
  intro l
  induction l with
  |nil=>intro _;simp
  |cons s l c=>
   intro a;have h1:=a s (eB ..);have h2:=c fun x d=>a x (oB _ d)
   simp only [xB,List.sum_cons,nA];omega
 have :=this l e;rw [b] at this;omega
def qgk:Value->Nat
 |.slice _ n _=>n
 |_=>0
def qvU (l:List (List Int)) (w:World) (a b i u:Value) (wr:World):Prop:=a= .slice none 0 0/\b= .int .i64 0/\∃ k:Nat,k<=l.length/\i= .int .i64 (k:Int)/\(∀ j (c:j<l.length),j<k->qal (-1) l[j]=true)/\wG w wr
structure qhA (l:List (List Int)) (w:World) (g m:Nat) (a:List Nat) (o:List Pl) (last:Int) (vo:Value) (wr:World):Prop where
 mid:qdW l a o last
 cnt:o.length=a.sum
 o:wr.ownsRow w.heap.size 88 2 vo o.length (plc o)
 at_:wr.ownsRow w.heap.size 3 1 (.slice (some ⟨g,0,none⟩) m m) m (qaa (qaL a))
 below:wG w wr
def qhA.later {l:List (List Int)} {g:Nat} {a:List Nat} {o:List Pl} {last:Int} (b:qhA l w g m a o last v wr) (c:wG wr w'):qhA l w g m a o last v w':=
 ⟨b.mid,b.cnt,qaf b.o c,qaf b.at_ c,b.below.trans (c.mono b.below.size)⟩
def qkC (l:List (List Int)) (w:World) (g m:Nat) (c e b d:Value) (wr:World):Prop:=c= .slice none 0 0/\e= .int .i64 0/\∃ (a:List Nat) (o:List Pl) (last:Int),d= .int .i64 last/\qgk b=o.length/\qhA l w g m a o last b wr
def qed (l:List (List Int)) (a:List Nat) (k:Nat) (c:Int):Prop:=
 (c= -1/\∀ j,j<k->¬ InO l (j,a.getD j 0))\/∃ b:Nat,c=(b:Int)/\InO l (b,a.getD b 0)/\∀ j,j<k->InO l (j,a.getD j 0)->qaA l (b,a.getD b 0)<=qaA l (j,a.getD j 0)
def qed.skip {l:List (List Int)} {a:List Nat} (h:qed l a k z) (d:¬ InO l (k,a.getD k 0)):qed l a (k+1) z:=by
 rcases h with ⟨h1,h2⟩|⟨b,h1,h2,h3⟩
 ·refine .inl ⟨h1,fun j g=> ?_⟩
  by_cases e:j=k
  ·subst e;exact d
  ·exact h2 j (by omega)
 ·refine .inr ⟨b,h1,h2,fun j g c=> ?_⟩
  by_cases e:j=k
  ·subst e;exact absurd c d
  ·exact h3 j (by omega) c
def qed.first {l:List (List Int)} {a:List Nat} (d:qed l a k (-1)) (c:InO l (k,a.getD k 0)):qed l a (k+1) (k:Int):=by
 rcases d with ⟨_,h2⟩|⟨b,h1,_⟩
 ·refine .inr ⟨k,rfl,c,fun j h g=> ?_⟩
  by_cases e:j=k
  ·subst e;exact Int.le_refl _
  ·exact absurd g (h2 j (by omega))
 ·omega
def qed.take {l:List (List Int)} {a:List Nat} (g:qed l a k (b:Int)) (d:InO l (k,a.getD k 0)) (m:qaA l (k,a.getD k 0)<qaA l (b,a.getD b 0)):qed l a (k+1) (k:Int):=by
 rcases g with ⟨h1,_⟩|⟨h,h1,h2,h3⟩
 ·omega
 ·have e:h=b:=by omega
  subst e;refine .inr ⟨k,rfl,d,fun j i c=> ?_⟩;by_cases e:j=k
  ·subst e;exact Int.le_refl _
  ·have :=h3 j (by omega) c;omega
def qed.stay {l:List (List Int)} {a:List Nat} (h:qed l a k (b:Int)) (g:qaA l (b,a.getD b 0)<=qaA l (k,a.getD k 0)):qed l a (k+1) (b:Int):=by
 rcases h with ⟨h1,_⟩|⟨c,h1,h2,h3⟩
 ·omega
 ·have e:c=b:=by omega
  subst e;refine .inr ⟨c,rfl,h2,fun j i d=> ?_⟩;by_cases e:j=k
  ·subst e;exact g
  ·exact h3 j (by omega) d
def qhB (l:List (List Int)) (a:List Nat) (d:World) (e i:Value) (c:World):Prop:=∃ (k:Nat) (b:Int),k<=l.length/\i= .int .i64 (k:Int)/\e= .int .i64 b/\qed l a k b/\wG d c
def qkD {l:List (List Int)} {g:Nat} {a:List Nat} {o:List Pl} {last:Int} (b:qhA l w g m a o last v w') {j:Nat} (c:j<l.length):w'.cell? ⟨g,j,none⟩=some (.int .i64 (a.getD j 0:Int)):=by
 have d:=b.at_.cells (g:=g) rfl j (.int .i64 (a.getD j 0:Int)) (by
  have :j<a.length:=by rw [b.mid.len];exact c
  simp [qaa,qaL,oA this,mA])
 simpa [cC] using d
def qvV (l r:List Po) (w:World) (q i:Value) (wr:World):Prop:=q= .bool false/\∃ k:Nat,k<=l.length/\i= .int .i64 (k:Int)/\wG w wr/\∀ j (a:j<l.length) (b:j<r.length),j<k->l[j]=r[j]
def qvW (A C:Option Addr) (n m c d:Nat) (l r:List Po) (w:World) (a4:l.length=n) (a7:r.length=m) (bb:qbf w w.heap.size A l) (a5:qbf w w.heap.size C r) (bu:n<=9223372036854775807) (b2:m<=9223372036854775807) (a6:∀ p∈l,p.2.length<=9223372036854775807) (av:∀ p∈r,p.2.length<=9223372036854775807):
    yG 46 #[.slice A n c,.slice C m d] w fun e w'=>e= .returned (.bool (decide (l=r)))/\wG w w':=by
  have M:=qH a4;have ad:=qH a7;have bo:=qH bb;have br:=qH a5;have be:=qH a6;have bc:=qH av;have ⟨z,aq⟩:=qE (decide (l=r));rw [<- aq];have ae:=qH aq;clear bb a5 a6 av aq a4 a7;by_cases aw:m=n
  · subst aw
    go_enter func46,ntmps46
    go_wp2
    go_loopw [4,5] (fun q i wr=>qvV l r w q i wr) (fun _ i _=>m-(intOf i).toNat)
    case atStart=>exact ⟨rfl,0,kA _,rfl,bA _ _,fun j _ _ G=>by omega⟩
    case round=>
      obtain ⟨rfl,k,bt,rfl,D,ag⟩:=hrel;have bx:=D.size;by_cases a3:k<m
      · have O:k<l.length:=by rw [M.o];exact a3
        have P:k<r.length:=by rw [ad.o];exact a3
        have ⟨t,v,bp,E,y,T,H,b,ac,bv,J⟩:=(bo.o.below D).at_ O;have ⟨h,x,bd,F,s,Q,X,g,Y,bz,K⟩:=(br.o.below D).at_ P;subst bp bd;have a1:l.getD k (0,[])=l[k]:=by rw [mA,oA O];rfl
        have ay:r.getD k (0,[])=r[k]:=by rw [mA,oA P];rfl
        rw [a1] at y b ac J;rw [ay] at s g Y K;clear a1 ay;have Z:=be.o l[k] (pA O);have af:=bc.o r[k] (pA P);have bf:=qH ag;clear ag;have ⟨bh,ar⟩:=qE (l[k]);have ⟨q2,ai⟩:=qE (r[k]);rw [<- ar] at y b ac J Z;rw [<- ai] at s g Y K af;have ao:=qH ar;have am:=qH ai;clear ar ai;obtain ⟨ba,ah⟩:=bh;obtain ⟨ax,ab⟩:=q2;simp only at y b ac J s g Y K Z af;have bw:(0:Int)<=k:=by omega
        have b0:(k:Int)<m:=by omega
        have bj:=qH J;have bg:=qH K;clear J K;have ⟨L,al⟩:=qE ah.length;have ⟨N,ak⟩:=qE ab.length;rw [<- al] at b ac Z;rw [<- ak] at g Y af;have bk:=qH al;have bl:=qH ak;clear al ak;have ⟨aj,a0⟩:=qE (decide (ah=ab));have au:=qH a0;have ap:qI (∀ R,Below w.heap.size wr R->yG 24 #[.slice T L H,.slice Q N X] R fun e w'=>e= .returned (.bool aj)/\wG R w'):=qH fun R h1=>by
          rw [au.o];exact qkz T Q L N H X ah ab R bk.o.symm bl.o.symm ((bj.o.below h1).more (by have :=h1.size;omega)) ((bg.o.below h1).more (by have :=h1.size;omega)) Z af
        clear a0;by_cases aa:ba=ax
        · subst aa
          by_cases an:aj=true
          · subst an
            have bi:qI (∀ j (G:j<l.length) (a9:j<r.length),j<k+1->l[j]=r[j]):=qH fun j G a9 bs=>by
              by_cases e:j=k
              · subst e
                have bq:ah=ab:=mD au.o.symm;rw [<- ao.o,<- am.o,bq]
              · exact bf.o j G a9 (by omega)
            go_wp2
            go_region_held3 (fun w'=>w'.cell? ⟨t,v+k*2+1,none⟩=some (.slice T L H)/\w'.cell? ⟨h,x+k*2+1,none⟩=some (.slice Q N X))
              (first|exact ⟨b,g⟩|exact ⟨V,W⟩)
              (first
                | (go_at_call 24; refine (ap.o _ (bA _ _).drew).mono ?_; rintro e a2 ⟨rfl, B⟩
                   have a:=(bA w.heap.size wr).drew.trans (B.mono (by show w.heap.size<=wr.heap.size;omega));have V:=(a.cell (p:=⟨t,v+k*2+1,none⟩) E).trans b;have W:=(a.cell (p:=⟨h,x+k*2+1,none⟩) F).trans g;have az:=(a.cell (p:=⟨t,v+k*2,none⟩) E).trans y;have a8:=(a.cell (p:=⟨h,x+k*2,none⟩) F).trans s;have S:=qH a;clear B a))
            have U:=qH (D.trans S.o);clear y s b g;go_wp2
            go_quiet (fail)
            go_wp2;go_roundw
            case rel=>exact ⟨rfl,k+1,by omega,by go_num,U.o.trans ⟨rfl,rfl,rfl,aA _,fun _ _=>rfl⟩,bi.o⟩
            case measure=>simp [intOf];omega
          · have bm:aj=false:=by simpa using an
            subst bm;have I:z=false:=by
              rw [ae.o];refine qky O P fun e=>vF au.o.symm ?_
              rw [<- ao.o,<- am.o] at e;injection e
            subst I;clear an;go_wp2
            go_region_held3 (fun w'=>w'.cell? ⟨t,v+k*2+1,none⟩=some (.slice T L H)/\w'.cell? ⟨h,x+k*2+1,none⟩=some (.slice Q N X))
              (first|exact ⟨b,g⟩|exact ⟨V,W⟩)
              (first
                | (go_at_call 24; refine (ap.o _ (bA _ _).drew).mono ?_; rintro e a2 ⟨rfl, B⟩
                   have a:=(bA w.heap.size wr).drew.trans (B.mono (by show w.heap.size<=wr.heap.size;omega));have V:=(a.cell (p:=⟨t,v+k*2+1,none⟩) E).trans b;have W:=(a.cell (p:=⟨h,x+k*2+1,none⟩) F).trans g;have az:=(a.cell (p:=⟨t,v+k*2,none⟩) E).trans y;have a8:=(a.cell (p:=⟨h,x+k*2,none⟩) F).trans s;have S:=qH a;clear B a))
            have U:=qH (D.trans S.o);clear y s b g;go_wp2
            go_quiet (fail)
            go_wp2;go_ret;exact ⟨rfl,U.o.trans ⟨rfl,rfl,rfl,aA _,fun _ _=>rfl⟩⟩
        · have I:z=false:=by
            rw [ae.o];refine qky O P fun e=>aa ?_
            rw [<- ao.o,<- am.o] at e;injection e
          subst I;have b1:(ba != ax)=true:=by simpa using aa
          clear aa;go_wp2
          go_region_held3 (fun w'=>w'.cell? ⟨t,v+k*2+1,none⟩=some (.slice T L H)/\w'.cell? ⟨h,x+k*2+1,none⟩=some (.slice Q N X))
            (first|exact ⟨b,g⟩|exact ⟨V,W⟩)
            (first
              | (go_at_call 24; refine (ap.o _ (bA _ _).drew).mono ?_; rintro e a2 ⟨rfl, B⟩
                 have a:=(bA w.heap.size wr).drew.trans (B.mono (by show w.heap.size<=wr.heap.size;omega));have V:=(a.cell (p:=⟨t,v+k*2+1,none⟩) E).trans b;have W:=(a.cell (p:=⟨h,x+k*2+1,none⟩) F).trans g;have az:=(a.cell (p:=⟨t,v+k*2,none⟩) E).trans y;have a8:=(a.cell (p:=⟨h,x+k*2,none⟩) F).trans s;have S:=qH a;clear B a))
          have U:=qH (D.trans S.o);clear y s b g;go_wp2
          go_quiet (fail)
          go_wp2;go_ret;exact ⟨rfl,U.o.trans ⟨rfl,rfl,rfl,aA _,fun _ _=>rfl⟩⟩
      · have bn:z=true:=by rw [ae.o];exact qnV (M.o.trans ad.o.symm) fun j G=>ag j G (by rw [ad.o,<- M.o];exact G) (by have :=M.o;omega)
        subst bn;clear ag;go_wp2;go_ret;exact ⟨rfl,D⟩
  · have I:z=false:=by rw [ae.o];exact uA fun e=>aw (by rw [<- M.o,<- ad.o,e])
    subst I
    go_enter func46,ntmps46
    go_wp2;go_ret;exact ⟨rfl,bA _ _⟩
def qbD (vs:List Nat):List Value:=vs.map fun v=> .pointer (some ⟨v,0,none⟩)
def qiw {l:List Nat} (e:Row w B A (qbD l)) (g:k<l.length):∃ b a,A=some ⟨b,a,none⟩/\b<B/\w.cell? ⟨b,a+k,none⟩=some (.pointer (some ⟨l[k],0,none⟩)):=by
 obtain ⟨b,a,rfl,d,c⟩:=Row.at_ e (by simp [qbD];omega);exact ⟨b,a,rfl,d,c _ _ (by simp [qbD,g])⟩
def qhC (w:World) (zz B:Nat) (l:List Nm) (vs:List Nat):Prop:=
 zz<=B/\vs.length=l.length/\∃ v,w.heap[B]?=some (.cells #[v] 108 (0,0))/\w.ownsRow zz 177 2 v l.length (qaY l vs)
def qhC.read {vs:List Nat} (n:qhC w zz B l vs):
  ∃ A c,w.cell? ⟨B,0,none⟩=some (.slice A l.length c)/\l.length<=c/\c<=maxLen/\Row w w.heap.size A (qaY l vs)/\(A=none/\l=[]/\c=0\/∃ g,A=some ⟨g,0,none⟩):=by
 obtain ⟨h1,h2,v,h3,d⟩:=n;have k:=kG h3;obtain ⟨A,c,rfl,i,h⟩:=qaK d;refine ⟨A,c,k,i,?_,h,?_⟩
 ·rcases d.2 with ⟨a,_⟩|⟨g,m,j,b,_,_,_,e,_⟩
  ·injection a with _ _ a;omega
  ·injection b with _ _ b;omega
 ·rcases d.2 with ⟨a,e⟩|⟨g,m,j,b,_⟩
  ·injection a with a1 _ a3
   exact .inl ⟨a1,sB e,a3⟩
  ·injection b with a1
   exact .inr ⟨g,a1⟩
def qn3 (l:List Nm) (vs:List Nat) (w:World) (e:Ending) (w':World):Prop:=∃ B,e= .returned (.tuple #[.pointer (some ⟨B,0,none⟩),.int .i64 0])/\qhC w' w.heap.size B l vs/\wG w w'
def qkE (B:Nat) (l:List Nm) (vs:List Nat) (w:World) (i:Value) (wr:World):Prop:=
 ∃ (k:Nat) (v:Value),k<=l.length/\i= .int .i64 (k:Int)/\wr.heap[B]?=some (.cells #[v] 108 (0,0))/\wr.ownsRow w.heap.size 177 2 v k (qaY (l.take k) (vs.take k))/\wG w wr
def qn4 {e:TypeId} {size:Nat} {cs:Array Value} (a:w.ownsRow zz e size v n xs) (d:w.heap[B]?=some (.cells cs t fr)) (c:t≠e) (o:Nat) (u:Value):(w.setCell ⟨B,o,none⟩ u).ownsRow zz e size v n xs:=
 qaq a fun g b=>rA _ _ _ _ (fun h=>qan a d c (by rw [b,h]))
def qvX {ys:List Value} (a:w0.heap[B]?=some (.cells #[v] 108 (0,0))) (c:w0.ownsRow zz 177 2 v n xs) (b:w0.grownBy w v.ownBlock) (g:w.ownsRow zz 177 2 v' (n+1) ys) (h:zz<=w0.heap.size) (d:zz<=B):
  w.heap[B]?=some (.cells #[v] 108 (0,0))/\(w.setCell ⟨B,0,none⟩ v').heap[B]?=some (.cells #[v'] 108 (0,0))/\(w.setCell ⟨B,0,none⟩ v').ownsRow zz 177 2 v' (n+1) ys/\Below zz w0 (w.setCell ⟨B,0,none⟩ v'):=by
 have h1:w.heap[B]?=some (.cells #[v] 108 (0,0)):=(b.block B (mG a) (fun e=>qan c a (by decide) e.symm)).trans a;refine ⟨h1,by simpa using rG h1,qn4 g h1 (by decide) _ _,?_⟩;exact (((bA zz w0).grown b h fun k i=>(c.lt k i).1)).setCell d _
def qvY (A af:Option Addr) (n c az:Nat) (l:List Nm) (vs:List Nat) (w:World) (z:Row w w.heap.size A (qad l)) (K:l.length=n) (ba:n<=1048576) (T:Row w w.heap.size af (qbD vs)) (ab:vs.length=n) (ac:qdB l=true):
    yG 71 #[.slice A n c,.slice af n az] w (qn3 l vs w):=by
  have ⟨ae,ag,Y,Z,V⟩:=lG qux;have F:=qiv A n c l w z K (by omega);rw [ac] at F;have a0:=qH F;have an:=qH z;have am:=qH T;have a:=qH K;have r:=qH ab;clear F z T K ab ac
  go_enter func71,ntmps71
  go_wp2_with (go_at_call 120;refine (a0.o).mono ?_)
  rintro e I ⟨rfl,h⟩;have ⟨s,a3,R,Q⟩:=run_make_own (P:=prog) I w.heap.size 106 177 ae _ 2 underlying106 ag Y Z .i64 .i64 n (by rw [V];omega) (by unfold maxLen;omega) h.size;have j:wG w s:=h.grown Q h.size (fun k G=>by cases G);have ⟨B,q⟩:=qE s.heap.size;have ⟨w3,m⟩:=qE (s.alloc (.cells #[.slice (some ⟨I.heap.size,0,none⟩) 0 n] 108));have hrel:qkE B l vs w (.int .i64 ((0:Nat):Int)) w3:=by
    refine ⟨0,.slice (some ⟨I.heap.size,0,none⟩) 0 n,kA _,rfl,?_,?_,?_⟩
    · rw [m,q];exact jA s _
    · rw [m];simpa [qfM] using R.alloc _
    · rw [m];exact j.alloc j.size _
  have H:=qH hrel;have a1:=qH m;have ax:=qH q;have aa:qI (w.heap.size<=B):=qH (by rw [q];exact j.size);clear hrel R Q j h m q;go_wp2;rw [<- a1.o,<- ax.o];clear a3
  go_loopw [26] (qkE B l vs w) (fun i _=>n-(intOf i).toNat)
  case atStart=>exact H.o
  case round=>
    obtain ⟨k,v,G,rfl,g,d,b⟩:=hrel;rw [a.o] at G;have a4:=b.size;by_cases ad:k<n
    · have C:k<l.length:=by rw [a.o];exact ad
      have M:k<vs.length:=by rw [r.o];exact ad
      have ⟨a7,bb,au,h,av⟩:=qdr (an.o.below b) C;have ⟨a6,be,ap,j,ai⟩:=qiw (am.o.below b) M;subst au ap;have ⟨x,J⟩:=qE (⟨l[k].toArray⟩:ByteArray);have ⟨y,E⟩:=qE (vs[k]);rw [<- J] at av;rw [<- E] at ai;have L:qaY (l.take (k+1)) (vs.take (k+1))=qaY (l.take k) (vs.take k)++[.string x,.pointer (some ⟨y,0,none⟩)]:=by
        rw [aB C,aB M,qj7 (by simp only [sA];rw [a.o,r.o]),<- J,<- E]
      have ⟨cs,W⟩:=qE (qaY (l.take k) (vs.take k));rw [<- W] at d L;have ar:=kG g;have bf:(0:Int)<=(k:Int):=by omega
      have a8:(k:Int)<(n:Int):=by omega
      have N:=mG g;have bc:∀ o,((wr.alloc o).drew).cell? ⟨B,0,none⟩=some v:=fun o=>(((bA _ wr).alloc (aA _) o).cell (p:=⟨B,0,none⟩) N).trans ar
      have S:=qH d;have ao:=qH g;have al:=qH L;clear J E W d g L C M;go_wp2
      go_region_law (first
        | (refine step_append_lies _ (by rfl) _ _ _ (by rfl) w.heap.size 177 ae _ 2 24 underlying106 ag Y Z V rfl (by omega) v k cs (by rfl) ((S.o.alloc _).drew)
            ⟨wr.heap.size,0,none⟩ 1 1 [.string x,.pointer (some ⟨y,0,none⟩)] (by rfl) (by rfl) (World.news_of_block (cs:=#[.string x,.pointer (some ⟨y,0,none⟩)]) (t:=177) (fr:=(0,0)) (jA wr.drew _)) (by intro u hu;simp at hu;rcases hu with hu|hu<;>(subst hu;rfl))
            (by omega) (by unfold maxLen;omega) (by omega) (by simp;omega) (wr.heap.size+1) (by simp) ?_
           intro aw ak ay ah aj a5 a9;have ⟨D,X,O,U⟩:=qvX (((bA _ wr).alloc (aA _) _).drew.block B N |>.trans ao.o) ((S.o.alloc _).drew) aj ah (by simp;omega) aa.o
           have bd:=kG D;have bg:=nG D))
      all_goals
        have hrel:qkE B l vs w (.int .i64 ((k:Int)+1)) (ay.setCell ⟨B,0,none⟩ (.slice (some ⟨aw,0,none⟩) (k+1) ak)):=by
          refine ⟨k+1,_,by rw [a.o];omega,by go_num,X,?_,?_⟩
          · rw [al.o];exact O
          · exact b.trans ((((bA _ wr).alloc a4 _).drew).trans U)
        have H:=qH hrel;clear hrel X O U D;go_wp2;go_roundw
        case rel=>exact H.o
        case measure=>simp [intOf];omega
    · have a2:k=n:=by omega
      have aq:qI (qn3 l vs w (.returned (.tuple #[.pointer (some ⟨B,0,none⟩),.int .i64 0])) wr):=qH ⟨B,rfl,⟨aa.o,by rw [a.o,r.o],v,g,by
        rw [a2,nB (by rw [a.o];omega),nB (by rw [r.o];omega)] at d;rw [a.o];exact d⟩,b⟩
      clear d g b;go_wp2;go_ret2;exact aq.o
abbrev Sl:=Option Addr × Nat × Nat
def qe2:List Nm->List Sl->List Value
 |x::l,v::vs=> .string ⟨x.toArray⟩:: .slice v.1 v.2.1 v.2.2::qe2 l vs
 |_,_=>[]
def qvZ (vs:List Sl):qe2 [] vs=[]:=by cases vs<;>rfl
def qn5:∀ {l:List Nm} {vs:List Sl} {x:Nm} {v:Sl},vs.length=l.length->qe2 (l++[x]) (vs++[v])=qe2 l vs++[.string ⟨x.toArray⟩,.slice v.1 v.2.1 v.2.2]
 |[],[],x,v,_=>rfl
 |[],_::_,_,_,a=>by simp at a
 |_::_,[],_,_,a=>by simp at a
 |y::l,u::vs,x,v,a=>by
  have :=qn5 (l:=l) (vs:=vs) (x:=x) (v:=v) (by simpa using a);simp only [bC,qe2,this]
theorem qv0:(prog.info? 265).map (fun i=>(i.zero,i.size,i.bytes))=some (some (.agg #[.string ByteArray.empty,.slice none 0 0]),2,40):=by kernel_rfl
def sls (vs:List Sl):List Value:=vs.map fun v=> .slice v.1 v.2.1 v.2.2
def qv1 {l:List Sl} (e:Row w B A (sls l)) (g:k<l.length):∃ b a,A=some ⟨b,a,none⟩/\b<B/\w.cell? ⟨b,a+k,none⟩=some (.slice l[k].1 l[k].2.1 l[k].2.2):=by
 obtain ⟨b,a,rfl,d,c⟩:=Row.at_ e (by simp [sls];omega);exact ⟨b,a,rfl,d,c _ _ (by simp [sls,g])⟩
def qv2 (w:World) (zz B:Nat) (l:List Nm) (vs:List Sl):Prop:=
 zz<=B/\vs.length=l.length/\∃ v,w.heap[B]?=some (.cells #[v] 263 (0,0))/\w.ownsRow zz 265 2 v l.length (qe2 l vs)
def qn6 (l:List Nm) (vs:List Sl) (w:World) (e:Ending) (w':World):Prop:=∃ B,e= .returned (.tuple #[.pointer (some ⟨B,0,none⟩),.int .i64 0])/\qv2 w' w.heap.size B l vs/\wG w w'
def qv3 (w:World) (e:Ending) (w':World):Prop:=e= .returned (.tuple #[.pointer none,.int .i64 1])/\wG w w'
def qv4 (A q:Option Addr) (n c m s:Nat) (l:List Nm) (w:World) (a:Row w w.heap.size A (qad l)) (b:l.length=n) (r:n<=1073741824) (g:n≠m\/qdB l=false):
  yG 112 #[.slice A n c,.slice q m s] w (qv3 w):=by
 by_cases d:n=m
 ·have i:qdB l=false:=g.resolve_left (fun p=>p d)
  have h:=qiv A n c l w a b r;rw [i] at h;have j:=qH h;subst d;clear h g i a b
  go_enter func112,ntmps112
  go_wp2_with (go_at_call 120;refine (j.o).mono ?_;rintro e t ⟨rfl,k⟩)
  go_ret2;exact ⟨rfl,k⟩
 ·have v:((n:Int) != (m:Int))=true:=by simp;omega
  clear a b g d
  go_enter func112,ntmps112
  go_wp2;go_ret2;exact ⟨rfl,bA _ _⟩
def qkF (B:Nat) (l:List Nm) (vs:List Sl) (w:World) (i:Value) (wr:World):Prop:=
 ∃ (k:Nat) (v:Value),k<=l.length/\i= .int .i64 (k:Int)/\wr.heap[B]?=some (.cells #[v] 263 (0,0))/\wr.ownsRow w.heap.size 265 2 v k (qe2 (l.take k) (vs.take k))/\wG w wr
def qv5 {e:TypeId} {size:Nat} {cs:Array Value} (a:w.ownsRow zz e size v n xs) (d:w.heap[B]?=some (.cells cs t fr)) (c:t≠e) (o:Nat) (u:Value):(w.setCell ⟨B,o,none⟩ u).ownsRow zz e size v n xs:=
 qaq a fun g b=>rA _ _ _ _ (fun h=>qan a d c (by rw [b,h]))
def qv6 {ys:List Value} (a:w0.heap[B]?=some (.cells #[v] 263 (0,0))) (c:w0.ownsRow zz 265 2 v n xs) (b:w0.grownBy w v.ownBlock) (g:w.ownsRow zz 265 2 v' (n+1) ys) (h:zz<=w0.heap.size) (d:zz<=B):
  w.heap[B]?=some (.cells #[v] 263 (0,0))/\(w.setCell ⟨B,0,none⟩ v').heap[B]?=some (.cells #[v'] 263 (0,0))/\(w.setCell ⟨B,0,none⟩ v').ownsRow zz 265 2 v' (n+1) ys/\Below zz w0 (w.setCell ⟨B,0,none⟩ v'):=by
 have h1:w.heap[B]?=some (.cells #[v] 263 (0,0)):=(b.block B (mG a) (fun e=>qan c a (by decide) e.symm)).trans a;refine ⟨h1,by simpa using rG h1,qv5 g h1 (by decide) _ _,?_⟩;exact (((bA zz w0).grown b h fun k i=>(c.lt k i).1)).setCell d _
def qv7 (A af:Option Addr) (n c az:Nat) (l:List Nm) (vs:List Sl) (w:World) (z:Row w w.heap.size A (qad l)) (K:l.length=n) (ba:n<=1048576) (T:Row w w.heap.size af (sls vs)) (ab:vs.length=n) (ac:qdB l=true):
    yG 112 #[.slice A n c,.slice af n az] w (qn6 l vs w):=by
  have ⟨ae,ag,Y,Z,V⟩:=lG qv0;have F:=qiv A n c l w z K (by omega);rw [ac] at F;have a0:=qH F;have an:=qH z;have am:=qH T;have a:=qH K;have r:=qH ab;clear F z T K ab ac
  go_enter func112,ntmps112
  go_wp2_with (go_at_call 120;refine (a0.o).mono ?_)
  rintro e I ⟨rfl,h⟩;have ⟨s,a3,R,Q⟩:=run_make_own (P:=prog) I w.heap.size 261 265 ae _ 2 underlying261 ag Y Z .i64 .i64 n (by rw [V];omega) (by unfold maxLen;omega) h.size;have j:wG w s:=h.grown Q h.size (fun k G=>by cases G);have ⟨B,q⟩:=qE s.heap.size;have ⟨w3,m⟩:=qE (s.alloc (.cells #[.slice (some ⟨I.heap.size,0,none⟩) 0 n] 263));have hrel:qkF B l vs w (.int .i64 ((0:Nat):Int)) w3:=by
    refine ⟨0,.slice (some ⟨I.heap.size,0,none⟩) 0 n,kA _,rfl,?_,?_,?_⟩
    · rw [m,q];exact jA s _
    · rw [m];simpa [qvZ] using R.alloc _
    · rw [m];exact j.alloc j.size _
  have H:=qH hrel;have a1:=qH m;have ax:=qH q;have aa:qI (w.heap.size<=B):=qH (by rw [q];exact j.size);clear hrel R Q j h m q;go_wp2;rw [<- a1.o,<- ax.o];clear a3
  go_loopw [26] (qkF B l vs w) (fun i _=>n-(intOf i).toNat)
  case atStart=>exact H.o
  case round=>
    obtain ⟨k,v,G,rfl,g,d,b⟩:=hrel;rw [a.o] at G;have a4:=b.size;by_cases ad:k<n
    · have C:k<l.length:=by rw [a.o];exact ad
      have M:k<vs.length:=by rw [r.o];exact ad
      have ⟨a7,bb,au,h,av⟩:=qdr (an.o.below b) C;have ⟨a6,be,ap,j,ai⟩:=qv1 (am.o.below b) M;subst au ap;have ⟨x,J⟩:=qE (⟨l[k].toArray⟩:ByteArray);have ⟨y,E⟩:=qE (vs[k]);rw [<- J] at av;rw [<- E] at ai;have L:qe2 (l.take (k+1)) (vs.take (k+1))=qe2 (l.take k) (vs.take k)++[.string x,.slice y.1 y.2.1 y.2.2]:=by
        rw [aB C,aB M,qn5 (by simp only [sA];rw [a.o,r.o]),<- J,<- E]
      have ⟨cs,W⟩:=qE (qe2 (l.take k) (vs.take k));rw [<- W] at d L;have ar:=kG g;have bf:(0:Int)<=(k:Int):=by omega
      have a8:(k:Int)<(n:Int):=by omega
      have N:=mG g;have bc:∀ o,((wr.alloc o).drew).cell? ⟨B,0,none⟩=some v:=fun o=>(((bA _ wr).alloc (aA _) o).cell (p:=⟨B,0,none⟩) N).trans ar
      have S:=qH d;have ao:=qH g;have al:=qH L;clear J E W d g L C M;go_wp2
      go_region_law (first
        | (refine step_append_lies _ (by rfl) _ _ _ (by rfl) w.heap.size 265 ae _ 2 40 underlying261 ag Y Z V rfl (by omega) v k cs (by rfl) ((S.o.alloc _).drew)
            ⟨wr.heap.size,0,none⟩ 1 1 [.string x,.slice y.1 y.2.1 y.2.2] (by rfl) (by rfl) (World.news_of_block (cs:=#[.string x,.slice y.1 y.2.1 y.2.2]) (t:=265) (fr:=(0,0)) (jA wr.drew _)) (by intro u hu;simp at hu;rcases hu with hu|hu<;>(subst hu;rfl))
            (by omega) (by unfold maxLen;omega) (by omega) (by simp;omega) (wr.heap.size+1) (by simp) ?_
           intro aw ak ay ah aj a5 a9;have ⟨D,X,O,U⟩:=qv6 (((bA _ wr).alloc (aA _) _).drew.block B N |>.trans ao.o) ((S.o.alloc _).drew) aj ah (by simp;omega) aa.o
           have bd:=kG D;have bg:=nG D))
      all_goals
        have hrel:qkF B l vs w (.int .i64 ((k:Int)+1)) (ay.setCell ⟨B,0,none⟩ (.slice (some ⟨aw,0,none⟩) (k+1) ak)):=by
          refine ⟨k+1,_,by rw [a.o];omega,by go_num,X,?_,?_⟩
          · rw [al.o];exact O
          · exact b.trans ((((bA _ wr).alloc a4 _).drew).trans U)
        have H:=qH hrel;clear hrel X O U D;go_wp2;go_roundw
        case rel=>exact H.o
        case measure=>simp [intOf];omega
    · have a2:k=n:=by omega
      have aq:qI (qn6 l vs w (.returned (.tuple #[.pointer (some ⟨B,0,none⟩),.int .i64 0])) wr):=qH ⟨B,rfl,⟨aa.o,by rw [a.o,r.o],v,g,by
        rw [a2,nB (by rw [a.o];omega),nB (by rw [r.o];omega)] at d;rw [a.o];exact d⟩,b⟩
      clear d g b;go_wp2;go_ret2;exact aq.o
attribute [local go_sem] gG
def qfp (x:Nm × Nat):Array Value:=#[.string ⟨x.1.toArray⟩,.pointer (some ⟨x.2,0,none⟩)]
def OkP (l:List Nm) (vs:List Nat) (pre:List (Nm × Nat)) (x:Nm × Nat) (W:World):Prop:=∃ a:pre.length<l.length,x.1=l[pre.length]/\x.2=vs.getD pre.length 0
def qkG (b:Nat) (l:List Nm) (w0:World) (a:List (Nm × Nat)->World->Prop) (i:Value) (wr:World):Prop:=∃ pre:List (Nm × Nat),pre.length<=l.length/\i= .int .i64 (pre.length:Int)/\a pre wr/\Below b w0 wr
def qn7 (m b r:Nat) (l:List Nm) (vs:List Nat) (w:World) (a0:1<=m) (K:b<=w.heap.size) (D:qnY b r l vs w) (an:l.length<=1048576):
  qj4 m prog 99 #[.pointer (some ⟨r,0,none⟩)] qfp (fun A B=>wG A B) (Below b) (OkP l vs) (fun xs=>xs.length=l.length) (fun _=>True) w:=by
 intro ax v X W h ae R U;have ⟨A,c,H,ai,a3,Y⟩:=D.var;have V:=D.vlen;have M:=(h.block r (mG H)).trans H;have am:=kG M;have al:=qH (Y.below (h.mono K));have af:=qH ae;have aj:=qH R;have ao:qI (qkG b l W v (.int .i64 ((0:Nat):Int)) W):=qH ⟨[],kA _,rfl,U,bA _ _⟩;have a4:b<=W.heap.size:=lA K h.size;have ⟨n,G⟩:=qE l.length;rw [<- G] at ai an am;have g:=qH G;have L:=qH V;clear ae R U D H M Y h G V;refine vG func99 rfl trivial ?_ rfl;simp only [ntmps99,iD,nA,vB,Nat.reduceAdd,Nat.reduceSub,tD,uD,jD,vD,lC,bC];gi_wp2
 gi_loopw [7] (qkG b l W v) (fun i _=>n-(intOf i).toNat)
 case atStart=>exact ao.o
 case round=>
  obtain ⟨pre,ah,rfl,t,z⟩:=hrel;have ⟨k,a⟩:=qE pre.length;rw [<- a,<- g.o] at ah;rw [<- a];have a5:=z.size;by_cases av:k<n
  ·have p:k<l.length:=by rw [<- g.o];exact av
   obtain ⟨ay,a2,rfl,a1,C⟩:=(al.o.below z).at_ (by rw [qhp L.o];omega);have ⟨T,Q⟩:=qhq L.o p;have O:=C _ _ T;have I:=C _ _ Q;rw [<- uB] at I;have ⟨x,E⟩:=qE (l[k]);have ⟨y,d⟩:=qE (vs.getD k 0);rw [<- E] at O;rw [<- d] at I;have P:∀ Z,OkP l vs pre (x,y) Z:=fun Z=>⟨by rw [<- a];exact p,by simp only [<- a];exact E,by simp only [<- a];exact d⟩
   have ⟨ad,F⟩:=qE (⟨x.toArray⟩:ByteArray);rw [<- F] at O;have ap:=qH P;have au:=qH F;have S:=qH a;have aw:=qH t;have aa:(k:Int)<(n:Int):=by omega
   have az:(0:Int)<=(k:Int):=by omega
   clear T Q C E d P F a t p;have ⟨w3,j⟩:=qE (wr.alloc (.cells #[.string ad,.pointer (some ⟨y,0,none⟩)] 177));have q:wG wr w3:=by rw [j];exact (bA _ _).alloc (aA _) _
   have ac:=aj.o pre (x,y) w3 (af.o _ _ _ aw.o q) (ap.o w3);rw [show qfp (x,y)=#[.string ad,.pointer (some ⟨y,0,none⟩)] by unfold qfp;rw [au.o]] at ac;obtain ⟨fn,tmps,assign,body,d,s⟩:=ac;rw [j] at d;have aq:=qH (z.trans (q.mono (by omega)));have ab:=qH j;clear j q;gi_wp2;rw [ab.o] at s;refine s.mono ?_;rintro e ar (⟨rfl,J,N⟩|⟨rfl,ak⟩)
   ·have hrel:qkG b l W v (.int .i64 ((k:Int)+1)) ar:=by
     refine ⟨pre++[(x,y)],?_,?_,J,aq.o.trans ?_⟩
     ·rw [iA,bB,<- S.o,<- g.o];omega
     ·rw [iA,bB,<- S.o];rfl
     ·rw [ab.o];exact N
    have ag:=qH hrel;clear hrel J N d s;gi_wp2;go_roundw
    case rel=>exact ag.o
    case measure=>simp [intOf];omega
   ·gi_wp2
    refine pE (results_none rfl _ _ _) rfl ?_;exact ⟨⟨_,rfl⟩,.inr ⟨_,trivial,ak⟩⟩
  ·have aa:pre.length=l.length:=by rw [<- a,<- g.o];omega
   gi_wp2
   go_end0
   exact ⟨⟨_,rfl⟩,.inl ⟨_,aa,t⟩⟩
def qaB.push7 {x:Nm} (a:w'.ownsRow zz 9 1 v' (l.length+1) (qad l++[.string ⟨x.toArray⟩])):qaB zz w' v' (l++[x]):=by
 unfold qaB;rw [iA,bB];simpa [qad] using a
def qbG (R:Option Addr->List Value->Prop):List (List Nm)->List Value->Prop
 |[],cs=>cs=[]
 |x::r,cs=>∃ A c cs',cs= .slice A x.length c::cs'/\x.length<=c/\c<=maxLen/\R A (qad x)/\qbG R r cs'
section
variable {R R':Option Addr->List Value->Prop}
def qbG.len:∀ {l:List (List Nm)} {cs:List Value},qbG R l cs->cs.length=l.length
 |[],cs,a=>by simp only [qbG] at a;subst a;rfl
 |x::r,cs,a=>by
  obtain ⟨A,c,cs',rfl,_,_,_,b⟩:=a;simp only [nA,qbG.len b]
def qbG.imp:∀ {l:List (List Nm)} {cs:List Value},qbG R l cs->(∀ A xs,R A xs->R' A xs)->qbG R' l cs
 |[],cs,a,_=>a
 |x::r,cs,a,b=>by
  obtain ⟨A,c,cs',rfl,h1,h2,h3,d⟩:=a;exact ⟨A,c,cs',rfl,h1,h2,b _ _ h3,qbG.imp d b⟩
def qbG.at_:∀ {l:List (List Nm)} {cs:List Value} {k:Nat},qbG R l cs->(d:k<l.length)->
  ∃ A c,cs[k]?=some (.slice A l[k].length c)/\l[k].length<=c/\c<=maxLen/\R A (qad l[k])
 |[],_,k,_,a=>by simp at a
 |x::r,cs,0,a,_=>by
  obtain ⟨A,c,cs',rfl,h1,h2,h3,b⟩:=a;exact ⟨A,c,rfl,h1,h2,h3⟩
 |x::r,cs,k+1,a,d=>by
  obtain ⟨A,c,cs',rfl,h1,h2,h3,b⟩:=a;have :=qbG.at_ (k:=k) b (by simpa using d);simpa using this
def qbG.take:∀ {l:List (List Nm)} {cs:List Value} (k:Nat),qbG R l cs->qbG R (l.take k) (cs.take k)
 |_,cs,0,_=>by simp [qbG]
 |[],cs,k+1,a=>by simp only [qbG] at a;subst a;simp [qbG]
 |x::r,cs,k+1,a=>by
  obtain ⟨A,c,cs',rfl,h1,h2,h3,b⟩:=a;exact ⟨A,c,_,rfl,h1,h2,h3,qbG.take k b⟩
def qbG.drop:∀ {l:List (List Nm)} {cs:List Value} (k:Nat),qbG R l cs->qbG R (l.drop k) (cs.drop k)
 |l,cs,0,a=>by simpa using a
 |[],cs,k+1,a=>by simp only [qbG] at a;subst a;simp [qbG]
 |x::r,cs,k+1,a=>by
  obtain ⟨A,c,cs',rfl,h1,h2,h3,b⟩:=a;rw [sE,sE];exact qbG.drop k b
end
def qco (w:World) (B:Nat) (A:Option Addr) (l:List (List Nm)):Prop:=∃ cs,qbG (Row w B) l cs/\Row w B A cs
def qco.below {l:List (List Nm)} (a:qco w B A l) (b:Below B w w'):qco w' B A l:=by
 obtain ⟨cs,h1,h2⟩:=a;exact ⟨cs,h1.imp fun _ _ a=>a.below b,h2.below b⟩
def qco.more {B':Nat} {l:List (List Nm)} (a:qco w B A l) (b:B<=B'):qco w B' A l:=by
 obtain ⟨cs,h1,h2⟩:=a;exact ⟨cs,h1.imp fun _ _ a=>a.more b,h2.more b⟩
def qco.later {l:List (List Nm)} (b:qco w w.heap.size A l) (a:wG w w'):qco w' w'.heap.size A l:=(b.below a).more a.size
def qco.at_ {l:List (List Nm)} (m:qco w B A l) {k:Nat} (p:k<l.length):
  ∃ b c,A=some ⟨b,c,none⟩/\b<B/\∃ d a,w.cell? ⟨b,c+k,none⟩=some (.slice d l[k].length a)/\l[k].length<=a/\a<=maxLen/\Row w B d (qad l[k]):=by
 obtain ⟨cs,h1,h2⟩:=m;obtain ⟨b,c,rfl,i,e⟩:=h2.at_ (by rw [h1.len];omega);have ⟨d,a,g,j,h,n⟩:=h1.at_ p;exact ⟨b,c,rfl,i,d,a,e _ _ g,j,h,n⟩
def qco.cut {l:List (List Nm)} (a:qco w B A l) (k:Nat):qco w B A (l.take k):=by
 obtain ⟨cs,h1,h2⟩:=a;exact ⟨_,h1.take k,h2.cut k⟩
def qco.drop {l:List (List Nm)} (d:qco w B (some ⟨b,n,none⟩) l) (k:Nat):qco w B (some ⟨b,n+k,none⟩) (l.drop k):=by
 obtain ⟨cs,h1,h2⟩:=d;refine ⟨_,h1.drop k,?_⟩;rcases h2 with rfl|⟨i,h,e,c,a⟩
 ·exact .inl (by simp)
 ·injection e with e
  injection e with e1 e2
  subst e1 e2;refine .inr ⟨b,n+k,rfl,c,fun j u g=> ?_⟩;have :=a (k+j) u (by rw [<- g];simp);rwa [<- uB] at this
def qaB.room (b:qaB zz w v l):∃ A c,v= .slice A l.length c/\l.length<=c/\c<=maxLen/\Row w w.heap.size A (qad l):=by
 obtain ⟨A,c,rfl,e,d⟩:=b.row;refine ⟨A,c,rfl,e,?_,d⟩;rcases b.2 with ⟨a,_⟩|⟨g,j,i,a,_,_,_,h,_⟩
 ·injection a with _ _ a;omega
 ·injection a with _ _ a;rw [a];exact h
structure qgM (B o b1 b2:Nat) (l:List Nm) (vs:List Nat) (s:ByteArray) (W:World):Prop where
 dict:qce W B o l vs
 var:W.heap[b1]?=some (.cells #[.pointer (some ⟨B,o,none⟩)] 154 (0,0))
 text:W.heap[b2]?=some (.cells #[.string s] 9 (0,0))
def qgM.below {o:Nat} {vs:List Nat} {s:ByteArray} (a:qgM B o k n l vs s W) (b:wG W w):qgM B o k n l vs s w:=
 ⟨a.dict.below b,(b.block _ (mG a.var)).trans a.var,(b.block _ (mG a.text)).trans a.text⟩
def qv8 (B o i g k:Nat) (l:List Nm) (vs:List Nat) (s:ByteArray) (W:World) (a:qgM B o i g l vs s W) (m:k<l.length) (v:l.length<=1073741824):
  yG 215 #[.int .i64 (k:Int),.pointer (some ⟨i,0,none⟩),.pointer (some ⟨g,0,none⟩)] W fun e w'=>e= .returned (.int .i64 (qaO l[k] s.data.toList))/\∃ q,w'=W.drewN q:=by
 have ⟨b,D,c,h1,h2,h3,H,y,A⟩:=a.dict.ent m;have E:=kG a.var;have C:=kG a.text;have ⟨x,p,h⟩:=qa8 l[k];rw [<- p] at y;have d:=fun w=>qnv x s w
 rw [h] at d;have ⟨z,j⟩:=qE (qaO l[k] s.data.toList);rw [<- j] at d ⊢;have t:qI (∀ n,yG 153 #[.string x,.string s] (W.drewN n) fun e w'=>e= .returned (.int .i64 z)/\w'=W.drewN n):=qH fun n=>(d _).mono fun _ _ a=>⟨a.1,a.2.symm⟩
 have ⟨n,r⟩:=qE l.length;rw [<- r] at h1 h2 v m;have G:(0:Int)<=(k:Int):=by omega
 have F:(k:Int)<(n:Int):=by omega
 clear p h j r a d A
 go_enter func215,ntmps215
 go_wp2
 go_quiet ((go_at_call 153;exact Calls.quiet_of_same (t.o _)))
 go_wp2;go_ret;exact ⟨rfl,_,rfl⟩
def qv9 (B o t r:Nat) (l:List Nm) (vs:List Nat) (s:ByteArray) (w:World) (A:qgM B o t r l vs s w) (M:qaW l) (O:l.length<=1073741824):
  yG 177 #[.int .i64 (l.length:Int),.func (.func 215) #[] #[.pointer (some ⟨t,0,none⟩),.pointer (some ⟨r,0,none⟩)]] w
   fun e w'=>e= .returned (.tuple #[.int .i64 (qaF l s.data.toList),.bool (isN l s.data.toList)])/\wG w w':=by
 have H:=qH A;have D:=qH M;have U:=qH O;have ⟨n,J⟩:=qE l.length;rw [<- J] at O ⊢;have g:=qH J;have ⟨p,I⟩:=qE (qaF l s.data.toList);have ⟨z,E⟩:=qE (isN l s.data.toList);rw [<- I,<- E];have N:=qH I;have P:=qH E;clear A M J I E
 go_enter func177,ntmps177
 go_wp2
 go_loopw [4,5,6,7] (qnX B o t r l vs s w) (fun _ _ a b _=>(intOf b-intOf a).toNat)
 case atStart=>exact ⟨rfl,rfl,0,n,rfl,rfl,by omega,by have :=g.o;omega,bA _ _,fun j _ d=>by omega,fun j d ae=>by have :=g.o;omega⟩
 case round=>
  obtain ⟨rfl,rfl,a,b,rfl,rfl,Z,V,i,k,x⟩:=hrel;rw [<- g.o] at V;by_cases Q:a<b
  ·have ⟨m,S⟩:=qE (a+(b-a)/2:Nat)
   have af:(a:Int)+((b:Int)-(a:Int))/2=(m:Int):=by omega
   have ai:a<=m:=by omega
   have ac:m<b:=by omega
   have y:m<l.length:=by rw [<- g.o];omega
   have h:=qH (qv8 B o t r m l vs s wr (H.o.below i) y U.o);have ak:decide ((a:Int)<(b:Int))=true:=yA (by omega);have aj:decide (a<b)=true:=yA Q;have ab:(0:Int)<=(b:Int)-(a:Int):=by omega
   have ad:(b:Int)-(a:Int)<=1073741824:=by omega
   have ag:(0:Int)<=(m:Int):=by omega
   have ah:(m:Int)<=1073741824:=by omega
   have aa:(a:Int)<=1073741824:=by omega
   have Y:=qH k;have W:=qH x;clear S k x;rcases qey l[m] s.data.toList with v|heq|hgt
   ·have c:qaO l[m] s.data.toList= -1:=by simp [qaO,v]
    rw [c] at h;have X:qI (∀ j (d:j<l.length),j<m+1->l[j]<s.data.toList):=qH fun j d C=>by
     by_cases e:j=m
     ·subst e;exact v
     ·exact qdq (qeR D.o y (by omega)) v
    clear c v
    go_wp2_with (go_at_call 215;refine (h.o).mono ?_;rintro e w' ⟨rfl,q,rfl⟩)
    go_roundw
    case rel=>exact ⟨rfl,rfl,m+1,b,by go_num,rfl,by omega,by rw [<- g.o];omega,i.trans ⟨rfl,rfl,rfl,aA _,fun _ _=>rfl⟩,X.o,W.o⟩
    case measure=>simp [intOf];omega
   ·have c:qaO l[m] s.data.toList=0:=by
     unfold qaO;rw [dA (by rw [heq];exact qff _),eA heq]
    rw [c] at h;have L:=qjx y (fun j d C=>by have :=qeR D.o y C;rwa [heq] at this) heq;have F:p=m:=by rw [N.o];exact L.1
    have G:z=true:=by rw [P.o];exact L.2
    subst F G;clear c heq L
    go_wp2_with (go_at_call 215;refine (h.o).mono ?_;rintro e w' ⟨rfl,q,rfl⟩)
    go_ret2;exact ⟨rfl,i.trans ⟨rfl,rfl,rfl,aA _,fun _ _=>rfl⟩⟩
   ·have c:qaO l[m] s.data.toList=1:=by
     unfold qaO;rw [dA (qha hgt),dA (qjw hgt).symm]
    rw [c] at h;have T:qI (∀ j (d:j<l.length),m<=j->s.data.toList<l[j]):=qH fun j d C=>by
     by_cases e:m=j
     ·subst e;exact hgt
     ·exact qdq hgt (qeR D.o d (by omega))
    clear c hgt
    go_wp2_with (go_at_call 215;refine (h.o).mono ?_;rintro e w' ⟨rfl,q,rfl⟩)
    go_roundw
    case rel=>exact ⟨rfl,rfl,a,m,rfl,rfl,by omega,by rw [<- g.o];omega,i.trans ⟨rfl,rfl,rfl,aA _,fun _ _=>rfl⟩,Y.o,T.o⟩
    case measure=>simp [intOf];omega
  ·have R:a=b:=by omega
   subst R;have K:=qmj (s:=s.data.toList) (by rw [<- g.o];omega) k (fun A=>x a A (aA _));have F:p=a:=by rw [N.o];exact K.1
   have G:z=false:=by rw [P.o];exact K.2
   subst F G;clear k x K Q;go_wp2;go_ret2;exact ⟨rfl,i⟩
def qwa (B o:Nat) (l:List Nm) (vs:List Nat) (s:ByteArray) (w:World) (q:qce w B o l vs) (j:qaW l) (t:l.length<=1073741824):
  yG 174 #[.pointer (some ⟨B,o,none⟩),.string s] w fun e w'=>e= .returned (.tuple #[.int .i64 (qaF l s.data.toList),.bool (isN l s.data.toList)])/\wG w w':=by
 have ⟨b,a⟩:=qE ((w.alloc (.cells #[.pointer (some ⟨B,o,none⟩)] 154)).alloc (.cells #[.string s] 9));have g:wG w b:=by rw [a];exact ((bA _ _).alloc (aA _) _).alloc (by simp) _
 have d:qgM B o w.heap.size (w.heap.size+1) l vs s b:=by
  refine ⟨q.below g,?_,?_⟩
  ·rw [a,pB _ _ _ (by simp)];exact jA w _
  ·rw [a];have :=jA (w.alloc (.cells #[.pointer (some ⟨B,o,none⟩)] 154)) (.cells #[.string s] 9);simpa using this
 have k:=qH (qok B o l vs b d.dict);have c:=qH (qv9 B o _ _ l vs s b d j t);have r:=qH g;have ⟨n,m⟩:=qE l.length;rw [<- m] at k c;have ⟨p,i⟩:=qE (qaF l s.data.toList);have ⟨z,h⟩:=qE (isN l s.data.toList);rw [<- i,<- h] at c;rw [<- i,<- h];have v:=qH a;clear i h m q j t g d a
 go_enter func174,ntmps174
 go_wp2_with (first
  |(go_at_call 135;rw [<- v.o];refine (k.o).mono ?_;rintro e w' ⟨rfl,rfl⟩)
  |(go_at_call 177;refine (c.o).mono ?_;rintro e w' ⟨rfl,x⟩))
 go_ret2;exact ⟨rfl,r.o.trans (x.mono r.o.size)⟩
def qwb (B o:Nat) (l:List Nm) (vs:List Nat) (s:ByteArray) (w:World) (h:qce w B o l vs) (v:qaW l) (t:l.length<=1073741824):
  yG 134 #[.pointer (some ⟨B,o,none⟩),.string s] w
   fun e w'=>e= .returned (.tuple #[.pointer (if isN l s.data.toList=true then some ⟨vs.getD (qaF l s.data.toList) 0,0,none⟩ else none),.bool (isN l s.data.toList)])/\wG w w':=by
 have d:=qwa B o l vs s w h v t;have i:=qjy (l:=l) (s:=s.data.toList);have ⟨p,j⟩:=qE (qaF l s.data.toList);have ⟨z,g⟩:=qE (isN l s.data.toList);rw [<- j,<- g] at d ⊢;rw [<- g] at i;cases z with
 |true=>
  have r:p<l.length:=by rw [j];exact (i rfl).1
  have H:=qH h;have m:=qH d;have C:=qH r;rw [eA rfl];have ⟨y,k⟩:=qE (vs.getD p 0);rw [<- k];have x:=qH k;have ⟨n,q⟩:=qE l.length;have A:=qH q;rw [<- q] at t r;have K:(0:Int)<=(p:Int):=by omega
  have J:(p:Int)<(n:Int):=by omega
  clear h d i j g q k
  go_enter func134,ntmps134
  go_wp2_with (go_at_call 174;refine (m.o).mono ?_)
  rintro e D ⟨rfl,a⟩;have ⟨b,I,c,h1,h2,h3,L,F,G⟩:=(H.o.below a).ent C.o;rw [<- A.o] at h1 h2;rw [<- x.o] at G;have E:=qH a;clear F a;go_wp2;go_ret2;exact ⟨rfl,E.o⟩
 |false=>
  have m:=qH d;rw [dA (by decide)];clear h d i j g
  go_enter func134,ntmps134
  go_wp2_with (go_at_call 174;refine (m.o).mono ?_;rintro e D ⟨rfl,a⟩)
  go_ret2;exact ⟨rfl,a⟩
structure qwc (b D:Nat) (l:List Nm) (vs:List Nat) (W:World):Prop where
 vlen:vs.length=l.length
 var:∃ A c,W.heap[D]?=some (.cells #[.slice A l.length c] 227 (0,0))/\l.length<=c/\c<=maxLen/\Row W b A (qaY l vs)
def qn8 (b:Nat) (l:List Nm) (vs:List Nat) (w:World) (e:Ending) (w':World):Prop:=
 ∃ a,e= .returned (.func (.func 136) #[] #[.pointer (some ⟨a,0,none⟩)])/\w.heap.size<=a/\qwc b a l vs w'/\wG w w'/\w'.heap.size=a+1
def qwd (B o:Nat) (i:Int) (l:List Nm) (vs:List Nat) (w0 w:World) (h:qce w0 B o l vs) (r:wG w0 w) (ad:l.length<=1048576) (au:i<=9223372036854775807):
  yG 85 #[.pointer (some ⟨B,o,none⟩),.int .i64 i] w (qn8 w0.heap.size (l.drop i.toNat) (vs.drop i.toNat) w):=by
 have D:=h.below r;have J:=D.2.1;have S:=r.size;have M:=qH (fun W (E:wG w W)=>qok B o l vs W (D.below E));have ⟨m,x⟩:=qE (i.toNat:Nat);have ⟨n,L⟩:=qE l.length;have ⟨k,z⟩:=qE (min m n:Nat);have ay:∀ (w:World) (ts:Array TypeId) (t:TypeId),(Builtin.max_ ts t #[.int .i64 i,.int .i64 0]).run prog w= .ok (.int .i64 (m:Int)) w:=fun w ts t=>by rw [run_max_int2,x];congr 2;split<;>omega
 have av:∀ (w:World) (ts:Array TypeId) (t:TypeId),(Builtin.min_ ts t #[.int .i64 m,.int .i64 n]).run prog w= .ok (.int .i64 (k:Int)) w:=fun w ts t=>by rw [run_min_int2,z];congr 2;split<;>omega
 have O:l.drop i.toNat=l.drop k:=by
  rw [<- x];by_cases h1:m<=n
  ·rw [z,eD h1]
  ·rw [pC (by omega),pC (by omega)]
 have U:vs.drop i.toNat=vs.drop k:=by
  rw [<- x];by_cases h1:m<=n
  ·rw [z,eD h1]
  ·rw [pC (by omega),pC (by omega)]
 rw [O,U];have az:k<=n:=by omega
 have ⟨A,c,T,Z,ak,a,V⟩:=h.read;have G:=(r.cell (p:=⟨B,o,none⟩) h.lt).trans T;have K:=a.below r;clear T a;have ⟨b0,P⟩:=qE w0.heap.size;rw [<- P] at K S ⊢;rw [<- L] at G Z M ad;have y:=qH L;have Y:=qH J;have ab:=qH K;have aq:(0:Int)<=(k:Int):=by omega
 have aw:(k:Int)<=(n:Int):=by omega
 have ap:(n:Int)<=(c:Int):=by omega
 have ax:(n:Int)<=1048576:=by omega
 have R:=qH D.lt;unfold maxLen at ak;have Q:qI (∀ C q W,(W.heap.size=w.heap.size+1/\wG w W/\W.heap[w.heap.size]?=some (.cells #[.slice C (n-k) q] 227 (0,0)))->n-k<=q->q<=maxLen->Row w b0 C (qaY (l.drop k) (vs.drop k))->
   qn8 b0 (l.drop k) (vs.drop k) w (.returned (.func (.func 136) #[] #[.pointer (some ⟨w.heap.size,0,none⟩)])) W):=qH fun C q W ⟨h1,h2,h3⟩ ai al an=>
  ⟨w.heap.size,rfl,aA _,⟨by rw [rB,rB,J],C,q,by rw [rB,<- y.o];exact h3,by rw [rB,<- y.o];exact ai,al,an.below (h2.mono S)⟩,h2,by omega⟩
 clear D h r P x z O U K J L;rcases V with ⟨rfl,I,rfl⟩|⟨g,rfl⟩
 ·have ah:n=0:=by rw [y.o,I];rfl
  have aa:k=0:=by omega
  have a:Row w b0 none (qaY (l.drop k) (vs.drop k)):= .inl (by rw [I];simp [qfM]);subst ah aa;have ao:min (m:Int) 0=0:=by omega
  have N:=qH a;have b:((w.alloc (.cells #[.slice none 0 0] 227)).drew).heap[w.heap.size]?=some (.cells #[.slice none 0 0] 227 (0,0)):=jA w _;have d:wG w (w.alloc (.cells #[.slice none 0 0] 227)).drew:=((bA _ w).alloc (aA _) _).drew;have ae:=kG b;have ac:=nG b;have aj:=(d.cell (p:=⟨B,o,none⟩) R.o).trans G;have H:=qH d;clear a b d I
  go_enter func85,ntmps85
  go_wp2
  go_region_law (first
    |(go_simp;go_at_call 135;refine (M.o _ (by first|exact (bA _ w).drew|exact H.o)).mono ?_;rintro e w' ⟨rfl,rfl⟩))
  all_goals
   have s:=Q.o none 0 ((w.alloc (.cells #[.slice none 0 0] 227)).drew) ⟨by simp,((bA _ w).alloc (aA _) _).drew,jA w _⟩ (by omega) (by unfold maxLen;omega) N.o;have F:=qH s;clear s;go_wp2;go_ret;exact F.o
 ·obtain ⟨v,ag⟩:∃ v,(if c=k then (some ⟨g,0,none⟩:Option Addr) else some ⟨g,k*2,none⟩)=v:=⟨_,rfl⟩
  have a:Row w b0 v (qaY (l.drop k) (vs.drop k)):=by
   rw [<- ag];by_cases af:c=k
   ·exact .inl (by rw [pC (by rw [<- y.o];omega)];simp [qfM])
   ·rw [dA af,<- qj8 k Y.o]
    rcases ab.o with h|⟨a0,ar,e,E,X⟩
    ·exact .inl (by rw [h];simp)
    ·injection e with e
     injection e with e1 e2
     subst e1 e2;refine .inr ⟨g,k*2,rfl,E,fun j u am=> ?_⟩;have :=X (k*2+j) u (by rw [<- am];simp);rwa [kB] at this
  have N:=qH a;have b:((w.alloc (.cells #[.slice none 0 0] 227)).drew).heap[w.heap.size]?=some (.cells #[.slice none 0 0] 227 (0,0)):=jA w _;have d:wG w (w.alloc (.cells #[.slice none 0 0] 227)).drew:=((bA _ w).alloc (aA _) _).drew;have ae:=kG b;have ac:=nG b;have aj:=(d.cell (p:=⟨B,o,none⟩) R.o).trans G;have H:=qH d;clear a b d
  go_enter func85,ntmps85
  go_wp2
  go_region_law (first
    |(go_simp;go_at_call 135;refine (M.o _ (by first|exact (bA _ w).drew|exact H.o)).mono ?_;rintro e w' ⟨rfl,rfl⟩))
  all_goals
   have s:=Q.o v (c-k) ((w.alloc (.cells #[.slice v (n-k) (c-k)] 227)).drew) ⟨by simp,((bA _ w).alloc (aA _) _).drew,jA w _⟩ (by omega) (by unfold maxLen;omega) N.o;have F:=qH s;clear s;go_wp2;go_ret;exact F.o
def qwe (n:Nat) (w:World) (d:n<=1000000):yG 211 #[.int .u64 1,.int .u64 (n:Int)] w fun e w'=>e= .returned (.tuple #[.int .u64 0,.int .u64 (n:Int)])/\w'=w:=by
 have c:bits BinOp.and IntKind.u64 1 4294967295=1:=by decide
 have b0:bits BinOp.and IntKind.u64 0 4294967295=0:=by decide
 have a:bits BinOp.and IntKind.u64 (n:Int) 4294967295=(n:Int):=by
  rw [show (4294967295:Int)=2^32-1 by decide,bits_mask .u64 64 (by decide) wraps_u64 32 (by decide) (n:Int) (by omega) (by omega)];omega
 have b:(n:Int)/4294967296=0:=by omega
 go_enter func211,ntmps211
 go_wp2;go_ret2;exact ⟨rfl,rfl⟩
def qwf (n:Nat) (w:World) (a:n<=1000000):yG 172 #[.int .u64 1,.int .u64 (n:Int)] w fun e w'=>e= .returned (.tuple #[.int .u64 0,.int .u64 (n:Int)])/\w'=w:=by
 go_enter func172,ntmps172
 go_wp2_with (go_at_call 211;refine (qwe n _ a).mono ?_;rintro e b ⟨rfl,rfl⟩)
 go_ret2;exact ⟨rfl,rfl⟩
def qdE (k n:Nat):List Value:=List.replicate k (.int .i64 (-1))++List.replicate (n-k) (.int .i64 0)
def qn9 (a:k<=n):(qdE k n).length=n:=by simp [qdE];omega
def qoa (b:k<=n) (j:Nat) (a:k+j<=n):splice (qdE k n) k (List.replicate j (.int .i64 (-1)))=qdE (k+j) n:=by
 unfold splice qdE;rw [rE,wF (by simp),nB (by simp),List.drop_append,pC (by simp),rE,List.drop_replicate,lC,<- iB,List.replicate_append_replicate];congr 2;omega
def qwg (n:Nat):qdE 0 n=List.replicate n (.int .i64 0):=by simp [qdE]
def qwh (n:Nat):qdE n n=qaa (List.replicate n (-1)):=by simp [qdE,qaa]
def qix (n k:Nat) (w:World) (v:Value) (wr:World):Prop:=∃ g,v= .slice (some ⟨g,0,none⟩) n n/\w.heap.size<=g/\wr.heap[g]?=some (.cells (qdE k n).toArray 3 (0,0))/\Below w.heap.size w wr
def qix.own (c:qix n n w v wr) (d:n<=maxLen):wr.ownsRow w.heap.size 3 1 v n (qaa (List.replicate n (-1))):=by
 obtain ⟨g,rfl,a,b,_⟩:=c;refine ⟨by simp [qaa],.inr ⟨g,n,_,rfl,a,b,aA _,d,by simp [qdE],?_⟩⟩;rw [qwh];simp [qaa]
def qob (n:Nat) (w:World) (b a:Value) (wr:World):Prop:=∃ k:Nat,a= .int .i64 (k:Int)/\k<=n/\(0<n->0<k)/\qix n k w b wr
def qwi (A R:Option Addr) (r n:Nat) (w:World) (aj:R=some ⟨r,0,none⟩) (ah:r<w.heap.size) (N:w.cell? ⟨r,0,none⟩=some (.int .i64 (-1))) (av:n<=1000000):
  yG 131 #[.slice R 1 1,.int .i64 (n:Int)] w fun e w'=>(∃ v,e= .returned v/\w'.ownsRow w.heap.size 3 1 v n (qaa (List.replicate n (-1))))/\Below w.heap.size w w':=by
 have ⟨ay,af,aq,aa,ap⟩:=lG qc4;subst aj;have ⟨B,ac,V,M⟩:=tF (P:=prog) w w.heap.size 23 3 ay _ 1 underlying23 af aq aa .i64 .i64 n (by rw [ap];omega) (by unfold maxLen;omega) (aA _);have z:Below w.heap.size w B:=(bA _ w).grown M (aA _) (fun k l=>by cases l);have Q:=(z.cell (p:=⟨r,0,none⟩) ah).trans N;have Y:B.heap[w.heap.size]?=some (.cells (qdE 0 n).toArray 3 (0,0)):=by
  rcases V.2 with ⟨q,_⟩|⟨g,a0,a7,q,_,b,_,_,a5,ab⟩
  ·cases q
  ·cases q
   rw [b,qwg];rw [nB (by simp;omega),show (Value.int .i64 0).cells=#[.int .i64 0] from rfl,pF,Nat.mul_one] at ab
   rw [<- ab]
 have ag:decide ((n:Int)<0)=false:=uA (by omega);have an:decide ((9223372036854775807:Int)<(n:Int))=false:=uA (by omega);have ae:(prog.info? 3).map (·.size)=some 1:=by rw [af];simp [aa]
 have ⟨m,J⟩:=qE (min 1 n);have L:m=Nat.min 1 n:=J;have aw:m<=1:=by omega
 have Z:m<=n:=by omega
 have W:0<n->0<m:=fun q=>by omega
 have S:=qH L;clear L J;have H:∀ j v,(List.replicate m (Value.int .i64 (-1)))[j]?=some v->B.cell? ((⟨r,0,none⟩:Addr).add j)=some v:=fun j v a=>by
  have h:j=0:=by
   have h2:=(yC.1 a).1;rw [rE] at h2;omega
  subst h;have :v= .int .i64 (-1):=by
   have :=iE a;exact (List.mem_replicate.1 this).2
  subst this;exact Q
 have D:=qH Y;have t:=qH z;have s:=qH H;have ⟨g,E⟩:=qE w.heap.size;rw [<- E] at ac D t;have U:=qH E;clear Y z H V M N E Q
 go_enter func131,ntmps131
 go_wp2_with (first
  |(go_at_call 172;refine (qwf n _ av).mono ?_;rintro e az ⟨rfl,h2⟩;obtain rfl:w=az:=h2.symm)
  |(show wpList _ _ _ (⟨some 33,_,_,_,_,_⟩::_) _ _;refine wpList_copy_splice rfl (.tmp 31) (.tmp 32) 23 23 rfl 3 underlying23 ae (some ⟨g,0,none⟩) (some ⟨r,0,none⟩) n n 1 1 rfl rfl g 0 (qdE 0 n) 3 D.o (List.replicate m (.int .i64 (-1))) (by rw [rE];exact S.o) (fun _=>⟨rfl,⟨r,0,none⟩,rfl,s.o⟩) (by rw [qn9 (kA _),rE];omega) (fun v a=>by rw [(List.mem_replicate.1 a).2];rfl) g w t.o (aA _) ?_;intro w3 C G;rw [qoa (kA _) _ (by omega),kB] at C))
 have ad:qob n w (.slice (some ⟨g,0,none⟩) n n) (.int .i64 (m:Int)) w3:=⟨m,rfl,Z,W,g,rfl,by rw [U.o];exact aA _,C.out,G.mono (by rw [U.o];exact aA _)⟩;have O:=qH ad;clear ad C G ac D t s W aw Z S an ag
 go_loopw [8] (fun y wr=>qob n w (.slice (some ⟨g,0,none⟩) n n) y wr) (fun y _=>n-(intOf y).toNat)
 case atStart=>exact O.o
 case round=>
  clear O;obtain ⟨k,rfl,l,x,ao,a,d,b,c⟩:=hrel;simp only [mF,jB,Addr.mk.injEq,and_true] at a;obtain rfl:g=ao:=a;by_cases a8:k<n
  ·have a4:=x (by omega)
   have ⟨j,h⟩:=qE (min k (n-k));have X:j=Nat.min k (n-k):=h;have a6:j<=k:=by omega
   have T:k+j<=n:=by omega
   have a2:0<j:=by omega
   have ai:=qH X;clear h X;have F:∀ i v,(List.replicate j (Value.int .i64 (-1)))[i]?=some v->wr.cell? ((⟨g,0,none⟩:Addr).add i)=some v:=fun i v a=>by
    have h2:=(yC.1 a).1;rw [rE] at h2;have h3:=(List.mem_replicate.1 (iE a)).2;subst h3;rw [cC,cell_of_row _ _ _ _ _ _ b];simp only [qdE,List.getElem?_toArray];rw [kB,fD (by simp;omega),List.getElem?_replicate,eA (by omega)]
   have s:=qH F;have ak:=qH b;have ar:=qH c;have I:=qH d;clear F b c d x;have a1:¬ n=k:=by omega
   go_upto_region 9 with fail
   go_region_law (show (if Region.wanted ⟨some 45,_,_,_,_,_⟩ _=true then _ else _);refine step_copy_splice (by rfl) (.tmp 41) (.tmp 44) 23 23 (by rfl) 3 underlying23 ae (some ⟨g,k,none⟩) (some ⟨g,0,none⟩) (n-k) (n-k) k n (by simp [Act.eval,Act.put]) (by simp [Act.eval,Act.put]) g k (qdE k n) 3 ak.o (List.replicate j (.int .i64 (-1))) (by rw [rE];exact ai.o) (fun _=>⟨rfl,⟨g,0,none⟩,rfl,s.o⟩) (by rw [qn9 l,rE];omega) (fun v a=>by rw [(List.mem_replicate.1 a).2];rfl) w.heap.size w ar.o.drew I.o ?_;intro a3 K ax;rw [qoa l _ T] at K;rw [rE])
   all_goals
    have al:IntKind.i64.wrap ((k:Int)+(j:Int))=((k+j:Nat):Int):=by rw [IntKind.wrap_i64];omega
    simp only [Act.put,zA,zB,zC,zD,zE,zF,al];go_roundw
    case rel=>exact ⟨_,_,_,_,_,_,_,_,_,_,_,_,_,_,⟨k+j,rfl,T,fun _=>by omega,g,rfl,I.o,K.out,ax⟩,rfl⟩
    case measure=>simp [intOf];omega
  ·have au:k=n:=by omega
   subst au;have am:=qH (show (∃ v,Ending.returned (.slice (some ⟨g,0,none⟩) k k)= .returned v/\wr.ownsRow w.heap.size 3 1 v k (qaa (List.replicate k (-1))))/\Below w.heap.size w wr from ⟨⟨_,rfl,qix.own ⟨g,rfl,d,b,c⟩ (by unfold maxLen;omega)⟩,c⟩)
   clear d b c x;go_wp2;go_ret;exact am.o
def qiy (o:List Pl) (i:Int) (n:Nat) (w:World) (e:Ending) (w':World):Prop:=∃ v,e= .returned v/\w'.ownsRow w.heap.size 3 1 v n (qaa (qcc o i n))/\wG w w'
structure qoc:Prop where
 order:∀ (A:Option Addr) (m c:Nat) (l:List (List Int)) (w:World),Lol (Value.int .i64) w w.heap.size A l->l.length=m->m<=1000->(∀ s∈l,s.length<=1000)->
  yG 47 #[.slice A m c] w (qvQ l w)
 places:∀ (A:Option Addr) (m c n:Nat) (o:List Pl) (i:Int) (w:World),Row w w.heap.size A (plc o)->o.length=m->m<=1000000->o.Nodup->(∀ p∈o,p.1<=1000/\p.2<=1000)->n<=1000->
  yG 83 #[.slice A m c,.int .i64 i,.int .i64 (n:Int)] w (qiy o i n w)
def qwj:qbS [[1,4],[2]] [(0,0),(1,0),(0,1)] where
 rise:=by decide
 mem:=fun ⟨i,k⟩=>by
  constructor
  ·intro a
   simp at a;rcases a with ⟨rfl,rfl⟩|⟨rfl,rfl⟩|⟨rfl,rfl⟩<;>exact ⟨by decide,by decide⟩
  ·rintro ⟨h1,h2⟩
   simp only [nA,vB] at h1;have b:i=0\/i=1:=by omega
   rcases b with rfl|rfl
   ·simp at h2
    have c:k=0\/k=1:=by omega
    rcases c with rfl|rfl<;>simp
   ·simp at h2
    subst h2;simp
def qwk (p:qoc) (w:World):yG 18 #[] w fun e w'=>e= .returned (.bool true)/\wG w w':=by
 have ⟨d,g⟩:=qE (((w.alloc (.cells #[.int .i64 1,.int .i64 4] 3)).alloc (.cells #[.int .i64 2] 3)).alloc (.cells #[.slice (some ⟨w.heap.size,0,none⟩) 2 2,.slice (some ⟨w.heap.size+1,0,none⟩) 1 1] 23));have s:wG w d:=by rw [g];exact (((bA _ _).alloc (aA _) _).alloc (by simp) _).alloc (by simp;omega) _
 have v:d.heap[w.heap.size]?=some (.cells #[.int .i64 1,.int .i64 4] 3 (0,0)):=by
  rw [g,pB _ _ _ (by simp;omega),pB _ _ _ (by simp)];exact jA w _
 have r:d.heap[w.heap.size+1]?=some (.cells #[.int .i64 2] 3 (0,0)):=by
  rw [g,pB _ _ _ (by simp)];simpa using jA (w.alloc (.cells #[.int .i64 1,.int .i64 4] 3)) (.cells #[.int .i64 2] 3)
 have x:d.heap[w.heap.size+1+1]?=some (.cells #[.slice (some ⟨w.heap.size,0,none⟩) 2 2,.slice (some ⟨w.heap.size+1,0,none⟩) 1 1] 23 (0,0)):=by
  rw [g];simpa using jA ((w.alloc (.cells #[.int .i64 1,.int .i64 4] 3)).alloc (.cells #[.int .i64 2] 3)) (.cells #[.slice (some ⟨w.heap.size,0,none⟩) 2 2,.slice (some ⟨w.heap.size+1,0,none⟩) 1 1] 23)
 have C:d.heap.size=w.heap.size+1+1+1:=by rw [g];simp
 have l:∀ (b:Nat) (cs:Array Value) (t:TypeId),d.heap[b]?=some (.cells cs t (0,0))->Row d d.heap.size (some ⟨b,0,none⟩) cs.toList:=fun b cs t y=>
  .inr ⟨b,0,rfl,(gA.1 y).1,fun j u R=>by
   rw [kB,cell_of_row _ _ _ _ _ _ y];simpa using R⟩
 have q:Lol (Value.int .i64) d d.heap.size (some ⟨w.heap.size+1+1,0,none⟩) [[1,4],[2]]:=by
  refine ⟨[.slice (some ⟨w.heap.size,0,none⟩) 2 2,.slice (some ⟨w.heap.size+1,0,none⟩) 1 1],⟨rfl,fun i F=> ?_⟩,l _ _ _ x⟩;simp only [nA,vB] at F;have P:i=0\/i=1:=by omega
  rcases P with rfl|rfl
  ·exact ⟨_,_,rfl,⟨by simp,by unfold maxLen;omega⟩,l _ _ _ v⟩
  ·exact ⟨_,_,rfl,⟨by simp,by unfold maxLen;omega⟩,l _ _ _ r⟩
 have N:=qH (p.order (some ⟨w.heap.size+1+1,0,none⟩) 2 2 [[1,4],[2]] d q rfl (by omega) (by decide));have G:=qH g;have z:=qH s;clear q l v r x g s C p
 go_enter func18,ntmps18
 go_wp2_with (go_at_call 47;rw [<- G.o];refine (N.o).mono ?_)
 rintro e m ⟨T,o,A,c,n,rfl,M,h,B⟩;obtain ⟨rfl,rfl⟩:=n.det (.ok (by decide) qwj);obtain ⟨b,U,rfl,_,H,D⟩:=qgK h (k:=0) (by simp);have ⟨Q,E,a,_,O,K⟩:=qgK h (k:=1) (by simp);injection a with a
 injection a with a e2
 subst a e2;have ⟨Q,E,a,_,I,L⟩:=qgK h (k:=2) (by simp);injection a with a
 injection a with a e2
 subst a e2;simp at H D O K I L;have J:=qH (z.o.trans (B.mono z.o.size));clear h B M n;have S:=qkf 0 0 0 0 m;have q2:=qkf 1 0 1 0 m;have q3:=qkf 0 1 0 1 m;go_wp2;go_ret;exact ⟨rfl,J.o⟩
def qwl (l:List Int) (w:World) (r last i:Value) (wr:World):Prop:=r= .bool false/\∃ (k:Nat) (x:Int),k<=l.length/\i= .int .i64 (k:Int)/\last= .int .i64 x/\qal x (l.drop k)=qal (-1) l/\wG w wr
def qwm (A:Option Addr) (n c:Nat) (l:List Int) (w:World) (p:Row w w.heap.size A (qaa l)) (z:l.length=n) (I:n<=9223372036854775807):
  yG 90 #[.slice A n c] w fun e w'=>e= .returned (.bool (!qal (-1) l))/\wG w w':=by
 have B:=qH p;clear p;have ⟨v,m⟩:=qE (!qal (-1) l);rw [<- m];have q:=qH m;have d:=qH z;clear m z
 go_enter func90,ntmps90
 go_wp2
 go_loopw [2,3,5,8] (fun r last u i wr=>qwl l w r last i wr) (fun _ _ _ i _=>n-(intOf i).toNat)
 case atStart=>exact ⟨rfl,0, -1,kA _,rfl,rfl,rfl,bA _ _⟩
 case round=>
  obtain ⟨rfl,k,x,D,rfl,rfl,a,h⟩:=hrel;rw [d.o] at D;by_cases F:k<n
  ·have b:k<l.length:=by rw [d.o];exact F
   obtain ⟨H,K,rfl,_,C⟩:=qbR (B.o.below h) b;have t:l.drop k=l[k]::l.drop (k+1):=yD b;rw [t,qal] at a;have ⟨y,s⟩:=qE (l[k]);rw [<- s] at C a;have L:(0:Int)<=k:=by omega
   have J:(k:Int)<n:=by omega
   clear s t;by_cases g:y<=x
   ·have j:v=true:=by rw [q.o,<- a,uA (by omega)];rfl
    have G:decide (y<=x)=true:=yA g;subst j;clear a b g;go_wp2;go_ret;exact ⟨rfl,h⟩
   ·have G:decide (y<=x)=false:=uA g
    rw [yA (by omega),sD] at a;have E:=qH a;clear a b g;go_wp2;go_roundw
    case rel=>exact ⟨rfl,k+1,y,by rw [d.o];omega,by go_num,rfl,E.o,h⟩
    case measure=>simp [intOf];omega
  ·have j:v=false:=by
    rw [q.o,<- a,pC (by rw [d.o];omega)];rfl
   subst j;clear a;go_wp2;go_ret;exact ⟨rfl,h⟩
def qwn (ls:List (List Int)) (w:World) (r u i:Value) (wr:World):Prop:=r= .int .i64 0/\∃ k:Nat,k<=ls.length/\i= .int .i64 (k:Int)/\wG w wr/\∀ j (a:j<ls.length),j<k->qal (-1) ls[j]=true
def qwo (A:Option Addr) (n c:Nat) (ls:List (List Int)) (w:World) (G:ls.length=n) (ab:n<=9223372036854775807) (C:Lol (Value.int .i64) w w.heap.size A ls):
  yG 137 #[.slice A n c,.func (.func 90) #[] #[]] w fun e w'=>(∃ r:Int,e= .returned (.int .i64 r)/\decide (0<=r)= !(ls.all (qal (-1))))/\wG w w':=by
 have K:=qH C;have d:=qH G;clear C G
 go_enter func137,ntmps137
 go_wp2
 go_loopw [4,5,8] (fun r u i wr=>qwn ls w r u i wr) (fun _ _ i _=>n-(intOf i).toNat)
 case atStart=>exact ⟨rfl,0,kA _,rfl,bA _ _,fun j _ t=>by omega⟩
 case round=>
  obtain ⟨rfl,k,P,rfl,a,I⟩:=hrel;rw [d.o] at P;have J:=qH I;clear I;by_cases T:k<n
  ·have H:k<ls.length:=by rw [d.o];exact T
   obtain ⟨W,Z,R,L,rfl,X,D,b,p⟩:=(K.o.below a).at_ H;have V:(0:Int)<=k:=by omega
   have Y:(k:Int)<n:=by omega
   have ⟨y,q⟩:=qE (ls[k]);rw [<- q] at D b p;have ⟨m,s⟩:=qE y.length;rw [<- s] at D b;have B:=a.size;have v:=qH (qwm R m L y wr (p.more B) s.symm (by have :=b.2;unfold maxLen at this;omega));have E:=qH q;have ⟨z,x⟩:=qE (qal (-1) y);rw [<- x] at v;have F:=qH x;have g:=qH a;clear q s x p b a;cases z with
   |false=>
    have M:qI (ls.all (qal (-1))=false):=qH (by
     rw [List.all_eq_false];exact ⟨_,pA H,by rw [<- E.o,<- F.o];decide⟩)
    go_wp2_with (go_at_call 90;(with_reducible refine v.o.mono ?_);rintro e S ⟨rfl,h⟩)
    go_ret;exact ⟨⟨_,rfl,by rw [M.o];exact yA V⟩,g.o.trans (h.mono B)⟩
   |true=>
    have Q:qI (∀ j (t:j<ls.length),j<k+1->qal (-1) ls[j]=true):=qH fun i N aa=>by
     by_cases e:i=k
     ·subst e
      rw [<- E.o,<- F.o]
     ·exact J.o i N (by omega)
    go_wp2_with (go_at_call 90;(with_reducible refine v.o.mono ?_);rintro e S ⟨rfl,h⟩)
    go_roundw
    case rel=>exact ⟨rfl,k+1,by rw [d.o];omega,by go_num,g.o.trans (h.mono B),Q.o⟩
    case measure=>simp [intOf];omega
  ·have U:qI (ls.all (qal (-1))=true):=qH (nF.2 fun l O=>by
    obtain ⟨j,t,rfl⟩:=List.mem_iff_getElem.1 O;exact J.o j t (by have :=d.o;omega))
   have g:=qH a;clear a;go_wp2;go_ret;exact ⟨⟨_,rfl,by rw [U.o];rfl⟩,g.o⟩
def qwp (A:Option Addr) (n c:Nat) (ls:List (List Int)) (w:World) (b:ls.length=n) (d:n<=9223372036854775807) (a:Lol (Value.int .i64) w w.heap.size A ls):
  yG 89 #[.slice A n c,.func (.func 90) #[] #[]] w fun e w'=>e= .returned (.bool (!(ls.all (qal (-1)))))/\wG w w':=by
 have C:=qH (qwo A n c ls w b d a);clear b d a;have ⟨z,g⟩:=qE (!(ls.all (qal (-1))));rw [<- g] at C ⊢;clear g
 go_enter func89,ntmps89
 go_wp2_with (go_at_call 137;(with_reducible refine C.o.mono ?_);rintro e i ⟨⟨r,rfl,a⟩,h⟩)
 go_ret;exact ⟨rfl,h⟩
def qgN (A:Option Addr) (n c:Nat) (w:World):yG 93 #[.slice A n c] w fun e w'=>e= .returned (.int .i64 (n:Int))/\w'=w:=by
 go_enter func93,ntmps93
 go_wp2;go_ret;exact ⟨rfl,rfl⟩
def qwq (g n c a b:Nat) (x y:Int) (w:World) (l:a<n) (i:b<n) (d:n<=c/\c<=maxLen) (k:w.cell? ⟨g,a*3,none⟩=some (.int .i64 x)) (h:w.cell? ⟨g,b*3,none⟩=some (.int .i64 y)):
  yG 278 #[.slice (some ⟨g,0,none⟩) n c,.int .i64 (a:Int),.int .i64 (b:Int)] w fun e w'=>e= .returned (.bool (decide (x<y)))/\wG w w':=by
 obtain ⟨j,q2⟩:=d;unfold maxLen at q2
 go_enter func278,ntmps278
 go_wp2
 go_quiet (fail)
 go_wp2;go_ret;exact ⟨rfl,rfl,rfl,rfl,aA _,fun _ _=>rfl⟩
def qe3 (w:World) (g k:Nat) (x:Int) (l p:Nat):World:=((w.setCell ⟨g,k*3,none⟩ (.int .i64 x)).setCell ⟨g,k*3+1,none⟩ (.int .i64 (l:Int))).setCell ⟨g,k*3+2,none⟩ (.int .i64 (p:Int))
def qwr (g n c a b:Nat) (i m:Int) (h d l k:Nat) (w:World) (H:a<n) (t:b<n) (C:n<=c/\c<=maxLen)
  (D:w.cell? ⟨g,a*3,none⟩=some (.int .i64 i)) (x:w.cell? ⟨g,a*3+1,none⟩=some (.int .i64 (h:Int))) (B:w.cell? ⟨g,a*3+2,none⟩=some (.int .i64 (d:Int)))
  (q:w.cell? ⟨g,b*3,none⟩=some (.int .i64 m)) (r:w.cell? ⟨g,b*3+1,none⟩=some (.int .i64 (l:Int))) (s:w.cell? ⟨g,b*3+2,none⟩=some (.int .i64 (k:Int))) (G:∀ j,w.frozen? ⟨g,j,none⟩=false):
  yG 279 #[.slice (some ⟨g,0,none⟩) n c,.int .i64 (a:Int),.int .i64 (b:Int)] w fun e w'=>(∃ v,e= .returned v)/\w'=(qe3 (qe3 w g a m l k) g b i h d).drew:=by
 obtain ⟨E,q2⟩:=C;unfold maxLen at q2;by_cases p:a=b
 ·subst p
  have z:m=i:=by have :=q.symm.trans D;simpa using this
  have y:l=h:=by have :=r.symm.trans x;simp at this;omega
  have A:k=d:=by have :=s.symm.trans B;simp at this;omega
  subst z y A;clear q r s t
  go_enter func279,ntmps279
  go_wp2
  go_region
  go_end0
  exact ⟨⟨_,rfl⟩,rfl⟩
 ·have F:¬ b=a:=fun e=>p e.symm
  go_enter func279,ntmps279
  go_wp2
  go_region
  go_end0
  exact ⟨⟨_,rfl⟩,rfl⟩
def qws (B:Nat) (v:Value) (w:World) (a:w.cell? ⟨B,0,none⟩=some v) (k:Nat):(method (k+1) 168 (.pointer (some ⟨B,0,none⟩)) "Less").run prog w= .ok (278,v) w:=by
 have e:(method (k+1) 168 (.pointer (some ⟨B,0,none⟩)) "Less").run prog w=((loadVar 165 ⟨B,0,none⟩)>>=fun v=>pure (278,v)).run prog w:=by kernel_rfl
 rw [e];simp [loadVar,a]
def qwt (B:Nat) (v:Value) (w:World) (a:w.cell? ⟨B,0,none⟩=some v) (k:Nat):(method (k+1) 168 (.pointer (some ⟨B,0,none⟩)) "Swap").run prog w= .ok (279,v) w:=by
 have e:(method (k+1) 168 (.pointer (some ⟨B,0,none⟩)) "Swap").run prog w=((loadVar 165 ⟨B,0,none⟩)>>=fun v=>pure (279,v)).run prog w:=by kernel_rfl
 rw [e];simp [loadVar,a]
def qwu (B:Nat) (v:Value) (w:World) (a:w.cell? ⟨B,0,none⟩=some v) (k:Nat):(method (k+1) 168 (.pointer (some ⟨B,0,none⟩)) "Len").run prog w= .ok (93,v) w:=by
 have e:(method (k+1) 168 (.pointer (some ⟨B,0,none⟩)) "Len").run prog w=((loadVar 165 ⟨B,0,none⟩)>>=fun v=>pure (93,v)).run prog w:=by kernel_rfl
 rw [e];simp [loadVar,a]
def qwv (B:Nat) (w:World) (k:Nat):(method (k+1) 168 (.pointer (some ⟨B,0,none⟩)) "Pop").run prog w= .ok (280,.pointer (some ⟨B,0,none⟩)) w:=by kernel_rfl
def qww (B:Nat) (w:World) (k:Nat):(method (k+1) 168 (.pointer (some ⟨B,0,none⟩)) "Push").run prog w= .ok (281,.pointer (some ⟨B,0,none⟩)) w:=by kernel_rfl
abbrev qaD (x:Hd):Int:=x.1
def qod {g n:Nat} {H:List Hd} {x:Hd} (a:g≠B) (r:zz<=B) (h2:w.heap[B]?=some (.cells #[.slice (some ⟨g,0,none⟩) H.length c] 165 (0,0))) (h3:w.ownsRow zz 170 3 (.slice (some ⟨g,0,none⟩) H.length c) H.length (hds H)):
  (qe3 w g k x.1 x.2.1 x.2.2).heap[B]?=some (.cells #[.slice (some ⟨g,0,none⟩) (H.set k x).length c] 165 (0,0))/\(qe3 w g k x.1 x.2.1 x.2.2).ownsRow zz 170 3 (.slice (some ⟨g,0,none⟩) (H.set k x).length c) (H.set k x).length (hds (H.set k x))/\qaQ zz w (qe3 w g k x.1 x.2.1 x.2.2):=by
 have m:zz<=g/\∃ cs,w.heap[g]?=some (.cells cs 170 (0,0)):=⟨(h3.lt g rfl).1,qfO h3 rfl⟩;refine ⟨?_,?_,?_⟩
 ·rw [uC]
  unfold qe3;rw [rA _ _ _ _ (fun e=>a e.symm),rA _ _ _ _ (fun e=>a e.symm),rA _ _ _ _ (fun e=>a e.symm),h2]
 ·rw [uC,qnI]
  exact (((h3.stored _ _).1.stored _ _).1.stored _ _).1
 ·obtain ⟨b,cs,d⟩:=m
  have l:=qaQ.setCell (i:=k*3) d (.inl rfl) b (.int .i64 x.1);have h:=lB w g (k*3) _ _ (.int .i64 x.1) d;have j:=qaQ.setCell (i:=k*3+1) h (.inl rfl) b (.int .i64 (x.2.1:Int));have q:=lB _ g (k*3+1) _ _ (.int .i64 (x.2.1:Int)) h;have p:=qaQ.setCell (i:=k*3+2) q (.inl rfl) b (.int .i64 (x.2.2:Int));exact (l.trans j).trans p
def qaQ.drew (a:qaQ zz w w'):qaQ zz w w'.drew:=⟨a.below.drew,a.keep⟩
def HAt.drew {H:List Hd} (a:HAt zz w B H):HAt zz w.drew B H:=a
def HAt.swap {H:List Hd} (d:HAt zz w B H) {a b:Nat} (i:a<H.length) (h:b<H.length) {g c:Nat} (h2:w.heap[B]?=some (.cells #[.slice (some ⟨g,0,none⟩) H.length c] 165 (0,0))) (h3:w.ownsRow zz 170 3 (.slice (some ⟨g,0,none⟩) H.length c) H.length (hds H)) (e:g≠B):
  HAt zz (qe3 (qe3 w g a H[b].1 H[b].2.1 H[b].2.2) g b H[a].1 H[a].2.1 H[a].2.2).drew B (qcv H a b i h)/\qaQ zz w (qe3 (qe3 w g a H[b].1 H[b].2.1 H[b].2.2) g b H[a].1 H[a].2.1 H[a].2.2).drew:=by
 have ⟨p,l,q⟩:=qod (k:=a) (x:=H[b]) (n:=0) e d.1 h2 h3;have ⟨r,m,j⟩:=qod (k:=b) (x:=H[a]) (n:=0) e d.1 p l;refine ⟨HAt.drew ?_,(q.trans j).drew⟩;rw [show qcv H a b i h=(H.set a H[b]).set b H[a] from rfl]
 exact ⟨d.1,_,r,m⟩
def HAt.less {H:List Hd} (i:HAt zz w B H) {a b:Nat} (l:a<H.length) (h:b<H.length):∃ v,(∀ k,(method (k+1) 168 (.pointer (some ⟨B,0,none⟩)) "Less").run prog w= .ok (278,v) w)/\
  yG 278 #[v,.int .i64 (a:Int),.int .i64 (b:Int)] w fun e w'=>e= .returned (.bool (decide (H[a].1<H[b].1)))/\wG w w':=by
 have ⟨g,c,j,q2,q3,m,r,p,t,s⟩:=i.at_ l;have ⟨z,x,d,_,_,_,_,n,y,q⟩:=i.at_ h;rw [j] at d;simp only [jB,Obj.cells.injEq,Array.mk.injEq,List.cons.injEq,mF,Addr.mk.injEq,true_and,and_true] at d;obtain ⟨rfl,rfl⟩:=d;exact ⟨_,qws B _ w (kG j),qwq g _ c a b _ _ w l h ⟨q3,m⟩ p n⟩
def HAt.swaps {H:List Hd} (j:HAt zz w B H) {a b:Nat} (h:a<H.length) (d:b<H.length):∃ v,(∀ k,(method (k+1) 168 (.pointer (some ⟨B,0,none⟩)) "Swap").run prog w= .ok (279,v) w)/\
  yG 279 #[v,.int .i64 (a:Int),.int .i64 (b:Int)] w fun e w'=>(∃ v,e= .returned v)/\HAt zz w' B (qcv H a b h d)/\qaQ zz w w':=by
 have ⟨g,c,l,q2,q3,m,p,t,s,r⟩:=j.at_ h;have ⟨z,y,i,_,_,_,_,q,x,n⟩:=j.at_ d;rw [l] at i;simp only [jB,Obj.cells.injEq,Array.mk.injEq,List.cons.injEq,mF,Addr.mk.injEq,true_and,and_true] at i;obtain ⟨rfl,rfl⟩:=i;refine ⟨_,qwt B _ w (kG l),(qwr g _ c a b _ _ _ _ _ _ w h d ⟨q3,m⟩ t s r q x n q2.frozenAt).mono ?_⟩;rintro e w' ⟨h1,rfl⟩;exact ⟨h1,j.swap h d l q2 p⟩
def HAt.len_ {H:List Hd} (a:HAt zz w B H):∃ v,(∀ k,(method (k+1) 168 (.pointer (some ⟨B,0,none⟩)) "Len").run prog w= .ok (93,v) w)/\
  yG 93 #[v] w fun e w'=>e= .returned (.int .i64 (H.length:Int))/\w'=w:=by
 have ⟨A,c,h1,_⟩:=a.read;exact ⟨_,qwu B _ w h1,qgN A _ c w⟩
abbrev ifH (B:Nat):Value:= .iface 168 (.pointer (some ⟨B,0,none⟩))
def qgl (zz B:Nat) (l:List Hd) (w:World) (e:Ending) (w':World):Prop:=(∃ v,e= .returned v)/\∃ a,a.Perm l/\qb5 qaD a a.length/\HAt zz w' B a/\qaQ zz w w'
def qoe (zz B:Nat) (l:List Hd) (w:World) (b:Value) (wr:World):Prop:=∃ (j:Nat) (a:List Hd),b= .int .i64 (j:Int)/\j<a.length/\a.Perm l/\qe0 qaD a j/\HAt zz wr B a/\qaQ zz w wr
theorem qof:(prog.info? 170).map (fun i=>(i.zero,i.size,i.bytes))=some (some (.agg #[.int .i64 0,.int .i64 0,.int .i64 0]),3,24):=by kernel_rfl
def qog (l:List (List Int)) (w:World) (e:Ending) (w':World):Prop:=∃ v H,e= .returned v/\qeG l l.length H/\H.length<=l.length/\w'.ownsRow w.heap.size 170 3 v H.length (hds H)/\wG w w'
def qwx (l:List (List Int)) (w:World) (a i:Value) (wr:World):Prop:=∃ (k:Nat) (H:List Hd),k<=l.length/\i= .int .i64 (k:Int)/\qeG l k H/\H.length<=k/\wr.ownsRow w.heap.size 170 3 a H.length (hds H)/\wG w wr
def qwy (A:Option Addr) (m c:Nat) (l:List (List Int)) (w:World) (z:Lol (Value.int .i64) w w.heap.size A l) (C:l.length=m) (ai:m<=100000):
  yG 91 #[.slice A m c] w (qog l w):=by
 have ⟨af,ag,Z,aa,W⟩:=lG qof;have U:=qH z;have e:=qH C;clear z C
 go_enter func91,ntmps91
 go_wp2
 go_loopw [3,4,5,8] (fun Y u4 u5 i wr=>qwx l w Y i wr) (fun _ _ _ i _=>m-(intOf i).toNat)
 case atStart=>exact ⟨0,[],kA _,rfl,qu3 l,aA _,vA _ _ _ _,bA _ _⟩
 case round=>
  obtain ⟨k,H,V,rfl,d,D,b,a⟩:=hrel;rw [e.o] at V;by_cases ae:k<m
  ·have p:k<l.length:=by rw [e.o];exact ae
   obtain ⟨aj,an,ao,ak,rfl,al,S,⟨L,X⟩,t⟩:=(U.o.below a).at_ p;have j:InO l (k,0)↔0<l[k].length:=⟨fun h=>(qcm.1 h).2,fun h=>qcm.2 ⟨p,h⟩⟩;have au:(0:Int)<=k:=by omega
   have am:(k:Int)<m:=by omega
   have ⟨n,v⟩:=qE (l[k].length);rw [<- v] at S L j;by_cases F:0<n
   ·obtain ⟨ah,aq,rfl,ar,B⟩:=qbR t (k:=0) (by omega)
    have y:l[k][0]'(by omega)=qaA l (k,0):=(qeW p (by omega)).symm;rw [y,Nat.add_zero] at B;have r:=d.put (j.2 F);have ⟨x,G⟩:=qE (qaA l (k,0));rw [<- G] at B r;have ap:=a.size;have ⟨N,s⟩:=qE H.length;have g:=qH b;rw [<- s] at g D;have E:=qH s;have P:=qH r;have ab:=qH a;unfold maxLen at X;clear G y s b r d j v t a
    go_wp2_with (at_builtin;refine wB _ rfl (.tmp 16) (.tmp 22) 165 rfl w.heap.size 170 af _ 3 24 underlying165 ag Z aa W rfl (by omega) _ N (hds H) rfl (g.o.alloc _) ⟨wr.heap.size,0,none⟩ 1 1 [.int .i64 x,.int .i64 (k:Int),.int .i64 0] rfl rfl (qaH wr [.int .i64 x,.int .i64 (k:Int),.int .i64 0] 170) (by intro u K;simp at K;rcases K with rfl|rfl|rfl<;>rfl) (by unfold maxLen;omega) (by omega) (by simp;omega) ?_;intro av T O M _)
    have ac:wG w T:=((ab.o).alloc (by omega) _).grown M (by simp;omega) (fun q ad=>((g.o).lt q ad).1);go_roundw
    case rel=>
     refine ⟨k+1,H++[(x,k,0)],by rw [e.o];omega,by go_num,P.o,by rw [iA,<- E.o];simp;omega,?_,ac⟩;rw [iA,<- E.o,qiq];exact O
    case measure=>simp [intOf];omega
   ·have J:=d.skip fun h=>F (j.1 h)
    have Q:=qH J;have g:=qH b;clear J b d j v t;go_wp2;go_roundw
    case rel=>exact ⟨k+1,H,by rw [e.o];omega,by go_num,Q.o,by omega,g.o,a⟩
    case measure=>simp [intOf];omega
  ·have I:k=l.length:=by have :=e.o;omega
   have R:=qH (show qog l w (.returned u3) wr from ⟨_,H,rfl,I▸d,by omega,b,a⟩)
   clear d b a I D;go_wp2;go_ret;exact R.o
def qaE.rowVar (N:Nat) (T E:TypeId) (zz B:Nat) (xs:List Value):qaE N (fun W=>qbJ T E zz B xs W):=fun W l o i _ a b ⟨v,h1,h2⟩=>by
 have d:B≠l:=fun e=>by subst e;rw [h1] at a;injection a with a;rw [<- a] at b;cases b
 refine ⟨v,(World.putObj_heap_other d).trans h1,qaq h2 fun g c=>World.putObj_heap_other fun e=> ?_⟩;subst e;rcases h2.2 with ⟨rfl,_⟩|⟨m,k,j,rfl,_,h,_⟩
 ·cases c
 ·simp only [Value.ownBlock,jB] at c
  subst c;rw [h] at a;injection a with a
  rw [<- a] at b;cases b
def qcl.others (i:qbJ T E zz B xs w) (e:qcl B w w'):KeepsOthers w w':=by
 refine ⟨e.2.2.2.1,fun k o a b=> ?_⟩;have h:=(gA.1 a).1;obtain ⟨v,h1,h2⟩:=i;rw [e.2.2.2.2 k h ?_ ?_,a]
 ·rintro rfl
  rw [h1] at a;injection a with a
  rw [<- a] at b;cases b
 ·intro u t d c
  rw [h1] at d;simp at d;rw [<- d.1] at c;rcases h2.2 with ⟨rfl,_⟩|⟨m,l,j,rfl,_,g,_⟩
  ·cases c
  ·simp only [Value.ownBlock,jB] at c
   subst c;rw [g] at a;injection a with a
   rw [<- a] at b;cases b
abbrev nmV:Nm->Value:=fun x=> .string ⟨x.toArray⟩
theorem qoh:(prog.info? 40).map (fun i=>(i.zero,i.size,i.bytes))=some (some (.slice none 0 0),1,24):=by kernel_rfl
def qeI (L:List (List Nm)) (w:World) (D m lo k:Nat) (wr:World):Prop:=∃ a:List Value,a.length=k/\k<=m/\L.length=m/\qcf nmV 40 w.heap.size D m lo wr.heap.size wr (upL L k []) (a++List.replicate (m-k) qbg)/\wG w wr
def qeI.all {L:List (List Nm)} (a:qeI L w D m lo m wr):Lol nmV wr wr.heap.size (some ⟨D,0,none⟩) L:=by
 obtain ⟨c,h1,h2,h3,b,d⟩:=a;have :=b.lol;rwa [<- h3,qnK] at this
section
variable {L:List (List Nm)} {w wr w':World} {D m lo k:Nat} {s:List Nm} {v:Value}
def qeI.begin2 (c:wr.ownsRow w.heap.size 40 1 (.slice (some ⟨D,0,none⟩) m m) m (List.replicate m qbg)) (b:D<lo) (a:L.length=m) (d:wG w wr):qeI L w D m lo 0 wr:=by
 refine ⟨[],rfl,kA _,a,⟨by simpa using c,b,by rw [qir (kA _),a],?_,aA _⟩,d⟩;rw [qkt,a];exact qkq _ _ _ _
def qeI.low (b:qeI L w D m lo k wr):D<lo/\D<wr.heap.size/\wG w wr/\k<=m:=by
 obtain ⟨d,h1,h2,h3,a,c⟩:=b;exact ⟨a.lt,(a.own.lt _ rfl).2,c,h2⟩
def qeI.put (z:qeI L w D m lo k wr) (r:k<m) (E:lo<=wr.heap.size) (j:wG wr w') (I:∀ r:k<L.length,L[k]=s) (G:w'.ownsRow wr.heap.size 9 1 v s.length (qad s)):
  w'.cell? ⟨D,k,none⟩=some qbg/\w'.frozen? ⟨D,k,none⟩=false/\∃ A c,v= .slice A s.length c/\s.length<=c/\c<=maxLen/\qc5 (w'.setCell ⟨D,k,none⟩ v) lo w'.heap.size A (qad s)/\qeI L w D m lo (k+1) (w'.setCell ⟨D,k,none⟩ v):=by
 have ⟨K,M,O,_⟩:=z.low;obtain ⟨h,h1,h2,h3,B,C⟩:=z;have l:k<L.length:=by omega
 have e:=B.later j;obtain ⟨A,c,rfl,t,q,y⟩:=qkp (lo:=lo) G E;have H:w'.cell? ⟨D,k,none⟩=some qbg:=by
  rw [e.own.cellAt k (by omega),oC (by omega),h1,bE,show m-k=(m-k-1)+1 by omega,List.replicate_succ];rfl
 refine ⟨H,e.own.frozenAt k,A,c,rfl,t,q,y.keep fun b N P=>rA _ _ _ _ (by simp only;omega),?_⟩;have g:=qcf.set (i:=k) (x:=s) (A:=A) (c:=c) (⟨e.own,e.lt,e.len,e.rows.more j.size,aA _⟩:qcf nmV 40 w.heap.size D m lo w'.heap.size w' _ _) ⟨t,q⟩ y;have F:(h++List.replicate (m-k) qbg).set k (.slice A s.length c)=(h++[.slice A s.length c])++List.replicate (m-(k+1)) qbg:=by
  have :=qhw (a:=h) (n:=m-k) (d:=qbg) (x:= .slice A s.length c) (by omega);rw [h1] at this;rw [this,iB,show m-k-1=m-(k+1) by omega];rfl
 rw [F,show (upL L k []).set k s=upL L (k+1) [] by rw [<- I l];exact qku l] at g;have J:(w'.setCell ⟨D,k,none⟩ (.slice A s.length c)).heap.size=w'.heap.size:=by simp [World.setCell]
 refine ⟨h++[.slice A s.length c],by simp [h1],r,h3,⟨g.own,g.lt,g.len,by rw [J];exact g.rows,aA _⟩,?_⟩;exact (C.trans (j.mono C.size)).setCell (p:=⟨D,k,none⟩) B.from_ _
end
def qoi {R:Option Addr->List Value->Prop}:∀ {l:List (List Nm)} {cs:List Value},cs.length=l.length->(∀ i (a:i<l.length),∃ A c,cs[i]?=some (.slice A l[i].length c)/\(l[i].length<=c/\c<=maxLen)/\R A (qad l[i]))->qbG R l cs
 |[],cs,a,_=>by simpa [qbG] using a
 |x::r,[],a,_=>by simp at a
 |x::r,u::cs,a,b=>by
  have ⟨A,c,h1,⟨h2,h3⟩,g⟩:=b 0 (by simp);simp at h1;subst h1;exact ⟨A,c,cs,rfl,h2,h3,g,qoi (by simpa using a) fun i e=>by
   have ⟨A,c,j,d,h⟩:=b (i+1) (by simpa using e);exact ⟨A,c,by simpa using j,d,h⟩⟩
def qoj {l:List (List Nm)} (a:Lol nmV w B A l):qco w B A l:=by
 obtain ⟨cs,⟨h1,h2⟩,h3⟩:=a;exact ⟨cs,qoi h1 h2,h3⟩
attribute [local go_sem] gG
def qcX (A:Option Addr) (xs:List Value) (W a:World):Prop:=W.heap.size<=a.heap.size/\(xs=[]\/∃ g b,A=some ⟨g,b,none⟩/\a.heap[g]?=W.heap[g]?)
def qcX.trans (c:qcX A xs W w) (k:qcX A xs w w'):qcX A xs W w':=by
 refine ⟨lA c.1 k.1,?_⟩;rcases c.2 with h2|⟨g,d,e,h2⟩
 ·exact .inl h2
 ·rcases k.2 with b|⟨i,h,a,b⟩
  ·exact .inl b
  ·rw [e] at a
   injection a with a
   injection a with e1 e2
   subst e1;exact .inr ⟨g,d,e,b.trans h2⟩
def qcX.of_row (c:Row W b A xs) (d:W.heap.size<=w.heap.size) (i:∀ g a,A=some ⟨g,a,none⟩->g<b->w.heap[g]?=W.heap[g]?):qcX A xs W w:=by
 refine ⟨d,?_⟩;rcases c with c|⟨g,a,e,h,_⟩
 ·exact .inl c
 ·exact .inr ⟨g,a,e,i g a e h⟩
def qcX.of_row' (c:Row w0 b A xs) (d:W.heap.size<=w.heap.size) (i:∀ g a,A=some ⟨g,a,none⟩->g<b->w.heap[g]?=W.heap[g]?):qcX A xs W w:=by
 refine ⟨d,?_⟩;rcases c with c|⟨g,a,e,h,_⟩
 ·exact .inl c
 ·exact .inr ⟨g,a,e,i g a e h⟩
def qcX.row (k:qcX A xs W w) (d:Row W b A xs):Row w b A xs:=by
 rcases d with d|⟨g,h,e,i,l⟩
 ·exact .inl d
 ·rcases k.2 with h2|⟨p,n,c,h2⟩
  ·exact .inl h2
  ·rw [e] at c
   injection c with c
   injection c with e1 e2
   subst e1 e2;exact .inr ⟨g,h,e,i,fun j u m=>by rw [tC (a:=⟨g,h+j,none⟩) h2];exact l j u m⟩
def qkH (A:Option Addr) (l:List Nm) (vs:List Nat) (w0:World) (a:List (Nm × Nat)->World->Prop) (i:Value) (wr:World):Prop:=∃ pre:List (Nm × Nat),pre.length<=l.length/\i= .int .i64 (pre.length:Int)/\a pre wr/\qcX A (qaY l vs) w0 wr
def qwz (m b v c:Nat) (A:Option Addr) (l:List Nm) (vs:List Nat) (w:World) (a1:1<=m) (s:b<=w.heap.size) (Z:vs.length=l.length) (J:w.heap[v]?=some (.cells #[.slice A l.length c] 227 (0,0))) (ak:l.length<=c) (a4:c<=maxLen) (F:Row w b A (qaY l vs)) (ao:l.length<=1048576):
  qj4 m prog 136 #[.pointer (some ⟨v,0,none⟩)] qfp (fun A B=>wG A B) (qcX A (qaY l vs)) (OkP l vs) (fun xs=>xs.length=l.length) (fun _=>True) w:=by
 intro az D X W h af S Y;have N:=(h.block v (mG J)).trans J;have an:=kG N;have T:=qH (F.below (h.mono s));have ag:=qH af;have al:=qH S;have aq:qI (qkH A l vs W D (.int .i64 ((0:Nat):Int)) W):=qH ⟨[],kA _,rfl,Y,qcX.of_row (F.below (h.mono s)) (aA _) (fun _ _ _ _=>rfl)⟩;have a5:b<=W.heap.size:=lA s h.size;have ⟨n,I⟩:=qE l.length;rw [<- I] at ak ao an;have p:=qH I;have M:=qH Z;clear af S Y J N F h I Z;refine vG func136 rfl trivial ?_ rfl;simp only [ntmps136,iD,nA,vB,Nat.reduceAdd,Nat.reduceSub,tD,uD,jD,vD,lC,bC];gi_wp2
 gi_loopw [7] (qkH A l vs W D) (fun i _=>n-(intOf i).toNat)
 case atStart=>exact aq.o
 case round=>
  obtain ⟨pre,aj,rfl,C,q⟩:=hrel;have ⟨k,a⟩:=qE pre.length;rw [<- a,<- p.o] at aj;rw [<- a];have a6:=q.1;by_cases ax:k<n
  ·have t:k<l.length:=by rw [<- p.o];exact ax
   obtain ⟨ah,ap,rfl,a2,E⟩:=(q.row T.o).at_ (by rw [qhp M.o];omega);have ⟨V,R⟩:=qhq M.o t;have P:=E _ _ V;have K:=E _ _ R;rw [<- uB] at K;have ⟨x,G⟩:=qE (l[k]);have ⟨y,d⟩:=qE (vs.getD k 0);rw [<- G] at P;rw [<- d] at K;have Q:∀ aa,OkP l vs pre (x,y) aa:=fun aa=>⟨by rw [<- a];exact t,by simp only [<- a];exact G,by simp only [<- a];exact d⟩
   have ⟨ae,H⟩:=qE (⟨x.toArray⟩:ByteArray);rw [<- H] at P;have ar:=qH Q;have aw:=qH H;have U:=qH a;have ay:=qH C;have ab:(k:Int)<(n:Int):=by omega
   have a0:(0:Int)<=(k:Int):=by omega
   clear V R E G d Q H a C t;have ⟨w3,r⟩:=qE (wr.alloc (.cells #[.string ae,.pointer (some ⟨y,0,none⟩)] 232));have j:wG wr w3:=by rw [r];exact (bA _ _).alloc (aA _) _
   have ad:=al.o pre (x,y) w3 (ag.o _ _ _ ay.o j) (ar.o w3);rw [show qfp (x,y)=#[.string ae,.pointer (some ⟨y,0,none⟩)] by unfold qfp;rw [aw.o]] at ad;obtain ⟨fn,tmps,assign,body,d,z⟩:=ad;rw [r] at d;have au:=qH (q.trans (qcX.of_row (q.row T.o) j.size (fun g _ _ a3=>j.block g (by omega))));have ac:=qH r;clear r j;gi_wp2;rw [ac.o] at z;refine z.mono ?_;rintro e av (⟨rfl,L,O⟩|⟨rfl,am⟩)
   ·have hrel:qkH (some ⟨ah,ap,none⟩) l vs W D (.int .i64 ((k:Int)+1)) av:=by
     refine ⟨pre++[(x,y)],?_,?_,L,au.o.trans ?_⟩
     ·rw [iA,bB,<- U.o,<- p.o];omega
     ·rw [iA,bB,<- U.o];rfl
     ·rw [ac.o];exact O
    have ai:=qH hrel;clear hrel L O d z;gi_wp2;go_roundw
    case rel=>exact ai.o
    case measure=>simp [intOf];omega
   ·gi_wp2
    refine pE (results_none rfl _ _ _) rfl ?_;exact ⟨⟨_,rfl⟩,.inr ⟨_,trivial,am⟩⟩
  ·have ab:pre.length=l.length:=by rw [<- a,<- p.o];omega
   gi_wp2
   go_end0
   exact ⟨⟨_,rfl⟩,.inl ⟨_,ab,C⟩⟩
