import Derived.Test.YtpehcaidjlemiaaGreatDoorMKZz
import Derived.Test.YtpehcaidjlemiaaGreatDoorMKQ01
import Derived.Test.YtpehcaidjlemiaaGreatDoorRows
import Derived.Deep.Grids
import Derived.Lib.LaidTab
import Derived.MakeChecks
import Derived.Shelf.Strings.Builder2
import Derived.Shelf.Strings.BuilderK
import Derived.Shelf.Strings.BuilderRune
import Derived.Shelf.Utf8.RuneCount
import Derived.Test.YtpehcaidjlemiaaGreatDoorProg
import Derived.Lib.RuneBytes
import Derived.Lib.RuneCount
import Derived.Lib.Hide
import Derived.BigCall
import Derived.WalkKit
set_option maxHeartbeats 2000000
set_option maxRecDepth 100000
set_option linter.unusedVariables false
namespace Go.Proofs.YtpehcaidjlemiaaGreatDoor
open Go Go.RowKit
open Plain (Wd WS Rep qax qcW getW)
def qaa:List Wd->List Value
 |[]=>[]
 |p::ws=> .int .i64 p.1:: .int .u64 p.2::qaa ws
theorem qed:∀ ws:List Wd,(qaa ws).length=ws.length*2
 |[]=>rfl
 |p::ws=>by simp only [qaa,List.length_cons,qed ws];omega
theorem qgj:∀ a b:List Wd,qaa (a++b)=qaa a++qaa b
 |[],b=>rfl
 |p::a,b=>by simp only [List.cons_append,qaa,qgj a b]
theorem qkZ:∀ (ws:List Wd) (k:Nat),qaa (ws.take k)=(qaa ws).take (k*2)
 |[],k=>by simp [qaa]
 |p::ws,0=>by simp [qaa]
 |p::ws,k+1=>by
  rw [List.take_succ_cons,qaa,qaa,qkZ ws k,show (k+1)*2=k*2+1+1 by omega];rfl
theorem qic:∀ (ws:List Wd) (k:Nat),qaa (ws.drop k)=(qaa ws).drop (k*2)
 |[],k=>by simp [qaa]
 |p::ws,0=>by simp [qaa]
 |p::ws,k+1=>by
  rw [List.drop_succ_cons,qaa,qic ws k,show (k+1)*2=k*2+1+1 by omega];rfl
theorem qk0:∀ (ws:List Wd) (k:Nat) (p:Wd),ws[k]?=some p->(qaa ws)[k*2]?=some (.int .i64 p.1)/\(qaa ws)[k*2+1]?=some (.int .u64 p.2)
 |[],k,p,h=>by simp at h
 |q::ws,0,p,h=>by
  simp only [List.getElem?_cons_zero,Option.some.injEq] at h;subst h;exact ⟨rfl,rfl⟩
 |q::ws,k+1,p,h=>by
  rw [List.getElem?_cons_succ] at h;have ih:=qk0 ws k p h;rw [qaa,show (k+1)*2=k*2+1+1 by omega];exact ih
theorem qk1:∀ (ws:List Wd) (k:Nat) (a x y:Nat),ws[k]?=some (a,x)->qaa (ws.set k (a,y))=(qaa ws).set (k*2+1) (.int .u64 y)
 |[],k,a,x,y,h=>by simp at h
 |q::ws,0,a,x,y,h=>by
  simp only [List.getElem?_cons_zero,Option.some.injEq] at h;subst h;rfl
 |q::ws,k+1,a,x,y,h=>by
  rw [List.getElem?_cons_succ] at h;rw [zF,qaa,qaa,qk1 ws k a x y h,show (k+1)*2+1=(k*2+1)+1+1 by omega];rfl
theorem qfq:∀ (ws:List Wd),∀ u∈qaa ws,u.oneCell'=true
 |[],u,h=>by cases h
 |p::ws,u,h=>by
  simp only [qaa,List.mem_cons] at h;rcases h with rfl|rfl|h
  ·rfl
  ·rfl
  ·exact qfq ws u h
theorem qfN {w:World} {B:Nat} {A:Option Addr} {ws:List Wd} (h:Row w B A (qaa ws)) {k:Nat} (hk:k<ws.length):
  ∃ b off,A=some ⟨b,off,none⟩/\b<B/\w.cell? ⟨b,off+k*2,none⟩=some (.int .i64 (ws[k]'hk).1)/\w.cell? ⟨b,off+k*2+1,none⟩=some (.int .u64 (ws[k]'hk).2):=by
 obtain ⟨b,off,rfl,hb,hc⟩:=h.at_ (by rw [qed];omega);have h2:=qk0 ws k _ (List.getElem?_eq_getElem hk);exact ⟨b,off,rfl,hb,hc _ _ h2.1,by rw [Nat.add_assoc];exact hc _ _ h2.2⟩
theorem qqq:(Tryz.prog.info? 104).map (fun i=>(i.zero,i.size,i.bytes))=some (some (.agg #[.int .i64 0,.int .u64 0]),2,16):=by kernel_rfl
def Pos (ws:List Wd) (a:Nat) (w:World) (e:Ending) (w':World):Prop:=e= .returned (.tuple #[.int .i64 (qax ws a:Nat),.bool (qcW ws a)])/\Below w.heap.size w w'
def qfO (ws:List Wd) (a lo hi:Nat):Prop:=(∀ k p,ws[k]?=some p->k<lo->p.1<a)/\(∀ k p,ws[k]?=some p->hi<=k->a<=p.1)
theorem qqr {ws:List Wd} (hs:ws.Pairwise fun p q=>p.1<q.1) {a lo hi:Nat} (h:qfO ws a lo hi) (hle:hi<=lo) (hlo:lo<=ws.length):qax ws a=lo:=by
 have s:=Plain.posW_split ws hs a;have hp:=Plain.posW_le ws a;rcases Nat.lt_trichotomy (qax ws a) lo with h1|h1|h1
 ·obtain ⟨p,hp⟩:∃ p,ws[qax ws a]?=some p:=⟨_,List.getElem?_eq_getElem (by omega)⟩
  have h2:=h.1 _ p hp h1;have h3:=(s _ p hp).2 h2;omega
 ·exact h1
 ·obtain ⟨p,hp⟩:∃ p,ws[lo]?=some p:=⟨_,List.getElem?_eq_getElem (by omega)⟩
  have h2:=h.2 _ p hp hle;have h3:=(s _ p hp).1 h1;omega
theorem qqs {ws:List Wd} (hs:ws.Pairwise fun p q=>p.1<q.1) {a lo hi m:Nat} {p:Wd} (h:qfO ws a lo hi) (hm:ws[m]?=some p) (hp:p.1<a):qfO ws a (m+1) hi:=by
 refine ⟨fun k q hk hlt=> ?_,h.2⟩;have s:=Plain.posW_split ws hs a;have h1:=(s m p hm).2 hp;exact (s k q hk).1 (by omega)
theorem qqt {ws:List Wd} (hs:ws.Pairwise fun p q=>p.1<q.1) {a lo hi m:Nat} {p:Wd} (h:qfO ws a lo hi) (hm:ws[m]?=some p) (hp:¬ p.1<a):qfO ws a lo m:=by
 refine ⟨h.1,fun k q hk hle=> ?_⟩;have s:=Plain.posW_split ws hs a;apply Nat.le_of_not_lt;intro hc;have h1:=(s k q hk).2 hc;exact hp ((s m p hm).1 (by omega))
def qqu (ws:List Wd) (a:Nat) (w1:World) (lo hi:Value) (wr:World):Prop:=
 ∃ l h:Nat,lo= .int .i64 l/\hi= .int .i64 h/\l<=h/\h<=ws.length/\qfO ws a l h/\Below w1.heap.size w1 wr
theorem qqv (A:Option Addr) (n c:Nat) (ws:List Wd) (a:Nat) (w:World) (hn:ws.length=n) (hrow:Row w w.heap.size A (qaa ws)) (hs:ws.Pairwise fun p q=>p.1<q.1) (hl:ws.length<=1073741824) (ha:a<4611686018427387904)
  (ha2:∀ p∈ws,p.1<4611686018427387904):
  Calls Tryz.prog 121 #[.slice A n c,.int .i64 a,.func (.func 122) #[] #[]] w (Pos ws a w):=by
 subst hn;have HR:=qH hrow;have HS:=qH hs;have HA:=qH ha2;clear hrow hs ha2
 go_enter Tryz.func121,Tryz.ntmps121
 go_wp2
 go_loopw [9,10] (qqu ws a w) (fun lo hi _=>((intOf hi)-(intOf lo)).toNat)
 case atStart=>exact ⟨0,ws.length,rfl,rfl,Nat.zero_le _,Nat.le_refl _,⟨fun k p _ h=>absurd h (Nat.not_lt_zero _),fun k p hk h=>by have :=(List.getElem?_eq_some_iff.1 hk).1;omega⟩,Below.refl _ _⟩
 case round=>
  obtain ⟨lo,hi,rfl,rfl,hle,hhi,hinv,hbw⟩:=hrel;have HI:=qH hinv;have HB:=qH hbw;clear hinv hbw;by_cases hlt:lo<hi
  ·obtain ⟨b1,o1,e1,hb1,hc1,hc2⟩:=qfN (HR.out.below HB.out) (k:=(lo+hi)/2) (by omega)
   subst e1;obtain ⟨p,hp⟩:∃ p,p=ws[(lo+hi)/2]'(by omega):=⟨_,rfl⟩;rw [<- hp] at hc1 hc2;have HP:Hid (ws[(lo+hi)/2]?=some p):=by rw [hp];exact List.getElem?_eq_getElem (by omega)
   clear hp;obtain ⟨m,hm⟩:∃ m,m=(lo+hi)/2:=⟨_,rfl⟩;rw [<- hm] at hc1 hc2 HP;have hmi:((lo:Int)+(hi:Int))/2=(m:Int):=by omega
   have hm1:lo<=m:=by omega
   have hm2:m<hi:=by omega
   clear hm;have hcmp:=qkW (p.1:Int) (p.2:Int) (a:Int);by_cases hpa:p.1<a
   ·have hv:qew (p.1:Int) (a:Int)= -1:=if_pos (by omega)
    rw [hv] at hcmp;have HC:=qH hcmp;clear hv hcmp
    go_wp2_with (go_at_call 122;refine (HC.out _).mono ?_;rintro e w' ⟨rfl,hbb⟩)
    go_roundw
    case rel=>exact ⟨m+1,hi,by go_num,rfl,by omega,hhi,qqs HS.out HI.out HP.out hpa,HB.out.trans (hbb.mono (by have :=HB.out.size;simp;omega))⟩
    case measure=>simp [intOf];omega
   ·have hv:decide (qew (p.1:Int) (a:Int)<0)=false:=by unfold qew;rw [if_neg (by omega)];split<;>rfl
    have HC:=qH hcmp;clear hcmp
    go_wp2_with (go_at_call 122;refine (HC.out _).mono ?_;rintro e w' ⟨rfl,hbb⟩)
    go_roundw
    case rel=>exact ⟨lo,m,rfl,rfl,by omega,by omega,qqt HS.out HI.out HP.out hpa,HB.out.trans (hbb.mono (by have :=HB.out.size;simp;omega))⟩
    case measure=>simp [intOf];omega
  ·obtain rfl:hi=lo:=by omega
   have hpos:=qqr HS.out HI.out (Nat.le_refl _) hhi;by_cases hn:hi<ws.length
   ·obtain ⟨b1,o1,e1,hb1,hc1,hc2⟩:=qfN (HR.out.below HB.out) (k:=hi) hn
    subst e1;obtain ⟨p,hp⟩:∃ p,p=ws[hi]'hn:=⟨_,rfl⟩;rw [<- hp] at hc1 hc2;have HP:Hid (ws[hi]?=some p):=by rw [hp];exact List.getElem?_eq_getElem hn
    clear hp;have hkept:qcW ws a=(qew (p.1:Int) (a:Int)==0):=by
     unfold qcW;rw [hpos,HP.out];show (p.1==a)=_;rw [Bool.eq_iff_iff];simp only [beq_iff_eq];unfold qew;split
     ·omega
     ·split
      ·omega
      ·omega
    have hcmp:=qkW (p.1:Int) (p.2:Int) (a:Int);obtain ⟨q,hq⟩:∃ q,q=qew (p.1:Int) (a:Int):=⟨_,rfl⟩;rw [<- hq] at hcmp hkept;have HC:=qH hcmp;have HPO:=qH hpos;have HK:=qH hkept;clear hcmp hpos hkept hq
    go_wp2_with (go_at_call 122;refine (HC.out _).mono ?_;rintro e w' ⟨rfl,hbb⟩)
    go_ret2;exact ⟨by rw [HPO.out,HK.out];rfl,HB.out.trans (hbb.mono (by have :=HB.out.size;simp;omega))⟩
   ·have hkept:qcW ws a=false:=by
     unfold qcW;rw [hpos,List.getElem?_eq_none (by omega)]
    have HPO:=qH hpos;have HK:=qH hkept;clear hpos hkept;go_wp2;go_ret2;exact ⟨by rw [HPO.out,HK.out];rfl,HB.out⟩
def qa9 (w:World) (base B n:Nat) (ws:List Wd):Prop:=
 base<=B/\∃ v,w.heap[B]?=some (.cells #[.int .i64 n,v] 101 (0,0))/\w.ownsRow base 104 2 v ws.length (qaa ws)
theorem qa9.lt {w:World} {base B n:Nat} {ws:List Wd} (h:qa9 w base B n ws):B<w.heap.size:=by
 obtain ⟨_,v,hv,_⟩:=h;exact (Array.getElem?_eq_some_iff.1 hv).1
theorem qa9.low {w:World} {base base' B n:Nat} {ws:List Wd} (h:qa9 w base B n ws) (hb:base'<=base):qa9 w base' B n ws:=by
 obtain ⟨h1,v,hv,ho⟩:=h;exact ⟨by omega,v,hv,qbk ho hb⟩
theorem qa9.below {w w':World} {base B n:Nat} {ws:List Wd} (h:qa9 w base B n ws) (hb:Below w.heap.size w w'):qa9 w' base B n ws:=by
 have hl:=h.lt;obtain ⟨h1,v,hv,ho⟩:=h;exact ⟨h1,v,(hb.block B hl).trans hv,qao ho hb⟩
theorem qeT {w:World} {B:Nat} {x y:Value} {t:TypeId} (h:w.heap[B]?=some (.cells #[x,y] t (0,0))):w.cell? ⟨B,0,none⟩=some x/\w.cell? ⟨B,1,none⟩=some y/\w.frozen? ⟨B,0,none⟩=false/\w.frozen? ⟨B,1,none⟩=false:=by
 simp [World.cell?,World.frozen?,h]
theorem qa9.read {w:World} {base B n:Nat} {ws:List Wd} (h:qa9 w base B n ws):
  ∃ A c,w.cell? ⟨B,0,none⟩=some (.int .i64 n)/\w.cell? ⟨B,1,none⟩=some (.slice A ws.length c)/\ws.length<=c/\Row w w.heap.size A (qaa ws):=by
 obtain ⟨_,v,hv,ho⟩:=h;obtain ⟨A,c,rfl,hc,hr⟩:=qaR ho;obtain ⟨c1,c2,_,_⟩:=qeT hv;exact ⟨A,c,c1,c2,hc,hr⟩
def big:Nat:=1073741824
theorem qfP {n:Nat} {ws:List Wd} (h:WS n ws) (hn:n<=big):ws.length<=16777217/\∀ p∈ws,p.1<16777217:=by
 unfold big at hn;have :=h.length;refine ⟨by omega,fun p hp=> ?_⟩;have :=h.here p hp;omega
theorem qqw (base B n:Nat) (ws:List Wd) (a:Nat) (w:World) (h:qa9 w base B n ws) (hw:WS n ws) (hn:n<=big) (ha:a<4611686018427387904):
  Calls Tryz.prog 73 #[.pointer (some ⟨B,0,none⟩),.int .i64 a] w (Pos ws a w):=by
 obtain ⟨A,c,c0,c1,hc,hr⟩:=h.read;have hl:=qfP hw hn;have HS:=qH (qqv A ws.length c ws a w rfl hr hw.asc (by omega) ha (fun p hp=>by have :=hl.2 p hp;omega));clear hr hw hl h
 go_enter Tryz.func73,Tryz.ntmps73
 go_wp2_with (go_at_call 121;refine HS.out.mono ?_;rintro e w' ⟨rfl,hbb⟩)
 go_ret2;exact ⟨rfl,hbb⟩
end Go.Proofs.YtpehcaidjlemiaaGreatDoor
namespace Go.Proofs.YtpehcaidjlemiaaGreatDoor.Plain
def qdn (ws:List Wd):Nat:=(ws.map fun p=>pop p.2).sum
theorem qqx (p:Wd):(qcc p).length=pop p.2:=by simp [qcc,pop]
theorem qk2:∀ ws:List Wd,qdn ws=(qaZ ws).length
 |[]=>rfl
 |p::ws=>by
  have ih:=qk2 ws;unfold qdn qaZ at ih ⊢;rw [List.map_cons,List.sum_cons,ih,List.flatMap_cons,List.length_append,qqx]
theorem countW_take {ws:List Wd} {k:Nat} (hk:k<ws.length):qdn (ws.take (k+1))=qdn (ws.take k)+pop (ws[k]'hk).2:=by
 unfold qdn;rw [List.take_succ_eq_append_getElem hk,List.map_append,List.sum_append];simp
theorem countW_le:∀ ws:List Wd,qdn ws<=64*ws.length
 |[]=>by simp [qdn]
 |p::ws=>by
  have ih:=countW_le ws;have h1:=pop_le p.2;unfold qdn at ih ⊢;rw [List.map_cons,List.sum_cons,List.length_cons];omega
theorem elems_append (a b:List Wd):qaZ (a++b)=qaZ a++qaZ b:=by simp [qaZ]
theorem ctz_bit {y:Nat} (hy:y<18446744073709551616) (h0:y≠0):∃ m,y=2^Lib.ctz 64 y*(2*m+1)/\Lib.ctz 64 y<64:=by
 obtain ⟨m,hm,hk⟩:=Lib.ctzFrom_spec 64 y (by omega) hy;have e:Lib.ctz 64 y=Lib.ctzFrom 64 y:=by simp [Lib.ctz,h0]
 rw [e];exact ⟨m,hm,hk⟩
theorem qk3 (k m j:Nat):(2^k*(2*m+1)).testBit j=(decide (k<=j)&&(j==k || m.testBit (j-k-1))):=by
 rw [Nat.testBit_two_pow_mul];by_cases h:k<=j
 ·simp only [h,decide_true,Bool.true_and]
  obtain ⟨d,rfl⟩:∃ d,j=k+d:=⟨j-k,by omega⟩;cases d with
  |zero=>simp
  |succ d=>
   rw [show k+(d+1)-k=d+1 by omega,Nat.testBit_succ,show (2*m+1)/2=m by omega];simp
 ·simp [h]
theorem qqy (k m j:Nat):(2^k*(2*m)+(2^k-1)).testBit j=(decide (j<k) || (decide (k<j)&&m.testBit (j-k-1))):=by
 have hp:2^k-1<2^k:=by have :=Nat.two_pow_pos k;omega
 rw [Nat.testBit_two_pow_mul_add _ hp];by_cases h:j<k
 ·simp [h,Nat.testBit_two_pow_sub_one]
 ·simp only [h,if_false,decide_false,Bool.false_or]
  obtain ⟨d,rfl⟩:∃ d,j=k+d:=⟨j-k,by omega⟩;cases d with
  |zero=>simp
  |succ d=>
   rw [show k+(d+1)-k=d+1 by omega,Nat.testBit_succ,show (2*m)/2=m by omega];simp
theorem qqz {y:Nat} (hy:y<18446744073709551616) (h0:y≠0) (j:Nat):
  (y &&& (y-1)).testBit j=(y.testBit j&& !(j==Lib.ctz 64 y))/\(y.testBit j=true->Lib.ctz 64 y<=j)/\y.testBit (Lib.ctz 64 y)=true:=by
 obtain ⟨m,hm,hk⟩:=ctz_bit hy h0;generalize Lib.ctz 64 y=k at*;have hp:=Nat.two_pow_pos k;have e:y-1=2^k*(2*m)+(2^k-1):=by
  rw [hm,Nat.mul_add,Nat.mul_one];omega
 rw [Nat.testBit_and,e,qqy];rw [hm,qk3,qk3];refine ⟨?_,fun h=> ?_,by simp⟩
 ·by_cases h1:j<k
  ·simp [show ¬ k<=j by omega]
  ·by_cases h2:j=k
   ·subst h2;simp
   ·have h3:(j==k)=false:=by simpa using h2
    simp [show k<=j by omega,show k<j by omega,h3,show ¬ j<k by omega]
 ·simp only [Bool.and_eq_true,decide_eq_true_eq] at h
  exact h.1
theorem qqA {y:Nat} (hy:y<18446744073709551616) (h0:y≠0):qev y=Lib.ctz 64 y::qev (y &&& (y-1)):=by
 have hl:=qqz hy h0;have hk:=(ctz_bit hy h0).choose_spec.2;refine qia _ _ (qib y) ?_ fun j=> ?_
 ·rw [List.pairwise_cons]
  refine ⟨fun j hj=> ?_,qib _⟩;rw [qgg,(hl j).1] at hj;simp only [Bool.and_eq_true,Bool.not_eq_true',beq_eq_false_iff_ne,ne_eq] at hj;have :=(hl j).2.1 hj.2.1;omega
 ·rw [List.mem_cons,qgg,qgg,(hl j).1]
  simp only [Bool.and_eq_true,Bool.not_eq_true',beq_eq_false_iff_ne,ne_eq];constructor
  ·rintro ⟨h1,h2⟩
   by_cases h3:j=Lib.ctz 64 y
   ·exact .inl h3
   ·exact .inr ⟨h1,h2,h3⟩
  ·rintro (rfl|⟨h1,h2,_⟩)
   ·exact ⟨hk,(hl 0).2.2⟩
   ·exact ⟨h1,h2⟩
theorem elemW_step {a y:Nat} (hy:y<18446744073709551616) (h0:y≠0):qcc (a,y)=(a*64+Lib.ctz 64 y)::qcc (a,y &&& (y-1)):=by
 unfold qcc;rw [qqA hy h0];rfl
theorem elemW_zero (a:Nat):qcc (a,0)=[]:=by
 unfold qcc qev;simp
theorem low_lt {y:Nat} (h0:y≠0):y &&& (y-1)<y:=by
 have :y &&& (y-1)<=y-1:=Nat.and_le_right;omega
def qqB (p:Wd) (i:Nat):Nat:=if p.1=i/64 then qp5 p.2 (2^(i%64)-1) else p.2
def qzA (ws:List Wd) (i:Nat):Int:=match (qaZ ws).find? (fun k=>decide (i<=k)) with|some k=>(k:Int)|none=> -1
theorem Rep.count {r:List Bool} {ws:List Wd} (h:Rep r ws):qdn ws=(ones r).length:=by rw [qk2,elems_eq h]
theorem ones_length (r:List Bool):(ones r).length<=r.length:=by
 unfold ones;exact Nat.le_trans (List.length_filter_le _ _) (by simp)
end Go.Proofs.YtpehcaidjlemiaaGreatDoor.Plain
namespace Go.Proofs.YtpehcaidjlemiaaGreatDoor
open Go Go.RowKit
open Plain (Wd WS Rep qax qcW getW hasB mayB ones qh8 qh9 qdn pop qqB)
def qaU (w:World) (base B:Nat) (r:List Bool):Prop:=∃ ws,qa9 w base B r.length ws/\Rep r ws
theorem qaU.below {w w':World} {base B:Nat} {r:List Bool} (h:qaU w base B r) (hb:Below w.heap.size w w'):qaU w' base B r:=by
 obtain ⟨ws,h1,h2⟩:=h;exact ⟨ws,h1.below hb,h2⟩
theorem qaU.low {w:World} {base base' B:Nat} {r:List Bool} (h:qaU w base B r) (hb:base'<=base):qaU w base' B r:=by
 obtain ⟨ws,h1,h2⟩:=h;exact ⟨ws,h1.low hb,h2⟩
theorem qqC (base B n:Nat) (ws:List Wd) (i:Int) (w:World) (h:qa9 w base B n ws) (hn:n<=big):
  Calls Tryz.prog 72 #[.pointer (some ⟨B,0,none⟩),.int .i64 i] w fun e w'=>e= .returned (.bool (mayB n i))/\w=w':=by
 obtain ⟨A,c,c0,c1,hc,hr⟩:=h.read;clear hr h hc c1;unfold big at hn;by_cases hi:0<=i
 ·go_enter Tryz.func72,Tryz.ntmps72
  go_wp2;go_ret;exact ⟨qdM (by unfold mayB;simp [hi]),rfl⟩
 ·go_enter Tryz.func72,Tryz.ntmps72
  go_wp2;go_ret;exact ⟨qdM (by unfold mayB;simp;omega),rfl⟩
theorem qqD (base B n:Nat) (ws:List Wd) (w:World) (h:qa9 w base B n ws):
  Calls Tryz.prog 80 #[.pointer (some ⟨B,0,none⟩)] w fun e w'=>e= .returned (.int .i64 n)/\w=w':=by
 obtain ⟨A,c,c0,c1,hc,hr⟩:=h.read;clear hr h hc c1
 go_enter Tryz.func80,Tryz.ntmps80
 go_wp2;go_ret;exact ⟨rfl,rfl⟩
def qqE (ws:List Wd) (s t:Value):Prop:=∃ k:Nat,k<=ws.length/\t= .int .i64 k/\s= .int .i64 (qdn (ws.take k):Nat)
theorem qqF (A:Option Addr) (n c:Nat) (ws:List Wd) (w:World) (hn:ws.length=n) (hr:Row w w.heap.size A (qaa ws)) (hl:ws.length<=33554432) (hf:∀ p∈ws,p.2<18446744073709551616):
  Calls Tryz.prog 168 #[.slice A n c] w fun e w'=>e= .returned (.int .i64 (qdn ws:Nat))/\w=w':=by
 subst hn;have HR:=qH hr;have HF:=qH hf;clear hr hf
 go_enter Tryz.func168,Tryz.ntmps168
 go_wp2
 go_loop [3,7] (qqE ws) (fun _ k=>ws.length-(intOf k).toNat)
 case atStart=>exact ⟨0,Nat.zero_le _,rfl,rfl⟩
 case round=>
  obtain ⟨k,hk,rfl,rfl⟩:=hrel;by_cases hlt:k<ws.length
  ·obtain ⟨b1,o1,e1,hb1,hc1,hc2⟩:=qfN HR.out hlt
   subst e1;have hs:=Plain.countW_take hlt;have hle:=Plain.countW_le (ws.take k);rw [List.length_take,Nat.min_eq_left hk] at hle;have hp:=Plain.pop_le (ws[k]'hlt).2;have hfit:=HF.out _ (List.getElem_mem hlt);obtain ⟨p,hpp⟩:∃ p,p=ws[k]'hlt:=⟨_,rfl⟩;rw [<- hpp] at hc1 hc2 hs hp hfit;clear hpp;have HS:=qH hs;clear hs;obtain ⟨s,hse⟩:∃ s,s=qdn (ws.take k):=⟨_,rfl⟩;rw [<- hse] at hle HS ⊢;have HE:=qH hse;clear hse;have HO:=qH (qqj p.2 w hfit);obtain ⟨q,hq⟩:∃ q,q=pop p.2:=⟨_,rfl⟩;rw [<- hq] at HO HS hp;clear hq
   go_wp2_with (go_at_call 207;refine HO.out.mono ?_;rintro e w' ⟨rfl,rfl⟩)
   go_round
   case rel=>exact ⟨k+1,by omega,by go_num,by rw [HS.out];go_num⟩
   case measure=>simp [intOf];omega
  ·obtain rfl:k=ws.length:=by omega
   go_wp2;go_ret;exact ⟨by first|rfl|(rw [List.take_length];rfl),rfl⟩
theorem qqG (base B n:Nat) (ws:List Wd) (w:World) (h:qa9 w base B n ws) (hw:WS n ws) (hn:n<=big):
  Calls Tryz.prog 129 #[.pointer (some ⟨B,0,none⟩)] w fun e w'=>e= .returned (.int .i64 (qdn ws:Nat))/\w=w':=by
 obtain ⟨A,c,c0,c1,hc,hr⟩:=h.read;have hl:=(qfP hw hn).1;have HC:=qH (qqF A ws.length c ws w rfl hr (by omega) hw.fits);clear hr h hc hw
 go_enter Tryz.func129,Tryz.ntmps129
 go_wp2_with (go_at_call 168;refine HC.out.mono ?_;rintro e w' ⟨rfl,rfl⟩)
 go_ret;exact ⟨rfl,rfl⟩
def qqH (n:Int) (w:World) (e:Ending) (w':World):Prop:=e= .returned (.int .i64 n)/\Below w.heap.size w w'
theorem qqI (base B:Nat) (r:List Bool) (w:World) (h:qaU w base B r) (hn:r.length<=big):
  Calls Tryz.prog 129 #[.pointer (some ⟨B,0,none⟩)] w fun e w'=>e= .returned (.int .i64 ((ones r).length:Nat))/\w=w':=by
 obtain ⟨ws,hs,hrep⟩:=h;rw [<- hrep.count];exact qqG base B r.length ws w hs hrep.wds hn
theorem qqJ (base B:Nat) (r:List Bool) (w:World) (h:qaU w base B r):
  Calls Tryz.prog 80 #[.pointer (some ⟨B,0,none⟩)] w fun e w'=>e= .returned (.int .i64 (r.length:Nat))/\w=w':=by
 obtain ⟨ws,hs,hrep⟩:=h;exact qqD base B r.length ws w hs
theorem Tab.drewN {w:World} (h:Tab w) (n:Nat):Tab (w.drewN n):=fun j hj=>h j hj
theorem Tab.alloc {w:World} (h:Tab w) (o:Obj):Tab (w.alloc o):=h.below ((Below.refl _ _).alloc (Nat.le_refl _) _) h.lt
theorem qqK (a y:Nat) (w:World) (ha:a<=33554432) (hy:y<18446744073709551616) (h0:y≠0) (hT:Tab w):
  Calls Tryz.prog 171 #[.agg #[.int .i64 a,.int .u64 y]] w (qqH ((a*64+Lib.ctz 64 y:Nat):Int) w):=by
 have hk:=(Plain.ctz_bit hy h0).choose_spec.2;have HT:=qH (fun w hT=>(qqn y hy h0 w hT).mono fun _ _ h=>And.intro h.1 h.2.symm);have HTB:=qH (hT.alloc (.cells #[.int .i64 a,.int .u64 y] 104));obtain ⟨z,hz⟩:∃ z,z=Lib.ctz 64 y:=⟨_,rfl⟩;rw [<- hz] at HT hk ⊢;have e0:((a*64+z:Nat):Int)=(a:Int)*64+(z:Int):=by omega
 rw [e0];clear hz hT e0 hy;have e1:IntKind.i64.wrap ((a:Int)*64)=(a:Int)*64:=by rw [IntKind.wrap_i64];omega
 have e2:IntKind.i64.wrap ((a:Int)*64+(z:Int))=(a:Int)*64+(z:Int):=by rw [IntKind.wrap_i64];omega
 go_enter Tryz.func171,Tryz.ntmps171
 go_wp2
 go_quiet ((go_at_call 209;exact Calls.quiet_of_same (HT.out _ (HTB.out.drewN _))))
 go_wp2;go_ret;exact ⟨rfl,((Below.refl _ _).alloc (Nat.le_refl _) _).trans ⟨rfl,rfl,rfl,Nat.le_refl _,fun _ _=>rfl⟩⟩
open Plain (hasB mayB turnB qh7 ones qh8 qh9)
def qcl (r:List Bool):List Value:=r.map Value.bool
theorem qqL (r:List Bool):(qcl r).length=r.length:=by simp [qcl]
theorem qk4 {w:World} {B:Nat} {A:Option Addr} {r:List Bool} (h:Row w B A (qcl r)) {k:Nat} (hk:k<r.length):
  ∃ b off,A=some ⟨b,off,none⟩/\b<B/\w.cell? ⟨b,off+k,none⟩=some (.bool (r.getD k false)):=by
 obtain ⟨b,off,rfl,hb,hc⟩:=h.at_ (by rw [qqL];omega);refine ⟨b,off,rfl,hb,hc k _ ?_⟩;simp [qcl,hk]
theorem qqM:(Tryz.prog.info? 4).map (fun i=>(i.zero,i.size,i.bytes))=some (some (.bool false),1,1):=by kernel_rfl
theorem qzB (r:List Bool):∀ u∈qcl r,u.oneCell'=true:=by
 intro u hu;simp only [qcl,List.mem_map] at hu;obtain ⟨b,_,rfl⟩:=hu;rfl
theorem qqN (r:List Bool) (k:Nat) (b:Bool):qcl (r.set k b)=(qcl r).set k (.bool b):=by simp [qcl,List.map_set]
def qdo (l:List Nat):List Value:=l.map fun (k:Nat)=>Value.int .i64 (k:Int)
theorem qqO (a b:List Nat):qdo (a++b)=qdo a++qdo b:=by simp [qdo]
theorem qqP (l:List Nat):∀ u∈qdo l,u.oneCell'=true:=by
 intro u hu;simp only [qdo,List.mem_map] at hu;obtain ⟨b,_,rfl⟩:=hu;rfl
def qk5 (l:List Nat) (w:World) (e:Ending) (w':World):Prop:=∃ v,e= .returned v/\w'.ownsRow w.heap.size 3 1 v l.length (qdo l)/\Below w.heap.size w w'
theorem qqQ:(Tryz.prog.info? 3).map (fun i=>(i.zero,i.size,i.bytes))=some (some (.int .i64 0),1,8):=by kernel_rfl
open Go.Deep Go.ChangeShapes Go.WideShapes
def qid (w:World) (a:Option Addr) (len cap:Nat) (zs:List Bool):Prop:=zs.length=len/\len<=9223372036854775807/\Row w w.heap.size a (qcl zs)
theorem qqR {H:Type} {enc:TypeId × Value->H} {W:World} {held:Bool} {fuel:Nat} {a:Option Addr} {len cap:Nat} {x:DataW H × List MemPlace}
  (h:DataW.trod enc Tryz.prog W 0 (fun _=>true) held fuel 24 [.slice a len cap]=some x):∃ zs,qid W a len cap zs:=by
 rcases open_bools Tryz.underlying24 Tryz.underlying4 (by kernel_rfl) h with ⟨hcs,_⟩|⟨ad,l,c,B,hcs,_,hl,hm,_,hcell⟩
 ·simp at hcs
  obtain ⟨rfl,rfl,rfl⟩:=hcs;exact ⟨[],rfl,by omega,.inl rfl⟩
 ·simp at hcs
  obtain ⟨rfl,rfl,rfl⟩:=hcs;refine ⟨(List.range len).map B,by simp,by unfold maxLen at hm;omega,?_⟩;by_cases h0:len=0
  ·subst h0
   exact .inl (by simp [qcl])
  ·have c0:=hcell 0 (by omega)
   obtain ⟨b,off,spot⟩:=ad;have hsp:spot=none:=by simpa [Addr.add] using World.cell?_spot c0
   subst hsp;refine .inr ⟨b,off,rfl,by simpa [Addr.add_lit] using World.block_lt_of_cell? W _ c0,fun j u hu=> ?_⟩;simp only [qcl,List.map_map] at hu;rw [List.getElem?_map] at hu;obtain ⟨i',hi',rfl⟩:=Option.map_eq_some_iff.1 hu;obtain ⟨hil,hie⟩:=List.getElem?_eq_some_iff.1 hi';simp at hil hie;subst hie;have :=hcell j (by omega);rwa [Addr.add_lit] at this
def qfQ:List (String × DataW Unit):=[("math/bits.deBruijn64tab",Rows.laid_math_bits_deBruijn64tab)]
def qgV:List Int:=Lib.deBruijn64tab.map fun (n:Nat)=>(n:Int)
theorem qqS:(Rows.laid_math_bits_deBruijn64tab:DataW Unit)=Lib.tabData .u8 qgV:=by
 simp [Rows.laid_math_bits_deBruijn64tab,Lib.tabData,qgV,Lib.deBruijn64tab]
theorem qk6:Tryz.prog.globalNamed "math/bits.deBruijn64tab" =some 0:=by kernel_rfl
theorem qqT {W:World} (h:laidMetH Tryz.prog qfQ W):Tab W:=by
 rw [MakeChecks.laidMetH_plain _ _ _ (by kernel_rfl)] at h;unfold qfQ at h;rw [qqS] at h;have hT:=Lib.tabIs_of_head (t:=323) (e:=5) (n:=64) qk6 (by kernel_rfl) Tryz.underlying323 Tryz.underlying5 (by kernel_rfl) (by kernel_rfl) h;intro j hj;have hc:=hT.cell qk6 j (by unfold qgV;rw [List.length_map];exact hj);rw [hc];congr 2;unfold qgV;rw [List.getD_eq_getElem?_getD,List.getD_eq_getElem?_getD,List.getElem?_map];rw [List.getElem?_eq_getElem hj];rfl
open Go.Shelf
def qqU:Go.Shelf.Ren:=⟨fun |195=>226|n=>n,fun |0=>0|3=>3|4=>4|9=>9|n=>n,fun |n=>n⟩
theorem qqV:Lays.n195 Tryz.prog qqU:={
 mixed:=by kernel_rfl
 f195:=Tryz.func226.trans (congrArg some (by kernel_rfl))
 t0:=Tryz.underlying0
 a0:=Tryz.isAgg0
 z0:=Tryz.sizeOf0
 v0:=Tryz.zeroValue0
 t3:=Tryz.underlying3
 a3:=Tryz.isAgg3
 z3:=Tryz.sizeOf3
 v3:=Tryz.zeroValue3
 t4:=Tryz.underlying4
 a4:=Tryz.isAgg4
 z4:=Tryz.sizeOf4
 v4:=Tryz.zeroValue4
 t9:=Tryz.underlying9
 a9:=Tryz.isAgg9
 z9:=Tryz.sizeOf9
 v9:=Tryz.zeroValue9}
def qk7:Go.Shelf.Ren:=⟨fun |169=>245|n=>n,fun |0=>0|3=>3|5=>5|9=>9|37=>178|70=>331|72=>333|127=>346|n=>n,fun |n=>n⟩
theorem qqW:Lays.n169 Tryz.prog qk7:={
 mixed:=by kernel_rfl
 f169:=Tryz.func245.trans (congrArg some (by kernel_rfl))
 t0:=Tryz.underlying0
 a0:=Tryz.isAgg0
 z0:=Tryz.sizeOf0
 v0:=Tryz.zeroValue0
 t3:=Tryz.underlying3
 a3:=Tryz.isAgg3
 z3:=Tryz.sizeOf3
 v3:=Tryz.zeroValue3
 t9:=Tryz.underlying9
 a9:=Tryz.isAgg9
 z9:=Tryz.sizeOf9
 v9:=Tryz.zeroValue9
 t37:=Tryz.underlying178
 a37:=Tryz.isAgg178
 z37:=Tryz.sizeOf178
 v37:=Tryz.zeroValue178
 t70:=Tryz.underlying331
 a70:=Tryz.isAgg331
 z70:=Tryz.sizeOf331
 v70:=Tryz.zeroValue331
 t72:=Tryz.underlying333
 a72:=Tryz.isAgg333
 z72:=Tryz.sizeOf333
 v72:=Tryz.zeroValue333
 t127:=Tryz.underlying346
 a127:=Tryz.isAgg346
 z127:=Tryz.sizeOf346
 v127:=Tryz.zeroValue346}
theorem qqX:Builder.Extra Tryz.prog qk7:={
 sizeBuilder:=by kernel_rfl
 liesBuilder:=by kernel_rfl
 t5:=Tryz.underlying5
 a5:=Tryz.isAgg5
 z5:=Tryz.sizeOf5
 v5:=Tryz.zeroValue5
 infoByte:=by kernel_rfl
 cellsByte:=by kernel_rfl
 sizeByte:=by kernel_rfl
 neB5:=by decide}
def qk8:Go.Shelf.Ren:=⟨fun |168=>243|240=>252|242=>253|276=>255|278=>256|n=>n,fun |0=>0|3=>3|4=>4|5=>5|9=>9|20=>20 |21=>21|37=>178|46=>260|51=>297|70=>331|72=>333|75=>335|80=>339|164=>348|n=>n,fun |n=>n⟩
theorem qqY:Lays.n168 Tryz.prog qk8:={
 mixed:=by kernel_rfl
 f168:=Tryz.func243.trans (congrArg some (by kernel_rfl))
 f240:=Tryz.func252.trans (congrArg some (by kernel_rfl))
 f242:=Tryz.func253.trans (congrArg some (by kernel_rfl))
 f276:=Tryz.func255.trans (congrArg some (by kernel_rfl))
 f278:=Tryz.func256.trans (congrArg some (by kernel_rfl))
 t0:=Tryz.underlying0
 a0:=Tryz.isAgg0
 z0:=Tryz.sizeOf0
 v0:=Tryz.zeroValue0
 t3:=Tryz.underlying3
 a3:=Tryz.isAgg3
 z3:=Tryz.sizeOf3
 v3:=Tryz.zeroValue3
 t4:=Tryz.underlying4
 a4:=Tryz.isAgg4
 z4:=Tryz.sizeOf4
 v4:=Tryz.zeroValue4
 t5:=Tryz.underlying5
 a5:=Tryz.isAgg5
 z5:=Tryz.sizeOf5
 v5:=Tryz.zeroValue5
 t9:=Tryz.underlying9
 a9:=Tryz.isAgg9
 z9:=Tryz.sizeOf9
 v9:=Tryz.zeroValue9
 t20:=Tryz.underlying20
 a20:=Tryz.isAgg20
 z20:=Tryz.sizeOf20
 v20:=Tryz.zeroValue20
 t21:=Tryz.underlying21
 a21:=Tryz.isAgg21
 z21:=Tryz.sizeOf21
 v21:=Tryz.zeroValue21
 t37:=Tryz.underlying178
 a37:=Tryz.isAgg178
 z37:=Tryz.sizeOf178
 v37:=Tryz.zeroValue178
 t46:=Tryz.underlying260
 a46:=Tryz.isAgg260
 z46:=Tryz.sizeOf260
 v46:=Tryz.zeroValue260
 t51:=Tryz.underlying297
 a51:=Tryz.isAgg297
 z51:=Tryz.sizeOf297
 v51:=Tryz.zeroValue297
 t70:=Tryz.underlying331
 a70:=Tryz.isAgg331
 z70:=Tryz.sizeOf331
 v70:=Tryz.zeroValue331
 t72:=Tryz.underlying333
 a72:=Tryz.isAgg333
 z72:=Tryz.sizeOf333
 v72:=Tryz.zeroValue333
 t75:=Tryz.underlying335
 a75:=Tryz.isAgg335
 z75:=Tryz.sizeOf335
 v75:=Tryz.zeroValue335
 t164:=Tryz.underlying348
 a164:=Tryz.isAgg348
 z164:=Tryz.sizeOf348
 v164:=Tryz.zeroValue348}
theorem qqZ:Builder.Extra Tryz.prog qk8:={
 sizeBuilder:=by kernel_rfl
 liesBuilder:=by kernel_rfl
 t5:=Tryz.underlying5
 a5:=Tryz.isAgg5
 z5:=Tryz.sizeOf5
 v5:=Tryz.zeroValue5
 infoByte:=by kernel_rfl
 cellsByte:=by kernel_rfl
 sizeByte:=by kernel_rfl
 neB5:=by decide}
theorem qq0 (s:ByteArray) (w:World) (hs:s.size<9223372036854775807):
  Calls Tryz.prog 226 #[.string s] w fun e w'=>e= .returned (.int .i64 (Lib.runeCount s))/\∃ pos,w'=w.iter s pos:=Any.utf8_RuneCountInString qqV s w hs
theorem qq1 (B b:Nat) (l:List UInt8) (w:World) (h:Lib.IsBuilderF 333 5 B b (Lib.byteCells l) w) (hBw:B<=w.heap.size):
  Calls Tryz.prog 245 #[.pointer (some ⟨b,0,none⟩)] w fun e w'=>e= .returned (.string ⟨l.toArray⟩)/\(Lib.IsBuilderF 333 5 B b (Lib.byteCells l) w'/\Below B w w'/\Lib.OthersKept 5 (some b) w w'):=Any.Builder_String_any_k qqW qqX B b l w h hBw
theorem qq2 (B b:Nat) (bs:List Value) (r:Int) (hr0: -2147483648<=r) (hr1:r<=2147483647) (w:World) (h:Lib.IsBuilderF 333 5 B b bs w) (hlen:bs.length+4<=140737488355328) (hBw:B<=w.heap.size):
  Calls Tryz.prog 243 #[.pointer (some ⟨b,0,none⟩),.int .i32 r] w fun e w'=>e= .returned (.tuple #[.int .i64 (Lib.runeCells r).length,.nilIface])/\(Lib.BuilderAtF 333 5 B b (.pointer (some ⟨b,0,none⟩)) (bs++Lib.runeCells r) w'/\Below B w w'/\Lib.OthersKept 5 (some b) w w'):=Any.Builder_WriteRune_k qqY qqZ B b bs r hr0 hr1 w h hlen hBw
def dec (l:List UInt8):Nat × Nat:=
 let at' (k:Nat):Nat:=(l.getD k 0).toNat
 let cont (k:Nat):Bool:=k<l.length&&at' k/64==2
 let b0:=at' 0
 if b0<0x80 then (b0,1)
 else if b0/32==6&&cont 1 then
  let c:=(b0%32)*64+at' 1%64
  if c≥0x80 then (c,2) else (65533,1)
 else if b0/16==14&&cont 1&&cont 2 then
  let c:=(b0%16)*4096+(at' 1%64)*64+at' 2%64
  if c≥0x800&&Utf8.valid c then (c,3) else (65533,1)
 else if b0/8==30&&cont 1&&cont 2&&cont 3 then
  let c:=(b0%8)*262144+(at' 1%64)*4096+(at' 2%64)*64+at' 3%64
  if c≥0x10000&&Utf8.valid c then (c,4) else (65533,1)
 else (65533,1)
theorem qq3 (s:ByteArray) (i k:Nat):(s.get! (i+k))=(s.data.toList.drop i).getD k 0:=by
 cases s with
 |mk a=>
  simp only [ByteArray.get!,List.getD,List.getElem?_drop,Array.getElem?_toList];rw [getElem!_def];cases a[i+k]?<;>rfl
theorem qq4 (s:ByteArray) (i:Nat):Utf8.decode s i=dec (s.data.toList.drop i):=by
 unfold Utf8.decode dec;simp only [qq3 s i];have hc:∀ k,decide (i+k<s.size)=decide (k<(s.data.toList.drop i).length):=by
  intro k;have :s.size=s.data.toList.length:=(Array.length_toList (xs:=s.data)).symm;rw [decide_eq_decide,List.length_drop,this];omega
 simp only [hc];rfl
theorem qgk (l:List UInt8) (h:l≠[]):1<=(dec l).2/\(dec l).2<=l.length:=by
 have hl:1<=l.length:=by cases l<;>simp_all
 unfold dec;simp only []
 repeat' split
 all_goals (simp_all;try omega)
theorem qq5 (l:List UInt8):Utf8.valid ((dec l).1:Int)=true:=by
 unfold dec;simp only [];have hb:∀ k,(l.getD k 0).toNat<256:=fun k=>(l.getD k 0).toNat_lt
 repeat' split
 all_goals simp_all [Utf8.valid]
 all_goals (try omega)
 all_goals (have h0:=hb 0;have h1:=hb 1;try omega)
def qdN:Nat->List UInt8->List Int
 |0,_=>[]
 |f+1,l=>if l=[] then [] else ((dec l).1:Int)::qdN f (l.drop (dec l).2)
def qcm (l:List UInt8):List Int:=qdN l.length l
theorem qfR (f:Nat):qdN f []=[]:=by cases f<;>simp [qdN]
theorem qk9:∀ (f g:Nat) (l:List UInt8),l.length<=f->l.length<=g->qdN f l=qdN g l
 |0,g,l,hf,_=>by
  have :l=[]:=List.eq_nil_of_length_eq_zero (by omega);subst this;rw [qfR,qfR]
 |f+1,0,l,_,hg=>by
  have :l=[]:=List.eq_nil_of_length_eq_zero (by omega);subst this;rw [qfR,qfR]
 |f+1,g+1,l,hf,hg=>by
  by_cases h:l=[]
  ·subst h;rw [qfR,qfR]
  ·have hw:=qgk l h
   unfold qdN;rw [if_neg h,if_neg h,qk9 f g _ (by rw [List.length_drop];omega) (by rw [List.length_drop];omega)]
theorem qla:qcm []=[]:=rfl
theorem qlb (l:List UInt8) (h:l≠[]):qcm l=((dec l).1:Int)::qcm (l.drop (dec l).2):=by
 have hw:=qgk l h;have hl:l.length=(l.length-1)+1:=by omega
 unfold qcm;rw [hl,qdN,if_neg h,qk9 _ _ _ (by rw [List.length_drop];omega) (Nat.le_refl _)]
theorem qgW (l:List UInt8):(qcm l).length<=l.length:=by
 have :∀ (f:Nat) (l:List UInt8),l.length<=f->(qdN f l).length<=l.length:=by
  intro f
  induction f with
  |zero=>intro l h;simp [qdN]
  |succ f ih=>
   intro l h;by_cases e:l=[]
   ·subst e;simp [qdN]
   ·have hw:=qgk l e
    unfold qdN;rw [if_neg e];have :=ih (l.drop (dec l).2) (by rw [List.length_drop];omega);rw [List.length_drop] at this;simp only [List.length_cons];omega
 exact this _ l (Nat.le_refl _)
theorem qfr (r:Int):Utf8.valid r=true↔(0<=r/\r<55296)∨(57344<=r/\r<=1114111):=by
 simp [Utf8.valid]
def text (l:List Int):List UInt8:=l.flatMap Lib.encodeRune
theorem qq6 (a b:List Int):text (a++b)=text a++text b:=by simp [text]
theorem qlc (l:List Int):(text l).length<=4*l.length:=by
 induction l with
 |nil=>simp [text]
 |cons r l ih=>
  have :=Lib.encodeRuneZ_length r;have e:text (r::l)=Lib.encodeRune r++text l:=by simp [text]
  rw [e,List.length_append,List.length_cons];simp only [Lib.encodeRune,List.length_map];omega
def qdW (c:Int):Bool:=decide ((192<=c/\c<=591/\c≠215/\c≠247)∨(97<=c/\c<=122)∨(65<=c/\c<=90))
def qex (c:Int):Bool:=decide (48<=c/\c<=57)
def qeU (c:Int):Bool:=decide ((65<=c/\c<=90)∨(192<=c/\c<=222/\c≠215))
def qbW (c:Int):Int:=if qeU c=true then c+32 else c
def qgX (c:Int):Bool:=decide (0<=c/\c<=1114111/\¬ (55296<=c/\c<=57343))
def qdX (c:Int):Int:=if qgX c=true then c else 65533
theorem qie (c:Int):qgX c=Utf8.valid c:=by
 rw [Bool.eq_iff_iff,qfr];simp [qgX];omega
theorem qq7 {c:Int} (h:Utf8.valid c=true):qdX c=c:=by rw [qdX,qie,if_pos h]
theorem qq8 (c:Int):Utf8.valid (qdX c)=true:=by
 unfold qdX;split
 ·rename_i h;rw [<- qie];exact h
 ·decide
theorem qld (c:Int):Lib.encodeRune (qdX c)=Lib.encodeRune c:=by
 by_cases h:Utf8.valid c=true
 ·rw [qq7 h]
 ·rw [qdX,qie,if_neg h]
  have hb:c<0∨(55296<=c/\c<=57343)∨1114111<c:=by
   have :=mt (qfr c).2 h;omega
  rw [Lib.encodeRune,Lib.encodeRune,Lib.encodeRuneZ_bad hb];rfl
theorem qq9 (c:Int):qbW (qbW c)=qbW c:=by
 unfold qbW;by_cases h:qeU c=true
 ·rw [if_pos h]
  have :¬ qeU (c+32)=true:=by simp [qeU] at h ⊢;omega
  rw [if_neg this]
 ·rw [if_neg h,if_neg h]
theorem qra (c:Int):qdW (qbW c)=qdW c:=by
 unfold qbW;split
 ·rename_i hu
  simp [qeU] at hu;rw [Bool.eq_iff_iff];simp [qdW];omega
 ·rfl
theorem qrb (c:Int):qex (qbW c)=qex c:=by
 unfold qbW;split
 ·rename_i hu
  simp [qeU] at hu;rw [Bool.eq_iff_iff];simp [qex];omega
 ·rfl
def qab (l:List Int):List Value:=l.map (Value.int .i64)
theorem qgl (l:List Int):(qab l).length=l.length:=by simp [qab]
theorem qc7:(Tryz.prog.info? 3).map (fun i=>(i.zero,i.size,i.bytes))=some (some (.int .i64 0),1,8):=by kernel_rfl
theorem qcF {w:World} {B:Nat} {A:Option Addr} {xs:List Int} (h:Row w B A (qab xs)) {k:Nat} (hk:k<xs.length):
  ∃ b off,A=some ⟨b,off,none⟩/\b<B/\w.cell? ⟨b,off+k,none⟩=some (.int .i64 xs[k]):=by
 obtain ⟨b,off,rfl,hb,hc⟩:=h.at_ (by rw [qgl];omega);refine ⟨b,off,rfl,hb,hc k _ ?_⟩;simp [qab,hk]
def qle (l:List Int) (w:World) (e:Ending) (w':World):Prop:=∃ v,e= .returned v/\w'.ownsRow w.heap.size 3 1 v l.length (qab l)/\Below w.heap.size w w'
theorem qrc (s:ByteArray) (w:World) (hs:s.size<=1073741824):
  Calls Tryz.prog 191 #[.string s] w (qle (qcm s.data.toList) w):=by
 obtain ⟨i0,hi0,hz0,hz1,hz2⟩:=info_parts qc7;have hrc:=Lib.runeCount_le s
 go_enter Tryz.func191,Tryz.ntmps191
 go_wp2_with (go_at_call 226;refine (qq0 s _ (by omega)).mono ?_)
 rintro e w1 ⟨rfl,pos,rfl⟩
 go_wp2_with (at_make;refine wpList_make_own _ rfl _ _ 23 rfl w.heap.size 3 i0 _ 1 Tryz.underlying23 hi0 hz0 hz1 _ _ _ (Lib.runeCount s) rfl rfl rfl ?c1 ?c2 ?c3 ?_)
 case c1=>rw [hz2];omega
 case c2=>unfold maxLen;omega
 case c3=>show w.heap.size<=(w.heap.push _).size;simp
 intro w2 hown hgrow;have hb2:Below w.heap.size w w2:=((Below.refl _ w).alloc (Nat.le_refl _) (.stringIter s pos)).grown hgrow (by simp) (fun k hk=>by cases hk);have hsz2:=hb2.size;go_wp2
 go_loopw [3] (fun l wr=>∃ (pos:Nat) (acc:List Int),pos<=s.size/\acc.length<=pos/\wr.heap[w2.heap.size]?=some (.stringIter s pos)/\wr.ownsRow w.heap.size 3 1 l acc.length (qab acc)/\Below w.heap.size w wr/\acc++qcm (s.data.toList.drop pos)=qcm s.data.toList) (fun _ wr=>s.size-wr.iterPos w2.heap.size)
 case atStart=>
  refine ⟨0,[],Nat.zero_le _,Nat.le_refl _,?_,hown.alloc _,hb2.alloc hsz2 _,rfl⟩;exact heap_alloc_new w2 _
 case round=>
  obtain ⟨pos,acc,hpos,hal,hit,hown,hbw,hacc⟩:=hrel;by_cases hp:pos<s.size
  ·have hnx:∀ ty,(Instr.next (.pointer (some ⟨w2.heap.size,0,none⟩)) true ty).run Tryz.prog wr=_:=fun ty=>Lib.run_next_any_at wr w2.heap.size s pos ty hit hp
   have hdd:=qq4 s pos;have hne:s.data.toList.drop pos≠[]:=by
    intro h;have :=congrArg List.length h;rw [List.length_drop,List.length_nil] at this;have e:s.data.toList.length=s.size:=Array.length_toList;omega
   have hst:=qlb _ hne;have hwd:=qgk _ hne;rw [List.drop_drop] at hst;rw [<- hdd] at hst hwd;have hlen:(s.data.toList.drop pos).length=s.size-pos:=by rw [List.length_drop];rfl
   rw [hlen] at hwd;have hd1:=decode_le s pos;have hown2:=qqd (q:=pos+(Utf8.decode s pos).2) hown hit;have hit2:=Lib.iterAt_heap wr w2.heap.size s pos (pos+(Utf8.decode s pos).2) hit;have hbw2:=Lib.below_iterAt hbw (k:=w2.heap.size) (by omega) s (pos+(Utf8.decode s pos).2);clear hdd hne hlen;have HST:=qH hst;have HACC:=qH hacc;have HIT:=qH hit;clear hst hacc hit hown hbw;obtain ⟨wi,hwi⟩:∃ wi,wi=wr.iterAt w2.heap.size s (pos+(Utf8.decode s pos).2):=⟨_,rfl⟩;rw [<- hwi] at hnx hown2 hit2 hbw2;have hszi:=hbw2.size;clear hwi
   go_wp2_with (at_builtin;refine wpList_append_own _ rfl (.tmp 14) (.tmp 17) 23 rfl w.heap.size 3 i0 _ 1 8 Tryz.underlying23 hi0 hz0 hz1 hz2 rfl (by omega) _ acc.length (qab acc) rfl (hown2.alloc _) ⟨wi.heap.size,0,none⟩ 1 1 [.int .i64 (Utf8.decode s pos).1] rfl rfl ?c1 ?c2 ?c3 ?c4 ?c5 ?_)
   case c1=>
    intro j u hj
    match j,hj with
    |0,hj=>simp at hj;subst hj;simp [Addr.add]
    |(j+1),hj=>simp at hj
   case c2=>intro u hu;simp at hu;subst hu;rfl
   case c3=>unfold maxLen;omega
   case c4=>omega
   case c5=>simp;omega
   intro v' w3 hown3 hgrow3 _;have hit3:w3.heap[w2.heap.size]?=some (.stringIter s (pos+(Utf8.decode s pos).2)):=
    qqe (hown2.alloc _) ((Below.heap_alloc wi _ _ (Array.getElem?_eq_some_iff.1 hit2).1).trans hit2) hgrow3
   go_wp2;go_roundw
   case rel=>
    refine ⟨pos+(Utf8.decode s pos).2,acc++[((Utf8.decode s pos).1:Int)],by omega,by simp;omega,hit3,?_,?_,?_⟩
    ·simpa [qab] using hown3
    ·exact (hbw2.alloc (by omega) _).grown hgrow3 (by simp;omega) (fun k hk=>(hown2.lt k hk).1)
    ·rw [<- HACC.out,HST.out];simp
   case measure=>
    simp only [World.iterPos,hit3,HIT.out];omega
  ·have hnx:∀ ty,(Instr.next (.pointer (some ⟨w2.heap.size,0,none⟩)) true ty).run Tryz.prog wr=_:=fun ty=>Lib.run_next_end_at wr w2.heap.size s pos ty hit hp
   have HACC:=qH hacc;clear hacc;go_wp2;go_ret;have he:s.data.toList.drop pos=[]:=List.drop_eq_nil_of_le (by rw [Array.length_toList];exact Nat.le_of_not_lt hp);have hout:=HACC.out;rw [he,qla,List.append_nil] at hout;subst hout;exact ⟨_,rfl,hown,hbw⟩
theorem qrd (c:Int) (w:World):
  Calls Tryz.prog 241 #[.int .i64 c] w fun e w'=>e= .returned (.bool (qdW c))/\w=w':=by
 go_enter Tryz.func241,Tryz.ntmps241
 go_wp2
 all_goals
  go_ret;refine ⟨qdM ?_,rfl⟩;rw [Bool.eq_iff_iff];simp [qdW]
  try omega
theorem qre (c:Int) (w:World):
  Calls Tryz.prog 219 #[.int .i64 c] w fun e w'=>e= .returned (.bool (qdW c))/\w=w':=by
 go_enter Tryz.func219,Tryz.ntmps219
 go_wp2
 all_goals
  go_ret;refine ⟨qdM ?_,rfl⟩;rw [Bool.eq_iff_iff];simp [qdW]
  try omega
theorem qrf (c:Int) (w:World):
  Calls Tryz.prog 242 #[.int .i64 c] w fun e w'=>e= .returned (.bool (qex c))/\w=w':=by
 go_enter Tryz.func242,Tryz.ntmps242
 go_wp2
 all_goals
  go_ret;refine ⟨qdM ?_,rfl⟩;rw [Bool.eq_iff_iff];simp [qex]
  try omega
theorem qrg (c:Int) (w:World):
  Calls Tryz.prog 224 #[.int .i64 c] w fun e w'=>e= .returned (.int .i64 (qbW c))/\w=w':=by
 go_enter Tryz.func224,Tryz.ntmps224
 go_wp2
 all_goals
  go_ret;refine ⟨qfo ?_,rfl⟩
  try simp only [bne_iff_ne,ne_eq,bne_eq_false_iff_eq] at*
  unfold qbW;split
  all_goals
   rename_i hu
   simp [qeU] at hu
   try omega
theorem qrh (c:Int) (w:World):
  Calls Tryz.prog 181 #[.int .i64 c] w fun e w'=>e= .returned (.int .i64 (qbW c))/\w=w':=by
 go_enter Tryz.func181,Tryz.ntmps181
 go_wp2
 all_goals
  go_ret;refine ⟨qfo ?_,rfl⟩
  try simp only [bne_iff_ne,ne_eq,bne_eq_false_iff_eq] at*
  unfold qbW;split
  all_goals
   rename_i hu
   simp [qeU] at hu
   try omega
theorem qri (c:Int) (w:World):
  Calls Tryz.prog 244 #[.int .i64 c] w fun e w'=>e= .returned (.int .i32 (qdX c))/\w=w':=by
 go_enter Tryz.func244,Tryz.ntmps244
 go_wp2
 all_goals
  go_ret;refine ⟨qfo ?_,rfl⟩;unfold qdX;split
  all_goals
   rename_i hu
   simp [qgX] at hu
   try omega
theorem qrj (c:Int):0<=qdX c/\qdX c<=1114111:=by
 have :=(qfr _).1 (qq8 c);omega
theorem qlf {xs:List Int} {k:Nat} (hk:k<xs.length):text (xs.take (k+1))=text (xs.take k)++Lib.encodeRune (qdX xs[k]):=by
 rw [List.take_succ_eq_append_getElem hk,qq6,qld];simp [text]
theorem qlg (xs:List Int) (k:Nat):(text (xs.take k)).length<=4*k:=by
 have h1:=qlc (xs.take k);have h2:=List.length_take_le k xs;omega
def qrk (T E:TypeId) (w:World) (xs:List Int) (i:Value) (wr:World):Prop:=
 ∃ k:Nat,k<=xs.length/\i= .int .i64 k/\Lib.IsBuilderF T E w.heap.size w.heap.size (Lib.byteCells (text (xs.take k))) wr/\Below w.heap.size w wr/\w.heap.size<wr.heap.size
def qif (l:List UInt8) (w:World) (e:Ending) (w':World):Prop:=e= .returned (.string ⟨l.toArray⟩)/\Below w.heap.size w w'
theorem qrl (A:Option Addr) (c:Nat) (xs:List Int) (w:World) (hx:Row w w.heap.size A (qab xs)) (hl:xs.length<=1073741824):
  Calls Tryz.prog 225 #[.slice A xs.length c] w (qif (text xs) w):=by
 have HX:=qH hx;clear hx
 go_enter Tryz.func225,Tryz.ntmps225
 go_wp2
 go_loopw [8] (fun i wr=>qrk 333 5 w xs i wr) (fun i _=>xs.length-(intOf i).toNat)
 case atStart=>exact ⟨0,Nat.zero_le _,rfl,Lib.IsBuilderF.of (Lib.fresh_isBuilder _ _ w),(Below.refl _ w).alloc (Nat.le_refl _) _,by simp⟩
 case round=>
  obtain ⟨k,hk,rfl,hI,hbw,hsz⟩:=hrel;by_cases hlt:k<xs.length
  ·obtain ⟨b1,o1,e1,_,hc1⟩:=qcF (HX.out.below hbw) hlt
   subst e1;have htk:=qlf hlt;have hlen:=qlg xs k;obtain ⟨x,hx⟩:∃ x,x=xs[k]:=⟨_,rfl⟩;rw [<- hx] at hc1 htk;clear hx;have HTK:=qH htk;clear htk;obtain ⟨hcl0,hcl1⟩:=qrj x
   go_wp2_with (go_at_call 244;refine (qri x _).mono ?_)
   rintro e w' ⟨rfl,rfl⟩
   go_wp2_with (go_at_call 243;refine (qq2 w.heap.size w.heap.size _ _ (by omega) (by omega) _ hI (by rw [Lib.byteCells_length];omega) (by omega)).mono ?_)
   rintro e W1 ⟨rfl,h1,b1,k1⟩;go_wp2;go_roundw
   case rel=>
    refine ⟨k+1,by omega,by go_num,?_,hbw.trans b1,by have :=b1.size;omega⟩;rw [HTK.out,Lib.byteCells_append,Lib.byteCells_encodeRune];exact Or.inr h1
   case measure=>simp [intOf];omega
  ·go_wp2_with (go_at_call 245;refine (qq1 w.heap.size w.heap.size _ _ hI (by omega)).mono ?_)
   rintro e W1 ⟨rfl,_,b1,_⟩;go_wp2;go_ret;rw [List.take_of_length_le (by omega)];exact ⟨rfl,hbw.trans b1⟩
end Go.Proofs.YtpehcaidjlemiaaGreatDoor
