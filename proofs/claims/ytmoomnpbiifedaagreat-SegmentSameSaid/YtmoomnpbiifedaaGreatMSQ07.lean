import Derived.Test.YtmoomnpbiifedaaGreatMSQ06
import Derived.Test.YtmoomnpbiifedaaGreatMSQ01
import Derived.BigQuiet
import Derived.BigCall
import Derived.Test.YtmoomnpbiifedaaGreatMSQ05
import Derived.Deep.QuietTactic
import Derived.Test.YtmoomnpbiifedaaGreatMSQ02
import Derived.Deep.RegionHeld3
namespace Go.Proofs.YtmoomnpbiifedaaGreat
open Go Go.RowKit
set_option linter.unusedVariables false
def PlacesRel10 (l:List Int) (r last i:Value):Prop:=r= .bool false∧∃ (k:Nat) (x:Int),k≤l.length∧i= .int .i64 (k:Int)∧last= .int .i64 x∧placesOn x (l.drop k)=placesOn (-1) l
set_option maxHeartbeats 1000000 in
set_option maxRecDepth 100000 in
theorem may_places_any (A:Option Addr) (m c:Nat) (l:List Int) (w:World) (hr:Row w w.heap.size A (ints l)) (hm:l.length=m) (hl:m≤9223372036854775807):
  Calls Tryz.prog 99 #[.slice A m c] w fun e w'=>e= .returned (.bool (placesB l))∧w=w':=by
 have HR:=Lib.hid hr
 clear hr
 subst hm
 rw [placesB_on]
 obtain ⟨ans,hans⟩:∃ ans,ans=placesOn (-1) l:=⟨_,rfl⟩
 rw [← hans]
 have HA:=Lib.hid hans
 clear hans
 go_enter Tryz.func99,Tryz.ntmps99
 go_wp2
 go_loop [2,3,8] (fun r last i=>PlacesRel10 l r last i) (fun _ _ i=>l.length-(intOf i).toNat)
 case atStart=>exact ⟨rfl,0, -1,by omega,rfl,rfl,rfl⟩
 case round=>
  obtain ⟨rfl,k,x,hk,rfl,rfl,hx⟩:=hrel
  by_cases hlt:k<l.length
  ·obtain ⟨b1,o1,e1,_,hc1⟩:=row_int' HR.out hlt
   subst e1
   rw [placesOn_cut hlt] at hx
   obtain ⟨y,hy⟩:∃ y,y=l.getD k 0:=⟨_,rfl⟩
   rw [← hy] at hc1 hx
   clear hy
   by_cases hxy:y≤x
   ·rw [decide_eq_false (by omega),Bool.false_and,Bool.false_and,← HA.out] at hx
    subst hx
    have hd:decide (y≤x)=true:=decide_eq_true hxy
    go_wp2
    go_ret
    exact ⟨rfl,rfl⟩
   ·have hd:decide (y≤x)=false:=decide_eq_false hxy
    by_cases hyb:2147483648≤y
    ·rw [decide_eq_false (p:=y<2147483648) (by omega),Bool.and_false,Bool.false_and,← HA.out] at hx
     subst hx
     have hd2:decide (2147483648≤y)=true:=decide_eq_true hyb
     go_wp2
     go_ret
     exact ⟨rfl,rfl⟩
    ·rw [decide_eq_true (p:=x<y) (by omega),decide_eq_true (p:=y<2147483648) (by omega),Bool.true_and,Bool.true_and] at hx
     have hd2:decide (2147483648≤y)=false:=decide_eq_false hyb
     have HX:=Lib.hid hx
     clear hx
     go_wp2
     go_round
     case rel=>exact ⟨rfl,k+1,y,by omega,by go_num,rfl,HX.out⟩
     case measure=>simp [intOf];omega
  ·have hx2:placesOn x (l.drop k)=true:=by rw [List.drop_eq_nil_of_le (by omega)];rfl
   rw [hx2,← HA.out] at hx
   subst hx
   clear hx2
   go_wp2
   go_ret
   exact ⟨rfl,rfl⟩
end Go.Proofs.YtmoomnpbiifedaaGreat
namespace Go.Proofs.YtmoomnpbiifedaaGreat
open Go Go.RowKit
set_option linter.unusedVariables false
theorem worth_more {l:List UInt8} {k:Nat} (hk:k<9) (hl:k<l.length):∃ q p v:Nat,128^k=q∧valB (l.take k)=v∧valB (l.take (k+1))=v+p∧(((l.getD k 0).toNat:Int)%128)*(q:Int)=(p:Int)∧p≤9151314442816847872∧v+p<9223372036854775808∧q≤72057594037927936:=by
 have h1:=valB_take hl
 have h2:=valB_take_lt l (k+1)
 have h3:=pow_bd hk
 have h4:(128:Nat)^(k+1)≤128^9:=Nat.pow_le_pow_right (by omega) (by omega)
 have h5:(128:Nat)^9=9223372036854775808:=by decide
 refine ⟨_,(l.getD k 0).toNat%128*128^k,_,rfl,rfl,h1,by simp,?_,by omega,h3⟩
 have :(l.getD k 0).toNat%128*128^k≤127*72057594037927936:=Nat.mul_le_mul (by omega) h3
 omega
theorem pow_next {k q:Nat} (h:128^k=q) (hk:k<8):128^(k+1)=q*128∧q*128≤72057594037927936:=by
 have h1:=pow_bd (i:=k+1) (by omega)
 rw [Nat.pow_succ,h] at h1 ⊢
 exact ⟨rfl,h1⟩
theorem row_drop {w:World} {B b off m c a:Nat} {l:List UInt8} (h:Row w B (some ⟨b,off,none⟩) (Lib.byteCells l)) (hm:l.length=m) (hc:m≤c) (ha:a≤m) (A:Option Addr) (hA:A=some ⟨b,off,none⟩∧c=a∨A=some ⟨b,off+a,none⟩):Row w B A (Lib.byteCells (l.drop a)):=by
 by_cases h0:a=m
 ·refine .inl ?_
  rw [List.drop_eq_nil_of_le (by omega)]
  rfl
 ·rcases hA with ⟨_,hA⟩|hA
  ·omega
  ·obtain ⟨b',o',h1,h2,h3⟩:=h.at_ (by rw [Lib.byteCells_length];omega)
   injection h1 with h1
   injection h1 with h1 h4
   subst h1 h4 hA
   refine .inr ⟨b,off+a,rfl,h2,fun j u hu=> ?_⟩
   have :=h3 (a+j) u (by rw [← hu];simp [Lib.byteCells])
   rwa [← Nat.add_assoc] at this
def GaveZ (z:Int × Int × Int) (w:World) (e:Ending) (w':World):Prop:=e= .returned (.tuple #[.int .i64 z.1,.int .i64 z.2.1,.int .i64 z.2.2])∧Below w.heap.size w w'
theorem getZ_split (l:List UInt8) (a:Int):(∃ e:Int,getZ l a=(0,0,e)∧(e=1∨e=2))∨∃ n b:Nat,getZ l a=((n:Int),(b:Int),0)∧b≤l.length∧n<9223372036854775808:=by
 by_cases h0:a<0∨(l.length:Int)<a
 ·exact .inl ⟨1,getZ_out h0,.inl rfl⟩
 ·obtain ⟨k,rfl⟩:∃ k:Nat,a=k:=⟨a.toNat,by omega⟩
  have hbd:=getF_bd (l.drop k)
  rw [List.length_drop] at hbd
  by_cases h2:(getF (l.drop k)).2=0
  ·exact .inl ⟨2,getZ_form (by omega) h2,.inr rfl⟩
  ·obtain ⟨j,hj⟩:∃ j,(getF (l.drop k)).2=j+1:=⟨(getF (l.drop k)).2-1,by omega⟩
   refine .inr ⟨(getF (l.drop k)).1,k+(j+1),?_,by omega,hbd.1⟩
   rw [getZ_ok (n:=(getF (l.drop k)).1) (k:=j) (by omega) (by rw [← hj])]
   simp
def outR:Option (List Int × Nat)→List Int × Int × Int
 |none=>([],0,2)
 |some p=>(p.1,(p.2:Int),0)
theorem risZ_err {l:List UInt8} {a e:Int} (hz:getZ l a=(0,0,e)) (he:e≠0):risZ l a=([],0,e):=by
 unfold risZ
 rw [hz,if_neg (by simpa using he)]
theorem risZ_ok {l:List UInt8} {a:Int} {n b:Nat} (hz:getZ l a=((n:Int),(b:Int),0)):risZ l a=outR (takeR l n (-1) b []):=by
 unfold risZ
 rw [hz]
 simp only [if_true,Int.toNat_natCast]
 rcases takeR l n (-1) b [] with _|⟨xs,q⟩<;>rfl
def GaveR (r:List Int × Int × Int) (w:World) (e:Ending) (w':World):Prop:=
 ∃ v,e= .returned (.tuple #[v,.int .i64 r.2.1,.int .i64 r.2.2])∧w'.ownsRow w.heap.size 3 1 v r.1.length (ints r.1)∧Below w.heap.size w w'
theorem takeR_length:∀ (many:Nat) (l:List UInt8) (x:Int) (a:Nat) (acc xs:List Int) (b:Nat),takeR l many x a acc=some (xs,b)→a≤l.length→xs.length+a≤acc.length+b∧b≤l.length
 |0,l,x,a,acc,xs,b,h,ha=>by
  simp only [takeR,Option.some.injEq,Prod.mk.injEq] at h
  obtain ⟨rfl,rfl⟩:=h
  exact ⟨Nat.le_refl _,ha⟩
 |m+1,l,x,a,acc,xs,b,h,ha=>by
  have hbd:=getF_bd (l.drop a)
  rw [List.length_drop] at hbd
  rw [takeR] at h
  split at h
  ·cases h
  ·have :=takeR_length m l _ _ _ xs b h (by omega)
   simp only [List.length_append,List.length_singleton] at this
   omega
theorem risZ_length (l:List UInt8) (a:Int):(risZ l a).1.length≤l.length:=by
 rcases getZ_split l a with ⟨e,hz,he⟩|⟨many,b,hz,hb,_⟩
 ·rw [risZ_err hz (by omega)];simp
 ·rw [risZ_ok hz]
  rcases h:takeR l many (-1) b [] with _|⟨xs,q⟩
  ·simp [outR]
  ·have :=takeR_length many l _ _ _ xs q h hb
   simp only [outR,List.length_nil] at this ⊢
   omega
end Go.Proofs.YtmoomnpbiifedaaGreat
set_option linter.unusedVariables false
namespace Go.Proofs.YtmoomnpbiifedaaGreat
open Go Go.RowKit
theorem own_more {base:Nat} {w':World} {v':Value} {a b:List UInt8} {m:Nat} (hm:b.length=m) (hown:w'.ownsRow base 5 1 v' (a.length+m) (Lib.byteCells a++Lib.byteCells b)):Own base w' v' (a++b):=by
 unfold Own
 rw [Lib.byteCells_append,List.length_append,hm]
 exact hown
theorem drop_po {l:List Po} {k:Nat} (hk:k<l.length):l.drop k=l.getD k (0,[])::l.drop (k+1):=by
 rw [List.drop_eq_getElem_cons hk,List.getD_eq_getElem?_getD,List.getElem?_eq_getElem hk]
 rfl
theorem quiet_below {w:World} {n:Nat} (B:Nat):Below B w (w.drewN n):=⟨rfl,rfl,rfl,Nat.le_refl _,fun _ _=>rfl⟩
theorem docOf_getD:∀ {l:List Po} {x:Int},0<l.length→docOf x l=(l.getD (l.length-1) (0,[])).1
 |[],_,h=>by simp at h
 |[p],x,_=>rfl
 |p::q::r,x,_=>by
  have ih:=docOf_getD (l:=q::r) (x:=p.1) (by simp)
  rw [docOf,ih]
  simp
theorem risZ_split (l:List UInt8) (a:Int):(∃ e:Int,risZ l a=([],0,e)∧e≠0)∨∃ (ps:List Int) (q:Nat),risZ l a=(ps,(q:Int),0)∧q≤l.length∧ps.length≤l.length:=by
 have hlen:=risZ_length l a
 rcases getZ_split l a with ⟨e,hz,he⟩|⟨n,b,hz,hb,_⟩
 ·exact .inl ⟨e,risZ_err hz (by omega),by omega⟩
 ·rw [risZ_ok hz] at hlen ⊢
  rcases h:takeR l n (-1) b [] with _|⟨xs,q⟩
  ·exact .inl ⟨2,rfl,by omega⟩
  ·rw [h] at hlen
   have :=takeR_length n l _ _ _ xs q h hb
   exact .inr ⟨xs,q,rfl,this.2,hlen⟩
theorem totalP_le:∀ {l:List Po} {n:Nat},(∀ p∈l,p.2.length≤n)→totalP l≤l.length*n
 |[],_,_=>by simp [totalP]
 |p::r,n,h=>by
  have h1:=h p (by simp)
  have h2:=totalP_le (l:=r) fun q hq=>h q (by simp [hq])
  rw [totalP,List.length_cons,Nat.add_mul,Nat.one_mul]
  omega
theorem totalP_take {l:List Po} {k:Nat} (hk:k<l.length):totalP (l.take (k+1))=totalP (l.take k)+(l.getD k (0,[])).2.length:=by
 have e:∀ (a b:List Po),totalP (a++b)=totalP a+totalP b:=by
  intro a
  induction a with
  |nil=>intro b;simp [totalP]
  |cons p r ih=>intro b;simp [totalP,ih,Nat.add_assoc]
 rw [List.take_succ_eq_append_getElem hk,e,List.getD_eq_getElem?_getD,List.getElem?_eq_getElem hk]
 simp [totalP]
theorem totalP_le_take {l:List Po} (k:Nat):totalP (l.take k)≤totalP l:=by
 have e:∀ (a b:List Po),totalP (a++b)=totalP a+totalP b:=by
  intro a
  induction a with
  |nil=>intro b;simp [totalP]
  |cons p r ih=>intro b;simp [totalP,ih,Nat.add_assoc]
 have h:=e (l.take k) (l.drop k)
 rw [List.take_append_drop] at h
 omega
end Go.Proofs.YtmoomnpbiifedaaGreat
namespace Go.Proofs.YtmoomnpbiifedaaGreat
open Go Go.RowKit
set_option linter.unusedVariables false
def RisesRel10 (l:List Int) (r last i:Value):Prop:=r= .bool false∧∃ (k:Nat) (x:Int),k≤l.length∧i= .int .i64 (k:Int)∧last= .int .i64 x∧risesZ x (l.drop k)=risesZ (-1) l
set_option maxHeartbeats 1000000 in
set_option maxRecDepth 100000 in
theorem vint_rises_any (A:Option Addr) (m c:Nat) (l:List Int) (w:World) (hr:Row w w.heap.size A (ints l)) (hm:l.length=m) (hl:m≤9223372036854775807):
  Calls Tryz.prog 124 #[.slice A m c] w fun e w'=>e= .returned (.bool (risesZ (-1) l))∧w=w':=by
 have HR:=Lib.hid hr
 clear hr
 subst hm
 obtain ⟨ans,hans⟩:∃ ans,ans=risesZ (-1) l:=⟨_,rfl⟩
 rw [← hans]
 have HA:=Lib.hid hans
 clear hans
 go_enter Tryz.func124,Tryz.ntmps124
 go_wp2
 go_loop [2,3,8] (fun r last i=>RisesRel10 l r last i) (fun _ _ i=>l.length-(intOf i).toNat)
 case atStart=>exact ⟨rfl,0, -1,by omega,rfl,rfl,rfl⟩
 case round=>
  obtain ⟨rfl,k,x,hk,rfl,rfl,hx⟩:=hrel
  by_cases hlt:k<l.length
  ·obtain ⟨b1,o1,e1,_,hc1⟩:=row_int' HR.out hlt
   subst e1
   rw [risesZ_drop hlt] at hx
   obtain ⟨y,hy⟩:∃ y,y=l.getD k 0:=⟨_,rfl⟩
   rw [← hy] at hc1 hx
   clear hy
   by_cases hxy:y≤x
   ·rw [decide_eq_false (by omega),Bool.false_and,← HA.out] at hx
    subst hx
    go_wp2
    go_ret
    exact ⟨rfl,rfl⟩
   ·rw [decide_eq_true (by omega),Bool.true_and] at hx
    have HX:=Lib.hid hx
    clear hx
    go_wp2
    go_round
    case rel=>exact ⟨rfl,k+1,y,by omega,by go_num,rfl,HX.out⟩
    case measure=>simp [intOf];omega
  ·rw [risesZ_end (by omega),← HA.out] at hx
   subst hx
   go_wp2
   go_ret
   exact ⟨rfl,rfl⟩
end Go.Proofs.YtmoomnpbiifedaaGreat
namespace Go.Proofs.YtmoomnpbiifedaaGreat
open Go Go.RowKit
set_option linter.unusedVariables false
def GaveOwn (base:Nat) (bs:List UInt8) (w:World) (e:Ending) (w':World):Prop:=∃ v,e= .returned v∧Own base w' v bs∧Below base w w'
def AddRel (base:Nat) (all:List UInt8) (n:Nat) (w:World) (v i:Value) (wr:World):Prop:=
 ∃ (cur:List UInt8) (x:Nat),i= .int .i64 (x:Int)∧x≤n∧cur.length≤all.length∧cur++putB x=all∧Buf base wr v cur∧Below base w wr
set_option maxHeartbeats 1000000 in
set_option maxRecDepth 100000 in
theorem vint_add (v:Value) (bs:List UInt8) (n:Nat) (base:Nat) (w:World) (hb:Buf base w v bs) (hbase:base≤w.heap.size) (hn:n<9223372036854775808) (hl:bs.length≤1073741824):
  Calls Tryz.prog 125 #[v,.int .i64 (n:Int)] w (GaveOwn base (bs++putB n) w):=by
 obtain ⟨i0,hi0,hz0,hz1,hz2⟩:=info_parts info_byte
 have h9:=putB_nine hn
 obtain ⟨all,hall⟩:∃ all,all=bs++putB n:=⟨_,rfl⟩
 have hal:all.length≤1073741833:=by rw [hall,List.length_append];omega
 rw [← hall]
 have HALL:=Lib.hid hall
 have HB:=Lib.hid hb
 clear hall hb
 go_enter Tryz.func125,Tryz.ntmps125
 go_wp2
 go_loopw [0,1] (fun v i wr=>AddRel base all n w v i wr) (fun _ i _=>(intOf i).toNat)
 case atStart=>exact ⟨bs,n,rfl,Nat.le_refl _,by rw [HALL.out];simp,HALL.out.symm,HB.out,Below.refl _ _⟩
 case round=>
  obtain ⟨cur,x,rfl,hx,hcl,hcat,hbuf,hbw⟩:=hrel
  have hsz:=hbw.size
  have HBUF:=Lib.hid hbuf
  have HCAT:=Lib.hid hcat
  clear hbuf hcat
  by_cases h:128≤x
  ·obtain ⟨c,hc⟩:∃ c,c=UInt8.ofNat (128+x%128):=⟨_,rfl⟩
   have hcn:Hid (c.toNat=128+x%128):=Lib.hid (by rw [hc,byte_nat (by omega)])
   have hcat2:(cur++[c])++putB (x/128)=all:=by
    rw [← HCAT.out,putB_big h,List.append_assoc,hc];rfl
   have hcl2:(cur++[c]).length≤all.length:=by rw [← hcat2,List.length_append (bs:=putB (x/128))];omega
   clear hc
   have HC2:=Lib.hid hcat2
   have HL2:=Lib.hid hcl2
   clear hcat2 hcl2
   go_wp2_with (at_builtin;refine wpList_append_buf _ rfl (.tmp 9) (.tmp 14) 86 rfl base i0 _ Tryz.underlying86 hi0 hz0 hz1 hz2 rfl _ cur rfl (HBUF.out.alloc (by omega) _) (by simp;omega) ⟨wr.heap.size,0,none⟩ 1 _ rfl (news_at wr [.int .u8 _] 5) c (by rw [hcn.out];omega) (by omega) ?_)
   intro v' w3 hown3 hb3
   go_wp2
   go_roundw
   case rel=>exact ⟨_,x/128,by go_num,by omega,HL2.out,HC2.out,hown3.buf,(hbw.alloc (by omega) _).trans hb3⟩
   case measure=>simp [intOf];omega
  ·obtain ⟨c,hc⟩:∃ c,c=UInt8.ofNat x:=⟨_,rfl⟩
   have hcn:Hid (c.toNat=x):=Lib.hid (by rw [hc,byte_nat (by omega)])
   have hcat2:cur++[c]=all:=by rw [← HCAT.out,putB_small (by omega),hc]
   clear hc
   have HC2:=Lib.hid hcat2
   clear hcat2
   go_wp2_with (at_builtin;refine wpList_append_buf _ rfl (.tmp 16) (.tmp 19) 86 rfl base i0 _ Tryz.underlying86 hi0 hz0 hz1 hz2 rfl _ cur rfl (HBUF.out.alloc (by omega) _) (by simp;omega) ⟨wr.heap.size,0,none⟩ 1 _ rfl (news_at wr [.int .u8 _] 5) c (by rw [hcn.out]) (by omega) ?_)
   intro v' w3 hown3 hb3
   go_wp2
   go_ret
   exact ⟨_,rfl,by rw [← HC2.out];exact hown3,(hbw.alloc (by omega) _).trans hb3⟩
end Go.Proofs.YtmoomnpbiifedaaGreat
namespace Go.Proofs.YtmoomnpbiifedaaGreat
open Go Go.RowKit
set_option linter.unusedVariables false
set_option maxHeartbeats 1000000 in
set_option maxRecDepth 100000 in
theorem vint_Put (A:Option Addr) (m c:Nat) (bs:List UInt8) (n:Nat) (w:World) (hm:bs.length=m) (hc:m≤c) (hr:Row w w.heap.size A (Lib.byteCells bs)) (hn:n<9223372036854775808) (hl:bs.length≤1073741824):
  Calls Tryz.prog 102 #[.slice A m c,.int .i64 (n:Int)] w (GaveOwn w.heap.size (bs++putB n) w):=by
 have HR:=Lib.hid hr
 clear hr
 subst hm
 go_enter Tryz.func102,Tryz.ntmps102
 go_wp2_with (go_at_call 125;refine (vint_add _ bs n w.heap.size _ (.inl ⟨A,?_,HR.out⟩) (Nat.le_refl _) hn hl).mono ?_)
 ·rfl
 rintro e w2 ⟨v,rfl,hown,hb⟩
 go_wp2
 go_ret
 exact ⟨_,rfl,hown,hb⟩
end Go.Proofs.YtmoomnpbiifedaaGreat
namespace Go.Proofs.YtmoomnpbiifedaaGreat
open Go Go.RowKit
set_option linter.unusedVariables false
def AddRel10 (base:Nat) (all:List UInt8) (n:Nat) (w:World) (v i:Value) (wr:World):Prop:=
 ∃ (cur:List UInt8) (x:Nat),i= .int .i64 (x:Int)∧x≤n∧cur.length≤all.length∧cur++putB x=all∧Buf base wr v cur∧Below base w wr
set_option maxHeartbeats 1000000 in
set_option maxRecDepth 100000 in
theorem vint_add_any (v:Value) (bs:List UInt8) (n:Nat) (base:Nat) (w:World) (hb:Buf base w v bs) (hbase:base≤w.heap.size) (hn:n<9223372036854775808) (hl:bs.length≤1000000000000):
  Calls Tryz.prog 125 #[v,.int .i64 (n:Int)] w (GaveOwn base (bs++putB n) w):=by
 obtain ⟨i0,hi0,hz0,hz1,hz2⟩:=info_parts info_byte
 have h9:=putB_nine hn
 obtain ⟨all,hall⟩:∃ all,all=bs++putB n:=⟨_,rfl⟩
 have hal:all.length≤1000000000009:=by rw [hall,List.length_append];omega
 rw [← hall]
 have HALL:=Lib.hid hall
 have HB:=Lib.hid hb
 clear hall hb
 go_enter Tryz.func125,Tryz.ntmps125
 go_wp2
 go_loopw [0,1] (fun v i wr=>AddRel10 base all n w v i wr) (fun _ i _=>(intOf i).toNat)
 case atStart=>exact ⟨bs,n,rfl,Nat.le_refl _,by rw [HALL.out];simp,HALL.out.symm,HB.out,Below.refl _ _⟩
 case round=>
  obtain ⟨cur,x,rfl,hx,hcl,hcat,hbuf,hbw⟩:=hrel
  have hsz:=hbw.size
  have HBUF:=Lib.hid hbuf
  have HCAT:=Lib.hid hcat
  clear hbuf hcat
  by_cases h:128≤x
  ·obtain ⟨c,hc⟩:∃ c,c=UInt8.ofNat (128+x%128):=⟨_,rfl⟩
   have hcn:Hid (c.toNat=128+x%128):=Lib.hid (by rw [hc,byte_nat (by omega)])
   have hcat2:(cur++[c])++putB (x/128)=all:=by
    rw [← HCAT.out,putB_big h,List.append_assoc,hc];rfl
   have hcl2:(cur++[c]).length≤all.length:=by rw [← hcat2,List.length_append (bs:=putB (x/128))];omega
   clear hc
   have HC2:=Lib.hid hcat2
   have HL2:=Lib.hid hcl2
   clear hcat2 hcl2
   go_wp2_with (at_builtin;refine wpList_append_buf _ rfl (.tmp 9) (.tmp 14) 86 rfl base i0 _ Tryz.underlying86 hi0 hz0 hz1 hz2 rfl _ cur rfl (HBUF.out.alloc (by omega) _) (by simp;omega) ⟨wr.heap.size,0,none⟩ 1 _ rfl (news_at wr [.int .u8 _] 5) c (by rw [hcn.out];omega) (by omega) ?_)
   intro v' w3 hown3 hb3
   go_wp2
   go_roundw
   case rel=>exact ⟨_,x/128,by go_num,by omega,HL2.out,HC2.out,hown3.buf,(hbw.alloc (by omega) _).trans hb3⟩
   case measure=>simp [intOf];omega
  ·obtain ⟨c,hc⟩:∃ c,c=UInt8.ofNat x:=⟨_,rfl⟩
   have hcn:Hid (c.toNat=x):=Lib.hid (by rw [hc,byte_nat (by omega)])
   have hcat2:cur++[c]=all:=by rw [← HCAT.out,putB_small (by omega),hc]
   clear hc
   have HC2:=Lib.hid hcat2
   clear hcat2
   go_wp2_with (at_builtin;refine wpList_append_buf _ rfl (.tmp 16) (.tmp 19) 86 rfl base i0 _ Tryz.underlying86 hi0 hz0 hz1 hz2 rfl _ cur rfl (HBUF.out.alloc (by omega) _) (by simp;omega) ⟨wr.heap.size,0,none⟩ 1 _ rfl (news_at wr [.int .u8 _] 5) c (by rw [hcn.out]) (by omega) ?_)
   intro v' w3 hown3 hb3
   go_wp2
   go_ret
   exact ⟨_,rfl,by rw [← HC2.out];exact hown3,(hbw.alloc (by omega) _).trans hb3⟩
end Go.Proofs.YtmoomnpbiifedaaGreat
namespace Go.Proofs.YtmoomnpbiifedaaGreat
open Go Go.RowKit
set_option linter.unusedVariables false
def PutRRel10 (base:Nat) (all:List UInt8) (l:List Int) (w:World) (v last i:Value) (wr:World):Prop:=
 ∃ (cur:List UInt8) (k:Nat) (x:Int),k≤l.length∧i= .int .i64 (k:Int)∧last= .int .i64 x∧ -1≤x∧risesZ x (l.drop k)=true∧cur.length≤all.length∧cur++dB x (l.drop k)=all∧Own base wr v cur∧Below base w wr
set_option maxHeartbeats 1000000 in
set_option maxRecDepth 100000 in
theorem vint_PutRising_any (A:Option Addr) (m c:Nat) (bs:List UInt8) (C:Option Addr) (n d:Nat) (l:List Int) (w:World) (hm:bs.length=m) (hc:m≤c) (hr:Row w w.heap.size A (Lib.byteCells bs)) (hl:m≤400000000000)
  (hn:l.length=n) (hn20:n≤2147483648) (hrl:Row w w.heap.size C (ints l)) (hb:∀ x∈l,x≤9223372036854775807) (hri:risesZ (-1) l=true):
  Calls Tryz.prog 101 #[.slice A m c,.slice C n d] w fun e w'=>∃ v,e= .returned (.tuple #[v,.int .i64 0])∧Own w.heap.size w' v (bs++putR l)∧Below w.heap.size w w':=by
 subst hm hn
 have hdl:=dB_length l (-1) (by omega) hri hb
 have h9:=putB_nine (n:=l.length) (by omega)
 obtain ⟨all,hall⟩:∃ all,all=bs++putR l:=⟨_,rfl⟩
 have hal:all.length≤800000000000:=by rw [hall,putR,List.length_append,List.length_append];omega
 rw [← hall]
 have HALL:=Lib.hid hall
 have HR:=Lib.hid hr
 have HRL:=Lib.hid hrl
 have HB:=Lib.hid hb
 have r1:=vint_rises_any C l.length d l w hrl rfl (by omega)
 rw [hri] at r1
 have HRI:=Lib.hid hri
 have R1:=Lib.hid r1
 clear hall hr hrl hb r1 hri hdl
 go_enter Tryz.func101,Tryz.ntmps101
 go_wp2_with (first
  |(go_at_call 124;refine R1.out.mono ?_;rintro e w' ⟨rfl,rfl⟩)
  |(go_at_call 125;refine (vint_add_any _ bs l.length w.heap.size _ (.inl ⟨A,rfl,HR.out⟩) (Nat.le_refl _) (by omega) (by omega)).mono ?_))
 rintro e w2 ⟨v,rfl,hown,hb2⟩
 have HOWN:=Lib.hid hown
 have HB2:=Lib.hid hb2
 clear hown hb2
 go_wp2
 go_loopw [0,6,23] (fun v last i wr=>PutRRel10 w.heap.size all l w v last i wr) (fun _ _ i _=>l.length-(intOf i).toNat)
 case atStart=>exact ⟨bs++putB l.length,0, -1,by omega,rfl,rfl,by omega,HRI.out,by rw [HALL.out,putR,List.length_append,List.length_append,List.length_append];omega,by rw [HALL.out,putR,List.append_assoc];rfl,HOWN.out,HB2.out⟩
 case round=>
  obtain ⟨cur,k,x,hk,rfl,rfl,hx1,hris,hcl,hcat,hown,hbw⟩:=hrel
  have hsz:=hbw.size
  have HOW:=Lib.hid hown
  clear hown
  by_cases hlt:k<l.length
  ·obtain ⟨b1,o1,e1,_,hc1⟩:=row_int' (HRL.out.below hbw) hlt
   subst e1
   rw [risesZ_drop hlt,Bool.and_eq_true,decide_eq_true_iff] at hris
   rw [dB_drop hlt,← List.append_assoc] at hcat
   have hyb:l.getD k 0≤9223372036854775807:=HB.out _ (by rw [List.getD_eq_getElem?_getD,List.getElem?_eq_getElem hlt];simp)
   obtain ⟨y,hy⟩:∃ y,y=l.getD k 0:=⟨_,rfl⟩
   rw [← hy] at hc1 hris hcat hyb
   obtain ⟨hxy,hris⟩:=hris
   obtain ⟨g,hg⟩:∃ g:Nat,y-(x+1)=(g:Int):=⟨(y-(x+1)).toNat,by omega⟩
   rw [hg,Int.toNat_natCast] at hcat
   have hcl2:(cur++putB g).length≤all.length:=by rw [← hcat,List.length_append (bs:=dB y _)];omega
   have HCAT:=Lib.hid hcat
   have HRIS:=Lib.hid hris
   have HCL:=Lib.hid hcl2
   have VA:Hid (Calls Tryz.prog 125 #[u0,.int .i64 (g:Int)] wr (GaveOwn w.heap.size (cur++putB g) wr)):=
    Lib.hid (by exact vint_add_any u0 cur g w.heap.size _ HOW.out.buf (by omega) (by omega) (by omega))
   clear hcat hris hcl2 hy
   go_wp2_with (go_at_call 125;refine VA.out.mono ?_)
   rintro e w3 ⟨v3,rfl,hown3,hb3⟩
   go_wp2
   go_roundw
   case rel=>exact ⟨_,k+1,y,by omega,by go_num,rfl,by omega,HRIS.out,HCL.out,HCAT.out,hown3,hbw.trans hb3⟩
   case measure=>simp [intOf];omega
  ·rw [dB_end (by omega),List.append_nil] at hcat
   subst hcat
   go_wp2
   go_ret2
   exact ⟨_,rfl,HOW.out,hbw⟩
end Go.Proofs.YtmoomnpbiifedaaGreat
set_option linter.unusedVariables false
namespace Go.Proofs.YtmoomnpbiifedaaGreat
open Go Go.RowKit
def MayRelD10 (l:List Po) (w:World) (r last i:Value) (wr:World):Prop:=r= .bool false∧∃ (k:Nat) (x:Int),k≤l.length∧i= .int .i64 (k:Int)∧last= .int .i64 x∧mayB' x (l.drop k)=mayB' (-1) l∧Below w.heap.size w wr
set_option maxHeartbeats 2000000 in
set_option maxRecDepth 100000 in
theorem posting_May_any (A:Option Addr) (n d:Nat) (l:List Po) (w:World) (hn:l.length=n) (hnx:n≤9223372036854775807) (hpo:Posts w w.heap.size A l) (hpl:∀ p∈l,p.2.length≤9223372036854775807):
  Calls Tryz.prog 61 #[.slice A n d] w fun e w'=>e= .returned (.bool (mayB' (-1) l))∧Below w.heap.size w w':=by
 subst hn
 obtain ⟨ans,hans⟩:∃ ans,ans=mayB' (-1) l:=⟨_,rfl⟩
 rw [← hans]
 have HANS:=Lib.hid hans
 have HPO:=Lib.hid hpo
 have HPL:=Lib.hid hpl
 clear hans hpo hpl
 go_enter Tryz.func61,Tryz.ntmps61
 go_wp2
 go_loopw [2,3,8] (fun r last i wr=>MayRelD10 l w r last i wr) (fun _ _ i _=>l.length-(intOf i).toNat)
 case atStart=>exact ⟨rfl,0, -1,by omega,rfl,rfl,rfl,Below.refl _ _⟩
 case round=>
  obtain ⟨rfl,k,x,hk,rfl,rfl,hris,hbw⟩:=hrel
  have hsz:=hbw.size
  by_cases hlt:k<l.length
  ·obtain ⟨b1,o1,e1,hb1,hc1,A2,c2,hc2,hlc,hcx,hr2⟩:=(HPO.out.below hbw).at_ hlt
   subst e1
   have hlp:=HPL.out (l.getD k (0,[])) (by rw [List.getD_eq_getElem?_getD,List.getElem?_eq_getElem hlt];simp)
   rw [drop_po hlt] at hris
   obtain ⟨q,hq⟩:∃ q,q=l.getD k (0,[]):=⟨_,rfl⟩
   rw [← hq] at hc1 hc2 hlc hr2 hris hlp
   obtain ⟨y,ps⟩:=q
   simp only at hc1 hc2 hlc hr2 hlp
   obtain ⟨P,hP⟩:∃ P,P=ps.length:=⟨_,rfl⟩
   rw [← hP] at hc2 hlp
   have hmp:=fun w1 (h:Row w1 w1.heap.size A2 (ints ps))=>may_places_any A2 P c2 ps w1 h hP.symm (by omega)
   have hr3:Row (wr.alloc (.cells #[.int .i64 y,.slice A2 P c2] 63)) (wr.alloc (.cells #[.int .i64 y,.slice A2 P c2] 63)).heap.size A2 (ints ps):=
    (hr2.below ((Below.refl _ wr).alloc hsz _)).more (by simp;omega)
   have hmp2:=hmp _ hr3
   rw [mayB'] at hris
   simp only at hris
   have HBW:=Lib.hid (hbw.trans (((Below.refl _ wr).alloc (Nat.le_refl _) (.cells #[.int .i64 y,.slice A2 P c2] 63)).mono hsz))
   clear hmp hr3 hr2 hP hq hbw
   by_cases hxy:y≤x
   ·rw [decide_eq_false (p:=x<y) (by omega),Bool.false_and,Bool.false_and,Bool.false_and,← HANS.out] at hris
    subst hris
    have hd:decide (y≤x)=true:=decide_eq_true hxy
    clear hmp2
    go_wp2
    go_ret
    exact ⟨rfl,HBW.out⟩
   ·have hd:decide (y≤x)=false:=decide_eq_false hxy
    by_cases hyb:2147483648≤y
    ·rw [decide_eq_false (p:=y<2147483648) (by omega),Bool.and_false,Bool.false_and,Bool.false_and,← HANS.out] at hris
     subst hris
     have hd2:decide (2147483648≤y)=true:=decide_eq_true hyb
     clear hmp2
     go_wp2
     go_ret
     exact ⟨rfl,HBW.out⟩
    ·have hd2:decide (2147483648≤y)=false:=decide_eq_false hyb
     rw [decide_eq_true (p:=x<y) (by omega),decide_eq_true (p:=y<2147483648) (by omega),Bool.true_and,Bool.true_and] at hris
     have HMP:=Lib.hid hmp2
     have HR:=Lib.hid hris
     clear hmp2 hris
     rcases hpb:placesB ps with _|_
     ·rw [hpb] at HMP HR
      go_wp2_with (go_at_call 99;refine HMP.out.mono ?_;rintro e w' ⟨rfl,rfl⟩)
      go_ret
      exact ⟨ret_bool (by rw [HANS.out,← HR.out,Bool.false_and]),HBW.out⟩
     ·rw [hpb] at HMP HR
      go_wp2_with (go_at_call 99;refine HMP.out.mono ?_;rintro e w' ⟨rfl,rfl⟩)
      go_roundw
      case rel=>exact ⟨rfl,k+1,y,by omega,by go_num,rfl,by rw [← HR.out,Bool.true_and],HBW.out⟩
      case measure=>simp [intOf];omega
  ·have hx2:mayB' x (l.drop k)=true:=by rw [List.drop_eq_nil_of_le (by omega)];rfl
   rw [hx2,← HANS.out] at hris
   subst hris
   clear hx2
   go_wp2
   go_ret
   exact ⟨rfl,hbw⟩
def PutRelD10 (all:List UInt8) (l:List Po) (w:World) (last v i:Value) (wr:World):Prop:=
 ∃ (cur:List UInt8) (k:Nat) (x:Int),k≤l.length∧i= .int .i64 (k:Int)∧last= .int .i64 x∧ -1≤x∧mayB' x (l.drop k)=true∧cur.length≤all.length∧cur++bytesP x (l.drop k)=all∧Own w.heap.size wr v cur∧Below w.heap.size w wr
set_option maxHeartbeats 2000000 in
set_option maxRecDepth 100000 in
theorem posting_put_any (A:Option Addr) (n d:Nat) (l:List Po) (x0:Int) (w:World) (hn:l.length=n) (hn60:n≤100) (hpo:Posts w w.heap.size A l) (hx0: -1≤x0) (hmay:mayB' x0 l=true) (hpl:∀ p∈l,p.2.length≤2147483648) (hal0:(bytesP x0 l).length≤400000000000):
  Calls Tryz.prog 63 #[.slice A n d,.int .i64 x0] w (GaveOwn w.heap.size (bytesP x0 l) w):=by
 obtain ⟨i0,hi0,hz0,hz1,hz2⟩:=info_parts info_byte
 subst hn
 obtain ⟨all,hall⟩:∃ all,all=bytesP x0 l:=⟨_,rfl⟩
 rw [← hall] at hal0
 rw [← hall]
 have HALL:=Lib.hid hall
 have HPO:=Lib.hid hpo
 have HMAY:=Lib.hid hmay
 have HPL:=Lib.hid hpl
 clear hall hpo hmay hpl
 go_enter Tryz.func63,Tryz.ntmps63
 go_wp2
 go_loopw [1,5,12] (fun last v i wr=>PutRelD10 all l w last v i wr) (fun _ _ i _=>l.length-(intOf i).toNat)
 case atStart=>exact ⟨[],0,x0,by omega,rfl,rfl,hx0,HMAY.out,by simp,HALL.out.symm,World.ownsRow_nil _ _ _ _,Below.refl _ _⟩
 case round=>
  obtain ⟨cur,k,x,hk,rfl,rfl,hx1,hris,hcl,hcat,hown,hbw⟩:=hrel
  have hsz:=hbw.size
  by_cases hlt:k<l.length
  ·obtain ⟨b1,o1,e1,hb1,hc1,A2,c2,hc2,hlc,hcx,hr2⟩:=(HPO.out.below hbw).at_ hlt
   subst e1
   have hlp:=HPL.out (l.getD k (0,[])) (by rw [List.getD_eq_getElem?_getD,List.getElem?_eq_getElem hlt];simp)
   rw [drop_po hlt] at hris hcat
   obtain ⟨q,hq⟩:∃ q,q=l.getD k (0,[]):=⟨_,rfl⟩
   rw [← hq] at hc1 hc2 hlc hr2 hris hcat hlp
   obtain ⟨y,ps⟩:=q
   simp only at hc1 hc2 hlc hr2 hlp
   obtain ⟨hxy,hyb,hps,hris⟩:=mayB'_cons.1 hris
   simp only at hxy hyb hps hris
   simp only [bytesP] at hcat
   obtain ⟨g,hg⟩:∃ g:Nat,y-(x+1)=(g:Int):=⟨(y-(x+1)).toNat,by omega⟩
   rw [hg,Int.toNat_natCast,← List.append_assoc,← List.append_assoc] at hcat
   have hcl2:((cur++putB g)++putR ps).length≤all.length:=by rw [← hcat,List.length_append (bs:=bytesP y _)];omega
   have hpb:=places_bd hps
   have hg0:g<9223372036854775808:=by omega
   have hpu:∀ w',Calls Tryz.prog 102 #[.slice none 0 0,.int .i64 (y-(x+1))] w' (GaveOwn w'.heap.size (putB g) w'):=fun w'=>by
    have :=vint_Put none 0 0 [] g w' rfl (Nat.le_refl _) Row.nil hg0 (by simp)
    rw [List.nil_append] at this
    rwa [hg]
   obtain ⟨P,hP⟩:∃ P,P=ps.length:=⟨_,rfl⟩
   have hal:=(Below.refl wr.heap.size wr).alloc (Nat.le_refl _) (.cells #[.int .i64 y,.slice A2 P c2] 63)
   have hpr:=vint_PutRising_any none 0 0 [] A2 P c2 ps (wr.alloc (.cells #[.int .i64 y,.slice A2 P c2] 63)) rfl (Nat.le_refl _) Row.nil (by omega) hP.symm (by omega) ((hr2.below (hal.mono hsz)).more (by simp;omega)) (fun x hx=>by have :=hpb x hx;omega) (placesB_iff.1 hps).1
   rw [List.nil_append] at hpr
   rw [← hP] at hc2 hlc
   have hpl9:=putR_length hps (by omega)
   obtain ⟨Q,hQ⟩:∃ Q,Q=(putR ps).length:=⟨_,rfl⟩
   rw [← hP,← hQ] at hpl9
   have hP20:P≤2147483648:=by omega
   have h9g:=putB_nine hg0
   obtain ⟨G,hG⟩:∃ G,G=(putB g).length:=⟨_,rfl⟩
   rw [← hG] at h9g
   have HQ:=Lib.hid hQ
   have HGL:=Lib.hid hG
   have HPU:=Lib.hid hpu
   have HPR:=Lib.hid hpr
   have HAL:=Lib.hid hal
   have HBW:=Lib.hid hbw
   have HCAT:=Lib.hid hcat
   have HRIS:=Lib.hid hris
   have HCL:=Lib.hid hcl2
   have HOW:=Lib.hid (hown.below hal)
   have HCV:Hid (∀ k,u5.ownBlock=some k→k<wr.heap.size):=Lib.hid fun k hk=>(hown.lt k hk).2
   clear hq hg hpu hP hal hpr hQ hG hcat hris hcl2 hown hpb hps hr2 hlp hbw
   go_wp2_with (go_at_call 101;refine HPR.out.mono ?_)
   rintro e w4 ⟨v4,rfl,hown4,hb4⟩
   obtain ⟨A4,c4,rfl,_,hr4⟩:=hown4.row
   have hnb:wr.heap.size<(wr.alloc (.cells #[.int .i64 y,.slice A2 P c2] 63)).heap.size:=by simp
   have hpb4:w4.heap[wr.heap.size]?=some (.cells #[.int .i64 y,.slice A2 P c2] 63 (0,0)):=(hb4.block wr.heap.size hnb).trans (heap_alloc_new wr _)
   have hdc:=(cells_two hpb4).1
   have HO4:=Lib.hid hown4
   have hB4:=HBW.out.trans ((HAL.out.mono hsz).trans (hb4.mono (by simp;omega)))
   have hs4:=hB4.size
   have HR4:=Lib.hid hr4
   have HB4:=Lib.hid hB4
   have hw4:wr.heap.size+1≤w4.heap.size:=by have :=hb4.size;simpa using this
   have HOW4:=Lib.hid (HOW.out.below hb4)
   rw [← HQ.out]
   clear hown4 hb4 hr4 hB4 HOW HPR
   go_wp2_with (go_at_call 102;refine (HPU.out _).mono ?_)
   rintro e w5 ⟨v5,rfl,hown5,hb5⟩
   obtain ⟨A5,c5,rfl,_,hr5⟩:=hown5.row
   have hpb5:w5.heap[wr.heap.size]?=some (.cells #[.int .i64 y,.slice A2 P c2] 63 (0,0)):=(hb5.block wr.heap.size (by omega)).trans hpb4
   have HOW5:=Lib.hid (HOW4.out.below hb5)
   have HR5:=Lib.hid hr5
   have HO5:=Lib.hid (HO4.out.below hb5)
   have hB5:=HB4.out.trans (hb5.mono hs4)
   have hs5:=hB5.size
   have HB5:=Lib.hid hB5
   have hw5:w4.heap.size≤w5.heap.size:=hb5.size
   rw [← HGL.out]
   have hcurl:cur.length+G+Q≤all.length:=by have :=HCL.out;rw [List.length_append,List.length_append,← HGL.out,← HQ.out] at this;omega
   clear hown5 hb5 hr5 hB5 hdc hpb4 HOW4 HO4 HR4 HPU HB4
   go_wp2_with (at_builtin;refine wpList_append_row _ rfl (.tmp 22) (.tmp 28) 86 rfl w.heap.size 5 i0 _ 1 1 Tryz.underlying86 hi0 hz0 hz1 hz2 rfl (by omega) _ cur.length (Lib.byteCells cur) rfl HOW5.out _ A5 G c5 (Lib.byteCells (putB g)) rfl (by rw [Lib.byteCells_length,HGL.out];omega) HR5.out (byteCells_oneCell _) (by unfold maxLen;omega) (by omega) hs5 ?_)
   intro v6 w6 hown6 hg6
   have hb6:Below w.heap.size w5 w6:=(Below.refl _ w5).grown hg6 hs5 fun k hk=>(HOW5.out.lt k hk).1
   have hpb6:w6.heap[wr.heap.size]?=some (.cells #[.int .i64 y,.slice A2 P c2] 63 (0,0)):=(hg6.block wr.heap.size (by omega) (fun e=>owned_apart HOW5.out hpb5 (by decide) e.symm)).trans hpb5
   have hs6:w.heap.size≤w6.heap.size:=by have :=hb6.size;omega
   have hw6:w5.heap.size≤w6.heap.size:=hb6.size
   have ho6:Own (wr.alloc (.cells #[.int .i64 y,.slice A2 P c2] 63)).heap.size w6 (.slice A4 (putR ps).length c4) (putR ps):=
    owned_keep HO5.out fun g hg=>hg6.block g (HO5.out.lt g hg).2 fun e=>by
     have h1:=HCV.out g e.symm
     have h2:=(HO5.out.lt g hg).1
     omega
   have hr6:=owned_row_of ho6
   have HR6:=Lib.hid hr6
   have HO6:=Lib.hid (own_more HGL.out.symm hown6)
   obtain ⟨cur2,hc2⟩:∃ cur2,cur2=cur++putB g:=⟨_,rfl⟩
   have hl2:cur2.length+Q≤800000000000:=by rw [hc2,List.length_append,← HGL.out];omega
   rw [← hc2] at HO6
   have HC2:=Lib.hid hc2
   have HB6:=Lib.hid (HB5.out.trans hb6)
   clear hown6 hg6 hb6 ho6 hr6 hc2 HB5 HOW5 HO5 HR5 HCV hpb5
   go_wp2_with (at_builtin;refine wpList_append_row _ rfl (.tmp 30) (.tmp 31) 86 rfl w.heap.size 5 i0 _ 1 1 Tryz.underlying86 hi0 hz0 hz1 hz2 rfl (by omega) _ cur2.length (Lib.byteCells cur2) rfl HO6.out _ A4 Q c4 (Lib.byteCells (putR ps)) rfl (by rw [Lib.byteCells_length,HQ.out];omega) HR6.out (byteCells_oneCell _) (by unfold maxLen;omega) (by omega) hs6 ?_)
   intro v7 w7 hown7 hg7
   have hb7:Below w.heap.size w6 w7:=(Below.refl _ w6).grown hg7 hs6 fun k hk=>(HO6.out.lt k hk).1
   have hpb7:w7.heap[wr.heap.size]?=some (.cells #[.int .i64 y,.slice A2 P c2] 63 (0,0)):=(hg7.block wr.heap.size (by omega) (fun e=>owned_apart HO6.out hpb6 (by decide) e.symm)).trans hpb6
   have hd7:=(cells_two hpb7).1
   have hfin:PutRelD10 all l w (.int .i64 y) v7 (.int .i64 ((k:Int)+1)) w7:=by
    refine ⟨cur2++putR ps,k+1,y,by omega,by simp,rfl,by omega,HRIS.out,by rw [HC2.out];exact HCL.out,by rw [HC2.out];exact HCAT.out,own_more HQ.out.symm hown7,HB6.out.trans hb7⟩
   have HF:=Lib.hid hfin
   clear hfin hown7 hg7 hb7 hpb6 hpb7
   go_wp2
   go_roundw
   case rel=>exact HF.out
   case measure=>simp [intOf];omega
  ·rw [List.drop_eq_nil_of_le (by omega)] at hcat
   simp only [bytesP,List.append_nil] at hcat
   subst hcat
   go_wp2
   go_ret
   exact ⟨_,rfl,hown,hbw⟩
end Go.Proofs.YtmoomnpbiifedaaGreat
namespace Go.Proofs.YtmoomnpbiifedaaGreat
open Go Go.RowKit
set_option linter.unusedVariables false
theorem cells4 {w:World} {b:Nat} {x y z u:Value} {t:TypeId} (h:w.heap[b]?=some (.cells #[x,y,z,u] t (0,0))):w.cell? ⟨b,0,none⟩=some x∧w.cell? ⟨b,1,none⟩=some y∧w.cell? ⟨b,2,none⟩=some z∧w.cell? ⟨b,3,none⟩=some u:=by
 simp [World.cell?,h]
end Go.Proofs.YtmoomnpbiifedaaGreat
namespace Go.Proofs.YtmoomnpbiifedaaGreat
open Go Go.RowKit
set_option linter.unusedVariables false
def PFew (x:PartsP):Prop:=x.ids.length≤9223372036854775807∧x.seqs.length≤9223372036854775807∧x.keys.length≤9223372036854775807∧x.lists.length≤9223372036854775807∧∀ l∈x.lists,l.length≤9223372036854775807∧∀ p∈l,p.2.length≤9223372036854775807
structure PAt (w:World) (B:Nat) (A1 A2 A3 A4:Option Addr) (x:PartsP):Prop where
 ids:Row w B A1 (ints x.ids)
 seqs:Row w B A2 (ints x.seqs)
 keys:Row w B A3 (strs x.keys)
 lists:LPosts w B A4 x.lists
theorem PAt.later {w w':World} {A1 A2 A3 A4:Option Addr} {x:PartsP} (h:PAt w w.heap.size A1 A2 A3 A4 x) (hb:Below w.heap.size w w'):PAt w' w'.heap.size A1 A2 A3 A4 x:=
 ⟨Row.later h.ids hb,Row.later h.seqs hb,Row.later h.keys hb,h.lists.later hb⟩
def PBox2 (w:World) (V U:Array Value) (wr:World):Prop:=Below w.heap.size w wr∧w.heap.size+1+1≤wr.heap.size∧wr.heap[w.heap.size]?=some (.cells V 26 (0,0))∧wr.heap[w.heap.size+1]?=some (.cells U 26 (0,0))
theorem PBox2.below {w wr w':World} {V U:Array Value} (h:PBox2 w V U wr) (hb:Below wr.heap.size wr w'):PBox2 w V U w':=by
 obtain ⟨h0,h1,h2,h3⟩:=h
 exact ⟨h0.trans (hb.mono (by omega)),by have :=hb.size;omega,(hb.block _ (by omega)).trans h2,(hb.block _ (by omega)).trans h3⟩
theorem pBox2_start (w:World) (V U:Array Value):PBox2 w V U ((w.alloc (.cells V 26)).alloc (.cells U 26)):=by
 refine ⟨((Below.refl _ w).alloc (Nat.le_refl _) _).alloc (by simp) _,by simp,?_,?_⟩
 ·rw [Below.heap_alloc _ _ _ (by simp)]
  exact heap_alloc_new w _
 ·simpa using heap_alloc_new (w.alloc (.cells V 26)) (.cells U 26)
def PSameRel (w:World) (V U:Array Value) (ls ms:List (List Pn)) (r i:Value) (wr:World):Prop:=
 r= .bool false∧∃ k:Nat,k≤ls.length∧i= .int .i64 (k:Int)∧PBox2 w V U wr∧∀ j (hj:j<ls.length) (hj':j<ms.length),j<k→ls[j]=ms[j]
theorem parts_ext {x y:PartsP} (h1:x.ids=y.ids) (h2:x.seqs=y.seqs) (h3:x.keys=y.keys) (h4:x.lists=y.lists):x=y:=by
 cases x
 cases y
 simp only at h1 h2 h3 h4
 subst h1 h2 h3 h4
 rfl
set_option maxHeartbeats 4000000 in
set_option maxRecDepth 100000 in
theorem ref10_Same (A1 A2 A3 A4 B1 B2 B3 B4:Option Addr) (n1 c1 n2 c2 n3 c3 n4 c4 m1 d1 m2 d2 m3 d3 m4 d4:Nat) (x y:PartsP) (w:World)
    (hx1:x.ids.length=n1) (hx2:x.seqs.length=n2) (hx3:x.keys.length=n3) (hx4:x.lists.length=n4) (hy1:y.ids.length=m1) (hy2:y.seqs.length=m2) (hy3:y.keys.length=m3) (hy4:y.lists.length=m4)
    (hx:PAt w w.heap.size A1 A2 A3 A4 x) (hy:PAt w w.heap.size B1 B2 B3 B4 y) (fx:PFew x) (fy:PFew y):
    Calls Tryz.prog 19 #[.agg #[.slice A1 n1 c1,.slice A2 n2 c2,.slice A3 n3 c3,.slice A4 n4 c4],.agg #[.slice B1 m1 d1,.slice B2 m2 d2,.slice B3 m3 d3,.slice B4 m4 d4]] w fun e w'=>e= .returned (.bool (decide (x=y)))∧Below w.heap.size w w':=by
  obtain ⟨V,hV⟩:∃ V:Array Value,V=#[.slice A1 n1 c1,.slice A2 n2 c2,.slice A3 n3 c3,.slice A4 n4 c4]:=⟨_,rfl⟩
  obtain ⟨U,hU⟩:∃ U:Array Value,U=#[.slice B1 m1 d1,.slice B2 m2 d2,.slice B3 m3 d3,.slice B4 m4 d4]:=⟨_,rfl⟩
  obtain ⟨z,hz⟩:∃ z,z=decide (x=y):=⟨_,rfl⟩
  obtain ⟨z1,hz1⟩:∃ z,z=decide (x.ids=y.ids):=⟨_,rfl⟩
  obtain ⟨z2,hz2⟩:∃ z,z=decide (x.seqs=y.seqs):=⟨_,rfl⟩
  obtain ⟨z3,hz3⟩:∃ z,z=decide (x.keys=y.keys):=⟨_,rfl⟩
  have S1:Hid (∀ w1,Below w.heap.size w w1→Calls Tryz.prog 59 #[.slice A1 n1 c1,.slice B1 m1 d1] w1 fun e w'=>e= .returned (.bool z1)∧Below w1.heap.size w1 w'):=Lib.hid fun w1 h=>by
    rw [hz1]
    exact ref01_Same_any A1 B1 n1 m1 c1 d1 x.ids y.ids w1 hx1 hy1 (hx.later h).ids (hy.later h).ids (hx1▸fx.1) (hy1▸fy.1)
  have S2:Hid (∀ w1,Below w.heap.size w w1→Calls Tryz.prog 59 #[.slice A2 n2 c2,.slice B2 m2 d2] w1 fun e w'=>e= .returned (.bool z2)∧Below w1.heap.size w1 w'):=Lib.hid fun w1 h=>by
    rw [hz2]
    exact ref01_Same_any A2 B2 n2 m2 c2 d2 x.seqs y.seqs w1 hx2 hy2 (hx.later h).seqs (hy.later h).seqs (hx2▸fx.2.1) (hy2▸fy.2.1)
  have S3:Hid (∀ w1,Below w.heap.size w w1→Calls Tryz.prog 32 #[.slice A3 n3 c3,.slice B3 m3 d3] w1 fun e w'=>e= .returned (.bool z3)∧Below w1.heap.size w1 w'):=Lib.hid fun w1 h=>by
    rw [hz3]
    exact ref02_Same_all A3 B3 n3 m3 c3 d3 x.keys y.keys w1 hx3 hy3 (hx.later h).keys (hy.later h).keys (hx3▸fx.2.2.1) (hy3▸fy.2.2.1)
  have HX4:=Lib.hid hx.lists
  have HY4:=Lib.hid hy.lists
  have H4:=Lib.hid hx4
  have G4:=Lib.hid hy4
  have HFX:=Lib.hid fx.2.2.2.2
  have HFY:=Lib.hid fy.2.2.2.2
  have hn4:n4≤9223372036854775807:=hx4▸fx.2.2.2.1
  have hm4:m4≤9223372036854775807:=hy4▸fy.2.2.2.1
  have HV:=Lib.hid hV
  have HU:=Lib.hid hU
  have HZ:=Lib.hid hz
  have N1:Hid (z1=false→z=false):=Lib.hid fun h=>by rw [hz];exact decide_eq_false fun e=>of_decide_eq_false (hz1.symm.trans h) (by rw [e])
  have N2:Hid (z2=false→z=false):=Lib.hid fun h=>by rw [hz];exact decide_eq_false fun e=>of_decide_eq_false (hz2.symm.trans h) (by rw [e])
  have N3:Hid (z3=false→z=false):=Lib.hid fun h=>by rw [hz];exact decide_eq_false fun e=>of_decide_eq_false (hz3.symm.trans h) (by rw [e])
  have N4:Hid (n4≠m4→z=false):=Lib.hid fun h=>by rw [hz];exact decide_eq_false fun e=>h (by rw [← hx4,← hy4,e])
  have T4:Hid (z1=true→z2=true→z3=true→x.lists=y.lists→z=true):=Lib.hid fun h1 h2 h3 h4=>by
    rw [hz]
    exact decide_eq_true (parts_ext (of_decide_eq_true (hz1.symm.trans h1)) (of_decide_eq_true (hz2.symm.trans h2)) (of_decide_eq_true (hz3.symm.trans h3)) h4)
  rw [← hz]
  clear hV hU hz hz1 hz2 hz3 hx hy fx fy hx1 hx2 hx3 hx4 hy1 hy2 hy3 hy4
  obtain ⟨w1,hw1⟩:∃ w1,w1=(w.alloc (.cells #[.slice A1 n1 c1,.slice A2 n2 c2,.slice A3 n3 c3,.slice A4 n4 c4] 26)).alloc (.cells #[.slice B1 m1 d1,.slice B2 m2 d2,.slice B3 m3 d3,.slice B4 m4 d4] 26):=⟨_,rfl⟩
  have hb1:PBox2 w V U w1:=by rw [hw1,HV.out,HU.out];exact pBox2_start w _ _
  have HW1:=Lib.hid hw1
  have HB1:=Lib.hid hb1
  clear hw1 hb1
  have QS:Hid (∀ wr,PBox2 w V U wr→(wr.cell? ⟨w.heap.size,0,none⟩=some (.slice A1 n1 c1)∧wr.cell? ⟨w.heap.size,1,none⟩=some (.slice A2 n2 c2)∧wr.cell? ⟨w.heap.size,2,none⟩=some (.slice A3 n3 c3)∧wr.cell? ⟨w.heap.size,3,none⟩=some (.slice A4 n4 c4))∧
      wr.cell? ⟨w.heap.size+1,0,none⟩=some (.slice B1 m1 d1)∧wr.cell? ⟨w.heap.size+1,1,none⟩=some (.slice B2 m2 d2)∧wr.cell? ⟨w.heap.size+1,2,none⟩=some (.slice B3 m3 d3)∧wr.cell? ⟨w.heap.size+1,3,none⟩=some (.slice B4 m4 d4)):=Lib.hid fun wr h=>by
    obtain ⟨_,_,h2,h3⟩:=h
    rw [HV.out] at h2
    rw [HU.out] at h3
    exact ⟨cells4 h2,cells4 h3⟩
  go_enter Tryz.func19,Tryz.ntmps19
  go_wp2_with (go_at_call 59;rw [show (w.alloc _).alloc _=w1 from HW1.out.symm];refine (S1.out _ HB1.out.1).mono ?_)
  rintro e w2 ⟨rfl,hb2⟩
  have HB2:Hid (PBox2 w V U w2):=Lib.hid (HB1.out.below hb2)
  clear hb2 S1
  obtain ⟨⟨q0,q1,q2,q3⟩,r0,r1,r2,r3⟩:=QS.out _ HB2.out
  go_wp2_with (go_at_call 59;refine (S2.out _ HB2.out.1).mono ?_)
  rintro e w3 ⟨rfl,hb3⟩
  have HB3:Hid (PBox2 w V U w3):=Lib.hid (HB2.out.below hb3)
  clear hb3 S2 q0 q1 q2 q3 r0 r1 r2 r3
  obtain ⟨⟨q0,q1,q2,q3⟩,r0,r1,r2,r3⟩:=QS.out _ HB3.out
  go_wp2_with (go_at_call 32;refine (S3.out _ HB3.out.1).mono ?_)
  rintro e w4 ⟨rfl,hb4⟩
  have HB4:Hid (PBox2 w V U w4):=Lib.hid (HB3.out.below hb4)
  clear hb4 S3 q0 q1 q2 q3 r0 r1 r2 r3
  obtain ⟨⟨q0,q1,q2,q3⟩,r0,r1,r2,r3⟩:=QS.out _ HB4.out
  rcases hz1:z1 with _|_
  · have hzf:=N1.out hz1
    subst hz1 hzf
    go_wp2
    go_ret
    exact ⟨rfl,HB4.out.1⟩
  rcases hz2:z2 with _|_
  · have hzf:=N2.out hz2
    subst hz1 hz2 hzf
    go_wp2
    go_ret
    exact ⟨rfl,HB4.out.1⟩
  rcases hz3:z3 with _|_
  · have hzf:=N3.out hz3
    subst hz1 hz2 hz3 hzf
    go_wp2
    go_ret
    exact ⟨rfl,HB4.out.1⟩
  subst hz1 hz2 hz3
  by_cases hnm:m4=n4
  · subst hnm
    go_wp2
    clear q0 q1 q2 q3 r0 r1 r2 r3
    go_loopw [4,8,9] (fun r i s wr=>PSameRel w V U x.lists y.lists r i wr) (fun _ i _ _=>m4-(intOf i).toNat)
    case atStart=>exact ⟨rfl,0,Nat.zero_le _,rfl,HB4.out,fun j _ _ hj=>by omega⟩
    case round=>
      obtain ⟨rfl,k,hk,rfl,hbox,hall⟩:=hrel
      obtain ⟨⟨q0,q1,q2,q3⟩,r0,r1,r2,r3⟩:=QS.out _ hbox
      have hsz:=hbox.2.1
      have HALL:=Lib.hid hall
      clear hall q0 q1 q2 r0 r1 r2
      by_cases hkm:k<m4
      · have hlt:k<x.lists.length:=by rw [H4.out];exact hkm
        have hlt2:k<y.lists.length:=by rw [G4.out];exact hkm
        obtain ⟨b1,o1,A',c',e1,hb1,hc1,hl1,hp1⟩:=(HX4.out.below hbox.1).at_ hlt
        obtain ⟨b2,o2,B',d',e2,hb2,hc2,hl2,hp2⟩:=(HY4.out.below hbox.1).at_ hlt2
        subst e1 e2
        have hi0:(0:Int)≤k:=by omega
        have hi1:(k:Int)<m4:=by omega
        obtain ⟨N,hN⟩:∃ N,N=x.lists[k].length:=⟨_,rfl⟩
        obtain ⟨M,hM⟩:∃ M,M=y.lists[k].length:=⟨_,rfl⟩
        rw [← hN] at hc1
        rw [← hM] at hc2
        obtain ⟨zk,hzk⟩:∃ z,z=decide (x.lists[k]=y.lists[k]):=⟨_,rfl⟩
        have f1:=HFX.out _ (List.getElem_mem hlt)
        have f2:=HFY.out _ (List.getElem_mem hlt2)
        have SM:Hid (∀ w1,Below wr.heap.size wr w1→Calls Tryz.prog 38 #[.slice A' N c',.slice B' M d'] w1 fun e w'=>e= .returned (.bool zk)∧Below w1.heap.size w1 w'):=Lib.hid fun w1 h1=>by
          rw [hzk]
          exact ref05_Same_any A' B' N M c' d' _ _ w1 hN.symm hM.symm (Posts.later (hp1.more (by omega)) h1) (Posts.later (hp2.more (by omega)) h1) (hN▸f1.1) (hM▸f2.1) f1.2 f2.2
        have HZK:=Lib.hid hzk
        have HBOX:=Lib.hid hbox
        clear hN hM hzk f1 f2 hp1 hp2 hl1 hl2 hbox
        go_wp2
        go_region_held3 (fun w'=>w'.cell? ⟨w.heap.size,3,none⟩=some (.slice (some ⟨b1,o1,none⟩) m4 c4)∧w'.cell? ⟨w.heap.size+1,3,none⟩=some (.slice (some ⟨b2,o2,none⟩) m4 d4)∧w'.cell? ⟨b1,o1+k,none⟩=some (.slice A' N c')∧w'.cell? ⟨b2,o2+k,none⟩=some (.slice B' M d'))
          (first|exact ⟨q3,r3,hc1,hc2⟩|exact ⟨q5,r5,hc5,hc6⟩)
          (first
            | (go_at_call 38; refine (SM.out _ (Below.refl _ _).drew).mono ?_; rintro e w5 ⟨rfl, hb5⟩
               have hb6:Below wr.heap.size wr w5:=(Below.refl wr.heap.size wr).drew.trans hb5
               have q5:=(hb6.cell (p:=⟨w.heap.size,3,none⟩) (by show w.heap.size<_;omega)).trans q3
               have r5:=(hb6.cell (p:=⟨w.heap.size+1,3,none⟩) (by show w.heap.size+1<_;omega)).trans r3
               have hc5:=(hb6.cell (p:=⟨b1,o1+k,none⟩) (by show b1<_;omega)).trans hc1
               have hc6:=(hb6.cell (p:=⟨b2,o2+k,none⟩) (by show b2<_;omega)).trans hc2
               have HB6:=Lib.hid hb6
               clear hb5 hb6))
        have HBX:=Lib.hid (HBOX.out.below (HB6.out.trans ⟨rfl,rfl,rfl,Nat.le_refl _,fun _ _=>rfl⟩))
        clear hc1 hc2 q3 r3
        rcases hzkc:zk with _|_
        · have hzf:z=false:=by
            rw [HZ.out]
            exact decide_eq_false fun e=>of_decide_eq_false (HZK.out.symm.trans hzkc) (by subst e;rfl)
          subst hzkc hzf
          go_wp2
          go_ret
          exact ⟨rfl,HBX.out.1⟩
        · have HN:Hid (∀ j (hj:j<x.lists.length) (hj':j<y.lists.length),j<k+1→x.lists[j]=y.lists[j]):=Lib.hid fun j hj hj' hjk=>by
            by_cases e:j=k
            · subst e
              exact of_decide_eq_true (HZK.out.symm.trans hzkc)
            · exact HALL.out j hj hj' (by omega)
          subst hzkc
          go_wp2
          go_roundw
          case rel=>exact ⟨rfl,k+1,by omega,by go_num,HBX.out,HN.out⟩
          case measure=>simp [intOf];omega
      · have hzt:z=true:=T4.out (by trivial) (by trivial) (by trivial) (List.ext_getElem (H4.out.trans G4.out.symm) fun j h1 h2=>HALL.out j h1 h2 (by have :=H4.out;omega))
        subst hzt
        have HBOX:=Lib.hid hbox
        clear hbox
        go_wp2
        go_ret
        exact ⟨rfl,HBOX.out.1⟩
  · have hzf:z=false:=N4.out fun e=>hnm e.symm
    subst hzf
    have hne:((n4:Int) != (m4:Int))=true:=by simp;omega
    clear hnm
    go_wp2
    go_ret
    exact ⟨rfl,HB4.out.1⟩
end Go.Proofs.YtmoomnpbiifedaaGreat
