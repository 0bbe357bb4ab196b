import Derived.Test.YtldcadpemnpbmaaGreatDoorMLZz
import Derived.Below
import Derived.Test.YtldcadpemnpbmaaGreatDoorMLQ05
import Derived.Test.YtldcadpemnpbmaaGreatDoorMLQ03
import Derived.Test.YtldcadpemnpbmaaGreatDoorMLQ01
import Derived.Test.YtldcadpemnpbmaaGreatDoorProg
import Derived.ArgAppend
import Derived.Lib.Hide
import Derived.Laws.BytesArg
import Derived.Test.YtldcadpemnpbmaaGreatDoorMLQ02
import Derived.Test.YtldcadpemnpbmaaGreatDoorMLQ04
set_option linter.unusedVariables false
namespace Go.Proofs.YtldcadpemnpbmaaGreatDoor
def putB (n:Nat):List UInt8:=if n<128 then [UInt8.ofNat n] else UInt8.ofNat (128+n%128)::putB (n/128)
termination_by n
decreasing_by omega
theorem putB_small {n:Nat} (h:n<128):putB n=[UInt8.ofNat n]:=by rw [putB,if_pos h]
theorem putB_big {n:Nat} (h:128≤n):putB n=UInt8.ofNat (128+n%128)::putB (n/128):=by rw [putB,if_neg (by omega)]
theorem byte_nat {n:Nat} (h:n<256):(UInt8.ofNat n).toNat=n:=by simp;omega
theorem putB_pos (n:Nat):0<(putB n).length:=by
 by_cases h:n<128
 ·rw [putB_small h];simp
 ·rw [putB_big (by omega)];simp
theorem putB_le {k:Nat}:∀ {n:Nat},n<128^(k+1)→(putB n).length≤k+1:=by
 induction k with
 |zero=>intro n h;rw [putB_small (by simpa using h)];simp
 |succ k ih=>
  intro n h
  by_cases h1:n<128
  ·rw [putB_small h1];simp
  ·rw [putB_big (by omega),List.length_cons]
   have :=ih (n:=n/128) (by rw [Nat.pow_succ] at h;exact Nat.div_lt_of_lt_mul (by rw [Nat.mul_comm];exact h))
   omega
theorem putB_nine {n:Nat} (h:n<9223372036854775808):(putB n).length≤9:=putB_le (k:=8) (by simpa using h)
theorem putB_mono:∀ {n m:Nat},n≤m→(putB n).length≤(putB m).length:=by
 intro n
 induction n using Nat.strongRecOn with
 |_ n ih=>
  intro m h
  by_cases h1:n<128
  ·rw [putB_small h1]
   exact putB_pos m
  ·rw [putB_big (by omega),putB_big (n:=m) (by omega),List.length_cons,List.length_cons]
   exact Nat.succ_le_succ (ih (n/128) (by omega) (Nat.div_le_div_right h))
def valB:List UInt8→Nat
 |[]=>0
 |c::r=>c.toNat%128+128*valB r
theorem valB_lt:∀ l:List UInt8,valB l<128^l.length
 |[]=>by simp [valB]
 |c::r=>by
  have :=valB_lt r
  rw [valB,List.length_cons,Nat.pow_succ]
  omega
theorem valB_snoc:∀ (l:List UInt8) (c:UInt8),valB (l++[c])=valB l+c.toNat%128*128^l.length
 |[],c=>by simp [valB]
 |d::r,c=>by
  rw [List.cons_append,valB,valB,valB_snoc r c,List.length_cons,Nat.pow_succ,Nat.mul_add]
  have :128*(c.toNat%128*128^r.length)=c.toNat%128*(128^r.length*128):=by
   rw [Nat.mul_comm 128,Nat.mul_assoc]
  omega
theorem valB_take {l:List UInt8} {i:Nat} (h:i<l.length):valB (l.take (i+1))=valB (l.take i)+(l.getD i 0).toNat%128*128^i:=by
 rw [List.take_succ_eq_append_getElem h,valB_snoc,List.length_take,Nat.min_eq_left (by omega),List.getD_eq_getElem?_getD,List.getElem?_eq_getElem h]
 rfl
theorem valB_take_lt (l:List UInt8) (i:Nat):valB (l.take i)<128^i:=by
 have h:=valB_lt (l.take i)
 have h2:(l.take i).length≤i:=List.length_take_le i l
 exact Nat.lt_of_lt_of_le h (Nat.pow_le_pow_right (by omega) h2)
def scan:Nat→List UInt8→Option Nat
 |0,_=>none
 |_+1,[]=>none
 |f+1,c::r=>if c.toNat<128 then some 0 else (scan f r).map (· +1)
def getF (l:List UInt8):Nat × Nat:=
 match scan 9 l with
 |none=>(0,0)
 |some k=>if k≠0∧(l.getD k 0).toNat=0 then (0,0) else (valB (l.take (k+1)),k+1)
theorem scan_none:∀ {f:Nat} {l:List UInt8},(∀ j,j<f→j<l.length→128≤(l.getD j 0).toNat)→scan f l=none
 |0,_,_=>rfl
 |f+1,[],_=>rfl
 |f+1,c::r,h=>by
  have h0:128≤c.toNat:=h 0 (by omega) (by simp)
  have ih:=scan_none (f:=f) (l:=r) fun j hj hr=>h (j+1) (by omega) (by simp;omega)
  simp only [scan,ih]
  rw [if_neg (by omega)]
  rfl
theorem scan_some:∀ {f:Nat} {l:List UInt8} {i:Nat},i<f→i<l.length→(∀ j,j<i→128≤(l.getD j 0).toNat)→(l.getD i 0).toNat<128→scan f l=some i
 |0,_,_,h,_,_,_=>by omega
 |f+1,[],_,_,h,_,_=>by simp at h
 |f+1,c::r,0,_,_,_,h=>by
  have h0:c.toNat<128:=h
  simp [scan,h0]
 |f+1,c::r,i+1,hf,hl,hb,h=>by
  have h0:128≤c.toNat:=hb 0 (by omega)
  have ih:=scan_some (f:=f) (l:=r) (i:=i) (by omega) (by simpa using hl) (fun j hj=>hb (j+1) (by omega)) h
  simp only [scan,ih]
  rw [if_neg (by omega)]
  rfl
def High (l:List UInt8) (i:Nat):Prop:=∀ j,j<i→128≤(l.getD j 0).toNat
theorem High.zero (l:List UInt8):High l 0:=fun j h=>by omega
theorem High.succ {l:List UInt8} {i:Nat} (h:High l i) (hc:128≤(l.getD i 0).toNat):High l (i+1):=fun j hj=>by
 by_cases e:j=i
 ·rw [e];exact hc
 ·exact h j (by omega)
theorem getF_none {l:List UInt8} {i:Nat} (h:High l i) (hi:9≤i∨l.length≤i):getF l=(0,0):=by
 unfold getF
 rw [scan_none fun j h1 h2=>h j (by omega)]
theorem getF_zero {l:List UInt8} {i:Nat} (h:High l i) (hi:i<9) (hl:i<l.length) (h0:0<i) (hc:(l.getD i 0).toNat=0):getF l=(0,0):=by
 unfold getF
 rw [scan_some hi hl h (by omega)]
 simp only
 rw [if_pos ⟨by omega,hc⟩]
theorem getF_some {l:List UInt8} {i:Nat} (h:High l i) (hi:i<9) (hl:i<l.length) (hc:(l.getD i 0).toNat<128) (h0:i=0∨(l.getD i 0).toNat≠0):getF l=(valB (l.take (i+1)),i+1):=by
 unfold getF
 rw [scan_some hi hl h hc]
 simp only
 rw [if_neg (by omega)]
theorem getF_cases (l:List UInt8):getF l=(0,0)∨∃ i,i<9∧i<l.length∧getF l=(valB (l.take (i+1)),i+1):=by
 unfold getF
 have key:∀ (f:Nat) (l:List UInt8) (k:Nat),scan f l=some k→k<f∧k<l.length:=by
  intro f
  induction f with
  |zero=>intro l k h;cases h
  |succ f ih=>
   intro l k h
   cases l with
   |nil=>cases h
   |cons c r=>
    rw [scan] at h
    split at h
    ·simp at h;subst h;simp
    ·rw [Option.map_eq_some_iff] at h
     obtain ⟨j,hj,rfl⟩:=h
     have :=ih r j hj
     simp;omega
 rcases hs:scan 9 l with _|k
 ·exact .inl rfl
 ·have :=key 9 l k hs
  simp only
  split
  ·exact .inl rfl
  ·exact .inr ⟨k,this.1,this.2,rfl⟩
theorem getF_bd (l:List UInt8):(getF l).1<9223372036854775808∧(getF l).2≤l.length∧(getF l).2≤9:=by
 rcases getF_cases l with h|⟨i,h1,h2,h⟩
 ·rw [h];simp
 ·rw [h]
  have :=valB_take_lt l (i+1)
  have h3:(128:Nat)^(i+1)≤128^9:=Nat.pow_le_pow_right (by omega) (by omega)
  have h4:(128:Nat)^9=9223372036854775808:=by decide
  refine ⟨?_,?_,?_⟩<;>simp only<;>omega
theorem pow_bd {i:Nat} (h:i<9):(128:Nat)^i≤72057594037927936:=by
 have h3:(128:Nat)^i≤128^8:=Nat.pow_le_pow_right (by omega) (by omega)
 have h4:(128:Nat)^8=72057594037927936:=by decide
 omega
theorem putB_high:∀ (n:Nat) (j:Nat),j+1<(putB n).length→128≤((putB n).getD j 0).toNat:=by
 intro n
 induction n using Nat.strongRecOn with
 |_ n ih=>
  intro j hj
  by_cases h1:n<128
  ·rw [putB_small h1] at hj;simp at hj
  ·rw [putB_big (by omega)] at hj ⊢
   cases j with
   |zero=>rw [List.getD_cons_zero,byte_nat (by omega)];omega
   |succ j=>simpa using ih (n/128) (by omega) j (by simpa using hj)
theorem putB_last:∀ (n:Nat),((putB n).getD ((putB n).length-1) 0).toNat<128∧(0<n→((putB n).getD ((putB n).length-1) 0).toNat≠0):=by
 intro n
 induction n using Nat.strongRecOn with
 |_ n ih=>
  by_cases h1:n<128
  ·rw [putB_small h1]
   have :=byte_nat (n:=n) (by omega)
   simp only [List.length_singleton,List.getD_cons_zero,Nat.sub_self]
   omega
  ·rw [putB_big (by omega)]
   have hp:=putB_pos (n/128)
   have :=ih (n/128) (by omega)
   rw [List.length_cons,show (putB (n/128)).length+1-1=((putB (n/128)).length-1)+1 by omega,List.getD_cons_succ]
   exact ⟨this.1,fun _=>this.2 (by omega)⟩
theorem putB_long {n:Nat} (h:1<(putB n).length):0<n:=by
 rcases Nat.eq_zero_or_pos n with h0|h0
 ·subst h0
  rw [putB_small (by omega)] at h
  simp at h
 ·exact h0
theorem valB_putB:∀ n:Nat,valB (putB n)=n:=by
 intro n
 induction n using Nat.strongRecOn with
 |_ n ih=>
  by_cases h1:n<128
  ·rw [putB_small h1,valB,valB,byte_nat (by omega)];omega
  ·rw [putB_big (by omega),valB,ih (n/128) (by omega),byte_nat (by omega)];omega
theorem getD_app {a b:List UInt8} {j:Nat} (h:j<a.length):(a++b).getD j 0=a.getD j 0:=by
 rw [List.getD_eq_getElem?_getD,List.getD_eq_getElem?_getD,List.getElem?_append_left h]
theorem getF_putB {n:Nat} (h:n<9223372036854775808) (r:List UInt8):getF (putB n++r)=(n,(putB n).length):=by
 have hp:=putB_pos n
 have h9:=putB_nine h
 have hl:=putB_last n
 rw [getF_some (i:=(putB n).length-1) ?_ (by omega) (by simp;omega) ?_ ?_,show (putB n).length-1+1=(putB n).length by omega,List.take_left,valB_putB]
 ·intro j hj
  rw [getD_app (by omega)]
  exact putB_high n j (by omega)
 ·rw [getD_app (by omega)]
  exact hl.1
 ·by_cases h1:(putB n).length=1
  ·exact .inl (by omega)
  ·refine .inr ?_
   rw [getD_app (by omega)]
   exact hl.2 (putB_long (by omega))
theorem putB_valB:∀ {k:Nat} {l:List UInt8},l.length=k+1→High l k→(l.getD k 0).toNat<128→(k=0∨(l.getD k 0).toNat≠0)→putB (valB l)=l∧((l.getD k 0).toNat≠0→0<valB l)
 |0,[c],_,_,h,_=>by
  have hc:c.toNat<128:=by simpa using h
  have hv:valB [c]=c.toNat:=by simp only [valB];omega
  refine ⟨?_,fun h0=> ?_⟩
  ·rw [hv,putB_small hc]
   congr 1
   exact UInt8.toNat_inj.1 (by rw [byte_nat (by omega)])
  ·rw [hv]
   have :c.toNat≠0:=by simpa using h0
   omega
 |k+1,c::r,hl,hh,h,h0=>by
  have hc0:128≤c.toNat:=hh 0 (by omega)
  have hc1:=c.toNat_lt
  have h0':(r.getD k 0).toNat≠0:=by
   rcases h0 with h0|h0
   ·omega
   ·simpa using h0
  have ih:=putB_valB (k:=k) (l:=r) (by simpa using hl) (fun j hj=>by simpa using hh (j+1) (by omega)) (by simpa using h) (.inr h0')
  have hv:valB (c::r)=c.toNat-128+128*valB r:=by simp only [valB];omega
  have hpos:=ih.2 h0'
  refine ⟨?_,fun _=>by rw [hv];omega⟩
  rw [hv,putB_big (by omega),show (c.toNat-128+128*valB r)/128=valB r by omega,ih.1]
  congr 1
  exact UInt8.toNat_inj.1 (by rw [byte_nat (by omega)];omega)
def getZ (l:List UInt8) (a:Int):Int × Int × Int:=
 if a<0∨(l.length:Int)<a then (0,0,1)
 else if (getF (l.drop a.toNat)).2=0 then (0,0,2) else (((getF (l.drop a.toNat)).1:Int),a+((getF (l.drop a.toNat)).2:Int),0)
theorem getZ_out {l:List UInt8} {a:Int} (h:a<0∨(l.length:Int)<a):getZ l a=(0,0,1):=by unfold getZ;rw [if_pos h]
theorem getZ_form {l:List UInt8} {a:Nat} (h:a≤l.length) (h2:(getF (l.drop a)).2=0):getZ l (a:Int)=(0,0,2):=by
 unfold getZ
 rw [if_neg (by omega),Int.toNat_natCast,if_pos h2]
theorem getZ_ok {l:List UInt8} {a n k:Nat} (h:a≤l.length) (h2:getF (l.drop a)=(n,k+1)):getZ l (a:Int)=((n:Int),(a:Int)+((k+1:Nat):Int),0):=by
 unfold getZ
 rw [if_neg (by omega),Int.toNat_natCast,h2]
 simp
theorem getZ_put {n:Nat} (h:n<9223372036854775808) (b r:List UInt8):getZ (b++(putB n++r)) (b.length:Int)=((n:Int),((b.length+(putB n).length:Nat):Int),0):=by
 have hp:=putB_pos n
 obtain ⟨k,hk⟩:∃ k,(putB n).length=k+1:=⟨(putB n).length-1,by omega⟩
 rw [getZ_ok (n:=n) (k:=k) (by simp) (by rw [List.drop_left,getF_putB h,hk]),hk]
 simp
def risesZ:Int→List Int→Bool
 |_,[]=>true
 |last,n::r=>decide (last<n)&&risesZ n r
def dB:Int→List Int→List UInt8
 |_,[]=>[]
 |last,n::r=>putB (n-(last+1)).toNat++dB n r
def putR (l:List Int):List UInt8:=putB l.length++dB (-1) l
theorem dB_length:∀ (l:List Int) (last:Int), -1≤last→risesZ last l=true→(∀ x∈l,x≤9223372036854775807)→(dB last l).length≤9*l.length
 |[],_,_,_,_=>by simp [dB]
 |n::r,last,h,hr,hb=>by
  rw [risesZ,Bool.and_eq_true,decide_eq_true_iff] at hr
  have hn:=hb n (by simp)
  rw [dB,List.length_append,List.length_cons]
  have h1:=putB_nine (n:=(n-(last+1)).toNat) (by omega)
  have h2:=dB_length r n (by omega) hr.2 fun x hx=>hb x (by simp [hx])
  omega
def takeR (l:List UInt8):Nat→Int→Nat→List Int→Option (List Int × Nat)
 |0,_,a,acc=>some (acc,a)
 |m+1,last,a,acc=>
  if (getF (l.drop a)).2=0∨4611686018427387904-(last+1)<((getF (l.drop a)).1:Int) then none
  else takeR l m (last+(((getF (l.drop a)).1:Int)+1)) (a+(getF (l.drop a)).2) (acc++[last+(((getF (l.drop a)).1:Int)+1)])
def risZ (l:List UInt8) (a:Int):List Int × Int × Int:=
 if (getZ l a).2.2=0 then
  match takeR l (getZ l a).1.toNat (-1) (getZ l a).2.1.toNat [] with
  |none=>([],0,2)
  |some (xs,b)=>(xs,(b:Int),0)
 else ([],0,(getZ l a).2.2)
theorem takeR_dB:∀ (g:List Int) (last:Int) (pre post:List UInt8) (acc:List Int), -1≤last→risesZ last g=true→(∀ x∈g,x≤4611686018427387904)→
  takeR (pre++(dB last g++post)) g.length last pre.length acc=some (acc++g,pre.length+(dB last g).length)
 |[],last,pre,post,acc,_,_,_=>by simp [takeR,dB]
 |n::r,last,pre,post,acc,h,hr,hb=>by
  rw [risesZ,Bool.and_eq_true,decide_eq_true_iff] at hr
  have hn:=hb n (by simp)
  have e:pre++(dB last (n::r)++post)=pre++(putB (n-(last+1)).toNat++(dB n r++post)):=by rw [dB,List.append_assoc]
  have hg:getF ((pre++(dB last (n::r)++post)).drop pre.length)=((n-(last+1)).toNat,(putB (n-(last+1)).toNat).length):=by
   rw [e,List.drop_left,getF_putB (by omega)]
  have hp:=putB_pos (n-(last+1)).toNat
  rw [List.length_cons,takeR,hg]
  simp only
  rw [if_neg (by omega),show last+(((n-(last+1)).toNat:Int)+1)=n by omega,e]
  have e2:pre++(putB (n-(last+1)).toNat++(dB n r++post))=(pre++putB (n-(last+1)).toNat)++(dB n r++post):=by rw [List.append_assoc]
  have ih:=takeR_dB r n (pre++putB (n-(last+1)).toNat) post (acc++[n]) (by omega) hr.2 (fun x hx=>hb x (by simp [hx]))
  rw [e2,← List.length_append,ih,dB]
  simp [Nat.add_assoc]
theorem risZ_put {g:List Int} (hr:risesZ (-1) g=true) (hb:∀ x∈g,x≤4611686018427387904) (hl:g.length<9223372036854775808) (b r:List UInt8):
  risZ (b++(putR g++r)) (b.length:Int)=(g,((b.length+(putR g).length:Nat):Int),0):=by
 have hz:=getZ_put hl b (dB (-1) g++r)
 have e:b++(putR g++r)=b++(putB g.length++(dB (-1) g++r)):=by rw [putR,List.append_assoc]
 have e2:b++(putB g.length++(dB (-1) g++r))=(b++putB g.length)++(dB (-1) g++r):=by rw [List.append_assoc]
 have ht:=takeR_dB g (-1) (b++putB g.length) r [] (by omega) hr hb
 unfold risZ
 rw [e,hz]
 simp only [if_true,Int.toNat_natCast]
 rw [e2,← List.length_append,ht]
 simp [putR,Nat.add_assoc]
end Go.Proofs.YtldcadpemnpbmaaGreatDoor
set_option linter.unusedVariables false
namespace Go.Proofs.YtldcadpemnpbmaaGreatDoor
abbrev Po:=Int × List Int
def placesB (ps:List Int):Bool:=risesZ (-1) ps&&(!ps.isEmpty)&&decide (ps.getLastD 0<2147483648)
def mayB':Int→List Po→Bool
 |_,[]=>true
 |last,p::r=>decide (last<p.1)&&decide (p.1<2147483648)&&placesB p.2&&mayB' p.1 r
theorem placesB_iff {ps:List Int}:placesB ps=true↔risesZ (-1) ps=true∧ps≠[]∧ps.getLastD 0<2147483648:=by
 simp [placesB,and_assoc]
theorem mayB'_cons {last:Int} {p:Po} {r:List Po}:mayB' last (p::r)=true↔last<p.1∧p.1<2147483648∧placesB p.2=true∧mayB' p.1 r=true:=by
 simp [mayB',and_assoc]
theorem rises_le_last:∀ {ps:List Int} {x:Int},risesZ x ps=true→∀ y∈ps,x<y∧y≤ps.getLastD 0
 |[],_,_=>by simp
 |n::r,x,h=>by
  rw [risesZ,Bool.and_eq_true,decide_eq_true_iff] at h
  have ih:=rises_le_last h.2
  intro y hy
  rcases List.mem_cons.1 hy with rfl|hy
  ·refine ⟨h.1,?_⟩
   cases r with
   |nil=>simp
   |cons m r'=>
    have :=ih m (by simp)
    have e:(y::m::r').getLastD 0=(m::r').getLastD 0:=by simp [List.getLastD]
    rw [e]
    omega
  ·have :=ih y hy
   refine ⟨by omega,?_⟩
   cases r with
   |nil=>cases hy
   |cons m r'=>
    have e:(n::m::r').getLastD 0=(m::r').getLastD 0:=by simp [List.getLastD]
    rw [e]
    exact this.2
theorem lastD_mem:∀ {l:List Int},l≠[]→l.getLastD 0∈l
 |[],h=>absurd rfl h
 |[a],_=>by simp
 |a::b::r,_=>by
  have e:(a::b::r).getLastD 0=(b::r).getLastD 0:=by simp [List.getLastD]
  rw [e]
  exact List.mem_cons_of_mem _ (lastD_mem (l:=b::r) (by simp))
theorem places_bd {ps:List Int} (h:placesB ps=true):∀ y∈ps,0≤y∧y<2147483648:=by
 obtain ⟨h1,_,h3⟩:=placesB_iff.1 h
 intro y hy
 have :=rises_le_last h1 y hy
 omega
def bytesP:Int→List Po→List UInt8
 |_,[]=>[]
 |last,p::r=>putB (p.1-(last+1)).toNat++(putR p.2++bytesP p.1 r)
def docOf:Int→List Po→Int
 |last,[]=>last
 |_,p::r=>docOf p.1 r
theorem bytesP_append:∀ (a b:List Po) (last:Int),bytesP last (a++b)=bytesP last a++bytesP (docOf last a) b
 |[],b,last=>rfl
 |p::r,b,last=>by simp [bytesP,docOf,bytesP_append r b p.1,List.append_assoc]
theorem docOf_append:∀ (a b:List Po) (last:Int),docOf last (a++b)=docOf (docOf last a) b
 |[],_,_=>rfl
 |p::r,b,_=>by simp [docOf,docOf_append r b p.1]
theorem mayB'_append:∀ (a b:List Po) (last:Int),mayB' last (a++b)=(mayB' last a&&mayB' (docOf last a) b)
 |[],b,last=>by simp [mayB',docOf]
 |p::r,b,last=>by simp [mayB',docOf,mayB'_append r b p.1,Bool.and_assoc]
theorem docOf_ge:∀ (l:List Po) (last:Int),mayB' last l=true→last≤docOf last l
 |[],_,_=>Int.le_refl _
 |p::r,last,h=>by
  have :=mayB'_cons.1 h
  have ih:=docOf_ge r p.1 this.2.2.2
  rw [docOf];omega
theorem docOf_lt:∀ (l:List Po) (last:Int),mayB' last l=true→last<2147483648→docOf last l<2147483648
 |[],_,_,h=>h
 |p::r,last,h,_=>by
  have :=mayB'_cons.1 h
  exact docOf_lt r p.1 this.2.2.2 this.2.1
def totalP:List Po→Nat
 |[]=>0
 |p::r=>p.2.length+totalP r
theorem putR_length {ps:List Int} (h:placesB ps=true) (hl:ps.length<9223372036854775808):(putR ps).length≤9+9*ps.length:=by
 have hb:=places_bd h
 have h1:=dB_length ps (-1) (by omega) (placesB_iff.1 h).1 fun x hx=>by have :=hb x hx;omega
 have h2:=putB_nine hl
 rw [putR,List.length_append]
 omega
theorem bytesP_length:∀ (l:List Po) (last:Int), -1≤last→mayB' last l=true→(∀ p∈l,p.2.length<9223372036854775808)→(bytesP last l).length≤18*l.length+9*totalP l
 |[],_,_,_,_=>by simp [bytesP]
 |p::r,last,h0,h,hl=>by
  obtain ⟨h1,h2,h3,h4⟩:=mayB'_cons.1 h
  have ih:=bytesP_length r p.1 (by omega) h4 fun q hq=>hl q (by simp [hq])
  have e1:=putB_nine (n:=(p.1-(last+1)).toNat) (by omega)
  have e2:=putR_length h3 (hl p (by simp))
  rw [bytesP,List.length_append,List.length_append,List.length_cons,totalP]
  omega
theorem get_posting {pre post:List UInt8} {last d:Int} {ps:List Int} {r:List Po} (h0: -1≤last) (hd:last<d) (hd2:d<2147483648) (hp:placesB ps=true) (hl:ps.length<9223372036854775808):
  getZ (pre++(bytesP last ((d,ps)::r)++post)) (pre.length:Int)=(d-(last+1),((pre.length+(putB (d-(last+1)).toNat).length:Nat):Int),0)∧
  risZ (pre++(bytesP last ((d,ps)::r)++post)) ((pre.length+(putB (d-(last+1)).toNat).length:Nat):Int)=(ps,((pre.length+((putB (d-(last+1)).toNat).length+(putR ps).length):Nat):Int),0):=by
 have hb:=places_bd hp
 have e1:pre++(bytesP last ((d,ps)::r)++post)=pre++(putB (d-(last+1)).toNat++(putR ps++(bytesP d r++post))):=by simp [bytesP,List.append_assoc]
 have e2:pre++(bytesP last ((d,ps)::r)++post)=(pre++putB (d-(last+1)).toNat)++(putR ps++(bytesP d r++post)):=by simp [bytesP,List.append_assoc]
 refine ⟨?_,?_⟩
 ·rw [e1,getZ_put (by omega)]
  simp only [Prod.mk.injEq,and_true]
  omega
 ·have :=risZ_put (g:=ps) (placesB_iff.1 hp).1 (fun x hx=>by have :=hb x hx;omega) hl (pre++putB (d-(last+1)).toNat) (bytesP d r++post)
  rw [List.length_append] at this
  rw [e2,this]
  simp [Nat.add_assoc]
def blocksP (n:Nat):Nat:=(n+7)/8
def blockP (l:List Po) (k:Int):List Po:=if k<0 then [] else (l.drop (8*k.toNat)).take 8
def lastP (l:List Po) (k:Int):Int:=docOf (-1) (blockP l k)
theorem blockP_neg {l:List Po} {k:Int} (h:k<0):blockP l k=[]:=by unfold blockP;rw [if_pos h]
theorem blockP_nat {l:List Po} (k:Nat):blockP l (k:Int)=(l.drop (8*k)).take 8:=by unfold blockP;rw [if_neg (by omega),Int.toNat_natCast]
theorem blockP_out {l:List Po} {k:Nat} (h:blocksP l.length≤k):blockP l (k:Int)=[]:=by
 rw [blockP_nat,List.drop_eq_nil_of_le (by unfold blocksP at h;omega)]
 rfl
theorem blockP_length {l:List Po} (k:Nat):(blockP l (k:Int)).length=min 8 (l.length-8*k):=by rw [blockP_nat,List.length_take,List.length_drop]
theorem blockP_some {l:List Po} {k:Nat} (h:k<blocksP l.length):0<(blockP l (k:Int)).length:=by
 rw [blockP_length]
 unfold blocksP at h
 omega
theorem blocks_all (l:List Po) (k:Nat):l.take (8*(k+1))=l.take (8*k)++blockP l (k:Int):=by
 rw [blockP_nat,Nat.mul_add,Nat.mul_one,List.take_add]
end Go.Proofs.YtldcadpemnpbmaaGreatDoor
set_option linter.unusedVariables false
namespace Go.Proofs.YtldcadpemnpbmaaGreatDoor
open Go
theorem places_tell {d:List Fd} (h:ApartF d) (t:Tm):(placesD d t).length=((tellD d).filter fun p=>decide (p.1=t)).length:=by
 rw [← placesS_D h t]
 simp [placesS]
theorem places_pos {d:List Fd} (h:GoodF d) {t:Tm} (ht:t∈termsD d):0<(placesD d t).length:=by
 obtain ⟨p,hp,e⟩:=List.mem_map.1 ((termsD_mem h.apart t).1 ht)
 rw [places_tell h.apart]
 exact List.length_pos_of_mem (List.mem_filter.2 ⟨hp,by simpa using e⟩)
theorem places_len {d:List Fd} (h:GoodF d) (t:Tm):(placesD d t).length≤500:=Nat.le_trans (placesW_length _ _ _) (h.wordsS _)
theorem posts_there {key:Nm}:∀ {l:List En} {i:Nat},(∃ q∈l,∃ t∈termsD q.2.1,keyT t=key)→0<(postsE i l key).length
 |[],i,⟨q,hq,_⟩=>by cases hq
 |q::l,i,⟨x,hx,t,ht,e⟩=>by
  rw [postsE,List.length_append]
  rcases List.mem_cons.1 hx with rfl|hx
  ·have :0<(postIn i x.2.1 (termsD x.2.1) key).length:=by
    unfold postIn
    rw [List.length_map]
    exact List.length_pos_of_mem (List.mem_filter.2 ⟨ht,by simpa using e⟩)
   omega
  ·have :=posts_there (i:=i+1) ⟨x,hx,t,ht,e⟩
   omega
theorem posts_mem {key:Nm} {p:Pn}:∀ {l:List En} {i:Nat},p∈postsE i l key→∃ q∈l,∃ t∈termsD q.2.1,p.2=placesD q.2.1 t
 |[],i,h=>by cases h
 |q::l,i,h=>by
  rw [postsE] at h
  rcases List.mem_append.1 h with h|h
  ·unfold postIn at h
   obtain ⟨t,ht,rfl⟩:=List.mem_map.1 h
   exact ⟨q,List.mem_cons_self ..,t,(List.mem_filter.1 ht).1,rfl⟩
  ·obtain ⟨x,hx,t,ht,e⟩:=posts_mem h
   exact ⟨x,List.mem_cons_of_mem _ hx,t,ht,e⟩
theorem posts_good {l:List En} (hg:GoodE l) {key:Nm}:∀ p∈postsE 0 l key,0<p.2.length∧p.2.length≤500:=fun p hp=>by
 obtain ⟨q,hq,t,ht,e⟩:=posts_mem hp
 rw [e]
 exact ⟨places_pos (hg q hq) ht,places_len (hg q hq) t⟩
theorem postIn_one {i:Nat} {d:List Fd} (h:NoZero d) (key:Nm):postIn i d (termsD d) key=[]∨∃ t∈termsD d,postIn i d (termsD d) key=[((i:Int),placesD d t)]:=by
 have h1:=termsD_rise h
 unfold RiseT Rise at h1
 rw [List.pairwise_map] at h1
 have h2:=h1.filter (fun t=>decide (keyT t=key))
 unfold postIn
 match hs:(termsD d).filter fun t=>decide (keyT t=key) with
 |[]=>exact .inl rfl
 |[t]=>exact .inr ⟨t,(List.mem_filter.1 (hs▸List.mem_singleton_self t)).1,rfl⟩
 |t::u::s=>
  rw [hs] at h2
  have h3:=(List.pairwise_cons.1 h2).1 u (List.mem_cons_self ..)
  have mt:t∈(termsD d).filter fun t=>decide (keyT t=key):=by rw [hs];exact List.mem_cons_self ..
  have mu:u∈(termsD d).filter fun t=>decide (keyT t=key):=by rw [hs];exact List.mem_cons_of_mem _ (List.mem_cons_self ..)
  have ht:keyT t=key:=by simpa using (List.mem_filter.1 mt).2
  have hu:keyT u=key:=by simpa using (List.mem_filter.1 mu).2
  rw [ht,hu] at h3
  exact absurd h3 (List.lt_irrefl _)
theorem posts_len {l:List En} (hg:GoodE l) {key:Nm}:∀ (m:List En) (i:Nat),(∀ q∈m,q∈l)→(postsE i m key).length≤m.length
 |[],i,_=>by simp [postsE]
 |q::m,i,h=>by
  have ih:=posts_len hg (key:=key) m (i+1) fun x hx=>h x (List.mem_cons_of_mem _ hx)
  rw [postsE,List.length_append,List.length_cons]
  rcases postIn_one (i:=i) (hg q (h q (List.mem_cons_self ..))).zero key with e|⟨t,_,e⟩<;>rw [e]<;>simp <;>omega
theorem rises_of:∀ {ps:List Int} {x:Int},ps.Pairwise (· <·)→(∀ a∈ps,x<a)→risesZ x ps=true
 |[],x,_,_=>rfl
 |p::ps,x,h,hx=>by
  rw [List.pairwise_cons] at h
  rw [risesZ,rises_of h.2 h.1,Bool.and_true]
  exact decide_eq_true (hx p (List.mem_cons_self ..))
theorem places_may {d:List Fd} (h:GoodF d) {t:Tm} (ht:t∈termsD d):placesB (placesD d t)=true:=by
 have h0:=places_pos h ht
 have hne:placesD d t≠[]:=fun e=>by rw [e] at h0;cases h0
 rw [placesB_iff]
 refine ⟨rises_of (placesW_rise _ _ _) fun a ha=> ?_,hne,?_⟩
 ·have :=placesW_ge _ _ _ a ha
  omega
 ·have hm:(placesD d t).getLastD 0∈placesD d t:=by
   rw [List.getLastD_eq_getLast?,List.getLast?_eq_some_getLast hne]
   exact List.getLast_mem hne
  obtain ⟨k,hk,hk2⟩:=(placesW_mem _ _ _ _).1 hm
  have hl:=(List.getElem?_eq_some_iff.1 hk2).1
  have :=h.wordsS t.1
  rw [hk]
  omega
theorem posts_may {key:Nm}:∀ {l:List En} {i:Nat} {last:Int},GoodE l→last<i→i+l.length≤2147483648→mayB' last (postsE i l key)=true
 |[],i,last,_,_,_=>rfl
 |q::l,i,last,hg,hl,hi=>by
  have hq:=hg q (List.mem_cons_self ..)
  rw [List.length_cons] at hi
  have ih:=fun (last:Int) (h:last<((i+1:Nat):Int))=>posts_may (key:=key) (l:=l) (i:=i+1) (last:=last) (fun x hx=>hg x (List.mem_cons_of_mem _ hx)) h (by omega)
  rw [postsE]
  rcases postIn_one (i:=i) hq.zero key with e|⟨t,ht,e⟩
  ·rw [e,List.nil_append]
   exact ih last (by push_cast;omega)
  ·rw [e,List.singleton_append,mayB'_cons]
   exact ⟨hl,by show (i:Int)<2147483648;omega,places_may hq ht,ih _ (by push_cast;omega)⟩
end Go.Proofs.YtldcadpemnpbmaaGreatDoor
set_option linter.unusedVariables false
namespace Go.Proofs.YtldcadpemnpbmaaGreatDoor
open Go
structure PartsP where
 ids:List Int
 seqs:List Int
 keys:List Nm
 lists:List (List Pn)
deriving DecidableEq
def mayL (n:Nat) (l:List Pn):Bool:=mayB' (-1) l&&(decide (l.length≠0)&&decide (∀ p,l.getLast?=some p→p.1<(n:Int)))
def mayPs (x:PartsP):Bool:=decide (x.ids.length=x.seqs.length)&&(decide (x.keys.length=x.lists.length)&&(risesZ (-1) x.seqs&&(risesN x.keys&&x.lists.all (mayL x.ids.length))))
def buildP (l:List En):PartsP:=⟨l.map (·.1),l.map (·.2.2),keysE l,(keysE l).map fun k=>postsE 0 l k⟩
def atP:List Nm→List (List Pn)→Nm→List Pn
 |k::ks,l::ls,key=>if k=key then l else atP ks ls key
 |_,_,_=>[]
theorem atP_none {key:Nm}:∀ {ks:List Nm} {ls:List (List Pn)},(∀ k∈ks,k≠key)→atP ks ls key=[]
 |[],_,_=>by simp [atP]
 |k::ks,[],_=>by simp [atP]
 |k::ks,l::ls,h=>by rw [atP,if_neg (h k (List.mem_cons_self ..)),atP_none fun x hx=>h x (List.mem_cons_of_mem _ hx)]
theorem atP_at {key:Nm}:∀ {ks:List Nm} {ls:List (List Pn)} {i:Nat} (hi:i<ks.length) (hl:i<ls.length),ks[i]=key→(∀ j (hj:j<ks.length),j<i→ks[j]≠key)→atP ks ls key=ls[i]
 |[],_,i,hi,_,_,_=>by simp at hi
 |k::ks,[],i,_,hl,_,_=>by simp at hl
 |k::ks,l::ls,0,_,_,h,_=>by simp at h;simp [atP,h]
 |k::ks,l::ls,i+1,hi,hl,h,hn=>by
  have h0:=hn 0 (by simp) (by omega)
  simp at h0
  rw [atP,if_neg h0]
  simpa using atP_at (ks:=ks) (ls:=ls) (i:=i) (by simpa using hi) (by simpa using hl) (by simpa using h) fun j hj hji=>by
   have :=hn (j+1) (by simpa using hj) (by omega)
   rw [zC] at this
   exact this
def postsPs (x:PartsP) (key:Nm):List Pn:=atP x.keys x.lists key
theorem atP_map (f:Nm→List Pn) (key:Nm):∀ ks:List Nm,atP ks (ks.map f) key=if key∈ks then f key else []
 |[]=>by simp [atP]
 |k::ks=>by
  rw [List.map_cons,atP,atP_map f key ks]
  by_cases h:k=key
  ·rw [if_pos h,if_pos (by rw [h];exact List.mem_cons_self ..),h]
  ·rw [if_neg h]
   by_cases h2:key∈ks
   ·rw [if_pos h2,if_pos (List.mem_cons_of_mem _ h2)]
   ·rw [if_neg h2,if_neg (fun e=>(List.mem_cons.1 e).elim (fun e=>h e.symm) h2)]
theorem posts_not {key:Nm}:∀ {l:List En} {i:Nat},(∀ q∈l,∀ t∈termsD q.2.1,keyT t≠key)→postsE i l key=[]
 |[],i,_=>rfl
 |q::l,i,h=>by
  rw [postsE,posts_not fun x hx=>h x (List.mem_cons_of_mem _ hx),List.append_nil]
  unfold postIn
  rw [List.filter_eq_nil_iff.2 fun t ht=>by simpa using h q (List.mem_cons_self ..) t ht]
  rfl
theorem posts_build (l:List En) (key:Nm):postsPs (buildP l) key=postsE 0 l key:=by
 unfold postsPs buildP
 rw [atP_map]
 split
 ·rfl
 ·rename_i h
  exact (posts_not fun q hq t ht e=>h (mem_keysE.2 ⟨q,hq,t,ht,e⟩)).symm
end Go.Proofs.YtldcadpemnpbmaaGreatDoor
set_option linter.unusedVariables false
namespace Go.Proofs.YtldcadpemnpbmaaGreatDoor
open Go Go.RowKit
theorem info_byte:(Tryz.prog.info? 5).map (fun i=>(i.zero,i.size,i.bytes))=some (some (.int .u8 0),1,1):=by kernel_rfl
theorem row_byte {w:World} {B:Nat} {A:Option Addr} {xs:List UInt8} (h:Row w B A (Lib.byteCells xs)) {k:Nat} (hk:k<xs.length):
  ∃ b off,A=some ⟨b,off,none⟩∧b<B∧w.cell? ⟨b,off+k,none⟩=some (.int .u8 ((xs.getD k 0).toNat:Int)):=by
 obtain ⟨b,off,rfl,hb,hc⟩:=h.at_ (by rw [Lib.byteCells_length];omega)
 refine ⟨b,off,rfl,hb,hc k _ ?_⟩
 simp [Lib.byteCells,hk]
theorem byteCells_oneCell (l:List UInt8):∀ u∈Lib.byteCells l,u.oneCell'=true:=by
 intro u hu
 obtain ⟨b,_,rfl⟩:=List.mem_map.1 hu
 rfl
theorem ints_oneCell' (l:List Int):∀ u∈ints l,u.oneCell'=true:=by
 intro u hu
 obtain ⟨b,_,rfl⟩:=List.mem_map.1 hu
 rfl
def Buf (base:Nat) (w:World) (v:Value) (bs:List UInt8):Prop:=
 (∃ A,v= .slice A bs.length bs.length∧Row w base A (Lib.byteCells bs))∨w.ownsRow base 5 1 v bs.length (Lib.byteCells bs)
def Own (base:Nat) (w:World) (v:Value) (bs:List UInt8):Prop:=w.ownsRow base 5 1 v bs.length (Lib.byteCells bs)
theorem Own.buf {base:Nat} {w:World} {v:Value} {bs:List UInt8} (h:Own base w v bs):Buf base w v bs:= .inr h
theorem Own.below {base:Nat} {w w':World} {v:Value} {bs:List UInt8} (h:Own base w v bs) (hb:Below w.heap.size w w'):Own base w' v bs:=owned_below h hb
theorem Own.row {base:Nat} {w:World} {v:Value} {bs:List UInt8} (h:Own base w v bs):∃ A c,v= .slice A bs.length c∧bs.length≤c∧Row w w.heap.size A (Lib.byteCells bs):=owned_row h
theorem Buf.alloc {base:Nat} {w:World} {v:Value} {bs:List UInt8} (h:Buf base w v bs) (hb:base≤w.heap.size) (o:Obj):Buf base (w.alloc o) v bs:=by
 rcases h with ⟨A,rfl,hr⟩|hown
 ·exact .inl ⟨A,rfl,hr.below ((Below.refl _ _).alloc hb o)⟩
 ·exact .inr (hown.alloc o)
section
variable {P:Program} (w:World)
theorem wpList_append_buf {ops:Array Oper} {rest:List Oper} {o:Oper} {a:Act} {Q:Exit→Act→World→Prop} (hgd:o.guard=none) (s x:Operand) (t:TypeId)
  (ho:o.op= .call {callee:= .builtin .append,args:=#[s,x],argTypes:=#[t,t]})
  (base:Nat) (i:TypeInfo) (z:Value) (ht:P.underlying t=some (.slice 5)) (hi:P.info? 5=some i) (hz:i.zero=some z)
  (hsize:i.size=1) (hby:i.bytes=1) (hzs:z.cells.size=1)
  (v:Value) (bs:List UInt8) (hs:a.eval s=v) (hb:Buf base w v bs) (hbase:base≤w.heap.size)
  (ad:Addr) (c:Nat) (y:Int) (hx:a.eval x= .slice (some ad) 1 c) (hnews:∀ j u,[Value.int .u8 y][j]?=some u→w.cell? (ad.add j)=some u)
  (u:UInt8) (hy:y=(u.toNat:Int)) (hl:bs.length≤1099511627776)
  (h:∀ v' w',Own base w' v' (bs++[u])→Below base w w'→wpList P ops Q rest (a.put o.dst v') w'):wpList P ops Q (o::rest) a w:=by
 have hcells:Lib.byteCells bs++[Value.int .u8 y]=Lib.byteCells (bs++[u]):=by rw [hy,Lib.byteCells_append];rfl
 have hlen:bs.length+1=(bs++[u]).length:=by simp
 have h1:∀ q∈[Value.int .u8 y],q.oneCell'=true:=by intro q hq;simp at hq;subst hq;rfl
 rcases hb with ⟨A,rfl,hr⟩|hown
 ·refine wpList_append_grows w hgd s x t ho 5 i z 1 1 ht hi hz hsize hby hzs (by omega) A bs.length bs.length (Lib.byteCells bs) hs ?_ (by rw [Lib.byteCells_length];omega) ?_ ad 1 c _ hx rfl hnews h1 (by omega) (by unfold maxLen;omega) (by omega) ?_
  ·rintro rfl
   rcases hr with h0|⟨b,off,h0,_⟩
   ·have :=congrArg List.length h0
    rw [Lib.byteCells_length] at this
    simp at this
    simp [this]
   ·cases h0
  ·rintro b rfl j q hq
   rcases hr with h0|⟨b',off,h0,_,hc⟩
   ·rw [h0] at hq;simp at hq
   ·injection h0 with h0
    subst h0
    rw [Addr.add_lit]
    exact hc j q hq
  ·intro v' w' hown hg
   rw [hcells,hlen] at hown
   exact h v' w' (owned_low hown hbase) ((Below.refl _ w).grown hg hbase fun k hk=>by cases hk)
 ·refine wpList_append_own w hgd s x t ho base 5 i z 1 1 ht hi hz hsize hby hzs (by omega) v bs.length (Lib.byteCells bs) hs hown ad 1 c _ hx rfl hnews h1 (by unfold maxLen;omega) (by omega) hbase ?_
  intro v' w' hown' hg _
  rw [hcells,hlen] at hown'
  exact h v' w' hown' ((Below.refl _ w).grown hg hbase fun k hk=>(hown.lt k hk).1)
end
end Go.Proofs.YtldcadpemnpbmaaGreatDoor
set_option linter.unusedVariables false
namespace Go.Proofs.YtldcadpemnpbmaaGreatDoor
open Go Go.RowKit
def PoCells (R:Option Addr→List Value→Prop):List Po→List Value→Prop
 |[],cs=>cs=[]
 |q::r,cs=>∃ A c cs',cs= .int .i64 q.1:: .slice A q.2.length c::cs'∧q.2.length≤c∧c≤maxLen∧R A (ints q.2)∧PoCells R r cs'
section
variable {R R':Option Addr→List Value→Prop}
theorem PoCells.len:∀ {l:List Po} {cs:List Value},PoCells R l cs→cs.length=l.length*2
 |[],cs,h=>by simp only [PoCells] at h;subst h;rfl
 |q::r,cs,h=>by
  obtain ⟨A,c,cs',rfl,_,_,_,h'⟩:=h
  have :=PoCells.len h'
  simp only [List.length_cons,this]
  omega
theorem PoCells.imp:∀ {l:List Po} {cs:List Value},PoCells R l cs→(∀ A xs,R A xs→R' A xs)→PoCells R' l cs
 |[],cs,h,_=>h
 |q::r,cs,h,hi=>by
  obtain ⟨A,c,cs',rfl,h1,h2,h3,h'⟩:=h
  exact ⟨A,c,cs',rfl,h1,h2,hi _ _ h3,PoCells.imp h' hi⟩
theorem PoCells.at_:∀ {l:List Po} {cs:List Value} {k:Nat},PoCells R l cs→k<l.length→
  cs[k*2]?=some (.int .i64 (l.getD k (0,[])).1)∧∃ A c,cs[k*2+1]?=some (.slice A (l.getD k (0,[])).2.length c)∧(l.getD k (0,[])).2.length≤c∧c≤maxLen∧R A (ints (l.getD k (0,[])).2)
 |[],_,k,_,h=>by simp at h
 |q::r,cs,0,h,_=>by
  obtain ⟨A,c,cs',rfl,h1,h2,h3,h'⟩:=h
  exact ⟨rfl,A,c,rfl,h1,h2,h3⟩
 |q::r,cs,k+1,h,hk=>by
  obtain ⟨A,c,cs',rfl,h1,h2,h3,h'⟩:=h
  have :=PoCells.at_ (k:=k) h' (by simpa using hk)
  rw [show (k+1)*2=k*2+1+1 by omega,List.getD_cons_succ]
  simpa using this
theorem PoCells.snoc:∀ {l:List Po} {cs:List Value} {A:Option Addr} {c:Nat} {d:Int} {ps:List Int},PoCells R l cs→ps.length≤c→c≤maxLen→R A (ints ps)→PoCells R (l++[(d,ps)]) (cs++[.int .i64 d,.slice A ps.length c])
 |[],cs,A,c,d,ps,h,h1,h2,h3=>by
  simp only [PoCells] at h
  subst h
  exact ⟨A,c,[],rfl,h1,h2,h3,rfl⟩
 |q::r,cs,A,c,d,ps,h,h1,h2,h3=>by
  obtain ⟨A',c',cs',rfl,g1,g2,g3,h'⟩:=h
  exact ⟨A',c',cs'++[.int .i64 d,.slice A ps.length c],rfl,g1,g2,g3,PoCells.snoc h' h1 h2 h3⟩
theorem PoCells.take:∀ {l:List Po} {cs:List Value} (k:Nat),PoCells R l cs→PoCells R (l.take k) (cs.take (k*2))
 |_,cs,0,_=>by simp [PoCells]
 |[],cs,k+1,h=>by simp only [PoCells] at h;subst h;simp [PoCells]
 |q::r,cs,k+1,h=>by
  obtain ⟨A,c,cs',rfl,h1,h2,h3,h'⟩:=h
  rw [List.take_succ_cons,show (k+1)*2=k*2+1+1 by omega,List.take_succ_cons,List.take_succ_cons]
  exact ⟨A,c,_,rfl,h1,h2,h3,PoCells.take k h'⟩
theorem PoCells.drop:∀ {l:List Po} {cs:List Value} (k:Nat),PoCells R l cs→PoCells R (l.drop k) (cs.drop (k*2))
 |l,cs,0,h=>by simpa using h
 |[],cs,k+1,h=>by simp only [PoCells] at h;subst h;simp [PoCells]
 |q::r,cs,k+1,h=>by
  obtain ⟨A,c,cs',rfl,h1,h2,h3,h'⟩:=h
  rw [List.drop_succ_cons,show (k+1)*2=k*2+1+1 by omega,List.drop_succ_cons,List.drop_succ_cons]
  exact PoCells.drop k h'
end
def Posts (w:World) (B:Nat) (A:Option Addr) (l:List Po):Prop:=∃ cs,PoCells (Row w B) l cs∧Row w B A cs
theorem Posts.nil {w:World} {B:Nat} {A:Option Addr}:Posts w B A []:=⟨[],rfl,Row.nil⟩
theorem Posts.below {w w':World} {B:Nat} {A:Option Addr} {l:List Po} (h:Posts w B A l) (hb:Below B w w'):Posts w' B A l:=by
 obtain ⟨cs,h1,h2⟩:=h
 exact ⟨cs,h1.imp fun _ _ h=>h.below hb,h2.below hb⟩
theorem Posts.more {w:World} {B B':Nat} {A:Option Addr} {l:List Po} (h:Posts w B A l) (hB:B≤B'):Posts w B' A l:=by
 obtain ⟨cs,h1,h2⟩:=h
 exact ⟨cs,h1.imp fun _ _ h=>h.more hB,h2.more hB⟩
theorem Posts.cut {w:World} {B:Nat} {A:Option Addr} {l:List Po} (h:Posts w B A l) (k:Nat):Posts w B A (l.take k):=by
 obtain ⟨cs,h1,h2⟩:=h
 exact ⟨_,h1.take k,h2.cut (k*2)⟩
theorem Posts.at_ {w:World} {B:Nat} {A:Option Addr} {l:List Po} (h:Posts w B A l) {k:Nat} (hk:k<l.length):
  ∃ b off,A=some ⟨b,off,none⟩∧b<B∧w.cell? ⟨b,off+k*2,none⟩=some (.int .i64 (l.getD k (0,[])).1)∧
   ∃ A' c',w.cell? ⟨b,off+k*2+1,none⟩=some (.slice A' (l.getD k (0,[])).2.length c')∧(l.getD k (0,[])).2.length≤c'∧c'≤maxLen∧Row w B A' (ints (l.getD k (0,[])).2):=by
 obtain ⟨cs,h1,h2⟩:=h
 obtain ⟨b,off,rfl,hb,hc⟩:=h2.at_ (by rw [h1.len];omega)
 obtain ⟨g1,A',c',g2,g3,g4,g5⟩:=h1.at_ hk
 exact ⟨b,off,rfl,hb,hc _ _ g1,A',c',by have :=hc _ _ g2;rwa [← Nat.add_assoc] at this,g3,g4,g5⟩
theorem Posts.drop {w:World} {B b off:Nat} {l:List Po} (h:Posts w B (some ⟨b,off,none⟩) l) (k:Nat):Posts w B (some ⟨b,off+k*2,none⟩) (l.drop k):=by
 obtain ⟨cs,h1,h2⟩:=h
 refine ⟨_,h1.drop k,?_⟩
 rcases h2 with rfl|⟨b',o',e,hb,hc⟩
 ·exact .inl (by simp)
 ·injection e with e
  injection e with e1 e2
  subst e1 e2
  refine .inr ⟨b,off+k*2,rfl,hb,fun j u hu=> ?_⟩
  have :=hc (k*2+j) u (by rw [← hu];simp)
  rwa [← Nat.add_assoc] at this
def Safe (base:Nat) (w:World) (b:Nat):Prop:=b<w.heap.size∧(b<base∨∃ cs fr,w.heap[b]?=some (.cells cs 3 fr))
def RowS (base:Nat) (w:World) (A:Option Addr) (xs:List Value):Prop:=xs=[]∨∃ b off,A=some ⟨b,off,none⟩∧Safe base w b∧∀ j u,xs[j]?=some u→w.cell? ⟨b,off+j,none⟩=some u
theorem RowS.row {base:Nat} {w:World} {A:Option Addr} {xs:List Value} (h:RowS base w A xs):Row w w.heap.size A xs:=by
 rcases h with rfl|⟨b,off,rfl,hs,hc⟩
 ·exact .inl rfl
 ·exact .inr ⟨b,off,rfl,hs.1,hc⟩
theorem RowS.of_own {base base':Nat} {w:World} {A:Option Addr} {n c:Nat} {xs:List Value} (h:w.ownsRow base' 3 1 (.slice A n c) n xs):RowS base w A xs:=by
 rcases h.2 with ⟨hv,hn⟩|⟨g,cap,cur,hv,hg,hh,hnc,hcp,hcs,htake⟩
 ·refine .inl (List.eq_nil_of_length_eq_zero ?_)
  rw [h.1,hn]
 ·injection hv with h1 h2 h3
  subst h1
  have hrow:=owned_row_of h
  rcases hrow with rfl|⟨b,off,e,hb,hc⟩
  ·exact .inl rfl
  ·injection e with e
   injection e with e1 e2
   subst e1 e2
   exact .inr ⟨g,0,rfl,⟨(Array.getElem?_eq_some_iff.1 hh).1,.inr ⟨_,_,hh⟩⟩,hc⟩
theorem RowS.grown {base:Nat} {w w':World} {A:Option Addr} {xs ys:List Value} {E:TypeId} {size:Nat} {v:Value} {n:Nat} (h:RowS base w A xs) (hv:w.ownsRow base E size v n ys) (hE:E≠3) (hg:w.grownBy w' v.ownBlock):RowS base w' A xs:=by
 rcases h with rfl|⟨b,off,rfl,⟨hs,hk⟩,hc⟩
 ·exact .inl rfl
 ·have hne:v.ownBlock≠some b:=by
   rcases hk with hk|⟨cs,fr,hk⟩
   ·intro e
    have :=(hv.lt b e).1
    omega
   ·intro e
    rcases hv.2 with ⟨rfl,_⟩|⟨g,cap,cur,rfl,_,hh,_⟩
    ·cases e
    ·simp only [Value.ownBlock,Option.some.injEq] at e
     subst e
     rw [hh] at hk
     simp at hk
     exact hE hk.2.1
  have hblk:w'.heap[b]?=w.heap[b]?:=hg.block b hs fun e=>hne e.symm
  refine .inr ⟨b,off,rfl,⟨Nat.lt_of_lt_of_le hs hg.size,hk.imp id fun ⟨cs,fr,h⟩=>⟨cs,fr,hblk.trans h⟩⟩,fun j u hu=> ?_⟩
  rw [World.cell?_of_block (a:=⟨b,off+j,none⟩) hblk]
  exact hc j u hu
theorem RowS.below {base:Nat} {w w':World} {A:Option Addr} {xs:List Value} (h:RowS base w A xs) (hb:Below w.heap.size w w'):RowS base w' A xs:=by
 rcases h with rfl|⟨b,off,rfl,⟨hs,hk⟩,hc⟩
 ·exact .inl rfl
 ·refine .inr ⟨b,off,rfl,⟨Nat.lt_of_lt_of_le hs hb.size,hk.imp id fun ⟨cs,fr,h⟩=>⟨cs,fr,(hb.block b hs).trans h⟩⟩,fun j u hu=> ?_⟩
  rw [World.cell?_of_block (a:=⟨b,off+j,none⟩) (hb.block b hs)]
  exact hc j u hu
end Go.Proofs.YtldcadpemnpbmaaGreatDoor
namespace Go.Proofs.YtldcadpemnpbmaaGreatDoor
open Go Go.RowKit
set_option linter.unusedVariables false
theorem owned_roomed {w:World} {base:Nat} {e:TypeId} {size:Nat} {v:Value} {n:Nat} {xs:List Value} (h:w.ownsRow base e size v n xs):∃ A c,v= .slice A n c∧(n≤c∧c≤maxLen)∧Row w w.heap.size A xs:=by
 obtain ⟨A,c,rfl,hc,hr⟩:=owned_row h
 refine ⟨A,c,rfl,⟨hc,?_⟩,hr⟩
 rcases h.2 with ⟨hv,_⟩|⟨g,cap,cur,hv,_,_,_,hcp,_⟩
 ·injection hv with _ _ e
  rw [e]
  exact Nat.zero_le _
 ·injection hv with _ _ e
  rw [e]
  exact hcp
theorem info_posting:(Tryz.prog.info? 153).map (fun i=>(i.zero,i.size,i.bytes))=some (some (.agg #[.int .i64 0,.slice none 0 0]),2,32):=by kernel_rfl
end Go.Proofs.YtldcadpemnpbmaaGreatDoor
set_option linter.unusedVariables false
namespace Go.Proofs.YtldcadpemnpbmaaGreatDoor
open Go Go.RowKit
def LCells (w:World) (B:Nat) (ls:List (List Pn)) (cs:List Value):Prop:=cs.length=ls.length∧∀ i (h:i<ls.length),∃ A c,cs[i]?=some (.slice A ls[i].length c)∧(ls[i].length≤c∧c≤maxLen)∧Posts w B A ls[i]
def LPosts (w:World) (B:Nat) (A:Option Addr) (ls:List (List Pn)):Prop:=∃ cs,LCells w B ls cs∧Row w B A cs
section
variable {w w':World} {B B':Nat} {A:Option Addr} {ls:List (List Pn)} {cs:List Value}
theorem LCells.below (h:LCells w B ls cs) (hb:Below B w w'):LCells w' B ls cs:=⟨h.1,fun i hi=>by obtain ⟨A,c,h1,h2,h3⟩:=h.2 i hi;exact ⟨A,c,h1,h2,h3.below hb⟩⟩
theorem LCells.more (h:LCells w B ls cs) (hB:B≤B'):LCells w B' ls cs:=⟨h.1,fun i hi=>by obtain ⟨A,c,h1,h2,h3⟩:=h.2 i hi;exact ⟨A,c,h1,h2,h3.more hB⟩⟩
theorem LPosts.below (h:LPosts w B A ls) (hb:Below B w w'):LPosts w' B A ls:=by obtain ⟨cs,h1,h2⟩:=h;exact ⟨cs,h1.below hb,h2.below hb⟩
theorem LPosts.more (h:LPosts w B A ls) (hB:B≤B'):LPosts w B' A ls:=by obtain ⟨cs,h1,h2⟩:=h;exact ⟨cs,h1.more hB,h2.more hB⟩
theorem LPosts.later (h:LPosts w w.heap.size A ls) (hb:Below w.heap.size w w'):LPosts w' w'.heap.size A ls:=(h.below hb).more hb.size
theorem LPosts.at_ (h:LPosts w B A ls) {i:Nat} (hi:i<ls.length):∃ b off A' c',A=some ⟨b,off,none⟩∧b<B∧w.cell? ⟨b,off+i,none⟩=some (.slice A' ls[i].length c')∧(ls[i].length≤c'∧c'≤maxLen)∧Posts w B A' ls[i]:=by
 obtain ⟨cs,h1,h2⟩:=h
 obtain ⟨A',c',g1,g2,g3⟩:=h1.2 i hi
 obtain ⟨b,off,rfl,hb,hc⟩:=Row.at_ h2 (by rw [h1.1];omega)
 exact ⟨b,off,A',c',rfl,hb,hc _ _ g1,g2,g3⟩
end
end Go.Proofs.YtldcadpemnpbmaaGreatDoor
set_option linter.unusedVariables false
namespace Go.Proofs.YtldcadpemnpbmaaGreatDoor
open Go Go.RowKit
def entP:List Nm→List Nat→List Value
 |x::l,v::vs=> .string ⟨x.toArray⟩:: .pointer (some ⟨v,0,none⟩)::entP l vs
 |_,_=>[]
theorem entP_nil (vs:List Nat):entP [] vs=[]:=by cases vs<;>rfl
theorem entP_length:∀ {l:List Nm} {vs:List Nat},vs.length=l.length→(entP l vs).length=l.length*2
 |[],vs,_=>by rw [entP_nil];rfl
 |x::l,[],h=>by simp at h
 |x::l,v::vs,h=>by
  have :=entP_length (l:=l) (vs:=vs) (by simpa using h)
  simp only [entP,List.length_cons,this]
  omega
theorem entP_at:∀ {l:List Nm} {vs:List Nat} {k:Nat} (hv:vs.length=l.length) (hk:k<l.length),(entP l vs)[k*2]?=some (.string ⟨l[k].toArray⟩)∧(entP l vs)[k*2+1]?=some (.pointer (some ⟨vs.getD k 0,0,none⟩))
 |[],_,_,_,h=>by simp at h
 |x::l,[],_,h,_=>by simp at h
 |x::l,v::vs,0,_,_=>⟨rfl,rfl⟩
 |x::l,v::vs,k+1,h,hk=>by
  have :=entP_at (l:=l) (vs:=vs) (k:=k) (by simpa using h) (by simpa using hk)
  rw [show (k+1)*2=k*2+1+1 by omega]
  simpa [entP] using this
theorem entP_snoc:∀ {l:List Nm} {vs:List Nat} {x:Nm} {v:Nat},vs.length=l.length→entP (l++[x]) (vs++[v])=entP l vs++[.string ⟨x.toArray⟩,.pointer (some ⟨v,0,none⟩)]
 |[],[],x,v,_=>rfl
 |[],_::_,_,_,h=>by simp at h
 |_::_,[],_,_,h=>by simp at h
 |y::l,u::vs,x,v,h=>by
  have :=entP_snoc (l:=l) (vs:=vs) (x:=x) (v:=v) (by simpa using h)
  simp only [List.cons_append,entP,this]
theorem info_entryP:(Tryz.prog.info? 245).map (fun i=>(i.zero,i.size,i.bytes))=some (some (.agg #[.string ByteArray.empty,.pointer none]),2,24):=by kernel_rfl
def DictR (w:World) (B o:Nat) (l:List Nm) (vs:List Nat):Prop:=
 B<w.heap.size∧vs.length=l.length∧∃ A c,w.cell? ⟨B,o,none⟩=some (.slice A l.length c)∧l.length≤c∧c≤maxLen∧Row w w.heap.size A (entP l vs)∧(A=none∧l=[]∧c=0∨∃ g,A=some ⟨g,0,none⟩)
theorem DictR.below {w w':World} {B o:Nat} {l:List Nm} {vs:List Nat} (h:DictR w B o l vs) (hb:Below w.heap.size w w'):DictR w' B o l vs:=by
 obtain ⟨h1,h2,A,c,h3,h4,h5,h6,h7⟩:=h
 exact ⟨Nat.lt_of_lt_of_le h1 hb.size,h2,A,c,(hb.cell (p:=⟨B,o,none⟩) h1).trans h3,h4,h5,Row.later h6 hb,h7⟩
theorem DictR.lt {w:World} {B o:Nat} {l:List Nm} {vs:List Nat} (h:DictR w B o l vs):B<w.heap.size:=h.1
theorem DictR.ent {w:World} {B o:Nat} {l:List Nm} {vs:List Nat} (h:DictR w B o l vs) {k:Nat} (hk:k<l.length):
  ∃ b off c,w.cell? ⟨B,o,none⟩=some (.slice (some ⟨b,off,none⟩) l.length c)∧l.length≤c∧c≤maxLen∧b<w.heap.size∧w.cell? ⟨b,off+k*2,none⟩=some (.string ⟨l[k].toArray⟩)∧w.cell? ⟨b,off+k*2+1,none⟩=some (.pointer (some ⟨vs.getD k 0,0,none⟩)):=by
 obtain ⟨_,hv,A,c,h1,h2,h3,h4,_⟩:=h
 obtain ⟨b,off,rfl,hb,hc⟩:=h4.at_ (by rw [entP_length hv];omega)
 obtain ⟨g1,g2⟩:=entP_at hv hk
 exact ⟨b,off,c,h1,h2,h3,hb,hc _ _ g1,by have :=hc _ _ g2;rwa [← Nat.add_assoc] at this⟩
set_option maxHeartbeats 1000000 in
theorem dictP_Len (B o:Nat) (l:List Nm) (vs:List Nat) (w:World) (h:DictR w B o l vs):
  Calls Tryz.prog 318 #[.pointer (some ⟨B,o,none⟩)] w fun e w'=>e= .returned (.int .i64 (l.length:Int))∧w=w':=by
 obtain ⟨_,_,A,c,hc,_⟩:=h
 go_enter Tryz.func318,Tryz.ntmps318
 go_wp2
 go_ret
 exact ⟨rfl,rfl⟩
end Go.Proofs.YtldcadpemnpbmaaGreatDoor
