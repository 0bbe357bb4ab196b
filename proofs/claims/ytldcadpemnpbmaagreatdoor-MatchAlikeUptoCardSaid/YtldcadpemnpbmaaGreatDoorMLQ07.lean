import Derived.Test.YtldcadpemnpbmaaGreatDoorMLZz
import Derived.Test.YtldcadpemnpbmaaGreatDoorMLQ06
import Derived.Test.YtldcadpemnpbmaaGreatDoorMLQ05
import Derived.Deep.RegionLaw
import Derived.Deep.CutRange
import Derived.Laws.Rows
import Derived.RangeFuncOwn
import Derived.BigCall
import Derived.BigQuiet
import Derived.Deep.QuietTactic
import Derived.Test.YtldcadpemnpbmaaGreatDoorMLQ01
import Derived.Deep.RegionHeld3
import Derived.Test.YtldcadpemnpbmaaGreatDoorMLQ04
import Derived.Maps.RangeRun
import Derived.MapKept
set_option linter.unusedVariables false
namespace Go.Proofs.YtldcadpemnpbmaaGreatDoor
theorem getF_exact (l:List UInt8):(getF l).2=0∨putB (getF l).1=l.take (getF l).2:=by
 have key:∀ (f:Nat) (l:List UInt8) (k:Nat),scan f l=some k→k<l.length∧High l k∧(l.getD k 0).toNat<128:=by
  intro f
  induction f with
  |zero=>intro l k h;cases h
  |succ f ih=>
   intro l k h
   cases l with
   |nil=>cases h
   |cons c r=>
    rw [scan] at h
    split at h
    ·rename_i hc
     simp at h
     subst h
     exact ⟨by simp,High.zero _,by simpa using hc⟩
    ·rename_i hc
     rw [Option.map_eq_some_iff] at h
     obtain ⟨j,hj,rfl⟩:=h
     obtain ⟨h1,h2,h3⟩:=ih r j hj
     refine ⟨by simp;omega,fun i hi=> ?_,by simpa using h3⟩
     cases i with
     |zero=>simp;omega
     |succ i=>simpa using h2 i (by omega)
 unfold getF
 rcases hs:scan 9 l with _|k
 ·exact .inl rfl
 ·obtain ⟨h1,h2,h3⟩:=key 9 l k hs
  have hd:∀ j,j<k+1→(l.take (k+1)).getD j 0=l.getD j 0:=fun j hj=>by
   rw [List.getD_eq_getElem?_getD,List.getElem?_take_of_lt hj,← List.getD_eq_getElem?_getD]
  simp only
  split
  ·exact .inl rfl
  ·rename_i hne
   refine .inr ?_
   simp only
   refine (putB_valB (k:=k) (l:=l.take (k+1)) (by rw [List.length_take];omega) (fun j hj=> ?_) ?_ ?_).1
   ·rw [hd j (by omega)]
    exact h2 j hj
   ·rw [hd k (by omega)]
    exact h3
   ·rw [hd k (by omega)]
    omega
theorem getZ_exact {b:List UInt8} {a:Nat} {d q:Int} (h:getZ b (a:Int)=(d,q,0)):
  ∃ n k:Nat,d=(n:Int)∧q=(k:Int)∧a≤k∧k≤b.length∧b.take k=b.take a++putB n:=by
 unfold getZ at h
 split at h
 ·simp at h
 ·rename_i h0
  rw [Int.toNat_natCast] at h
  split at h
  ·simp at h
  ·rename_i h1
   simp only [Prod.mk.injEq,and_true] at h
   obtain ⟨hd,hq⟩:=h
   have hbd:=(getF_bd (b.drop a)).2.1
   rw [List.length_drop] at hbd
   refine ⟨_,a+(getF (b.drop a)).2,hd.symm,by rw [← hq];simp,by omega,by omega,?_⟩
   rcases getF_exact (b.drop a) with h2|h2
   ·exact absurd h2 h1
   ·rw [h2,List.take_add]
theorem takeR_exact {b:List UInt8}:∀ (m:Nat) (last:Int) (a:Nat) (acc xs:List Int) (q:Nat),takeR b m last a acc=some (xs,q)→a≤b.length→
  ∃ ys,xs=acc++ys∧ys.length=m∧risesZ last ys=true∧a≤q∧q≤b.length∧b.take q=b.take a++dB last ys
 |0,last,a,acc,xs,q,h,ha=>by
  simp only [takeR,Option.some.injEq,Prod.mk.injEq] at h
  obtain ⟨rfl,rfl⟩:=h
  exact ⟨[],by simp,rfl,rfl,Nat.le_refl _,ha,by simp [dB]⟩
 |m+1,last,a,acc,xs,q,h,ha=>by
  rw [takeR] at h
  split at h
  ·cases h
  ·rename_i h0
   have hbd:=(getF_bd (b.drop a)).2.1
   rw [List.length_drop] at hbd
   obtain ⟨ys,h1,h2,h3,h4,h5,h6⟩:=takeR_exact m _ _ _ _ _ h (by omega)
   have hx:putB (getF (b.drop a)).1=(b.drop a).take (getF (b.drop a)).2:=by
    rcases getF_exact (b.drop a) with h2|h2
    ·exact absurd (.inl h2) h0
    ·exact h2
   refine ⟨(last+(((getF (b.drop a)).1:Int)+1))::ys,by rw [h1];simp,by simp [h2],?_,by omega,h5,?_⟩
   ·rw [risesZ,h3,Bool.and_true,decide_eq_true_iff]
    omega
   ·rw [h6,List.take_add,dB,show (last+(((getF (b.drop a)).1:Int)+1)-(last+1)).toNat=(getF (b.drop a)).1 by omega,hx,List.append_assoc]
theorem risZ_exact {b:List UInt8} {a:Nat} {ps:List Int} {q:Int} (h:risZ b (a:Int)=(ps,q,0)):
  ∃ k:Nat,q=(k:Int)∧a≤k∧k≤b.length∧risesZ (-1) ps=true∧b.take k=b.take a++putR ps:=by
 unfold risZ at h
 split at h
 ·rename_i h0
  obtain ⟨d,q2,e,hz⟩:∃ d q2 e,getZ b (a:Int)=(d,q2,e):=⟨_,_,_,rfl⟩
  rw [hz] at h h0
  simp only at h h0
  subst h0
  obtain ⟨n,k,rfl,rfl,hak,hkb,hk⟩:=getZ_exact hz
  rw [Int.toNat_natCast,Int.toNat_natCast] at h
  rcases ht:takeR b n (-1) k [] with _|⟨xs,q'⟩
  ·rw [ht] at h;simp at h
  ·rw [ht] at h
   simp only [Prod.mk.injEq,and_true] at h
   obtain ⟨rfl,rfl⟩:=h
   obtain ⟨ys,h1,h2,h3,h4,h5,h6⟩:=takeR_exact _ _ _ _ _ _ ht hkb
   rw [List.nil_append] at h1
   subst h1
   exact ⟨q',rfl,by omega,h5,h3,by rw [h6,hk,putR,h2,List.append_assoc]⟩
 ·rename_i h0
  simp only [Prod.mk.injEq] at h
  exact absurd h.2.2 h0
def Stands (b:List UInt8) (last:Int) (a:Nat) (g:List Po):Prop:=
 mayB' last g=true∧a+(bytesP last g).length≤b.length∧b.take (a+(bytesP last g).length)=b.take a++bytesP last g
theorem Stands.nil {b:List UInt8} {last:Int} {a:Nat} (h:a≤b.length):Stands b last a []:=⟨rfl,by simpa [bytesP] using h,by simp [bytesP]⟩
theorem Stands.split {b:List UInt8} {last:Int} {a:Nat} {g:List Po} (h:Stands b last a g):b=b.take a++(bytesP last g++b.drop (a+(bytesP last g).length)):=by
 have :=(List.take_append_drop (a+(bytesP last g).length) b).symm
 rw [h.2.2,List.append_assoc] at this
 exact this
theorem bytes_placesA:∀ (l:List Po) (last:Int) (p:Po),p∈l→p.2.length≤(bytesP last l).length
 |[],_,p,h=>by cases h
 |q::r,last,p,h=>by
  have hd:∀ (ps:List Int) (x:Int),ps.length≤(dB x ps).length:=by
   intro ps
   induction ps with
   |nil=>simp
   |cons a t ih=>
    intro x
    have :=ih a
    have :=putB_pos (a-(x+1)).toNat
    rw [dB,List.length_append,List.length_cons]
    omega
  rw [bytesP,List.length_append,List.length_append]
  rcases List.mem_cons.1 h with rfl|h
  ·have :=hd p.2 (-1)
   rw [putR,List.length_append]
   omega
  ·have :=bytes_placesA r q.1 p h
   omega
theorem drop_poA {l:List Po} {k:Nat} (hk:k<l.length):l.drop k=l.getD k (0,[])::l.drop (k+1):=by
 rw [List.drop_eq_getElem_cons hk,List.getD_eq_getElem?_getD,List.getElem?_eq_getElem hk]
 rfl
theorem stands_next {b:List UInt8} {last:Int} {a:Nat} {g:List Po} (h:Stands b last a g) (h0: -1≤last) {k:Nat} (hk:k<g.length) (hb:b.length≤400000000000):
  ∃ a2:Nat,getZ b (((a+(bytesP last (g.take k)).length:Nat)):Int)=((g.getD k (0,[])).1-(docOf last (g.take k)+1),(a2:Int),0)∧
   risZ b (a2:Int)=((g.getD k (0,[])).2,(((a+(bytesP last (g.take (k+1))).length:Nat)):Int),0)∧ -1≤docOf last (g.take k)∧docOf last (g.take k)<(g.getD k (0,[])).1∧(g.getD k (0,[])).1<2147483648∧placesB (g.getD k (0,[])).2=true∧g.take (k+1)=g.take k++[((g.getD k (0,[])).1,(g.getD k (0,[])).2)]:=by
 have hspl:=h.split
 obtain ⟨h1,h2,h3⟩:=h
 have hsp:g=g.take k++(g.getD k (0,[])::g.drop (k+1)):=by rw [← drop_poA hk,List.take_append_drop]
 have hm:=h1
 rw [hsp,mayB'_append,Bool.and_eq_true] at hm
 obtain ⟨m1,m2⟩:=hm
 obtain ⟨m3,m4,m5,m6⟩:=mayB'_cons.1 m2
 have hge:=docOf_ge _ _ m1
 have hpl:=bytes_placesA g last (g.getD k (0,[])) (by rw [List.getD_eq_getElem?_getD,List.getElem?_eq_getElem hk];simp)
 have hts:g.take (k+1)=g.take k++[g.getD k (0,[])]:=by
  rw [List.take_succ_eq_append_getElem hk,List.getD_eq_getElem?_getD,List.getElem?_eq_getElem hk]
  rfl
 obtain ⟨q,hq⟩:∃ q,q=g.getD k (0,[]):=⟨_,rfl⟩
 rw [← hq] at m3 m4 m5 m6 hsp hts hpl
 rw [← hq]
 obtain ⟨d,ps⟩:=q
 have hta:(b.take a).length=a:=by rw [List.length_take];omega
 obtain ⟨g1,g2⟩:=get_posting (pre:=b.take a++bytesP last (g.take k)) (post:=b.drop (a+(bytesP last g).length)) (r:=g.drop (k+1)) (by omega) m3 m4 m5 (by have h9:ps.length≤(bytesP last g).length:=hpl;omega)
 have hbe:(b.take a++bytesP last (g.take k))++(bytesP (docOf last (g.take k)) ((d,ps)::g.drop (k+1))++b.drop (a+(bytesP last g).length))=b:=by
  have e1:bytesP last (g.take k)++bytesP (docOf last (g.take k)) ((d,ps)::g.drop (k+1))=bytesP last g:=by rw [← bytesP_append,← hsp]
  have e2:(b.take a++bytesP last (g.take k))++(bytesP (docOf last (g.take k)) ((d,ps)::g.drop (k+1))++b.drop (a+(bytesP last g).length))=b.take a++((bytesP last (g.take k)++bytesP (docOf last (g.take k)) ((d,ps)::g.drop (k+1)))++b.drop (a+(bytesP last g).length)):=by simp only [List.append_assoc]
  rw [e2,e1]
  exact hspl.symm
 rw [hbe,List.length_append,hta] at g1 g2
 refine ⟨_,g1,?_,by omega,m3,m4,m5,hts⟩
 rw [g2,hts,bytesP_append]
 simp [bytesP,Nat.add_assoc]
theorem stands_step {b:List UInt8} {last:Int} {a:Nat} {acc:List Po} (h:Stands b last a acc) (h0: -1≤docOf last acc) {d q2 q3:Int} {ps:List Int}
  (hz:getZ b (((a+(bytesP last acc).length:Nat)):Int)=(d,q2,0)) (hr:risZ b q2=(ps,q3,0)) (hd:d+(docOf last acc+1)<2147483648) (hp:placesB ps=true):
  Stands b last a (acc++[(d+(docOf last acc+1),ps)])∧q3=((a+(bytesP last (acc++[(d+(docOf last acc+1),ps)])).length:Nat):Int):=by
 obtain ⟨n,k,rfl,rfl,hak,hkb,hk⟩:=getZ_exact hz
 obtain ⟨k2,rfl,hkk,hkb2,hris,hk2⟩:=risZ_exact hr
 obtain ⟨h1,h2,h3⟩:=h
 obtain ⟨x,hx⟩:∃ x,x=docOf last acc:=⟨_,rfl⟩
 rw [← hx] at h0 hd
 rw [← hx]
 have hby:bytesP last (acc++[((n:Int)+(x+1),ps)])=bytesP last acc++(putB n++putR ps):=by
  rw [bytesP_append,← hx]
  simp only [bytesP,List.append_nil]
  rw [show ((n:Int)+(x+1)-(x+1)).toNat=n by omega]
 have hlen:k2=a+(bytesP last (acc++[((n:Int)+(x+1),ps)])).length:=by
  have e1:=congrArg List.length hk
  have e2:=congrArg List.length hk2
  rw [List.length_append,List.length_take,List.length_take] at e1 e2
  rw [hby,List.length_append,List.length_append]
  omega
 refine ⟨⟨?_,by omega,?_⟩,by rw [← hlen]⟩
 ·rw [mayB'_append,h1,Bool.true_and,← hx]
  exact mayB'_cons.2 ⟨by simp only;omega,by simp only;omega,hp,rfl⟩
 ·rw [← hlen,hk2,hk,h3,hby]
  simp only [List.append_assoc]
theorem docOf_step {last:Int} {acc:List Po} {y:Int} {ps:List Int}:docOf last (acc++[(y,ps)])=y:=by rw [docOf_append];rfl
def placesOn:Int→List Int→Bool
 |_,[]=>true
 |last,n::r=>decide (last<n)&&decide (n<2147483648)&&placesOn n r
theorem placesOn_eq:∀ (ps:List Int) (last:Int),ps≠[]→placesOn last ps=(risesZ last ps&&decide (ps.getLastD 0<2147483648))
 |[],_,h=>absurd rfl h
 |[n],last,_=>by simp [placesOn,risesZ]
 |n::m::r,last,_=>by
  have ih:=placesOn_eq (m::r) n (by simp)
  have e:(n::m::r).getLastD 0=(m::r).getLastD 0:=by simp [List.getLastD]
  rw [placesOn,risesZ,ih,e]
  rcases h1:risesZ n (m::r) with _|_
  ·simp
  ·by_cases h2:(m::r).getLastD 0<2147483648
   ·have :=(rises_le_last h1 ((m::r).getLastD 0) (lastD_mem (by simp))).1
    have h3:n<2147483648:=by omega
    simp [h3]
   ·rw [decide_eq_false h2]
    simp
theorem placesB_on (ps:List Int):placesB ps=(placesOn (-1) ps&&decide (0<ps.length)):=by
 by_cases h:ps=[]
 ·subst h;rfl
 ·unfold placesB
  rw [placesOn_eq ps (-1) h]
  have hl:0<ps.length:=List.length_pos_iff.2 h
  have he:ps.isEmpty=false:=by simpa using h
  rw [he]
  simp [hl]
theorem placesOn_cut {last:Int} {ps:List Int} {k:Nat} (hk:k<ps.length):placesOn last (ps.drop k)=(decide (last<ps.getD k 0)&&decide (ps.getD k 0<2147483648)&&placesOn (ps.getD k 0) (ps.drop (k+1))):=by
 rw [List.drop_eq_getElem_cons hk,placesOn,List.getD_eq_getElem?_getD,List.getElem?_eq_getElem hk]
 rfl
def endsC (l:List Po):Nat→List (Int × Nat)
 |0=>[]
 |k+1=>endsC l k++[(docOf (-1) (l.take (8*(k+1))),(bytesP (-1) (l.take (8*(k+1)))).length)]
theorem endsC_length (l:List Po):∀ n,(endsC l n).length=n
 |0=>rfl
 |k+1=>by rw [endsC,List.length_append,endsC_length l k];rfl
theorem endsC_at (l:List Po):∀ (n k:Nat),k<n→(endsC l n)[k]?=some (docOf (-1) (l.take (8*(k+1))),(bytesP (-1) (l.take (8*(k+1)))).length)
 |0,_,h=>by omega
 |n+1,k,h=>by
  rw [endsC]
  by_cases e:k=n
  ·subst e
   rw [List.getElem?_append_right (by rw [endsC_length];exact Nat.le_refl _),endsC_length,Nat.sub_self]
   rfl
  ·rw [List.getElem?_append_left (by rw [endsC_length];omega)]
   exact endsC_at l n k (by omega)
theorem endsC_append {l b:List Po}:∀ {n:Nat},8*n≤l.length→endsC (l++b) n=endsC l n
 |0,_=>rfl
 |k+1,h=>by
  rw [endsC,endsC,endsC_append (by omega),List.take_append_of_le_length h]
theorem blocksP_push {l b:List Po} {n:Nat} (hl:l.length=8*n) (h0:0<b.length) (h8:b.length≤8):blocksP l.length=n∧blocksP (l++b).length=n+1:=by
 unfold blocksP
 rw [List.length_append]
 omega
theorem endsC_push {l b:List Po} {n:Nat} (hl:l.length=8*n) (h0:0<b.length) (h8:b.length≤8):endsC (l++b) (n+1)=endsC l n++[(docOf (-1) (l++b),(bytesP (-1) (l++b)).length)]:=by
 rw [endsC,endsC_append (by omega),List.take_of_length_le (by rw [List.length_append];omega)]
theorem totalP_append:∀ (a b:List Po),totalP (a++b)=totalP a+totalP b
 |[],b=>by simp [totalP]
 |p::r,b=>by simp [totalP,totalP_append r b,Nat.add_assoc]
theorem docOf_some:∀ {b:List Po} {x y:Int},b≠[]→docOf x b=docOf y b
 |[],_,_,h=>absurd rfl h
 |p::r,_,_,_=>rfl
theorem lastP_end {l:List Po} {k:Nat} (hk:k<blocksP l.length):lastP l (k:Int)=docOf (-1) (l.take (8*(k+1))):=by
 have h:=blockP_some hk
 rw [blocks_all,docOf_append]
 exact docOf_some (List.length_pos_iff.1 h)
theorem block_stands {l:List Po} {k:Nat} (hk:k<blocksP l.length) (hm:mayB' (-1) l=true):Stands (bytesP (-1) l) (docOf (-1) (l.take (8*k))) (bytesP (-1) (l.take (8*k))).length (blockP l (k:Int)):=by
 have hsp:l=l.take (8*k)++(blockP l (k:Int)++l.drop (8*(k+1))):=by
  rw [← List.append_assoc,← blocks_all,List.take_append_drop]
 have hb:bytesP (-1) l=bytesP (-1) (l.take (8*k))++(bytesP (docOf (-1) (l.take (8*k))) (blockP l (k:Int))++bytesP (docOf (docOf (-1) (l.take (8*k))) (blockP l (k:Int))) (l.drop (8*(k+1)))):=by
  conv=>lhs;rw [hsp]
  rw [bytesP_append,bytesP_append]
 have hm2:=hm
 rw [hsp,mayB'_append,mayB'_append,Bool.and_eq_true,Bool.and_eq_true] at hm2
 obtain ⟨a,ha⟩:∃ a,a=bytesP (-1) (l.take (8*k)):=⟨_,rfl⟩
 obtain ⟨c,hc⟩:∃ c,c=bytesP (docOf (-1) (l.take (8*k))) (blockP l (k:Int)):=⟨_,rfl⟩
 rw [← ha,← hc] at hb
 refine ⟨hm2.2.1,?_,?_⟩
 ·rw [← ha,← hc,hb];simp
 ·rw [← ha,← hc,hb,List.take_left,← List.append_assoc,← List.length_append,List.take_left]
end Go.Proofs.YtldcadpemnpbmaaGreatDoor
set_option linter.unusedVariables false
namespace Go.Proofs.YtldcadpemnpbmaaGreatDoor
open Go Go.RowKit
def ahead (l:List Int) (k:Nat):Int:=if k=0 then-1 else l.getD (k-1) 0
theorem risesZ_drop {l:List Int} {k:Nat} (hk:k<l.length) (last:Int):risesZ last (l.drop k)=(decide (last<l.getD k 0)&&risesZ (l.getD k 0) (l.drop (k+1))):=by
 rw [List.drop_eq_getElem_cons hk,risesZ,List.getD_eq_getElem?_getD,List.getElem?_eq_getElem hk]
 rfl
theorem risesZ_end {l:List Int} {k:Nat} (hk:l.length≤k) (last:Int):risesZ last (l.drop k)=true:=by rw [List.drop_eq_nil_of_le hk];rfl
theorem row_int' {w:World} {B:Nat} {A:Option Addr} {xs:List Int} (h:Row w B A (ints xs)) {k:Nat} (hk:k<xs.length):
  ∃ b off,A=some ⟨b,off,none⟩∧b<B∧w.cell? ⟨b,off+k,none⟩=some (.int .i64 (xs.getD k 0)):=by
 obtain ⟨b,off,h1,h2,h3⟩:=row_int h hk
 refine ⟨b,off,h1,h2,?_⟩
 rw [h3,List.getD_eq_getElem?_getD,List.getElem?_eq_getElem hk]
 rfl
theorem dB_drop {l:List Int} {k:Nat} (hk:k<l.length) (last:Int):dB last (l.drop k)=putB (l.getD k 0-(last+1)).toNat++dB (l.getD k 0) (l.drop (k+1)):=by
 rw [List.drop_eq_getElem_cons hk,dB,List.getD_eq_getElem?_getD,List.getElem?_eq_getElem hk]
 rfl
theorem dB_end {l:List Int} {k:Nat} (hk:l.length≤k) (last:Int):dB last (l.drop k)=[]:=by rw [List.drop_eq_nil_of_le hk];rfl
end Go.Proofs.YtldcadpemnpbmaaGreatDoor
set_option linter.unusedVariables false
namespace Go.Proofs.YtldcadpemnpbmaaGreatDoor
open Go Go.RowKit
def endCells:List (Int × Nat)→List Value
 |[]=>[]
 |p::r=> .int .i64 p.1:: .int .i64 (p.2:Int)::endCells r
theorem endCells_length:∀ l:List (Int × Nat),(endCells l).length=l.length*2
 |[]=>rfl
 |p::r=>by simp only [endCells,List.length_cons,endCells_length r];omega
theorem endCells_append:∀ a b:List (Int × Nat),endCells (a++b)=endCells a++endCells b
 |[],b=>rfl
 |p::a,b=>by simp only [List.cons_append,endCells,endCells_append a b]
theorem endCells_at:∀ (l:List (Int × Nat)) (k:Nat) (p:Int × Nat),l[k]?=some p→(endCells l)[k*2]?=some (.int .i64 p.1)∧(endCells l)[k*2+1]?=some (.int .i64 (p.2:Int))
 |[],k,p,h=>by simp at h
 |q::l,0,p,h=>by
  simp only [List.getElem?_cons_zero,Option.some.injEq] at h
  subst h
  exact ⟨rfl,rfl⟩
 |q::l,k+1,p,h=>by
  rw [List.getElem?_cons_succ] at h
  have ih:=endCells_at l k p h
  rw [endCells,show (k+1)*2=k*2+1+1 by omega]
  exact ih
theorem info_end:(Tryz.prog.info? 240).map (fun i=>(i.zero,i.size,i.bytes))=some (some (.agg #[.int .i64 0,.int .i64 0]),2,16):=by kernel_rfl
def endsV (l:List Po):List Value:=endCells (endsC l (blocksP l.length))
theorem endsV_length (l:List Po):(endsV l).length=blocksP l.length*2:=by rw [endsV,endCells_length,endsC_length]
def LAt (w:World) (base B:Nat) (bs:List UInt8) (l:List Po):Prop:=
 base≤B∧∃ vb ve,w.heap[B]?=some (.cells #[vb,ve,.int .i64 (l.length:Int),.int .i64 (totalP l:Int)] 234 (0,0))∧
  w.ownsRow base 5 1 vb bs.length (Lib.byteCells bs)∧w.ownsRow base 240 2 ve (blocksP l.length) (endsV l)
theorem cell_four {w:World} {B:Nat} {a b c d:Value} {t:TypeId} (h:w.heap[B]?=some (.cells #[a,b,c,d] t (0,0))):
  (w.cell? ⟨B,0,none⟩=some a∧w.cell? ⟨B,1,none⟩=some b∧w.cell? ⟨B,2,none⟩=some c∧w.cell? ⟨B,3,none⟩=some d)∧
  w.frozen? ⟨B,0,none⟩=false∧w.frozen? ⟨B,1,none⟩=false∧w.frozen? ⟨B,2,none⟩=false∧w.frozen? ⟨B,3,none⟩=false:=by
 simp [World.cell?,World.frozen?,h]
section
variable {w w':World} {base B:Nat} {bs:List UInt8} {l:List Po}
theorem LAt.lt (h:LAt w base B bs l):B<w.heap.size:=by
 obtain ⟨_,vb,ve,hv,_⟩:=h
 exact (Array.getElem?_eq_some_iff.1 hv).1
theorem LAt.below (h:LAt w base B bs l) (hb:Below w.heap.size w w'):LAt w' base B bs l:=by
 have hl:=h.lt
 obtain ⟨h1,vb,ve,hv,ho,he⟩:=h
 exact ⟨h1,vb,ve,(hb.block B hl).trans hv,owned_below ho hb,owned_below he hb⟩
theorem LAt.cellsKept (h:LAt w base B bs l) (hk:∀ (k:Nat) (o:Obj),w.heap[k]?=some o→o.isCells=true→w'.heap[k]?=some o):LAt w' base B bs l:=by
 obtain ⟨h1,vb,ve,hv,ho,he⟩:=h
 have key:∀ {E:TypeId} {size:Nat} {v:Value} {n:Nat} {xs:List Value},w.ownsRow base E size v n xs→w'.ownsRow base E size v n xs:=fun ho=>by
  refine owned_keep ho fun g hg=> ?_
  rcases ho.2 with ⟨rfl,_⟩|⟨g',cap,cur,rfl,_,hh,_⟩
  ·cases hg
  ·simp only [Value.ownBlock,Option.some.injEq] at hg
   subst hg
   rw [hk _ _ hh rfl,hh]
 exact ⟨h1,vb,ve,hk B _ hv rfl,key ho,key he⟩
theorem LAt.read (h:LAt w base B bs l):∃ Ab cb Ae ce,(w.cell? ⟨B,0,none⟩=some (.slice Ab bs.length cb)∧w.cell? ⟨B,1,none⟩=some (.slice Ae (blocksP l.length) ce)∧w.cell? ⟨B,2,none⟩=some (.int .i64 (l.length:Int))∧w.cell? ⟨B,3,none⟩=some (.int .i64 (totalP l:Int)))∧
  bs.length≤cb∧cb≤maxLen∧blocksP l.length≤ce∧Row w w.heap.size Ab (Lib.byteCells bs)∧Row w w.heap.size Ae (endsV l)∧(Ab=none→bs.length=0∧cb=0):=by
 obtain ⟨_,vb,ve,hv,ho,he⟩:=h
 have hx:=(cell_four hv).1
 obtain ⟨Ae,ce,rfl,hce,hre⟩:=owned_row he
 rcases ho.2 with ⟨rfl,h0⟩|⟨g,c,cur,rfl,_,_,hnc,hcm,_,_⟩
 ·exact ⟨none,0,Ae,ce,by rw [h0];exact hx,by omega,by unfold maxLen;omega,hce,by rw [List.eq_nil_of_length_eq_zero h0];exact Row.nil,hre,fun _=>⟨h0,rfl⟩⟩
 ·exact ⟨_,c,Ae,ce,hx,hnc,hcm,hce,owned_row_of ho,hre,fun e=>by cases e⟩
end
def LIn (w:World) (B:Nat) (bs:List UInt8) (l:List Po):Prop:=
 B<w.heap.size∧∃ Ab cb Ae ce,(w.cell? ⟨B,0,none⟩=some (.slice Ab bs.length cb)∧w.cell? ⟨B,1,none⟩=some (.slice Ae (blocksP l.length) ce)∧w.cell? ⟨B,2,none⟩=some (.int .i64 (l.length:Int))∧w.cell? ⟨B,3,none⟩=some (.int .i64 (totalP l:Int)))∧
  bs.length≤cb∧cb≤maxLen∧blocksP l.length≤ce∧Row w w.heap.size Ab (Lib.byteCells bs)∧Row w w.heap.size Ae (endsV l)
theorem LAt.in_ {w:World} {base B:Nat} {bs:List UInt8} {l:List Po} (h:LAt w base B bs l):LIn w B bs l:=by
 obtain ⟨Ab,cb,Ae,ce,h1,h2,h3,h4,h5,h6,_⟩:=h.read
 exact ⟨h.lt,Ab,cb,Ae,ce,h1,h2,h3,h4,h5,h6⟩
theorem LIn.below {w w':World} {B:Nat} {bs:List UInt8} {l:List Po} (h:LIn w B bs l) (hb:Below w.heap.size w w'):LIn w' B bs l:=by
 obtain ⟨hl,Ab,cb,Ae,ce,⟨c0,c1,c2,c3⟩,h2,h3,h4,h5,h6⟩:=h
 have hs:=hb.size
 refine ⟨by omega,Ab,cb,Ae,ce,⟨(hb.cell (p:=⟨B,0,none⟩) hl).trans c0,(hb.cell (p:=⟨B,1,none⟩) hl).trans c1,(hb.cell (p:=⟨B,2,none⟩) hl).trans c2,(hb.cell (p:=⟨B,3,none⟩) hl).trans c3⟩,h2,h3,h4,(h5.below hb).more hs,(h6.below hb).more hs⟩
theorem row_end {w:World} {D:Nat} {A:Option Addr} {l:List Po} (h:Row w D A (endsV l)) {k:Nat} (hk:k<blocksP l.length):
  ∃ b off,A=some ⟨b,off,none⟩∧b<D∧w.cell? ⟨b,off+k*2,none⟩=some (.int .i64 (docOf (-1) (l.take (8*(k+1)))))∧w.cell? ⟨b,off+k*2+1,none⟩=some (.int .i64 ((bytesP (-1) (l.take (8*(k+1)))).length:Int)):=by
 obtain ⟨b,off,rfl,hb,hc⟩:=h.at_ (by rw [endsV_length];omega)
 have h2:=endCells_at _ _ _ (endsC_at l (blocksP l.length) k hk)
 exact ⟨b,off,rfl,hb,hc _ _ h2.1,by rw [Nat.add_assoc];exact hc _ _ h2.2⟩
section
variable (B:Nat) (bs:List UInt8) (l:List Po) (w:World) (h:LIn w B bs l)
include h
theorem in_Blocks:Calls Tryz.prog 231 #[.pointer (some ⟨B,0,none⟩)] w fun e w'=>e= .returned (.int .i64 (blocksP l.length:Int))∧w=w':=by
 obtain ⟨_,Ab,cb,Ae,ce,⟨c0,c1,c2,c3⟩,_⟩:=h
 go_enter Tryz.func231,Tryz.ntmps231
 go_wp2
 go_ret
 exact ⟨rfl,rfl⟩
theorem in_ahead (k:Nat) (hk:k≤blocksP l.length) (hl:l.length≤1073741824):Calls Tryz.prog 230 #[.pointer (some ⟨B,0,none⟩),.int .i64 (k:Int)] w fun e w'=>
  e= .returned (.agg #[.int .i64 (docOf (-1) (l.take (8*k))),.int .i64 ((bytesP (-1) (l.take (8*k))).length:Int)])∧Below w.heap.size w w':=by
 have hlt:=h.1
 obtain ⟨_,Ab,cb,Ae,ce,⟨c0,c1,c2,c3⟩,_,_,hce,_,hre⟩:=h
 have hbl:blocksP l.length≤1073741824:=by unfold blocksP;omega
 clear c0 c2 c3
 rcases Nat.eq_zero_or_pos k with rfl|hpos
 ·go_enter Tryz.func230,Tryz.ntmps230
  go_wp2
  refine bodyPost_ret (results_cell_row (P:=Tryz.prog) rfl _ _ w.heap.size 240 _ (0,0) _ rfl (by first|rfl|exact heap_alloc_new _ _) Tryz.underlying240 rfl (by kernel_rfl)) rfl ?_
  exact ⟨rfl,by repeat (first|exact (Below.refl _ _).alloc (Nat.le_refl _) _|refine Below.setCell ?_ (by simp) _)⟩
 ·obtain ⟨j,rfl⟩:∃ j,k=j+1:=⟨k-1,by omega⟩
  obtain ⟨b,o,rfl,hb,e0,e1⟩:=row_end hre (k:=j) (by omega)
  obtain ⟨n,hn⟩:∃ n,n=blocksP l.length:=⟨_,rfl⟩
  rw [← hn] at c1 hk hce hbl
  obtain ⟨x,hx⟩:∃ x,x=docOf (-1) (l.take (8*(j+1))):=⟨_,rfl⟩
  obtain ⟨y,hy⟩:∃ y,y=(bytesP (-1) (l.take (8*(j+1)))).length:=⟨_,rfl⟩
  rw [← hx] at e0 ⊢
  rw [← hy] at e1 ⊢
  have hj:((j+1:Nat):Int)=(j:Int)+1:=by omega
  have hz:((j:Int)+1==0)=false:=by rw [beq_eq_false_iff_ne];omega
  rw [hj]
  have hjn:j<n:=by omega
  clear hn hx hy hre hj hk hpos
  go_enter Tryz.func230,Tryz.ntmps230
  go_wp2
  refine bodyPost_ret (results_cell_row (P:=Tryz.prog) rfl _ _ w.heap.size 240 _ (0,0) _ rfl (by first|rfl|exact heap_alloc_new _ _) Tryz.underlying240 rfl (by kernel_rfl)) rfl ?_
  exact ⟨rfl,by repeat (first|exact (Below.refl _ _).alloc (Nat.le_refl _) _|refine Below.setCell ?_ (by simp) _)⟩
end
section
variable (base B:Nat) (bs:List UInt8) (l:List Po) (w:World) (h:LAt w base B bs l)
include h
theorem list_Blocks:Calls Tryz.prog 231 #[.pointer (some ⟨B,0,none⟩)] w fun e w'=>e= .returned (.int .i64 (blocksP l.length:Int))∧w=w':=in_Blocks B bs l w h.in_
theorem list_ahead (k:Nat) (hk:k≤blocksP l.length) (hl:l.length≤1073741824):Calls Tryz.prog 230 #[.pointer (some ⟨B,0,none⟩),.int .i64 (k:Int)] w fun e w'=>
  e= .returned (.agg #[.int .i64 (docOf (-1) (l.take (8*k))),.int .i64 ((bytesP (-1) (l.take (8*k))).length:Int)])∧Below w.heap.size w w':=in_ahead B bs l w h.in_ k hk hl
end
end Go.Proofs.YtldcadpemnpbmaaGreatDoor
set_option linter.unusedVariables false
namespace Go.Proofs.YtldcadpemnpbmaaGreatDoor
open Go Go.RowKit
theorem cells3 {w:World} {b:Nat} {x y z:Value} {t:TypeId} (h:w.heap[b]?=some (.cells #[x,y,z] t (0,0))):w.cell? ⟨b,0,none⟩=some x∧w.cell? ⟨b,1,none⟩=some y∧w.cell? ⟨b,2,none⟩=some z:=by
 simp [World.cell?,h]
def RowT (t:TypeId) (w:World) (A:Option Addr):Prop:=A=none∨∃ b off cs fr,A=some ⟨b,off,none⟩∧w.heap[b]?=some (.cells cs t fr)
section
variable {t:TypeId} {w w':World} {A:Option Addr}
theorem RowT.keep (h:RowT t w A) (hk:∀ (k:Nat) (cs:Array Value) (fr:Nat × Nat),w.heap[k]?=some (.cells cs t fr)→w'.heap[k]?=some (.cells cs t fr)):RowT t w' A:=by
 rcases h with h|⟨b,off,cs,fr,e,hb⟩
 ·exact .inl h
 ·exact .inr ⟨b,off,cs,fr,e,hk _ _ _ hb⟩
theorem RowT.below (h:RowT t w A) (hb:Below w.heap.size w w'):RowT t w' A:=h.keep fun k _ _ hk=>(hb.block k (Array.getElem?_eq_some_iff.1 hk).1).trans hk
theorem rowT_own {base size n m c:Nat} {xs:List Value} (h:w.ownsRow base t size (.slice A n c) m xs):RowT t w A:=by
 rcases h.2 with ⟨hv,_⟩|⟨g,cap,cur,hv,_,hh,_⟩
 ·injection hv with hv;exact .inl hv
 ·injection hv with hv;exact .inr ⟨g,0,_,_,hv,hh⟩
end
def SegTyp (w:World) (S:Nat):Prop:=∀ (A1 A2 A3:Option Addr) (n1 c1 n2 c2 n3 c3:Nat),w.heap[S]?=some (.cells #[.slice A1 n1 c1,.slice A2 n2 c2,.slice A3 n3 c3] 167 (0,0))→RowT 3 w A1∧RowT 3 w A2∧RowT 245 w A3
structure PSmall (x:PartsP):Prop where
 ids:x.ids.length≤1048576
 keys:x.keys.length≤1048576
 lists:∀ l∈x.lists,l.length≤1000∧totalP l≤40000000000
structure SegAt (w:World) (S:Nat) (x:PartsP):Prop where
 cells:∃ A1 c1 A2 c2 A3 c3,w.heap[S]?=some (.cells #[.slice A1 x.ids.length c1,.slice A2 x.seqs.length c2,.slice A3 x.keys.length c3] 167 (0,0))∧x.ids.length≤c1∧x.seqs.length≤c2∧Row w w.heap.size A1 (ints x.ids)∧Row w w.heap.size A2 (ints x.seqs)
 dict:∃ bl:List Nat,DictR w S 2 x.keys bl∧∀ i (h:i<x.lists.length),∃ base,LAt w base (bl.getD i 0) (bytesP (-1) x.lists[i]) x.lists[i]
 may:mayPs x=true
 small:PSmall x
 typ:SegTyp w S
section
variable {w w':World} {S:Nat} {x:PartsP}
theorem SegAt.lt (h:SegAt w S x):S<w.heap.size:=by obtain ⟨bl,h,_⟩:=h.dict;exact h.lt
theorem SegAt.below (h:SegAt w S x) (hb:Below w.heap.size w w'):SegAt w' S x:=by
 have hlt:=h.lt
 obtain ⟨⟨A1,c1,A2,c2,A3,c3,h1,h2,h3,h4,h5⟩,⟨bl,h6,h7⟩,h8,h9,h10⟩:=h
 refine ⟨⟨A1,c1,A2,c2,A3,c3,(hb.block S hlt).trans h1,h2,h3,Row.later h4 hb,Row.later h5 hb⟩,⟨bl,h6.below hb,fun i hi=> ?_⟩,h8,h9,fun B1 B2 B3 n1 d1 n2 d2 n3 d3 hB=> ?_⟩
 ·obtain ⟨base,h⟩:=h7 i hi
  exact ⟨base,h.below hb⟩
 ·obtain ⟨k1,k2,k3⟩:=h10 B1 B2 B3 n1 d1 n2 d2 n3 d3 ((hb.block S hlt).symm.trans hB)
  exact ⟨k1.below hb,k2.below hb,k3.below hb⟩
theorem mayPs_iff {x:PartsP}:mayPs x=true↔x.ids.length=x.seqs.length∧x.keys.length=x.lists.length∧risesZ (-1) x.seqs=true∧risesN x.keys=true∧∀ l∈x.lists,mayL x.ids.length l=true:=by
 simp [mayPs]
theorem mayL_may {n:Nat} {l:List Pn} (h:mayL n l=true):mayB' (-1) l=true∧l≠[]:=by
 simp only [mayL,Bool.and_eq_true,decide_eq_true_eq] at h
 exact ⟨h.1,fun e=>h.2.1 (by rw [e];rfl)⟩
theorem SegAt.keys (h:SegAt w S x):x.keys.length=x.lists.length:=(mayPs_iff.1 h.may).2.1
end
def SegRiseRel (l:List Int) (w:World) (r last i:Value) (wr:World):Prop:=r= .bool false∧∃ (k:Nat) (x:Int),k≤l.length∧i= .int .i64 (k:Int)∧last= .int .i64 x∧risesZ x (l.drop k)=risesZ (-1) l∧Below w.heap.size w wr
set_option maxHeartbeats 1000000 in
set_option maxRecDepth 100000 in
theorem seg_rise (A:Option Addr) (n c:Nat) (l:List Int) (w:World) (hr:Row w w.heap.size A (ints l)) (hn:l.length=n) (hl:n≤9223372036854775807):
  Calls Tryz.prog 170 #[.slice A n c] w fun e w'=>e= .returned (.bool (risesZ (-1) l))∧Below w.heap.size w w':=by
 have HR:=Lib.hid hr
 clear hr
 obtain ⟨ans,hans⟩:∃ ans,ans=risesZ (-1) l:=⟨_,rfl⟩
 rw [← hans]
 have HA:=Lib.hid hans
 have HN:=Lib.hid hn
 clear hans hn
 go_enter Tryz.func170,Tryz.ntmps170
 go_wp2
 go_loopw [2,3,8] (fun r last i wr=>SegRiseRel l w r last i wr) (fun _ _ i _=>n-(intOf i).toNat)
 case atStart=>exact ⟨rfl,0, -1,Nat.zero_le _,rfl,rfl,rfl,Below.refl _ _⟩
 case round=>
  obtain ⟨rfl,k,x,hk,rfl,rfl,hx,hbw⟩:=hrel
  rw [HN.out] at hk
  by_cases hlt:k<n
  ·have hkl:k<l.length:=by rw [HN.out];exact hlt
   obtain ⟨b1,o1,rfl,_,hc1⟩:=row_int (HR.out.below hbw) hkl
   have hdr:l.drop k=l[k]::l.drop (k+1):=List.drop_eq_getElem_cons hkl
   rw [hdr,risesZ] at hx
   obtain ⟨y,hy⟩:∃ y,y=l[k]:=⟨_,rfl⟩
   rw [← hy] at hc1 hx
   have hi0:(0:Int)≤k:=by omega
   have hi1:(k:Int)<n:=by omega
   clear hy hdr
   by_cases hxy:y≤x
   ·have hv:ans=false:=by rw [HA.out,← hx,decide_eq_false (by omega)];rfl
    have d1:decide (y≤x)=true:=decide_eq_true hxy
    subst hv
    clear hx hkl hxy
    go_wp2
    go_ret
    exact ⟨rfl,hbw⟩
   ·have d1:decide (y≤x)=false:=decide_eq_false hxy
    rw [decide_eq_true (by omega),Bool.true_and] at hx
    have HX:=Lib.hid hx
    clear hx hkl hxy
    go_wp2
    go_roundw
    case rel=>exact ⟨rfl,k+1,y,by rw [HN.out];omega,by go_num,rfl,HX.out,hbw⟩
    case measure=>simp [intOf];omega
  ·have hv:ans=true:=by
    rw [HA.out,← hx,List.drop_of_length_le (by rw [HN.out];omega)]
    rfl
   subst hv
   clear hx
   go_wp2
   go_ret
   exact ⟨rfl,hbw⟩
section
variable {w:World} {S:Nat} {x:PartsP}
set_option maxHeartbeats 1000000 in
theorem seg_Len (h:SegAt w S x):Calls Tryz.prog 112 #[.pointer (some ⟨S,0,none⟩)] w fun e w'=>e= .returned (.int .i64 (x.ids.length:Int))∧Below w.heap.size w w':=by
 obtain ⟨A1,c1,A2,c2,A3,c3,h1,_⟩:=h.cells
 obtain ⟨q0,q1,q2⟩:=cells3 h1
 clear h h1
 go_enter Tryz.func112,Tryz.ntmps112
 go_wp2
 go_ret
 exact ⟨rfl,Below.refl _ _⟩
end
end Go.Proofs.YtldcadpemnpbmaaGreatDoor
namespace Go.Proofs.YtldcadpemnpbmaaGreatDoor
open Go Go.RowKit
set_option linter.unusedVariables false
theorem worth_more {l:List UInt8} {k:Nat} (hk:k<9) (hl:k<l.length):∃ q p v:Nat,128^k=q∧valB (l.take k)=v∧valB (l.take (k+1))=v+p∧(((l.getD k 0).toNat:Int)%128)*(q:Int)=(p:Int)∧p≤9151314442816847872∧v+p<9223372036854775808∧q≤72057594037927936:=by
 have h1:=valB_take hl
 have h2:=valB_take_lt l (k+1)
 have h3:=pow_bd hk
 have h4:(128:Nat)^(k+1)≤128^9:=Nat.pow_le_pow_right (by omega) (by omega)
 have h5:(128:Nat)^9=9223372036854775808:=by decide
 refine ⟨_,(l.getD k 0).toNat%128*128^k,_,rfl,rfl,h1,by simp,?_,by omega,h3⟩
 have :(l.getD k 0).toNat%128*128^k≤127*72057594037927936:=Nat.mul_le_mul (by omega) h3
 omega
theorem pow_next {k q:Nat} (h:128^k=q) (hk:k<8):128^(k+1)=q*128∧q*128≤72057594037927936:=by
 have h1:=pow_bd (i:=k+1) (by omega)
 rw [Nat.pow_succ,h] at h1 ⊢
 exact ⟨rfl,h1⟩
theorem row_drop {w:World} {B b off m c a:Nat} {l:List UInt8} (h:Row w B (some ⟨b,off,none⟩) (Lib.byteCells l)) (hm:l.length=m) (hc:m≤c) (ha:a≤m) (A:Option Addr) (hA:A=some ⟨b,off,none⟩∧c=a∨A=some ⟨b,off+a,none⟩):Row w B A (Lib.byteCells (l.drop a)):=by
 by_cases h0:a=m
 ·refine .inl ?_
  rw [List.drop_eq_nil_of_le (by omega)]
  rfl
 ·rcases hA with ⟨_,hA⟩|hA
  ·omega
  ·obtain ⟨b',o',h1,h2,h3⟩:=h.at_ (by rw [Lib.byteCells_length];omega)
   injection h1 with h1
   injection h1 with h1 h4
   subst h1 h4 hA
   refine .inr ⟨b,off+a,rfl,h2,fun j u hu=> ?_⟩
   have :=h3 (a+j) u (by rw [← hu];simp [Lib.byteCells])
   rwa [← Nat.add_assoc] at this
def GaveZ (z:Int × Int × Int) (w:World) (e:Ending) (w':World):Prop:=e= .returned (.tuple #[.int .i64 z.1,.int .i64 z.2.1,.int .i64 z.2.2])∧Below w.heap.size w w'
theorem getZ_split (l:List UInt8) (a:Int):(∃ e:Int,getZ l a=(0,0,e)∧(e=1∨e=2))∨∃ n b:Nat,getZ l a=((n:Int),(b:Int),0)∧b≤l.length∧n<9223372036854775808:=by
 by_cases h0:a<0∨(l.length:Int)<a
 ·exact .inl ⟨1,getZ_out h0,.inl rfl⟩
 ·obtain ⟨k,rfl⟩:∃ k:Nat,a=k:=⟨a.toNat,by omega⟩
  have hbd:=getF_bd (l.drop k)
  rw [List.length_drop] at hbd
  by_cases h2:(getF (l.drop k)).2=0
  ·exact .inl ⟨2,getZ_form (by omega) h2,.inr rfl⟩
  ·obtain ⟨j,hj⟩:∃ j,(getF (l.drop k)).2=j+1:=⟨(getF (l.drop k)).2-1,by omega⟩
   refine .inr ⟨(getF (l.drop k)).1,k+(j+1),?_,by omega,hbd.1⟩
   rw [getZ_ok (n:=(getF (l.drop k)).1) (k:=j) (by omega) (by rw [← hj])]
   simp
def outR:Option (List Int × Nat)→List Int × Int × Int
 |none=>([],0,2)
 |some p=>(p.1,(p.2:Int),0)
theorem risZ_err {l:List UInt8} {a e:Int} (hz:getZ l a=(0,0,e)) (he:e≠0):risZ l a=([],0,e):=by
 unfold risZ
 rw [hz,if_neg (by simpa using he)]
theorem risZ_ok {l:List UInt8} {a:Int} {n b:Nat} (hz:getZ l a=((n:Int),(b:Int),0)):risZ l a=outR (takeR l n (-1) b []):=by
 unfold risZ
 rw [hz]
 simp only [if_true,Int.toNat_natCast]
 rcases takeR l n (-1) b [] with _|⟨xs,q⟩<;>rfl
def GaveR (r:List Int × Int × Int) (w:World) (e:Ending) (w':World):Prop:=
 ∃ v,e= .returned (.tuple #[v,.int .i64 r.2.1,.int .i64 r.2.2])∧w'.ownsRow w.heap.size 3 1 v r.1.length (ints r.1)∧Below w.heap.size w w'
theorem takeR_length:∀ (many:Nat) (l:List UInt8) (x:Int) (a:Nat) (acc xs:List Int) (b:Nat),takeR l many x a acc=some (xs,b)→a≤l.length→xs.length+a≤acc.length+b∧b≤l.length
 |0,l,x,a,acc,xs,b,h,ha=>by
  simp only [takeR,Option.some.injEq,Prod.mk.injEq] at h
  obtain ⟨rfl,rfl⟩:=h
  exact ⟨Nat.le_refl _,ha⟩
 |m+1,l,x,a,acc,xs,b,h,ha=>by
  have hbd:=getF_bd (l.drop a)
  rw [List.length_drop] at hbd
  rw [takeR] at h
  split at h
  ·cases h
  ·have :=takeR_length m l _ _ _ xs b h (by omega)
   simp only [List.length_append,List.length_singleton] at this
   omega
theorem risZ_length (l:List UInt8) (a:Int):(risZ l a).1.length≤l.length:=by
 rcases getZ_split l a with ⟨e,hz,he⟩|⟨many,b,hz,hb,_⟩
 ·rw [risZ_err hz (by omega)];simp
 ·rw [risZ_ok hz]
  rcases h:takeR l many (-1) b [] with _|⟨xs,q⟩
  ·simp [outR]
  ·have :=takeR_length many l _ _ _ xs q h hb
   simp only [outR,List.length_nil] at this ⊢
   omega
end Go.Proofs.YtldcadpemnpbmaaGreatDoor
set_option linter.unusedVariables false
namespace Go.Proofs.YtldcadpemnpbmaaGreatDoor
open Go Go.RowKit
theorem own_more {base:Nat} {w':World} {v':Value} {a b:List UInt8} {m:Nat} (hm:b.length=m) (hown:w'.ownsRow base 5 1 v' (a.length+m) (Lib.byteCells a++Lib.byteCells b)):Own base w' v' (a++b):=by
 unfold Own
 rw [Lib.byteCells_append,List.length_append,hm]
 exact hown
theorem drop_po {l:List Po} {k:Nat} (hk:k<l.length):l.drop k=l.getD k (0,[])::l.drop (k+1):=by
 rw [List.drop_eq_getElem_cons hk,List.getD_eq_getElem?_getD,List.getElem?_eq_getElem hk]
 rfl
theorem quiet_below {w:World} {n:Nat} (B:Nat):Below B w (w.drewN n):=⟨rfl,rfl,rfl,Nat.le_refl _,fun _ _=>rfl⟩
theorem docOf_getD:∀ {l:List Po} {x:Int},0<l.length→docOf x l=(l.getD (l.length-1) (0,[])).1
 |[],_,h=>by simp at h
 |[p],x,_=>rfl
 |p::q::r,x,_=>by
  have ih:=docOf_getD (l:=q::r) (x:=p.1) (by simp)
  rw [docOf,ih]
  simp
theorem risZ_split (l:List UInt8) (a:Int):(∃ e:Int,risZ l a=([],0,e)∧e≠0)∨∃ (ps:List Int) (q:Nat),risZ l a=(ps,(q:Int),0)∧q≤l.length∧ps.length≤l.length:=by
 have hlen:=risZ_length l a
 rcases getZ_split l a with ⟨e,hz,he⟩|⟨n,b,hz,hb,_⟩
 ·exact .inl ⟨e,risZ_err hz (by omega),by omega⟩
 ·rw [risZ_ok hz] at hlen ⊢
  rcases h:takeR l n (-1) b [] with _|⟨xs,q⟩
  ·exact .inl ⟨2,rfl,by omega⟩
  ·rw [h] at hlen
   have :=takeR_length n l _ _ _ xs q h hb
   exact .inr ⟨xs,q,rfl,this.2,hlen⟩
theorem totalP_le:∀ {l:List Po} {n:Nat},(∀ p∈l,p.2.length≤n)→totalP l≤l.length*n
 |[],_,_=>by simp [totalP]
 |p::r,n,h=>by
  have h1:=h p (by simp)
  have h2:=totalP_le (l:=r) fun q hq=>h q (by simp [hq])
  rw [totalP,List.length_cons,Nat.add_mul,Nat.one_mul]
  omega
theorem totalP_take {l:List Po} {k:Nat} (hk:k<l.length):totalP (l.take (k+1))=totalP (l.take k)+(l.getD k (0,[])).2.length:=by
 have e:∀ (a b:List Po),totalP (a++b)=totalP a+totalP b:=by
  intro a
  induction a with
  |nil=>intro b;simp [totalP]
  |cons p r ih=>intro b;simp [totalP,ih,Nat.add_assoc]
 rw [List.take_succ_eq_append_getElem hk,e,List.getD_eq_getElem?_getD,List.getElem?_eq_getElem hk]
 simp [totalP]
theorem totalP_le_take {l:List Po} (k:Nat):totalP (l.take k)≤totalP l:=by
 have e:∀ (a b:List Po),totalP (a++b)=totalP a+totalP b:=by
  intro a
  induction a with
  |nil=>intro b;simp [totalP]
  |cons p r ih=>intro b;simp [totalP,ih,Nat.add_assoc]
 have h:=e (l.take k) (l.drop k)
 rw [List.take_append_drop] at h
 omega
end Go.Proofs.YtldcadpemnpbmaaGreatDoor
namespace Go.Proofs.YtldcadpemnpbmaaGreatDoor
open Go Go.RowKit
set_option linter.unusedVariables false
theorem cells4 {w:World} {b:Nat} {x y z u:Value} {t:TypeId} (h:w.heap[b]?=some (.cells #[x,y,z,u] t (0,0))):w.cell? ⟨b,0,none⟩=some x∧w.cell? ⟨b,1,none⟩=some y∧w.cell? ⟨b,2,none⟩=some z∧w.cell? ⟨b,3,none⟩=some u:=by
 simp [World.cell?,h]
end Go.Proofs.YtldcadpemnpbmaaGreatDoor
namespace Go.Proofs.YtldcadpemnpbmaaGreatDoor
open Go Go.RowKit
set_option linter.unusedVariables false
def PFew (x:PartsP):Prop:=x.ids.length≤9223372036854775807∧x.seqs.length≤9223372036854775807∧x.keys.length≤9223372036854775807∧x.lists.length≤9223372036854775807∧∀ l∈x.lists,l.length≤9223372036854775807∧∀ p∈l,p.2.length≤9223372036854775807
structure PAt (w:World) (B:Nat) (A1 A2 A3 A4:Option Addr) (x:PartsP):Prop where
 ids:Row w B A1 (ints x.ids)
 seqs:Row w B A2 (ints x.seqs)
 keys:Row w B A3 (strs x.keys)
 lists:LPosts w B A4 x.lists
theorem PAt.later {w w':World} {A1 A2 A3 A4:Option Addr} {x:PartsP} (h:PAt w w.heap.size A1 A2 A3 A4 x) (hb:Below w.heap.size w w'):PAt w' w'.heap.size A1 A2 A3 A4 x:=
 ⟨Row.later h.ids hb,Row.later h.seqs hb,Row.later h.keys hb,h.lists.later hb⟩
end Go.Proofs.YtldcadpemnpbmaaGreatDoor
set_option linter.unusedVariables false
namespace Go.Proofs.YtldcadpemnpbmaaGreatDoor
open Go Go.RowKit
open Go.ChangeMaps (setBlock)
def tV (t:Tm):Value:= .agg #[.string ⟨t.1.toArray⟩,.string ⟨t.2.toArray⟩]
theorem str_eq (a b:Nm):((⟨a.toArray⟩:ByteArray)==⟨b.toArray⟩)=decide (a=b):=by
 have h:((⟨a.toArray⟩:ByteArray)==⟨b.toArray⟩)=(a.toArray==b.toArray):=rfl
 rw [h,Bool.eq_iff_iff]
 simp
theorem run_equal_tm (s t:Tm) (w:World):(Op.equal 23 (tV s) (tV t)).run Tryz.prog w= .ok (decide (s=t)) w:=by
 have h:∀ d:Nat,(Op.equalIn (d+2) 23 (tV s) (tV t)).run Tryz.prog w= .ok (decide (s=t)) w:=fun d=>by
  simp only [Op.equalIn,tV,part]
  simp [run_underlying Tryz.underlying23,run_underlying Tryz.underlying9,Tryz.sizeOf9,Tryz.isAgg9,str_eq]
  obtain ⟨s1,s2⟩:=s
  obtain ⟨t1,t2⟩:=t
  by_cases h1:s1=t1<;>by_cases h2:s2=t2<;>simp [h1,h2]
 exact h 9998
theorem run_check_tm (em:Bool) (t:Tm) (w:World):(Instr.checkKey em 10000 23 (tV t)).run Tryz.prog w= .ok () w:=by
 have h:∀ d:Nat,(Instr.checkKey em (d+2) 23 (tV t)).run Tryz.prog w= .ok () w:=fun d=>by
  simp [Instr.checkKey,run_underlying Tryz.underlying23,run_underlying Tryz.underlying9,tV,part,Tryz.sizeOf9,Tryz.isAgg9]
 exact h 9998
theorem run_stays_tm (t:Tm) (w:World):(Instr.keyThatStays (tV t) (tV t)).run Tryz.prog w= .ok (tV t) w:=by
 have h:∀ d:Nat,Instr.sameBits (d+2) (tV t) (tV t)=true:=fun d=>by simp [Instr.sameBits,tV,str_eq]
 simp [Instr.keyThatStays,h 9998]
abbrev Ent:=Tm × Value
def entsM:Nat→List Ent→List MapEntry
 |_,[]=>[]
 |i,e::m=>{key:=tV e.1,val:=e.2,born:=i}::entsM (i+1) m
theorem entsM_length:∀ (m:List Ent) (i:Nat),(entsM i m).length=m.length
 |[],_=>rfl
 |e::m,i=>by simp [entsM,entsM_length m (i+1)]
theorem entsM_at:∀ {m:List Ent} {i k:Nat} (hk:k<m.length),(entsM i m)[k]?=some {key:=tV m[k].1,val:=m[k].2,born:=i+k}
 |[],_,_,h=>by simp at h
 |e::m,i,0,_=>rfl
 |e::m,i,k+1,h=>by
  have :=entsM_at (m:=m) (i:=i+1) (k:=k) (by simpa using h)
  simp only [entsM,List.getElem?_cons_succ,zC]
  rw [this,Nat.add_assoc,Nat.add_comm 1 k]
theorem entsM_append:∀ (m:List Ent) (e:Ent) (i:Nat),entsM i (m++[e])=entsM i m++[{key:=tV e.1,val:=e.2,born:=i+m.length}]
 |[],e,i=>rfl
 |x::m,e,i=>by
  simp only [List.cons_append,entsM,entsM_append m e (i+1),List.length_cons]
  rw [Nat.add_assoc,Nat.add_comm 1 m.length]
theorem entsM_set:∀ (m:List Ent) (e:Ent) (i k:Nat),entsM i (m.set k e)=(entsM i m).set k {key:=tV e.1,val:=e.2,born:=i+k}
 |[],e,i,k=>by simp [entsM]
 |x::m,e,i,0=>by simp [entsM]
 |x::m,e,i,k+1=>by
  simp only [zF,entsM,entsM_set m e (i+1) k]
  rw [Nat.add_assoc,Nat.add_comm 1 k]
def MapAt (w:World) (B:Nat) (m:List Ent):Prop:=w.heap[B]?=some (.map (entsM 0 m).toArray m.length)
def posM (m:List Ent) (t:Tm):Nat:=m.findIdx (fun e=>decide (e.1=t))
def valM (m:List Ent) (t:Tm):Value:=if h:posM m t<m.length then m[posM m t].2 else .slice none 0 0
def entM (m:List Ent) (t:Tm):List Ent:=if posM m t<m.length then m else m++[(t,.slice none 0 0)]
theorem posM_key {m:List Ent} {t:Tm} (h:posM m t<m.length):m[posM m t].1=t:=by
 have :=List.findIdx_getElem (p:=fun e:Ent=>decide (e.1=t)) (xs:=m) (w:=h)
 exact of_decide_eq_true this
theorem posM_entM (m:List Ent) (t:Tm):posM m t<(entM m t).length∧(entM m t)[posM m t]?=some (t,valM m t):=by
 unfold entM valM
 split
 ·rename_i h
  have e:=posM_key h
  refine ⟨h,?_⟩
  rw [List.getElem?_eq_getElem h]
  exact congrArg some (Prod.ext e rfl)
 ·rename_i h
  have hle:posM m t≤m.length:=List.findIdx_le_length
  have :posM m t=m.length:=by omega
  rw [this]
  simp
theorem run_asking:∀ (m:List Ent) (t:Tm) (w:World) (k i:Nat),(Instr.findAsking 23 (tV t) (entsM k m) i).run Tryz.prog w= .ok (if h:posM m t<m.length then some (i+posM m t,m[posM m t].2) else none) w
 |[],t,w,k,i=>by simp [entsM,Instr.findAsking,posM]
 |e::m,t,w,k,i=>by
  have ih:=run_asking m t w (k+1) (i+1)
  rw [entsM,Instr.findAsking]
  simp only [Sem.run_bind,run_equal_tm,Result.andThen]
  by_cases he:t=e.1
  ·have hp:posM (e::m) t=0:=by unfold posM;rw [List.findIdx_cons];simp [he]
   simp only [hp]
   simp [he]
  ·have he':¬ e.1=t:=fun h=>he h.symm
   have hp:posM (e::m) t=posM m t+1:=by unfold posM;rw [List.findIdx_cons];simp [he']
   simp only [he,decide_false,Bool.false_eq_true,if_false,ih]
   rw [Result.ok.injEq]
   refine ⟨?_,rfl⟩
   by_cases h:posM m t<m.length
   ·have h':posM (e::m) t<(e::m).length:=by rw [hp];simpa using h
    rw [dif_pos h,dif_pos h']
    simp only [hp,zC]
    rw [Nat.add_assoc,Nat.add_comm 1]
   ·have h':¬ posM (e::m) t<(e::m).length:=by rw [hp];simpa using h
    rw [dif_neg h,dif_neg h']
theorem run_find_tm (m:List Ent) (t:Tm) (w:World) (k:Nat):(Instr.findKey 23 (tV t) (entsM k m)).run Tryz.prog w= .ok (if h:posM m t<m.length then some (posM m t,m[posM m t].2) else none) w:=by
 have h1:=run_asking m t w k 0
 rw [Nat.zero_add] at h1
 cases m with
 |nil=>simp [Instr.findKey,run_underlying Tryz.underlying23,entsM,Instr.findNow,posM]
 |cons e m=>
  rw [← h1]
  simp [Instr.findKey,run_underlying Tryz.underlying23,entsM,Instr.findNow,Instr.sameNow]
theorem run_lookup_tm {w:World} {B:Nat} {m:List Ent} (h:MapAt w B m) (t:Tm):(Instr.lookup 260 (.map (some B)) (tV t) false).run Tryz.prog w= .ok (valM m t) w:=by
 unfold MapAt at h
 have hf:=run_find_tm m t w 0
 unfold valM
 by_cases hp:posM m t<m.length
 ·rw [dif_pos hp] at hf ⊢
  simp [Instr.lookup,run_underlying Tryz.underlying260,MapKept.run_getObj_map h,run_check_tm,hf,Result.andThen]
 ·rw [dif_neg hp] at hf ⊢
  simp [Instr.lookup,run_underlying Tryz.underlying260,MapKept.run_getObj_map h,run_check_tm,hf,Result.andThen,Tryz.zeroValue88]
theorem run_entry_tm {w:World} {B:Nat} {m:List Ent} (h:MapAt w B m) (t:Tm):∃ w',(Instr.mapEntry 260 (.map (some B)) (tV t)).run Tryz.prog w= .ok (.tuple #[valM m t,.int .i64 (posM m t:Int)]) w'∧MapAt w' B (entM m t)∧w.grownBy w' (some B):=by
 unfold MapAt at h
 have hf:=run_find_tm m t w 0
 unfold valM entM
 by_cases hp:posM m t<m.length
 ·rw [dif_pos hp] at hf ⊢
  rw [if_pos hp]
  have hk:=posM_key hp
  have he:=entsM_at (i:=0) hp
  rw [hk,Nat.zero_add] at he
  have hmod:(entsM 0 m).modify (posM m t) (fun e=>{e with key:=tV t})=entsM 0 m:=by
   apply List.ext_getElem?
   intro j
   rw [List.getElem?_modify]
   by_cases hj:posM m t=j
   ·subst hj;simp [he]
   ·simp [hj]
  refine ⟨setBlock w B (.map (entsM 0 m).toArray m.length),?_,ChangeMaps.heap_setBlock_same h _,?_⟩
  ·simp [Instr.mapEntry,run_underlying Tryz.underlying260,MapKept.run_getObj_map h,run_check_tm,hf,Result.andThen,he,run_stays_tm,MapKept.run_setObj_map _ h,hmod,goInt,setBlock]
  ·exact ⟨rfl,rfl,rfl,by simp [setBlock],fun k _ hk=>ChangeMaps.heap_setBlock_other h _ (fun e=>hk (by rw [e]))⟩
 ·rw [dif_neg hp] at hf ⊢
  rw [if_neg hp]
  have hle:posM m t≤m.length:=List.findIdx_le_length
  have hpe:posM m t=m.length:=by omega
  have hpush:(entsM 0 m).toArray.push {key:=tV t,val:= .slice none 0 0,born:=m.length}=(entsM 0 (m++[(t,.slice none 0 0)])).toArray:=by
   rw [entsM_append,Nat.zero_add,List.push_toArray]
  refine ⟨setBlock w B (.map (entsM 0 (m++[(t,Value.slice none 0 0)])).toArray (m++[(t,Value.slice none 0 0)]).length),?_,ChangeMaps.heap_setBlock_same h _,?_⟩
  ·rw [hpe,← hpush]
   simp [Instr.mapEntry,run_underlying Tryz.underlying260,MapKept.run_getObj_map h,run_check_tm,hf,Result.andThen,MapKept.run_setObj_map _ h,goInt,setBlock,Tryz.zeroValue88]
  ·exact ⟨rfl,rfl,rfl,by simp [setBlock],fun k _ hk=>ChangeMaps.heap_setBlock_other h _ (fun e=>hk (by rw [e]))⟩
theorem find_born:∀ (m:List Ent) (i k:Nat),k<m.length→(entsM i m).findIdx? (fun e=>((e.born:Nat):Int)==((i+k:Nat):Int))=some k
 |[],i,k,h=>by simp at h
 |e::m,i,0,_=>by rw [entsM,List.findIdx?_cons];simp
 |e::m,i,k+1,h=>by
  have ih:=find_born m (i+1) k (by simpa using h)
  rw [entsM,List.findIdx?_cons,if_neg (by simp;omega)]
  rw [show i+(k+1)=i+1+k by omega,ih]
  rfl
theorem run_stored_tm {w:World} {B:Nat} {m:List Ent} (h:MapAt w B m) {k:Nat} (hk:k<m.length) (v:Value):∃ w',(Instr.entryStore 260 (.map (some B)) (.int .i64 (k:Int)) v).run Tryz.prog w= .ok () w'∧MapAt w' B (m.set k (m[k].1,v))∧w.grownBy w' (some B):=by
 unfold MapAt at h
 have hb:=find_born m 0 k hk
 rw [Nat.zero_add] at hb
 have he:=entsM_at (i:=0) hk
 rw [Nat.zero_add] at he
 have hmod:(entsM 0 m).modify k (fun e=>{e with val:=v})=entsM 0 (m.set k (m[k].1,v)):=by
  rw [entsM_set,Nat.zero_add]
  apply List.ext_getElem?
  intro j
  rw [List.getElem?_modify,List.getElem?_set]
  by_cases hj:k=j
  ·subst hj
   have hkl:k<(entsM 0 m).length:=by rw [entsM_length];exact hk
   rw [he,if_pos rfl,if_pos hkl]
   simp
  ·simp [hj]
 refine ⟨setBlock w B (.map (entsM 0 (m.set k (m[k].1,v))).toArray (m.set k (m[k].1,v)).length),?_,ChangeMaps.heap_setBlock_same h _,?_⟩
 ·rw [← hmod]
  simp [Instr.entryStore,MapKept.run_getObj_map h,asInt,asIntOf,hb,MapKept.run_setObj_map _ h,Result.andThen,setBlock]
 ·exact ⟨rfl,rfl,rfl,by simp [setBlock],fun k _ hk=>ChangeMaps.heap_setBlock_other h _ (fun e=>hk (by rw [e]))⟩
section
variable {ops:Array Oper} {rest:List Oper} {o:Oper} {a:Act} {Q:Exit→Act→World→Prop}
theorem wpList_lookup_tm (w:World) (hg:o.guard=none) (x y:Operand) (hop:o.op=Op.lookup 260 x y false) (B:Nat) (m:List Ent) (t:Tm) (hx:a.eval x= .map (some B)) (hat:MapAt w B m) (hy:a.eval y=tV t)
  (hK:wpList Tryz.prog ops Q rest (a.put o.dst (valM m t)) w):wpList Tryz.prog ops Q (o::rest) a w:=by
 refine wpList_plain hg fun K' hK'=> ?_
 unfold Oper.wp
 simp [execOp,hop,hx,hy,run_lookup_tm hat,Result.andThen]
 exact hK' _ _ hK
theorem wpList_entry_tm (w:World) (hg:o.guard=none) (x y:Operand) (hop:o.op=Op.mapEntry 260 x y) (B:Nat) (m:List Ent) (t:Tm) (hx:a.eval x= .map (some B)) (hat:MapAt w B m) (hy:a.eval y=tV t)
  (hK:∀ w',MapAt w' B (entM m t)→w.grownBy w' (some B)→wpList Tryz.prog ops Q rest (a.put o.dst (.tuple #[valM m t,.int .i64 (posM m t:Int)])) w'):wpList Tryz.prog ops Q (o::rest) a w:=by
 refine wpList_plain hg fun K' hK'=> ?_
 obtain ⟨w',hrun,r1,r2⟩:=run_entry_tm hat t
 unfold Oper.wp
 simp [execOp,hop,hx,hy,hrun,Result.andThen]
 exact hK' _ _ (hK w' r1 r2)
theorem wpList_stored_tm (w:World) (hg:o.guard=none) (x y z:Operand) (hop:o.op=Op.entryStore 260 x y z) (B:Nat) (m:List Ent) (k:Nat) (hk:k<m.length) (v:Value) (hx:a.eval x= .map (some B)) (hat:MapAt w B m) (hy:a.eval y= .int .i64 (k:Int)) (hz:a.eval z=v)
  (hK:∀ w',MapAt w' B (m.set k (m[k].1,v))→w.grownBy w' (some B)→wpList Tryz.prog ops Q rest (a.put o.dst undef) w'):wpList Tryz.prog ops Q (o::rest) a w:=by
 refine wpList_plain hg fun K' hK'=> ?_
 obtain ⟨w',hrun,r1,r2⟩:=run_stored_tm hat hk v
 unfold Oper.wp
 simp [execOp,hop,hx,hy,hz,hrun,Result.andThen]
 exact hK' _ _ (hK w' r1 r2)
end
end Go.Proofs.YtldcadpemnpbmaaGreatDoor
