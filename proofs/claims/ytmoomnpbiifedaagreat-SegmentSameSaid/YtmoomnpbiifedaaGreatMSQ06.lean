import Derived.Test.YtmoomnpbiifedaaGreatMSQ02
import Derived.Test.YtmoomnpbiifedaaGreatMSQ01
import Derived.Deep.RegionLaw
import Derived.Deep.CutRange
import Derived.Test.YtmoomnpbiifedaaGreatMSQ05
import Derived.Laws.Rows
import Derived.RangeFuncOwn
import Derived.BigCall
import Derived.BigQuiet
import Derived.Deep.QuietTactic
import Derived.Shelf.SlSorted.Search
import Derived.Deep.RegionHeld3
import Derived.Deep.AppendLies
set_option linter.unusedVariables false
namespace Go.Proofs.YtmoomnpbiifedaaGreat
open Go Go.RowKit
def entP:List Nm→List Nat→List Value
 |x::l,v::vs=> .string ⟨x.toArray⟩:: .pointer (some ⟨v,0,none⟩)::entP l vs
 |_,_=>[]
theorem entP_nil (vs:List Nat):entP [] vs=[]:=by cases vs<;>rfl
theorem entP_length:∀ {l:List Nm} {vs:List Nat},vs.length=l.length→(entP l vs).length=l.length*2
 |[],vs,_=>by rw [entP_nil];rfl
 |x::l,[],h=>by simp at h
 |x::l,v::vs,h=>by
  have :=entP_length (l:=l) (vs:=vs) (by simpa using h)
  simp only [entP,List.length_cons,this]
  omega
theorem entP_at:∀ {l:List Nm} {vs:List Nat} {k:Nat} (hv:vs.length=l.length) (hk:k<l.length),(entP l vs)[k*2]?=some (.string ⟨l[k].toArray⟩)∧(entP l vs)[k*2+1]?=some (.pointer (some ⟨vs.getD k 0,0,none⟩))
 |[],_,_,_,h=>by simp at h
 |x::l,[],_,h,_=>by simp at h
 |x::l,v::vs,0,_,_=>⟨rfl,rfl⟩
 |x::l,v::vs,k+1,h,hk=>by
  have :=entP_at (l:=l) (vs:=vs) (k:=k) (by simpa using h) (by simpa using hk)
  rw [show (k+1)*2=k*2+1+1 by omega]
  simpa [entP] using this
theorem entP_snoc:∀ {l:List Nm} {vs:List Nat} {x:Nm} {v:Nat},vs.length=l.length→entP (l++[x]) (vs++[v])=entP l vs++[.string ⟨x.toArray⟩,.pointer (some ⟨v,0,none⟩)]
 |[],[],x,v,_=>rfl
 |[],_::_,_,_,h=>by simp at h
 |_::_,[],_,_,h=>by simp at h
 |y::l,u::vs,x,v,h=>by
  have :=entP_snoc (l:=l) (vs:=vs) (x:=x) (v:=v) (by simpa using h)
  simp only [List.cons_append,entP,this]
theorem entP_drop:∀ {l:List Nm} {vs:List Nat} (k:Nat),vs.length=l.length→(entP l vs).drop (k*2)=entP (l.drop k) (vs.drop k)
 |l,vs,0,_=>by simp
 |[],vs,k+1,_=>by simp [entP_nil]
 |x::l,[],k+1,h=>by simp at h
 |x::l,v::vs,k+1,h=>by
  rw [show (k+1)*2=k*2+1+1 by omega,List.drop_succ_cons,List.drop_succ_cons,entP,List.drop_succ_cons,List.drop_succ_cons]
  exact entP_drop k (by simpa using h)
theorem info_entryP:(Tryz.prog.info? 123).map (fun i=>(i.zero,i.size,i.bytes))=some (some (.agg #[.string ByteArray.empty,.pointer none]),2,24):=by kernel_rfl
def DictR (w:World) (B o:Nat) (l:List Nm) (vs:List Nat):Prop:=
 B<w.heap.size∧vs.length=l.length∧∃ A c,w.cell? ⟨B,o,none⟩=some (.slice A l.length c)∧l.length≤c∧c≤maxLen∧Row w w.heap.size A (entP l vs)∧(A=none∧l=[]∧c=0∨∃ g,A=some ⟨g,0,none⟩)
theorem DictR.below {w w':World} {B o:Nat} {l:List Nm} {vs:List Nat} (h:DictR w B o l vs) (hb:Below w.heap.size w w'):DictR w' B o l vs:=by
 obtain ⟨h1,h2,A,c,h3,h4,h5,h6,h7⟩:=h
 exact ⟨Nat.lt_of_lt_of_le h1 hb.size,h2,A,c,(hb.cell (p:=⟨B,o,none⟩) h1).trans h3,h4,h5,Row.later h6 hb,h7⟩
theorem DictR.lt {w:World} {B o:Nat} {l:List Nm} {vs:List Nat} (h:DictR w B o l vs):B<w.heap.size:=h.1
theorem DictR.read {w:World} {B o:Nat} {l:List Nm} {vs:List Nat} (h:DictR w B o l vs):
  ∃ A c,w.cell? ⟨B,o,none⟩=some (.slice A l.length c)∧l.length≤c∧c≤maxLen∧Row w w.heap.size A (entP l vs)∧(A=none∧l=[]∧c=0∨∃ g,A=some ⟨g,0,none⟩):=h.2.2
theorem DictR.ent {w:World} {B o:Nat} {l:List Nm} {vs:List Nat} (h:DictR w B o l vs) {k:Nat} (hk:k<l.length):
  ∃ b off c,w.cell? ⟨B,o,none⟩=some (.slice (some ⟨b,off,none⟩) l.length c)∧l.length≤c∧c≤maxLen∧b<w.heap.size∧w.cell? ⟨b,off+k*2,none⟩=some (.string ⟨l[k].toArray⟩)∧w.cell? ⟨b,off+k*2+1,none⟩=some (.pointer (some ⟨vs.getD k 0,0,none⟩)):=by
 obtain ⟨_,hv,A,c,h1,h2,h3,h4,_⟩:=h
 obtain ⟨b,off,rfl,hb,hc⟩:=h4.at_ (by rw [entP_length hv];omega)
 obtain ⟨g1,g2⟩:=entP_at hv hk
 exact ⟨b,off,c,h1,h2,h3,hb,hc _ _ g1,by have :=hc _ _ g2;rwa [← Nat.add_assoc] at this⟩
set_option maxHeartbeats 1000000 in
theorem dictP_Len (B o:Nat) (l:List Nm) (vs:List Nat) (w:World) (h:DictR w B o l vs):
  Calls Tryz.prog 92 #[.pointer (some ⟨B,o,none⟩)] w fun e w'=>e= .returned (.int .i64 (l.length:Int))∧w=w':=by
 obtain ⟨_,_,A,c,hc,_⟩:=h
 go_enter Tryz.func92,Tryz.ntmps92
 go_wp2
 go_ret
 exact ⟨rfl,rfl⟩
end Go.Proofs.YtmoomnpbiifedaaGreat
set_option linter.unusedVariables false
namespace Go.Proofs.YtmoomnpbiifedaaGreat
theorem getF_exact (l:List UInt8):(getF l).2=0∨putB (getF l).1=l.take (getF l).2:=by
 have key:∀ (f:Nat) (l:List UInt8) (k:Nat),scan f l=some k→k<l.length∧High l k∧(l.getD k 0).toNat<128:=by
  intro f
  induction f with
  |zero=>intro l k h;cases h
  |succ f ih=>
   intro l k h
   cases l with
   |nil=>cases h
   |cons c r=>
    rw [scan] at h
    split at h
    ·rename_i hc
     simp at h
     subst h
     exact ⟨by simp,High.zero _,by simpa using hc⟩
    ·rename_i hc
     rw [Option.map_eq_some_iff] at h
     obtain ⟨j,hj,rfl⟩:=h
     obtain ⟨h1,h2,h3⟩:=ih r j hj
     refine ⟨by simp;omega,fun i hi=> ?_,by simpa using h3⟩
     cases i with
     |zero=>simp;omega
     |succ i=>simpa using h2 i (by omega)
 unfold getF
 rcases hs:scan 9 l with _|k
 ·exact .inl rfl
 ·obtain ⟨h1,h2,h3⟩:=key 9 l k hs
  have hd:∀ j,j<k+1→(l.take (k+1)).getD j 0=l.getD j 0:=fun j hj=>by
   rw [List.getD_eq_getElem?_getD,List.getElem?_take_of_lt hj,← List.getD_eq_getElem?_getD]
  simp only
  split
  ·exact .inl rfl
  ·rename_i hne
   refine .inr ?_
   simp only
   refine (putB_valB (k:=k) (l:=l.take (k+1)) (by rw [List.length_take];omega) (fun j hj=> ?_) ?_ ?_).1
   ·rw [hd j (by omega)]
    exact h2 j hj
   ·rw [hd k (by omega)]
    exact h3
   ·rw [hd k (by omega)]
    omega
theorem getZ_exact {b:List UInt8} {a:Nat} {d q:Int} (h:getZ b (a:Int)=(d,q,0)):
  ∃ n k:Nat,d=(n:Int)∧q=(k:Int)∧a≤k∧k≤b.length∧b.take k=b.take a++putB n:=by
 unfold getZ at h
 split at h
 ·simp at h
 ·rename_i h0
  rw [Int.toNat_natCast] at h
  split at h
  ·simp at h
  ·rename_i h1
   simp only [Prod.mk.injEq,and_true] at h
   obtain ⟨hd,hq⟩:=h
   have hbd:=(getF_bd (b.drop a)).2.1
   rw [List.length_drop] at hbd
   refine ⟨_,a+(getF (b.drop a)).2,hd.symm,by rw [← hq];simp,by omega,by omega,?_⟩
   rcases getF_exact (b.drop a) with h2|h2
   ·exact absurd h2 h1
   ·rw [h2,List.take_add]
theorem takeR_exact {b:List UInt8}:∀ (m:Nat) (last:Int) (a:Nat) (acc xs:List Int) (q:Nat),takeR b m last a acc=some (xs,q)→a≤b.length→
  ∃ ys,xs=acc++ys∧ys.length=m∧risesZ last ys=true∧a≤q∧q≤b.length∧b.take q=b.take a++dB last ys
 |0,last,a,acc,xs,q,h,ha=>by
  simp only [takeR,Option.some.injEq,Prod.mk.injEq] at h
  obtain ⟨rfl,rfl⟩:=h
  exact ⟨[],by simp,rfl,rfl,Nat.le_refl _,ha,by simp [dB]⟩
 |m+1,last,a,acc,xs,q,h,ha=>by
  rw [takeR] at h
  split at h
  ·cases h
  ·rename_i h0
   have hbd:=(getF_bd (b.drop a)).2.1
   rw [List.length_drop] at hbd
   obtain ⟨ys,h1,h2,h3,h4,h5,h6⟩:=takeR_exact m _ _ _ _ _ h (by omega)
   have hx:putB (getF (b.drop a)).1=(b.drop a).take (getF (b.drop a)).2:=by
    rcases getF_exact (b.drop a) with h2|h2
    ·exact absurd (.inl h2) h0
    ·exact h2
   refine ⟨(last+(((getF (b.drop a)).1:Int)+1))::ys,by rw [h1];simp,by simp [h2],?_,by omega,h5,?_⟩
   ·rw [risesZ,h3,Bool.and_true,decide_eq_true_iff]
    omega
   ·rw [h6,List.take_add,dB,show (last+(((getF (b.drop a)).1:Int)+1)-(last+1)).toNat=(getF (b.drop a)).1 by omega,hx,List.append_assoc]
theorem risZ_exact {b:List UInt8} {a:Nat} {ps:List Int} {q:Int} (h:risZ b (a:Int)=(ps,q,0)):
  ∃ k:Nat,q=(k:Int)∧a≤k∧k≤b.length∧risesZ (-1) ps=true∧b.take k=b.take a++putR ps:=by
 unfold risZ at h
 split at h
 ·rename_i h0
  obtain ⟨d,q2,e,hz⟩:∃ d q2 e,getZ b (a:Int)=(d,q2,e):=⟨_,_,_,rfl⟩
  rw [hz] at h h0
  simp only at h h0
  subst h0
  obtain ⟨n,k,rfl,rfl,hak,hkb,hk⟩:=getZ_exact hz
  rw [Int.toNat_natCast,Int.toNat_natCast] at h
  rcases ht:takeR b n (-1) k [] with _|⟨xs,q'⟩
  ·rw [ht] at h;simp at h
  ·rw [ht] at h
   simp only [Prod.mk.injEq,and_true] at h
   obtain ⟨rfl,rfl⟩:=h
   obtain ⟨ys,h1,h2,h3,h4,h5,h6⟩:=takeR_exact _ _ _ _ _ _ ht hkb
   rw [List.nil_append] at h1
   subst h1
   exact ⟨q',rfl,by omega,h5,h3,by rw [h6,hk,putR,h2,List.append_assoc]⟩
 ·rename_i h0
  simp only [Prod.mk.injEq] at h
  exact absurd h.2.2 h0
def Stands (b:List UInt8) (last:Int) (a:Nat) (g:List Po):Prop:=
 mayB' last g=true∧a+(bytesP last g).length≤b.length∧b.take (a+(bytesP last g).length)=b.take a++bytesP last g
theorem Stands.nil {b:List UInt8} {last:Int} {a:Nat} (h:a≤b.length):Stands b last a []:=⟨rfl,by simpa [bytesP] using h,by simp [bytesP]⟩
theorem Stands.split {b:List UInt8} {last:Int} {a:Nat} {g:List Po} (h:Stands b last a g):b=b.take a++(bytesP last g++b.drop (a+(bytesP last g).length)):=by
 have :=(List.take_append_drop (a+(bytesP last g).length) b).symm
 rw [h.2.2,List.append_assoc] at this
 exact this
theorem bytes_placesA:∀ (l:List Po) (last:Int) (p:Po),p∈l→p.2.length≤(bytesP last l).length
 |[],_,p,h=>by cases h
 |q::r,last,p,h=>by
  have hd:∀ (ps:List Int) (x:Int),ps.length≤(dB x ps).length:=by
   intro ps
   induction ps with
   |nil=>simp
   |cons a t ih=>
    intro x
    have :=ih a
    have :=putB_pos (a-(x+1)).toNat
    rw [dB,List.length_append,List.length_cons]
    omega
  rw [bytesP,List.length_append,List.length_append]
  rcases List.mem_cons.1 h with rfl|h
  ·have :=hd p.2 (-1)
   rw [putR,List.length_append]
   omega
  ·have :=bytes_placesA r q.1 p h
   omega
theorem drop_poA {l:List Po} {k:Nat} (hk:k<l.length):l.drop k=l.getD k (0,[])::l.drop (k+1):=by
 rw [List.drop_eq_getElem_cons hk,List.getD_eq_getElem?_getD,List.getElem?_eq_getElem hk]
 rfl
theorem stands_next {b:List UInt8} {last:Int} {a:Nat} {g:List Po} (h:Stands b last a g) (h0: -1≤last) {k:Nat} (hk:k<g.length) (hb:b.length≤400000000000):
  ∃ a2:Nat,getZ b (((a+(bytesP last (g.take k)).length:Nat)):Int)=((g.getD k (0,[])).1-(docOf last (g.take k)+1),(a2:Int),0)∧
   risZ b (a2:Int)=((g.getD k (0,[])).2,(((a+(bytesP last (g.take (k+1))).length:Nat)):Int),0)∧ -1≤docOf last (g.take k)∧docOf last (g.take k)<(g.getD k (0,[])).1∧(g.getD k (0,[])).1<2147483648∧placesB (g.getD k (0,[])).2=true∧g.take (k+1)=g.take k++[((g.getD k (0,[])).1,(g.getD k (0,[])).2)]:=by
 have hspl:=h.split
 obtain ⟨h1,h2,h3⟩:=h
 have hsp:g=g.take k++(g.getD k (0,[])::g.drop (k+1)):=by rw [← drop_poA hk,List.take_append_drop]
 have hm:=h1
 rw [hsp,mayB'_append,Bool.and_eq_true] at hm
 obtain ⟨m1,m2⟩:=hm
 obtain ⟨m3,m4,m5,m6⟩:=mayB'_cons.1 m2
 have hge:=docOf_ge _ _ m1
 have hpl:=bytes_placesA g last (g.getD k (0,[])) (by rw [List.getD_eq_getElem?_getD,List.getElem?_eq_getElem hk];simp)
 have hts:g.take (k+1)=g.take k++[g.getD k (0,[])]:=by
  rw [List.take_succ_eq_append_getElem hk,List.getD_eq_getElem?_getD,List.getElem?_eq_getElem hk]
  rfl
 obtain ⟨q,hq⟩:∃ q,q=g.getD k (0,[]):=⟨_,rfl⟩
 rw [← hq] at m3 m4 m5 m6 hsp hts hpl
 rw [← hq]
 obtain ⟨d,ps⟩:=q
 have hta:(b.take a).length=a:=by rw [List.length_take];omega
 obtain ⟨g1,g2⟩:=get_posting (pre:=b.take a++bytesP last (g.take k)) (post:=b.drop (a+(bytesP last g).length)) (r:=g.drop (k+1)) (by omega) m3 m4 m5 (by have h9:ps.length≤(bytesP last g).length:=hpl;omega)
 have hbe:(b.take a++bytesP last (g.take k))++(bytesP (docOf last (g.take k)) ((d,ps)::g.drop (k+1))++b.drop (a+(bytesP last g).length))=b:=by
  have e1:bytesP last (g.take k)++bytesP (docOf last (g.take k)) ((d,ps)::g.drop (k+1))=bytesP last g:=by rw [← bytesP_append,← hsp]
  have e2:(b.take a++bytesP last (g.take k))++(bytesP (docOf last (g.take k)) ((d,ps)::g.drop (k+1))++b.drop (a+(bytesP last g).length))=b.take a++((bytesP last (g.take k)++bytesP (docOf last (g.take k)) ((d,ps)::g.drop (k+1)))++b.drop (a+(bytesP last g).length)):=by simp only [List.append_assoc]
  rw [e2,e1]
  exact hspl.symm
 rw [hbe,List.length_append,hta] at g1 g2
 refine ⟨_,g1,?_,by omega,m3,m4,m5,hts⟩
 rw [g2,hts,bytesP_append]
 simp [bytesP,Nat.add_assoc]
theorem stands_step {b:List UInt8} {last:Int} {a:Nat} {acc:List Po} (h:Stands b last a acc) (h0: -1≤docOf last acc) {d q2 q3:Int} {ps:List Int}
  (hz:getZ b (((a+(bytesP last acc).length:Nat)):Int)=(d,q2,0)) (hr:risZ b q2=(ps,q3,0)) (hd:d+(docOf last acc+1)<2147483648) (hp:placesB ps=true):
  Stands b last a (acc++[(d+(docOf last acc+1),ps)])∧q3=((a+(bytesP last (acc++[(d+(docOf last acc+1),ps)])).length:Nat):Int):=by
 obtain ⟨n,k,rfl,rfl,hak,hkb,hk⟩:=getZ_exact hz
 obtain ⟨k2,rfl,hkk,hkb2,hris,hk2⟩:=risZ_exact hr
 obtain ⟨h1,h2,h3⟩:=h
 obtain ⟨x,hx⟩:∃ x,x=docOf last acc:=⟨_,rfl⟩
 rw [← hx] at h0 hd
 rw [← hx]
 have hby:bytesP last (acc++[((n:Int)+(x+1),ps)])=bytesP last acc++(putB n++putR ps):=by
  rw [bytesP_append,← hx]
  simp only [bytesP,List.append_nil]
  rw [show ((n:Int)+(x+1)-(x+1)).toNat=n by omega]
 have hlen:k2=a+(bytesP last (acc++[((n:Int)+(x+1),ps)])).length:=by
  have e1:=congrArg List.length hk
  have e2:=congrArg List.length hk2
  rw [List.length_append,List.length_take,List.length_take] at e1 e2
  rw [hby,List.length_append,List.length_append]
  omega
 refine ⟨⟨?_,by omega,?_⟩,by rw [← hlen]⟩
 ·rw [mayB'_append,h1,Bool.true_and,← hx]
  exact mayB'_cons.2 ⟨by simp only;omega,by simp only;omega,hp,rfl⟩
 ·rw [← hlen,hk2,hk,h3,hby]
  simp only [List.append_assoc]
theorem docOf_step {last:Int} {acc:List Po} {y:Int} {ps:List Int}:docOf last (acc++[(y,ps)])=y:=by rw [docOf_append];rfl
def placesOn:Int→List Int→Bool
 |_,[]=>true
 |last,n::r=>decide (last<n)&&decide (n<2147483648)&&placesOn n r
theorem placesOn_eq:∀ (ps:List Int) (last:Int),ps≠[]→placesOn last ps=(risesZ last ps&&decide (ps.getLastD 0<2147483648))
 |[],_,h=>absurd rfl h
 |[n],last,_=>by simp [placesOn,risesZ]
 |n::m::r,last,_=>by
  have ih:=placesOn_eq (m::r) n (by simp)
  have e:(n::m::r).getLastD 0=(m::r).getLastD 0:=by simp [List.getLastD]
  rw [placesOn,risesZ,ih,e]
  rcases h1:risesZ n (m::r) with _|_
  ·simp
  ·by_cases h2:(m::r).getLastD 0<2147483648
   ·have :=(rises_le_last h1 ((m::r).getLastD 0) (lastD_mem (by simp))).1
    have h3:n<2147483648:=by omega
    simp [h3]
   ·rw [decide_eq_false h2]
    simp
theorem placesB_on (ps:List Int):placesB ps=(placesOn (-1) ps&&decide (0<ps.length)):=by
 by_cases h:ps=[]
 ·subst h;rfl
 ·unfold placesB
  rw [placesOn_eq ps (-1) h]
  have hl:0<ps.length:=List.length_pos_iff.2 h
  have he:ps.isEmpty=false:=by simpa using h
  rw [he]
  simp [hl]
theorem placesOn_cut {last:Int} {ps:List Int} {k:Nat} (hk:k<ps.length):placesOn last (ps.drop k)=(decide (last<ps.getD k 0)&&decide (ps.getD k 0<2147483648)&&placesOn (ps.getD k 0) (ps.drop (k+1))):=by
 rw [List.drop_eq_getElem_cons hk,placesOn,List.getD_eq_getElem?_getD,List.getElem?_eq_getElem hk]
 rfl
def endsC (l:List Po):Nat→List (Int × Nat)
 |0=>[]
 |k+1=>endsC l k++[(docOf (-1) (l.take (8*(k+1))),(bytesP (-1) (l.take (8*(k+1)))).length)]
theorem endsC_length (l:List Po):∀ n,(endsC l n).length=n
 |0=>rfl
 |k+1=>by rw [endsC,List.length_append,endsC_length l k];rfl
theorem endsC_at (l:List Po):∀ (n k:Nat),k<n→(endsC l n)[k]?=some (docOf (-1) (l.take (8*(k+1))),(bytesP (-1) (l.take (8*(k+1)))).length)
 |0,_,h=>by omega
 |n+1,k,h=>by
  rw [endsC]
  by_cases e:k=n
  ·subst e
   rw [List.getElem?_append_right (by rw [endsC_length];exact Nat.le_refl _),endsC_length,Nat.sub_self]
   rfl
  ·rw [List.getElem?_append_left (by rw [endsC_length];omega)]
   exact endsC_at l n k (by omega)
theorem endsC_append {l b:List Po}:∀ {n:Nat},8*n≤l.length→endsC (l++b) n=endsC l n
 |0,_=>rfl
 |k+1,h=>by
  rw [endsC,endsC,endsC_append (by omega),List.take_append_of_le_length h]
theorem blocksP_push {l b:List Po} {n:Nat} (hl:l.length=8*n) (h0:0<b.length) (h8:b.length≤8):blocksP l.length=n∧blocksP (l++b).length=n+1:=by
 unfold blocksP
 rw [List.length_append]
 omega
theorem endsC_push {l b:List Po} {n:Nat} (hl:l.length=8*n) (h0:0<b.length) (h8:b.length≤8):endsC (l++b) (n+1)=endsC l n++[(docOf (-1) (l++b),(bytesP (-1) (l++b)).length)]:=by
 rw [endsC,endsC_append (by omega),List.take_of_length_le (by rw [List.length_append];omega)]
theorem totalP_append:∀ (a b:List Po),totalP (a++b)=totalP a+totalP b
 |[],b=>by simp [totalP]
 |p::r,b=>by simp [totalP,totalP_append r b,Nat.add_assoc]
theorem block_stands {l:List Po} {k:Nat} (hk:k<blocksP l.length) (hm:mayB' (-1) l=true):Stands (bytesP (-1) l) (docOf (-1) (l.take (8*k))) (bytesP (-1) (l.take (8*k))).length (blockP l (k:Int)):=by
 have hsp:l=l.take (8*k)++(blockP l (k:Int)++l.drop (8*(k+1))):=by
  rw [← List.append_assoc,← blocks_all,List.take_append_drop]
 have hb:bytesP (-1) l=bytesP (-1) (l.take (8*k))++(bytesP (docOf (-1) (l.take (8*k))) (blockP l (k:Int))++bytesP (docOf (docOf (-1) (l.take (8*k))) (blockP l (k:Int))) (l.drop (8*(k+1)))):=by
  conv=>lhs;rw [hsp]
  rw [bytesP_append,bytesP_append]
 have hm2:=hm
 rw [hsp,mayB'_append,mayB'_append,Bool.and_eq_true,Bool.and_eq_true] at hm2
 obtain ⟨a,ha⟩:∃ a,a=bytesP (-1) (l.take (8*k)):=⟨_,rfl⟩
 obtain ⟨c,hc⟩:∃ c,c=bytesP (docOf (-1) (l.take (8*k))) (blockP l (k:Int)):=⟨_,rfl⟩
 rw [← ha,← hc] at hb
 refine ⟨hm2.2.1,?_,?_⟩
 ·rw [← ha,← hc,hb];simp
 ·rw [← ha,← hc,hb,List.take_left,← List.append_assoc,← List.length_append,List.take_left]
end Go.Proofs.YtmoomnpbiifedaaGreat
set_option linter.unusedVariables false
namespace Go.Proofs.YtmoomnpbiifedaaGreat
open Go Go.RowKit
def ahead (l:List Int) (k:Nat):Int:=if k=0 then-1 else l.getD (k-1) 0
theorem risesZ_drop {l:List Int} {k:Nat} (hk:k<l.length) (last:Int):risesZ last (l.drop k)=(decide (last<l.getD k 0)&&risesZ (l.getD k 0) (l.drop (k+1))):=by
 rw [List.drop_eq_getElem_cons hk,risesZ,List.getD_eq_getElem?_getD,List.getElem?_eq_getElem hk]
 rfl
theorem risesZ_end {l:List Int} {k:Nat} (hk:l.length≤k) (last:Int):risesZ last (l.drop k)=true:=by rw [List.drop_eq_nil_of_le hk];rfl
theorem row_int' {w:World} {B:Nat} {A:Option Addr} {xs:List Int} (h:Row w B A (ints xs)) {k:Nat} (hk:k<xs.length):
  ∃ b off,A=some ⟨b,off,none⟩∧b<B∧w.cell? ⟨b,off+k,none⟩=some (.int .i64 (xs.getD k 0)):=by
 obtain ⟨b,off,h1,h2,h3⟩:=row_int h hk
 refine ⟨b,off,h1,h2,?_⟩
 rw [h3,List.getD_eq_getElem?_getD,List.getElem?_eq_getElem hk]
 rfl
theorem dB_drop {l:List Int} {k:Nat} (hk:k<l.length) (last:Int):dB last (l.drop k)=putB (l.getD k 0-(last+1)).toNat++dB (l.getD k 0) (l.drop (k+1)):=by
 rw [List.drop_eq_getElem_cons hk,dB,List.getD_eq_getElem?_getD,List.getElem?_eq_getElem hk]
 rfl
theorem dB_end {l:List Int} {k:Nat} (hk:l.length≤k) (last:Int):dB last (l.drop k)=[]:=by rw [List.drop_eq_nil_of_le hk];rfl
end Go.Proofs.YtmoomnpbiifedaaGreat
namespace Go.Proofs.YtmoomnpbiifedaaGreat
open Go Go.RowKit
set_option linter.unusedVariables false
end Go.Proofs.YtmoomnpbiifedaaGreat
namespace Go.Proofs.YtmoomnpbiifedaaGreat
open Go Go.RowKit
set_option linter.unusedVariables false
end Go.Proofs.YtmoomnpbiifedaaGreat
set_option linter.unusedVariables false
namespace Go.Proofs.YtmoomnpbiifedaaGreat
open Go Go.RowKit
def endCells:List (Int × Nat)→List Value
 |[]=>[]
 |p::r=> .int .i64 p.1:: .int .i64 (p.2:Int)::endCells r
theorem endCells_length:∀ l:List (Int × Nat),(endCells l).length=l.length*2
 |[]=>rfl
 |p::r=>by simp only [endCells,List.length_cons,endCells_length r];omega
theorem endCells_append:∀ a b:List (Int × Nat),endCells (a++b)=endCells a++endCells b
 |[],b=>rfl
 |p::a,b=>by simp only [List.cons_append,endCells,endCells_append a b]
theorem endCells_at:∀ (l:List (Int × Nat)) (k:Nat) (p:Int × Nat),l[k]?=some p→(endCells l)[k*2]?=some (.int .i64 p.1)∧(endCells l)[k*2+1]?=some (.int .i64 (p.2:Int))
 |[],k,p,h=>by simp at h
 |q::l,0,p,h=>by
  simp only [List.getElem?_cons_zero,Option.some.injEq] at h
  subst h
  exact ⟨rfl,rfl⟩
 |q::l,k+1,p,h=>by
  rw [List.getElem?_cons_succ] at h
  have ih:=endCells_at l k p h
  rw [endCells,show (k+1)*2=k*2+1+1 by omega]
  exact ih
theorem info_end:(Tryz.prog.info? 119).map (fun i=>(i.zero,i.size,i.bytes))=some (some (.agg #[.int .i64 0,.int .i64 0]),2,16):=by kernel_rfl
def endsV (l:List Po):List Value:=endCells (endsC l (blocksP l.length))
theorem endsV_length (l:List Po):(endsV l).length=blocksP l.length*2:=by rw [endsV,endCells_length,endsC_length]
def LAt (w:World) (base B:Nat) (bs:List UInt8) (l:List Po):Prop:=
 base≤B∧∃ vb ve,w.heap[B]?=some (.cells #[vb,ve,.int .i64 (l.length:Int),.int .i64 (totalP l:Int)] 113 (0,0))∧
  w.ownsRow base 5 1 vb bs.length (Lib.byteCells bs)∧w.ownsRow base 119 2 ve (blocksP l.length) (endsV l)
theorem cell_four {w:World} {B:Nat} {a b c d:Value} {t:TypeId} (h:w.heap[B]?=some (.cells #[a,b,c,d] t (0,0))):
  (w.cell? ⟨B,0,none⟩=some a∧w.cell? ⟨B,1,none⟩=some b∧w.cell? ⟨B,2,none⟩=some c∧w.cell? ⟨B,3,none⟩=some d)∧
  w.frozen? ⟨B,0,none⟩=false∧w.frozen? ⟨B,1,none⟩=false∧w.frozen? ⟨B,2,none⟩=false∧w.frozen? ⟨B,3,none⟩=false:=by
 simp [World.cell?,World.frozen?,h]
section
variable {w w':World} {base B:Nat} {bs:List UInt8} {l:List Po}
theorem LAt.lt (h:LAt w base B bs l):B<w.heap.size:=by
 obtain ⟨_,vb,ve,hv,_⟩:=h
 exact (Array.getElem?_eq_some_iff.1 hv).1
theorem LAt.below (h:LAt w base B bs l) (hb:Below w.heap.size w w'):LAt w' base B bs l:=by
 have hl:=h.lt
 obtain ⟨h1,vb,ve,hv,ho,he⟩:=h
 exact ⟨h1,vb,ve,(hb.block B hl).trans hv,owned_below ho hb,owned_below he hb⟩
theorem LAt.cellsKept (h:LAt w base B bs l) (hk:∀ (k:Nat) (o:Obj),w.heap[k]?=some o→o.isCells=true→w'.heap[k]?=some o):LAt w' base B bs l:=by
 obtain ⟨h1,vb,ve,hv,ho,he⟩:=h
 have key:∀ {E:TypeId} {size:Nat} {v:Value} {n:Nat} {xs:List Value},w.ownsRow base E size v n xs→w'.ownsRow base E size v n xs:=fun ho=>by
  refine owned_keep ho fun g hg=> ?_
  rcases ho.2 with ⟨rfl,_⟩|⟨g',cap,cur,rfl,_,hh,_⟩
  ·cases hg
  ·simp only [Value.ownBlock,Option.some.injEq] at hg
   subst hg
   rw [hk _ _ hh rfl,hh]
 exact ⟨h1,vb,ve,hk B _ hv rfl,key ho,key he⟩
theorem LAt.read (h:LAt w base B bs l):∃ Ab cb Ae ce,(w.cell? ⟨B,0,none⟩=some (.slice Ab bs.length cb)∧w.cell? ⟨B,1,none⟩=some (.slice Ae (blocksP l.length) ce)∧w.cell? ⟨B,2,none⟩=some (.int .i64 (l.length:Int))∧w.cell? ⟨B,3,none⟩=some (.int .i64 (totalP l:Int)))∧
  bs.length≤cb∧cb≤maxLen∧blocksP l.length≤ce∧Row w w.heap.size Ab (Lib.byteCells bs)∧Row w w.heap.size Ae (endsV l)∧(Ab=none→bs.length=0∧cb=0):=by
 obtain ⟨_,vb,ve,hv,ho,he⟩:=h
 have hx:=(cell_four hv).1
 obtain ⟨Ae,ce,rfl,hce,hre⟩:=owned_row he
 rcases ho.2 with ⟨rfl,h0⟩|⟨g,c,cur,rfl,_,_,hnc,hcm,_,_⟩
 ·exact ⟨none,0,Ae,ce,by rw [h0];exact hx,by omega,by unfold maxLen;omega,hce,by rw [List.eq_nil_of_length_eq_zero h0];exact Row.nil,hre,fun _=>⟨h0,rfl⟩⟩
 ·exact ⟨_,c,Ae,ce,hx,hnc,hcm,hce,owned_row_of ho,hre,fun e=>by cases e⟩
end
def LIn (w:World) (B:Nat) (bs:List UInt8) (l:List Po):Prop:=
 B<w.heap.size∧∃ Ab cb Ae ce,(w.cell? ⟨B,0,none⟩=some (.slice Ab bs.length cb)∧w.cell? ⟨B,1,none⟩=some (.slice Ae (blocksP l.length) ce)∧w.cell? ⟨B,2,none⟩=some (.int .i64 (l.length:Int))∧w.cell? ⟨B,3,none⟩=some (.int .i64 (totalP l:Int)))∧
  bs.length≤cb∧cb≤maxLen∧blocksP l.length≤ce∧Row w w.heap.size Ab (Lib.byteCells bs)∧Row w w.heap.size Ae (endsV l)
theorem LAt.in_ {w:World} {base B:Nat} {bs:List UInt8} {l:List Po} (h:LAt w base B bs l):LIn w B bs l:=by
 obtain ⟨Ab,cb,Ae,ce,h1,h2,h3,h4,h5,h6,_⟩:=h.read
 exact ⟨h.lt,Ab,cb,Ae,ce,h1,h2,h3,h4,h5,h6⟩
theorem LIn.below {w w':World} {B:Nat} {bs:List UInt8} {l:List Po} (h:LIn w B bs l) (hb:Below w.heap.size w w'):LIn w' B bs l:=by
 obtain ⟨hl,Ab,cb,Ae,ce,⟨c0,c1,c2,c3⟩,h2,h3,h4,h5,h6⟩:=h
 have hs:=hb.size
 refine ⟨by omega,Ab,cb,Ae,ce,⟨(hb.cell (p:=⟨B,0,none⟩) hl).trans c0,(hb.cell (p:=⟨B,1,none⟩) hl).trans c1,(hb.cell (p:=⟨B,2,none⟩) hl).trans c2,(hb.cell (p:=⟨B,3,none⟩) hl).trans c3⟩,h2,h3,h4,(h5.below hb).more hs,(h6.below hb).more hs⟩
theorem row_end {w:World} {D:Nat} {A:Option Addr} {l:List Po} (h:Row w D A (endsV l)) {k:Nat} (hk:k<blocksP l.length):
  ∃ b off,A=some ⟨b,off,none⟩∧b<D∧w.cell? ⟨b,off+k*2,none⟩=some (.int .i64 (docOf (-1) (l.take (8*(k+1)))))∧w.cell? ⟨b,off+k*2+1,none⟩=some (.int .i64 ((bytesP (-1) (l.take (8*(k+1)))).length:Int)):=by
 obtain ⟨b,off,rfl,hb,hc⟩:=h.at_ (by rw [endsV_length];omega)
 have h2:=endCells_at _ _ _ (endsC_at l (blocksP l.length) k hk)
 exact ⟨b,off,rfl,hb,hc _ _ h2.1,by rw [Nat.add_assoc];exact hc _ _ h2.2⟩
section
variable (B:Nat) (bs:List UInt8) (l:List Po) (w:World) (h:LIn w B bs l)
include h
theorem in_Blocks:Calls Tryz.prog 104 #[.pointer (some ⟨B,0,none⟩)] w fun e w'=>e= .returned (.int .i64 (blocksP l.length:Int))∧w=w':=by
 obtain ⟨_,Ab,cb,Ae,ce,⟨c0,c1,c2,c3⟩,_⟩:=h
 go_enter Tryz.func104,Tryz.ntmps104
 go_wp2
 go_ret
 exact ⟨rfl,rfl⟩
theorem in_ahead (k:Nat) (hk:k≤blocksP l.length) (hl:l.length≤1073741824):Calls Tryz.prog 103 #[.pointer (some ⟨B,0,none⟩),.int .i64 (k:Int)] w fun e w'=>
  e= .returned (.agg #[.int .i64 (docOf (-1) (l.take (8*k))),.int .i64 ((bytesP (-1) (l.take (8*k))).length:Int)])∧Below w.heap.size w w':=by
 have hlt:=h.1
 obtain ⟨_,Ab,cb,Ae,ce,⟨c0,c1,c2,c3⟩,_,_,hce,_,hre⟩:=h
 have hbl:blocksP l.length≤1073741824:=by unfold blocksP;omega
 clear c0 c2 c3
 rcases Nat.eq_zero_or_pos k with rfl|hpos
 ·go_enter Tryz.func103,Tryz.ntmps103
  go_wp2
  refine bodyPost_ret (results_cell_row (P:=Tryz.prog) rfl _ _ w.heap.size 119 _ (0,0) _ rfl (by first|rfl|exact heap_alloc_new _ _) Tryz.underlying119 rfl (by kernel_rfl)) rfl ?_
  exact ⟨rfl,by repeat (first|exact (Below.refl _ _).alloc (Nat.le_refl _) _|refine Below.setCell ?_ (by simp) _)⟩
 ·obtain ⟨j,rfl⟩:∃ j,k=j+1:=⟨k-1,by omega⟩
  obtain ⟨b,o,rfl,hb,e0,e1⟩:=row_end hre (k:=j) (by omega)
  obtain ⟨n,hn⟩:∃ n,n=blocksP l.length:=⟨_,rfl⟩
  rw [← hn] at c1 hk hce hbl
  obtain ⟨x,hx⟩:∃ x,x=docOf (-1) (l.take (8*(j+1))):=⟨_,rfl⟩
  obtain ⟨y,hy⟩:∃ y,y=(bytesP (-1) (l.take (8*(j+1)))).length:=⟨_,rfl⟩
  rw [← hx] at e0 ⊢
  rw [← hy] at e1 ⊢
  have hj:((j+1:Nat):Int)=(j:Int)+1:=by omega
  have hz:((j:Int)+1==0)=false:=by rw [beq_eq_false_iff_ne];omega
  rw [hj]
  have hjn:j<n:=by omega
  clear hn hx hy hre hj hk hpos
  go_enter Tryz.func103,Tryz.ntmps103
  go_wp2
  refine bodyPost_ret (results_cell_row (P:=Tryz.prog) rfl _ _ w.heap.size 119 _ (0,0) _ rfl (by first|rfl|exact heap_alloc_new _ _) Tryz.underlying119 rfl (by kernel_rfl)) rfl ?_
  exact ⟨rfl,by repeat (first|exact (Below.refl _ _).alloc (Nat.le_refl _) _|refine Below.setCell ?_ (by simp) _)⟩
end
section
variable (base B:Nat) (bs:List UInt8) (l:List Po) (w:World) (h:LAt w base B bs l)
include h
theorem list_Blocks:Calls Tryz.prog 104 #[.pointer (some ⟨B,0,none⟩)] w fun e w'=>e= .returned (.int .i64 (blocksP l.length:Int))∧w=w':=in_Blocks B bs l w h.in_
theorem list_ahead (k:Nat) (hk:k≤blocksP l.length) (hl:l.length≤1073741824):Calls Tryz.prog 103 #[.pointer (some ⟨B,0,none⟩),.int .i64 (k:Int)] w fun e w'=>
  e= .returned (.agg #[.int .i64 (docOf (-1) (l.take (8*k))),.int .i64 ((bytesP (-1) (l.take (8*k))).length:Int)])∧Below w.heap.size w w':=in_ahead B bs l w h.in_ k hk hl
end
end Go.Proofs.YtmoomnpbiifedaaGreat
namespace Go.Proofs.YtmoomnpbiifedaaGreat
open Go Go.RowKit
set_option linter.unusedVariables false
end Go.Proofs.YtmoomnpbiifedaaGreat
set_option linter.unusedVariables false
namespace Go.Proofs.YtmoomnpbiifedaaGreat
open Go Go.RowKit
theorem cells3 {w:World} {b:Nat} {x y z:Value} {t:TypeId} (h:w.heap[b]?=some (.cells #[x,y,z] t (0,0))):w.cell? ⟨b,0,none⟩=some x∧w.cell? ⟨b,1,none⟩=some y∧w.cell? ⟨b,2,none⟩=some z:=by
 simp [World.cell?,h]
structure PSmall (x:PartsP):Prop where
 ids:x.ids.length≤1048576
 keys:x.keys.length≤1048576
 lists:∀ l∈x.lists,l.length≤1000∧totalP l≤40000000000
structure SegAt (w:World) (S:Nat) (x:PartsP):Prop where
 cells:∃ A1 c1 A2 c2 A3 c3,w.heap[S]?=some (.cells #[.slice A1 x.ids.length c1,.slice A2 x.seqs.length c2,.slice A3 x.keys.length c3] 76 (0,0))∧x.ids.length≤c1∧x.seqs.length≤c2∧Row w w.heap.size A1 (ints x.ids)∧Row w w.heap.size A2 (ints x.seqs)
 dict:∃ bl:List Nat,DictR w S 2 x.keys bl∧∀ i (h:i<x.lists.length),∃ base,LAt w base (bl.getD i 0) (bytesP (-1) x.lists[i]) x.lists[i]
 may:mayPs x=true
 small:PSmall x
section
variable {w w':World} {S:Nat} {x:PartsP}
theorem SegAt.lt (h:SegAt w S x):S<w.heap.size:=by obtain ⟨bl,h,_⟩:=h.dict;exact h.lt
theorem SegAt.below (h:SegAt w S x) (hb:Below w.heap.size w w'):SegAt w' S x:=by
 have hlt:=h.lt
 obtain ⟨⟨A1,c1,A2,c2,A3,c3,h1,h2,h3,h4,h5⟩,⟨bl,h6,h7⟩,h8,h9⟩:=h
 refine ⟨⟨A1,c1,A2,c2,A3,c3,(hb.block S hlt).trans h1,h2,h3,Row.later h4 hb,Row.later h5 hb⟩,⟨bl,h6.below hb,fun i hi=> ?_⟩,h8,h9⟩
 obtain ⟨base,h⟩:=h7 i hi
 exact ⟨base,h.below hb⟩
theorem mayPs_iff {x:PartsP}:mayPs x=true↔x.ids.length=x.seqs.length∧x.keys.length=x.lists.length∧risesZ (-1) x.seqs=true∧risesN x.keys=true∧∀ l∈x.lists,mayL x.ids.length l=true:=by
 simp [mayPs]
theorem mayL_may {n:Nat} {l:List Pn} (h:mayL n l=true):mayB' (-1) l=true∧l≠[]:=by
 simp only [mayL,Bool.and_eq_true,decide_eq_true_eq] at h
 exact ⟨h.1,fun e=>h.2.1 (by rw [e];rfl)⟩
theorem SegAt.seqs (h:SegAt w S x):x.ids.length=x.seqs.length:=(mayPs_iff.1 h.may).1
theorem SegAt.keys (h:SegAt w S x):x.keys.length=x.lists.length:=(mayPs_iff.1 h.may).2.1
end
def idAt (l:List Int) (i:Int):Int:=if 0≤i∧i<(l.length:Int) then l.getD i.toNat 0 else-1
set_option maxHeartbeats 1000000 in
set_option maxRecDepth 100000 in
theorem seg_at (A:Option Addr) (n c:Nat) (i:Int) (l:List Int) (w:World) (hr:Row w w.heap.size A (ints l)) (hn:l.length=n):
  Calls Tryz.prog 70 #[.slice A n c,.int .i64 i] w fun e w'=>e= .returned (.int .i64 (idAt l i))∧Below w.heap.size w w':=by
 by_cases h0:i<0
 ·have hv:idAt l i= -1:=if_neg (by omega)
  have e0:decide (i<0)=true:=decide_eq_true h0
  rw [hv]
  clear hv hr hn
  go_enter Tryz.func70,Tryz.ntmps70
  go_wp2
  go_ret
  exact ⟨rfl,Below.refl _ _⟩
 ·have e0:decide (i<0)=false:=decide_eq_false h0
  by_cases h1:(n:Int)≤i
  ·have hv:idAt l i= -1:=if_neg (by omega)
   have e1:decide ((n:Int)≤i)=true:=decide_eq_true h1
   rw [hv]
   clear hv hr hn
   go_enter Tryz.func70,Tryz.ntmps70
   go_wp2
   go_ret
   exact ⟨rfl,Below.refl _ _⟩
  ·have e1:decide ((n:Int)≤i)=false:=decide_eq_false h1
   obtain ⟨k,rfl⟩:∃ k:Nat,i=(k:Int):=⟨i.toNat,by omega⟩
   have hk:k<l.length:=by omega
   obtain ⟨b,off,rfl,hb,hc⟩:=row_int hr hk
   have hv:idAt l (k:Int)=l[k]:=by
    unfold idAt
    rw [if_pos ⟨by omega,by omega⟩]
    simp [List.getD_eq_getElem?_getD,hk]
   rw [hv]
   obtain ⟨y,hy⟩:∃ y,y=l[k]:=⟨_,rfl⟩
   rw [← hy] at hc ⊢
   have hi0:(0:Int)≤k:=by omega
   have hi1:(k:Int)<n:=by omega
   clear hv hy hr h0 h1 hk hn
   go_enter Tryz.func70,Tryz.ntmps70
   go_wp2
   go_ret
   exact ⟨rfl,Below.refl _ _⟩
def SegRiseRel (l:List Int) (w:World) (r last i:Value) (wr:World):Prop:=r= .bool false∧∃ (k:Nat) (x:Int),k≤l.length∧i= .int .i64 (k:Int)∧last= .int .i64 x∧risesZ x (l.drop k)=risesZ (-1) l∧Below w.heap.size w wr
set_option maxHeartbeats 1000000 in
set_option maxRecDepth 100000 in
theorem seg_rise (A:Option Addr) (n c:Nat) (l:List Int) (w:World) (hr:Row w w.heap.size A (ints l)) (hn:l.length=n) (hl:n≤9223372036854775807):
  Calls Tryz.prog 27 #[.slice A n c] w fun e w'=>e= .returned (.bool (risesZ (-1) l))∧Below w.heap.size w w':=by
 have HR:=Lib.hid hr
 clear hr
 obtain ⟨ans,hans⟩:∃ ans,ans=risesZ (-1) l:=⟨_,rfl⟩
 rw [← hans]
 have HA:=Lib.hid hans
 have HN:=Lib.hid hn
 clear hans hn
 go_enter Tryz.func27,Tryz.ntmps27
 go_wp2
 go_loopw [2,3,8] (fun r last i wr=>SegRiseRel l w r last i wr) (fun _ _ i _=>n-(intOf i).toNat)
 case atStart=>exact ⟨rfl,0, -1,Nat.zero_le _,rfl,rfl,rfl,Below.refl _ _⟩
 case round=>
  obtain ⟨rfl,k,x,hk,rfl,rfl,hx,hbw⟩:=hrel
  rw [HN.out] at hk
  by_cases hlt:k<n
  ·have hkl:k<l.length:=by rw [HN.out];exact hlt
   obtain ⟨b1,o1,rfl,_,hc1⟩:=row_int (HR.out.below hbw) hkl
   have hdr:l.drop k=l[k]::l.drop (k+1):=List.drop_eq_getElem_cons hkl
   rw [hdr,risesZ] at hx
   obtain ⟨y,hy⟩:∃ y,y=l[k]:=⟨_,rfl⟩
   rw [← hy] at hc1 hx
   have hi0:(0:Int)≤k:=by omega
   have hi1:(k:Int)<n:=by omega
   clear hy hdr
   by_cases hxy:y≤x
   ·have hv:ans=false:=by rw [HA.out,← hx,decide_eq_false (by omega)];rfl
    have d1:decide (y≤x)=true:=decide_eq_true hxy
    subst hv
    clear hx hkl hxy
    go_wp2
    go_ret
    exact ⟨rfl,hbw⟩
   ·have d1:decide (y≤x)=false:=decide_eq_false hxy
    rw [decide_eq_true (by omega),Bool.true_and] at hx
    have HX:=Lib.hid hx
    clear hx hkl hxy
    go_wp2
    go_roundw
    case rel=>exact ⟨rfl,k+1,y,by rw [HN.out];omega,by go_num,rfl,HX.out,hbw⟩
    case measure=>simp [intOf];omega
  ·have hv:ans=true:=by
    rw [HA.out,← hx,List.drop_of_length_le (by rw [HN.out];omega)]
    rfl
   subst hv
   clear hx
   go_wp2
   go_ret
   exact ⟨rfl,hbw⟩
section
variable {w:World} {S:Nat} {x:PartsP}
set_option maxHeartbeats 1000000 in
theorem seg_Len (h:SegAt w S x):Calls Tryz.prog 31 #[.pointer (some ⟨S,0,none⟩)] w fun e w'=>e= .returned (.int .i64 (x.ids.length:Int))∧Below w.heap.size w w':=by
 obtain ⟨A1,c1,A2,c2,A3,c3,h1,_⟩:=h.cells
 obtain ⟨q0,q1,q2⟩:=cells3 h1
 clear h h1
 go_enter Tryz.func31,Tryz.ntmps31
 go_wp2
 go_ret
 exact ⟨rfl,Below.refl _ _⟩
set_option maxHeartbeats 1000000 in
theorem seg_Id (h:SegAt w S x) (i:Int):Calls Tryz.prog 35 #[.pointer (some ⟨S,0,none⟩),.int .i64 i] w fun e w'=>e= .returned (.int .i64 (idAt x.ids i))∧Below w.heap.size w w':=by
 obtain ⟨A1,c1,A2,c2,A3,c3,h1,h2,h3,h4,h5⟩:=h.cells
 obtain ⟨q0,q1,q2⟩:=cells3 h1
 have C1:=Lib.hid (seg_at A1 _ c1 i x.ids w h4 rfl)
 clear h h1 h2 h3 h4 h5
 go_enter Tryz.func35,Tryz.ntmps35
 go_wp2_with (go_at_call 70;refine C1.out.mono ?_;rintro e w' ⟨rfl,hb⟩)
 go_ret
 exact ⟨rfl,hb⟩
set_option maxHeartbeats 1000000 in
theorem seg_Seq (h:SegAt w S x) (i:Int):Calls Tryz.prog 36 #[.pointer (some ⟨S,0,none⟩),.int .i64 i] w fun e w'=>e= .returned (.int .i64 (idAt x.seqs i))∧Below w.heap.size w w':=by
 obtain ⟨A1,c1,A2,c2,A3,c3,h1,h2,h3,h4,h5⟩:=h.cells
 obtain ⟨q0,q1,q2⟩:=cells3 h1
 have C1:=Lib.hid (seg_at A2 _ c2 i x.seqs w h5 rfl)
 clear h h1 h2 h3 h4 h5
 go_enter Tryz.func36,Tryz.ntmps36
 go_wp2_with (go_at_call 70;refine C1.out.mono ?_;rintro e w' ⟨rfl,hb⟩)
 go_ret
 exact ⟨rfl,hb⟩
end
end Go.Proofs.YtmoomnpbiifedaaGreat
namespace Go.Proofs.YtmoomnpbiifedaaGreat
open Go Go.RowKit
set_option linter.unusedVariables false
def RiseRel10 (l:List Nm) (w:World) (r i:Value) (wr:World):Prop:=r= .bool false∧∃ k:Nat,1≤k∧i= .int .i64 (k:Int)∧Below w.heap.size w wr∧∀ j (hj:j<l.length),0<j→j<k→l[j-1]<l[j]
end Go.Proofs.YtmoomnpbiifedaaGreat
namespace Go.Proofs.YtmoomnpbiifedaaGreat
open Go Go.RowKit
set_option linter.unusedVariables false
set_option maxHeartbeats 1000000 in
set_option maxRecDepth 100000 in
theorem dict_rise (A:Option Addr) (m c:Nat) (l:List Nm) (w:World) (hr:Row w w.heap.size A (strs l)) (hm:l.length=m) (hl:m≤1073741824):
  Calls Tryz.prog 66 #[.slice A m c] w fun e w'=>e= .returned (.bool (risesN l))∧Below w.heap.size w w':=by
 have HR:=Lib.hid hr
 clear hr
 subst hm
 obtain ⟨ans,hans⟩:∃ ans,ans=risesN l:=⟨_,rfl⟩
 rw [← hans]
 have HA:=Lib.hid hans
 clear hans
 go_enter Tryz.func66,Tryz.ntmps66
 go_wp2
 go_loopw [2,3] (fun r i wr=>RiseRel10 l w r i wr) (fun _ i _=>l.length-(intOf i).toNat)
 case atStart=>exact ⟨rfl,1,by omega,rfl,Below.refl _ _,fun j _ _ _=>by omega⟩
 case round=>
  obtain ⟨rfl,k,hk,rfl,hbw,hall⟩:=hrel
  by_cases hlt:k<l.length
  ·obtain ⟨b1,o1,e1,_,hc1⟩:=row_nm (HR.out.below hbw) hlt
   subst e1
   have hc0:wr.cell? ⟨b1,o1+(k-1),none⟩=some (.string ⟨l[k-1].toArray⟩):=by
    obtain ⟨b2,o2,e2,_,hc2⟩:=row_nm (HR.out.below hbw) (k:=k-1) (by omega)
    injection e2 with e2
    injection e2 with e3 e4
    subst e3 e4
    exact hc2
   obtain ⟨x,hx,hx2⟩:=as_text l[k]
   obtain ⟨y,hy,hy2⟩:=as_text l[k-1]
   rw [← hx] at hc1
   rw [← hy] at hc0
   obtain ⟨j,hj⟩:∃ j,j=k-1:=⟨_,rfl⟩
   have hw:IntKind.i64.wrap ((k:Int)-1)=(j:Int):=by rw [IntWalk.i64_in _ (by omega)];omega
   have hjl:j<l.length:=by omega
   rw [← hj] at hc0
   by_cases hxy:l[k-1]<l[k]
   ·have t1:=less_true (s:=y) (t:=x) (by rw [hx2,hy2];exact hxy)
    have HN:Hid (∀ j (hj:j<l.length),0<j→j<k+1→l[j-1]<l[j]):=Lib.hid fun j hj h0 hjk=>by
     by_cases e:j=k
     ·subst e;exact hxy
     ·exact hall j hj h0 (by omega)
    clear hx hx2 hy hy2 hj hall hxy
    go_wp2
    go_quiet (fail)
    go_wp2
    go_roundw
    case rel=>exact ⟨rfl,k+1,by omega,by go_num,hbw.trans ⟨rfl,rfl,rfl,Nat.le_refl _,fun _ _=>rfl⟩,HN.out⟩
    case measure=>simp [intOf];omega
   ·have hbad:ans=false:=by rw [HA.out];exact rise_bad hlt (by omega) hxy
    subst hbad
    have t1:=less_false (s:=y) (t:=x) (by rw [hx2,hy2];exact hxy)
    clear hx hx2 hy hy2 hj hall hxy
    go_wp2
    go_quiet (fail)
    go_wp2
    go_ret
    exact ⟨rfl,hbw.trans ⟨rfl,rfl,rfl,Nat.le_refl _,fun _ _=>rfl⟩⟩
  ·have hgood:ans=true:=by rw [HA.out];exact rise_good fun i hi h0=>hall i hi h0 (by omega)
   subst hgood
   clear hall
   go_wp2
   go_ret
   exact ⟨rfl,hbw⟩
end Go.Proofs.YtmoomnpbiifedaaGreat
set_option linter.unusedVariables false
namespace Go.Proofs.YtmoomnpbiifedaaGreat
open Go Go.RowKit
abbrev Sl:=Option Addr × Nat × Nat
def entQ:List Nm→List Sl→List Value
 |x::l,v::vs=> .string ⟨x.toArray⟩:: .slice v.1 v.2.1 v.2.2::entQ l vs
 |_,_=>[]
theorem entQ_nil (vs:List Sl):entQ [] vs=[]:=by cases vs<;>rfl
theorem entQ_snoc:∀ {l:List Nm} {vs:List Sl} {x:Nm} {v:Sl},vs.length=l.length→entQ (l++[x]) (vs++[v])=entQ l vs++[.string ⟨x.toArray⟩,.slice v.1 v.2.1 v.2.2]
 |[],[],x,v,_=>rfl
 |[],_::_,_,_,h=>by simp at h
 |_::_,[],_,_,h=>by simp at h
 |y::l,u::vs,x,v,h=>by
  have :=entQ_snoc (l:=l) (vs:=vs) (x:=x) (v:=v) (by simpa using h)
  simp only [List.cons_append,entQ,this]
theorem info_entryQ:(Tryz.prog.info? 128).map (fun i=>(i.zero,i.size,i.bytes))=some (some (.agg #[.string ByteArray.empty,.slice none 0 0]),2,40):=by kernel_rfl
def sls (vs:List Sl):List Value:=vs.map fun v=> .slice v.1 v.2.1 v.2.2
theorem row_sl {w:World} {B:Nat} {A:Option Addr} {l:List Sl} {k:Nat} (h:Row w B A (sls l)) (hk:k<l.length):∃ b off,A=some ⟨b,off,none⟩∧b<B∧w.cell? ⟨b,off+k,none⟩=some (.slice l[k].1 l[k].2.1 l[k].2.2):=by
 obtain ⟨b,off,rfl,hb,hc⟩:=Row.at_ h (by simp [sls];omega)
 exact ⟨b,off,rfl,hb,hc _ _ (by simp [sls,hk])⟩
def DictAtQ (w:World) (base B:Nat) (l:List Nm) (vs:List Sl):Prop:=
 base≤B∧vs.length=l.length∧∃ v,w.heap[B]?=some (.cells #[v] 126 (0,0))∧w.ownsRow base 128 2 v l.length (entQ l vs)
def MadeDQ (l:List Nm) (vs:List Sl) (w:World) (e:Ending) (w':World):Prop:=∃ B,e= .returned (.tuple #[.pointer (some ⟨B,0,none⟩),.int .i64 0])∧DictAtQ w' w.heap.size B l vs∧Below w.heap.size w w'
def NoneDQ (w:World) (e:Ending) (w':World):Prop:=e= .returned (.tuple #[.pointer none,.int .i64 1])∧Below w.heap.size w w'
set_option maxHeartbeats 1000000 in
set_option maxRecDepth 100000 in
theorem dictQ_Make_no (A A2:Option Addr) (n c m c2:Nat) (l:List Nm) (w:World) (hr:Row w w.heap.size A (strs l)) (hn:l.length=n) (hl:n≤1073741824) (hno:n≠m∨risesN l=false):
  Calls Tryz.prog 28 #[.slice A n c,.slice A2 m c2] w (NoneDQ w):=by
 by_cases hnm:n=m
 ·have hf:risesN l=false:=hno.resolve_left (fun h=>h hnm)
  have c1:=dict_rise A n c l w hr hn hl
  rw [hf] at c1
  have C1:=Lib.hid c1
  subst hnm
  clear c1 hno hf hr hn
  go_enter Tryz.func28,Tryz.ntmps28
  go_wp2_with (go_at_call 66;refine (C1.out).mono ?_;rintro e w1 ⟨rfl,hb⟩)
  go_ret2
  exact ⟨rfl,hb⟩
 ·have e1:((n:Int) != (m:Int))=true:=by simp;omega
  have e2:((n:Int)==(m:Int))=false:=by rw [beq_eq_false_iff_ne];omega
  clear hr hn hno hnm
  go_enter Tryz.func28,Tryz.ntmps28
  go_wp2
  go_ret2
  exact ⟨rfl,Below.refl _ _⟩
def MakeRelQ (B:Nat) (l:List Nm) (vs:List Sl) (w:World) (i:Value) (wr:World):Prop:=
 ∃ (k:Nat) (v:Value),k≤l.length∧i= .int .i64 (k:Int)∧wr.heap[B]?=some (.cells #[v] 126 (0,0))∧wr.ownsRow w.heap.size 128 2 v k (entQ (l.take k) (vs.take k))∧Below w.heap.size w wr
theorem owned_setQ {w:World} {base B:Nat} {e:TypeId} {size:Nat} {v:Value} {n:Nat} {xs:List Value} {cs:Array Value} {t:TypeId} {fr:Nat × Nat} (h:w.ownsRow base e size v n xs) (hB:w.heap[B]?=some (.cells cs t fr)) (ht:t≠e) (o:Nat) (u:Value):(w.setCell ⟨B,o,none⟩ u).ownsRow base e size v n xs:=
 owned_keep h fun g hg=>Below.heap_setCell _ _ _ _ (fun e1=>owned_apart h hB ht (by rw [hg,e1]))
theorem enteredQ {w0 w1:World} {base B n:Nat} {v v':Value} {xs ys:List Value} (hv:w0.heap[B]?=some (.cells #[v] 126 (0,0))) (hown:w0.ownsRow base 128 2 v n xs) (hg:w0.grownBy w1 v.ownBlock) (hown1:w1.ownsRow base 128 2 v' (n+1) ys) (hbase:base≤w0.heap.size) (hB:base≤B):
  w1.heap[B]?=some (.cells #[v] 126 (0,0))∧(w1.setCell ⟨B,0,none⟩ v').heap[B]?=some (.cells #[v'] 126 (0,0))∧(w1.setCell ⟨B,0,none⟩ v').ownsRow base 128 2 v' (n+1) ys∧Below base w0 (w1.setCell ⟨B,0,none⟩ v'):=by
 have h1:w1.heap[B]?=some (.cells #[v] 126 (0,0)):=(hg.block B (lt_of_block hv) (fun e=>owned_apart hown hv (by decide) e.symm)).trans hv
 refine ⟨h1,by simpa using one_setCell h1,owned_setQ hown1 h1 (by decide) _ _,?_⟩
 exact (((Below.refl base w0).grown hg hbase fun k hk=>(hown.lt k hk).1)).setCell hB _
set_option maxHeartbeats 4000000 in
set_option maxRecDepth 100000 in
theorem dictQ_Make (A A2:Option Addr) (n c c2:Nat) (l:List Nm) (vs:List Sl) (w:World) (hr:Row w w.heap.size A (strs l)) (hn:l.length=n) (hl:n≤1048576) (hv:Row w w.heap.size A2 (sls vs)) (hvn:vs.length=n) (hg:risesN l=true):
    Calls Tryz.prog 28 #[.slice A n c,.slice A2 n c2] w (MadeDQ l vs w):=by
  obtain ⟨i0,hi0,hz0,hz1,hz2⟩:=info_parts info_entryQ
  have c1:=dict_rise A n c l w hr hn (by omega)
  rw [hg] at c1
  have C1:=Lib.hid c1
  have HR:=Lib.hid hr
  have HV:=Lib.hid hv
  have HN:=Lib.hid hn
  have HVN:=Lib.hid hvn
  clear c1 hr hv hn hvn hg
  go_enter Tryz.func28,Tryz.ntmps28
  go_wp2_with (go_at_call 66;refine (C1.out).mono ?_)
  rintro e w1 ⟨rfl,hb1⟩
  obtain ⟨w2,hrun,hown2,hgrow2⟩:=run_make_own (P:=Tryz.prog) w1 w.heap.size 124 128 i0 _ 2 Tryz.underlying124 hi0 hz0 hz1 .i64 .i64 n (by rw [hz2];omega) (by unfold maxLen;omega) hb1.size
  have hb2:Below w.heap.size w w2:=hb1.grown hgrow2 hb1.size (fun k hk=>by cases hk)
  obtain ⟨B,hB⟩:∃ B,B=w2.heap.size:=⟨_,rfl⟩
  obtain ⟨w3,hw3⟩:∃ w3,w3=w2.alloc (.cells #[.slice (some ⟨w1.heap.size,0,none⟩) 0 n] 126):=⟨_,rfl⟩
  have hrel:MakeRelQ B l vs w (.int .i64 ((0:Nat):Int)) w3:=by
    refine ⟨0,.slice (some ⟨w1.heap.size,0,none⟩) 0 n,Nat.zero_le _,rfl,?_,?_,?_⟩
    · rw [hw3,hB];exact heap_alloc_new w2 _
    · rw [hw3];simpa [entQ_nil] using hown2.alloc _
    · rw [hw3];exact hb2.alloc hb2.size _
  have HREL:=Lib.hid hrel
  have HW3:=Lib.hid hw3
  have HB:=Lib.hid hB
  have HBW:Hid (w.heap.size≤B):=Lib.hid (by rw [hB];exact hb2.size)
  clear hrel hown2 hgrow2 hb2 hb1 hw3 hB
  go_wp2
  rw [← HW3.out,← HB.out]
  clear hrun
  go_loopw [26] (MakeRelQ B l vs w) (fun i _=>n-(intOf i).toNat)
  case atStart=>exact HREL.out
  case round=>
    obtain ⟨k,v,hk,rfl,hblk,hown,hbw⟩:=hrel
    rw [HN.out] at hk
    have hsz:=hbw.size
    by_cases hlt:k<n
    · have hkl:k<l.length:=by rw [HN.out];exact hlt
      have hkv:k<vs.length:=by rw [HVN.out];exact hlt
      obtain ⟨b1,o1,e1,hb1,hc1⟩:=row_nm (HR.out.below hbw) hkl
      obtain ⟨b2,o2,e2,hb2,hc2⟩:=row_sl (HV.out.below hbw) hkv
      subst e1 e2
      obtain ⟨x,hx⟩:∃ x:ByteArray,x=⟨l[k].toArray⟩:=⟨_,rfl⟩
      obtain ⟨y,hy⟩:∃ y,y=vs[k]:=⟨_,rfl⟩
      rw [← hx] at hc1
      rw [← hy] at hc2
      have hsn:entQ (l.take (k+1)) (vs.take (k+1))=entQ (l.take k) (vs.take k)++[.string x,.slice y.1 y.2.1 y.2.2]:=by
        rw [List.take_succ_eq_append_getElem hkl,List.take_succ_eq_append_getElem hkv,entQ_snoc (by simp only [List.length_take];rw [HN.out,HVN.out]),← hx,← hy]
      obtain ⟨cs,hcs⟩:∃ cs,cs=entQ (l.take k) (vs.take k):=⟨_,rfl⟩
      rw [← hcs] at hown hsn
      have cB:=cell_of_one hblk
      have fB:=free_of_one hblk
      have k2:(0:Int)≤(k:Int):=by omega
      have k3:(k:Int)<(n:Int):=by omega
      have hBlt:=lt_of_block hblk
      have hal:∀ o,((wr.alloc o).drew).cell? ⟨B,0,none⟩=some v:=fun o=>(((Below.refl _ wr).alloc (Nat.le_refl _) o).cell (p:=⟨B,0,none⟩) hBlt).trans cB
      have HOWN:=Lib.hid hown
      have HBLK:=Lib.hid hblk
      have HSN:=Lib.hid hsn
      clear hx hy hcs hown hblk hsn hkl hkv
      go_wp2
      go_region_law (first
        | (refine step_append_lies _ (by rfl) _ _ _ (by rfl) w.heap.size 128 i0 _ 2 40 Tryz.underlying124 hi0 hz0 hz1 hz2 rfl (by omega) v k cs (by rfl) ((HOWN.out.alloc _).drew)
            ⟨wr.heap.size,0,none⟩ 1 1 [.string x,.slice y.1 y.2.1 y.2.2] (by rfl) (by rfl) (World.news_of_block (cs:=#[.string x,.slice y.1 y.2.1 y.2.2]) (t:=128) (fr:=(0,0)) (heap_alloc_new wr.drew _)) (by intro u hu;simp at hu;rcases hu with hu|hu<;>(subst hu;rfl))
            (by omega) (by unfold maxLen;omega) (by omega) (by simp;omega) (wr.heap.size+1) (by simp) ?_
           intro gg cap w5 hown5 hg5 hat hlt5
           obtain ⟨hB5,hB6,hown6,hb6⟩:=enteredQ (((Below.refl _ wr).alloc (Nat.le_refl _) _).drew.block B hBlt |>.trans HBLK.out) ((HOWN.out.alloc _).drew) hg5 hown5 (by simp;omega) HBW.out
           have cB5:=cell_of_one hB5
           have fB5:=free_of_one hB5))
      all_goals
        have hrel:MakeRelQ B l vs w (.int .i64 ((k:Int)+1)) (w5.setCell ⟨B,0,none⟩ (.slice (some ⟨gg,0,none⟩) (k+1) cap)):=by
          refine ⟨k+1,_,by rw [HN.out];omega,by go_num,hB6,?_,?_⟩
          · rw [HSN.out];exact hown6
          · exact hbw.trans ((((Below.refl _ wr).alloc hsz _).drew).trans hb6)
        have HREL:=Lib.hid hrel
        clear hrel hB6 hown6 hb6 hB5
        go_wp2
        go_roundw
        case rel=>exact HREL.out
        case measure=>simp [intOf];omega
    · have hkn:k=n:=by omega
      have HFIN:Hid (MadeDQ l vs w (.returned (.tuple #[.pointer (some ⟨B,0,none⟩),.int .i64 0])) wr):=Lib.hid ⟨B,rfl,⟨HBW.out,by rw [HN.out,HVN.out],v,hblk,by
        rw [hkn,List.take_of_length_le (by rw [HN.out];omega),List.take_of_length_le (by rw [HVN.out];omega)] at hown
        rw [HN.out]
        exact hown⟩,hbw⟩
      clear hown hblk hbw
      go_wp2
      go_ret2
      exact HFIN.out
end Go.Proofs.YtmoomnpbiifedaaGreat
set_option linter.unusedVariables false
namespace Go.Proofs.YtmoomnpbiifedaaGreat
open Go Go.RowKit
theorem set_two {w:World} {B:Nat} {a b x y:Value} {t:TypeId} (h:w.heap[B]?=some (.cells #[a,b] t (0,0))):((w.setCell ⟨B,0,none⟩ x).setCell ⟨B,1,none⟩ y).heap[B]?=some (.cells #[x,y] t (0,0)):=
 heap_setCell_same _ B 1 #[x,b] t y (heap_setCell_same w B 0 #[a,b] t x h)
theorem cells_two {w:World} {B:Nat} {x y:Value} {t:TypeId} (h:w.heap[B]?=some (.cells #[x,y] t (0,0))):w.cell? ⟨B,0,none⟩=some x∧w.cell? ⟨B,1,none⟩=some y∧w.frozen? ⟨B,0,none⟩=false∧w.frozen? ⟨B,1,none⟩=false:=by
 simp [World.cell?,World.frozen?,h]
theorem take_blocks (l:List Po):l.take (8*blocksP l.length)=l:=List.take_of_length_le (by unfold blocksP;omega)
theorem list_last (base B:Nat) (bs:List UInt8) (l:List Po) (w:World) (h:LAt w base B bs l) (hl:l.length≤1073741824):
  Calls Tryz.prog 64 #[.pointer (some ⟨B,0,none⟩)] w fun e w'=>e= .returned (.agg #[.int .i64 (docOf (-1) l),.int .i64 ((bytesP (-1) l).length:Int)])∧Below w.heap.size w w':=by
 have hal:=(Below.refl w.heap.size w).alloc (Nat.le_refl _) (.cells #[.int .i64 0,.int .i64 0] 119)
 have h1:=h.below hal
 have hb:=list_Blocks base B bs l _ h1
 have ha:=list_ahead base B bs l _ h1 (blocksP l.length) (Nat.le_refl _) hl
 rw [take_blocks] at ha
 have HAL:=Lib.hid hal
 have HB:=Lib.hid hb
 have HA:=Lib.hid ha
 obtain ⟨n,hn⟩:∃ n,n=blocksP l.length:=⟨_,rfl⟩
 rw [← hn] at HA HB
 obtain ⟨x,hx⟩:∃ x,x=docOf (-1) l:=⟨_,rfl⟩
 obtain ⟨y,hy⟩:∃ y,y=(bytesP (-1) l).length:=⟨_,rfl⟩
 rw [← hx,← hy] at HA ⊢
 clear h h1 hal hb ha hn hx hy
 go_enter Tryz.func64,Tryz.ntmps64
 go_wp2_with (first
  |(go_at_call 104;refine HB.out.mono ?_;rintro e w' ⟨rfl,rfl⟩)
  |(go_at_call 103;refine HA.out.mono ?_))
 rintro e w3 ⟨rfl,hb3⟩
 have hres:w3.heap[w.heap.size]?=some (.cells #[.int .i64 0,.int .i64 0] 119 (0,0)):=(hb3.block w.heap.size (by simp)).trans (heap_alloc_new w _)
 obtain ⟨c0,c1,f0,f1⟩:=cells_two hres
 have hb4:=HAL.out.trans (hb3.mono (by simp))
 have HR:=Lib.hid hres
 have HB4:=Lib.hid hb4
 clear hres hb4 hb3
 go_wp2
 refine bodyPost_ret (results_cell_row (P:=Tryz.prog) rfl _ _ w.heap.size 119 _ (0,0) _ rfl (set_two HR.out) Tryz.underlying119 rfl (by kernel_rfl)) rfl ?_
 exact ⟨rfl,(HB4.out.setCell (Nat.le_refl _) _).setCell (Nat.le_refl _) _⟩
end Go.Proofs.YtmoomnpbiifedaaGreat
