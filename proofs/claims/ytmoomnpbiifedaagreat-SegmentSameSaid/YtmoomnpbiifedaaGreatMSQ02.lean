import Derived.Sort.Walk0
import Derived.Lib.RowBridge
import Derived.Lib.SlicesCompact
import Derived.Lib.BitFns
import Derived.Lib.Strings
import Derived.Sort.OwnSorted
import Derived.Test.YtmoomnpbiifedaaGreatMSQ01
import Derived.Deep.RegionHeld3
import Derived.Shelf.Strings.Builder2
import Derived.Shelf.Strings.BuilderK
import Derived.Shelf.Strings.BuilderRune
import Derived.Shelf.Utf8.RuneCount
import Derived.Test.YtmoomnpbiifedaaGreatProg
import Derived.Lib.RuneBytes
import Derived.Lib.RuneCount
import Derived.Lib.Hide
import Derived.BigCall
import Derived.WalkKit
set_option linter.unusedVariables false
namespace Go.Proofs.YtmoomnpbiifedaaGreat
abbrev Nm:=List UInt8
theorem nm_nil_lt {a:UInt8} {x:Nm}:([]:Nm)<a::x:=by simp
theorem nm_lt_nil {x:Nm}:¬ x<([]:Nm):=by simp
theorem nm_cons {a b:UInt8} {x y:Nm}:a::x<b::y↔a<b∨a=b∧x<y:=List.cons_lt_cons_iff
theorem by_irr (a:UInt8):¬ a<a:=by rw [UInt8.lt_iff_toNat_lt];omega
theorem nm_irrefl:∀ x:Nm,¬ x<x
 |[]=>nm_lt_nil
 |a::x=>by
  rw [nm_cons]
  rintro (h|⟨_,h⟩)
  ·exact by_irr a h
  ·exact nm_irrefl x h
theorem nm_trans:∀ {x y z:Nm},x<y→y<z→x<z
 |_,[],_,h,_=>absurd h nm_lt_nil
 |_,_::_,[],_,h=>absurd h nm_lt_nil
 |[],_::_,_::_,_,_=>nm_nil_lt
 |a::x,b::y,c::z,h,k=>by
  rw [nm_cons] at h k ⊢
  rcases h with h|⟨rfl,h⟩
  ·rcases k with k|⟨rfl,k⟩
   ·left;rw [UInt8.lt_iff_toNat_lt] at*;omega
   ·exact .inl h
  ·rcases k with k|⟨rfl,k⟩
   ·exact .inl k
   ·exact .inr ⟨rfl,nm_trans h k⟩
theorem nm_tri:∀ x y:Nm,x<y∨x=y∨y<x
 |[],[]=> .inr (.inl rfl)
 |[],_::_=> .inl nm_nil_lt
 |_::_,[]=> .inr (.inr nm_nil_lt)
 |a::x,b::y=>by
  rw [nm_cons,nm_cons]
  by_cases h1:a<b
  ·exact .inl (.inl h1)
  ·by_cases h2:b<a
   ·exact .inr (.inr (.inl h2))
   ·have e:a=b:=by
     rw [UInt8.lt_iff_toNat_lt] at h1 h2
     exact UInt8.toNat_inj.1 (by omega)
    subst e
    rcases nm_tri x y with h|rfl|h
    ·exact .inl (.inr ⟨rfl,h⟩)
    ·exact .inr (.inl rfl)
    ·exact .inr (.inr (.inr ⟨rfl,h⟩))
theorem nm_asym {x y:Nm} (h:x<y):¬ y<x:=fun k=>nm_irrefl x (nm_trans h k)
theorem nm_ne {x y:Nm} (h:x<y):x≠y:=fun e=>nm_irrefl y (e▸h)
def Rise (l:List Nm):Prop:=l.Pairwise (· <·)
instance (l:List Nm):Decidable (Rise l):=inferInstanceAs (Decidable (l.Pairwise (· <·)))
def risesN (l:List Nm):Bool:=decide (Rise l)
theorem risesN_iff {l:List Nm}:risesN l=true↔Rise l:=by simp [risesN]
theorem rise_at {l:List Nm} (h:Rise l) {i j:Nat} (hj:j<l.length) (hij:i<j):l[i]<l[j]:=List.pairwise_iff_getElem.1 h i j (by omega) hj hij
theorem rise_adj {l:List Nm} (h:∀ i,(hi:i+1<l.length)→l[i]<l[i+1]):Rise l:=by
 refine List.pairwise_iff_getElem.2 fun i j hi hj hij=> ?_
 induction j with
 |zero=>omega
 |succ j ih=>
  by_cases e:i=j
  ·subst e;exact h i hj
  ·exact nm_trans (ih (by omega) (by omega)) (h j hj)
theorem rise_bad {l:List Nm} {k:Nat} (hk:k<l.length) (h0:0<k) (h:¬ l[k-1]<l[k]):risesN l=false:=by
 rw [← Bool.not_eq_true,risesN_iff]
 exact fun hr=>h (rise_at hr hk (by omega))
theorem rise_good {l:List Nm} (h:∀ i,(hi:i<l.length)→0<i→l[i-1]<l[i]):risesN l=true:=by
 rw [risesN_iff]
 exact rise_adj fun i hi=>by have :=h (i+1) hi (by omega);simpa using this
def placeN:List Nm→Nm→Nat
 |[],_=>0
 |x::l,s=>if x<s then placeN l s+1 else 0
def isN:List Nm→Nm→Bool
 |[],_=>false
 |x::l,s=>if x<s then isN l s else x==s
def putN:List Nm→Nm→List Nm
 |[],s=>[s]
 |x::l,s=>if x<s then x::putN l s else if x=s then x::l else s::x::l
theorem placeN_le:∀ (l:List Nm) (s:Nm),placeN l s≤l.length
 |[],_=>Nat.le_refl _
 |x::l,s=>by
  have :=placeN_le l s
  simp only [placeN,List.length_cons]
  split<;>omega
theorem placeN_below:∀ {l:List Nm} {s:Nm} {j:Nat} (hj:j<l.length),j<placeN l s→l[j]<s
 |[],_,_,h,_=>by simp at h
 |x::l,s,j,hj,h=>by
  simp only [placeN] at h
  split at h
  ·rename_i hx
   cases j with
   |zero=>exact hx
   |succ j=>exact placeN_below (l:=l) (by simpa using hj) (by omega)
  ·omega
theorem placeN_stop:∀ {l:List Nm} {s:Nm} (h:placeN l s<l.length),¬ l[placeN l s]<s
 |[],_,h=>by simp at h
 |x::l,s,h=>by
  by_cases hx:x<s
  ·have e:placeN (x::l) s=placeN l s+1:=by simp [placeN,hx]
   have :=placeN_stop (l:=l) (s:=s) (by rw [e] at h;simpa using h)
   simpa [e] using this
  ·have e:placeN (x::l) s=0:=by simp [placeN,hx]
   simpa [e] using hx
theorem place_of {l:List Nm} {s:Nm} {k:Nat} (hk:k≤l.length) (h1:∀ j (hj:j<l.length),j<k→l[j]<s) (h2:∀ h:k<l.length,¬ l[k]<s):placeN l s=k:=by
 have a:=placeN_le l s
 rcases Nat.lt_trichotomy (placeN l s) k with h|h|h
 ·exact absurd (h1 _ (by omega) h) (placeN_stop (by omega))
 ·exact h
 ·exact absurd (placeN_below (by omega) h) (h2 (by omega))
theorem isN_at:∀ {l:List Nm} {s:Nm} (h:placeN l s<l.length),isN l s=(l[placeN l s]==s)
 |[],_,h=>by simp at h
 |x::l,s,h=>by
  by_cases hx:x<s
  ·have e:placeN (x::l) s=placeN l s+1:=by simp [placeN,hx]
   have e2:isN (x::l) s=isN l s:=by simp [isN,hx]
   have :=isN_at (l:=l) (s:=s) (by rw [e] at h;simpa using h)
   rw [e2,this]
   simp [e]
  ·have e:placeN (x::l) s=0:=by simp [placeN,hx]
   simp [e,isN,hx]
theorem isN_end:∀ {l:List Nm} {s:Nm},placeN l s=l.length→isN l s=false
 |[],_,_=>rfl
 |x::l,s,h=>by
  by_cases hx:x<s
  ·have e:placeN (x::l) s=placeN l s+1:=by simp [placeN,hx]
   rw [e] at h
   simpa [isN,hx] using isN_end (l:=l) (s:=s) (by simpa using h)
  ·have e:placeN (x::l) s=0:=by simp [placeN,hx]
   rw [e] at h
   simp at h
theorem found_of {l:List Nm} {s:Nm} {k:Nat} (hk:k<l.length) (h1:∀ j (hj:j<l.length),j<k→l[j]<s) (h2:l[k]=s):placeN l s=k∧isN l s=true:=by
 have e:=place_of (s:=s) (by omega) h1 (fun _=>by rw [h2];exact nm_irrefl s)
 subst e
 exact ⟨rfl,by rw [isN_at hk,h2];simp⟩
theorem missed_of {l:List Nm} {s:Nm} {k:Nat} (hk:k≤l.length) (h1:∀ j (hj:j<l.length),j<k→l[j]<s) (h2:∀ h:k<l.length,s<l[k]):placeN l s=k∧isN l s=false:=by
 have e:=place_of (s:=s) hk h1 (fun h=>nm_asym (h2 h))
 subst e
 refine ⟨rfl,?_⟩
 by_cases h:placeN l s<l.length
 ·rw [isN_at h]
  simpa using (nm_ne (h2 h)).symm
 ·exact isN_end (by have :=placeN_le l s;omega)
theorem isN_found {l:List Nm} {s:Nm} (h:isN l s=true):∃ hk:placeN l s<l.length,l[placeN l s]=s:=by
 by_cases hk:placeN l s<l.length
 ·rw [isN_at hk] at h
  exact ⟨hk,by simpa using h⟩
 ·rw [isN_end (by have :=placeN_le l s;omega)] at h
  cases h
theorem isN_own {l:List Nm} (hr:Rise l) {i:Nat} (hi:i<l.length):placeN l l[i]=i∧isN l l[i]=true:=
 found_of hi (fun j hj hji=>rise_at hr hi hji) rfl
def cmpN (x s:Nm):Int:=if x<s then-1 else if x=s then 0 else 1
theorem putN_is:∀ {l:List Nm} {s:Nm},isN l s=true→putN l s=l
 |[],_,h=>by cases h
 |x::l,s,h=>by
  by_cases hx:x<s
  ·rw [isN,if_pos hx] at h
   rw [putN,if_pos hx,putN_is h]
  ·rw [isN,if_neg hx] at h
   rw [putN,if_neg hx,if_pos (by simpa using h)]
theorem putN_not:∀ {l:List Nm} {s:Nm},isN l s=false→putN l s=l.take (placeN l s)++[s]++l.drop (placeN l s)
 |[],_,h=>rfl
 |x::l,s,h=>by
  by_cases hx:x<s
  ·rw [isN,if_pos hx] at h
   rw [putN,if_pos hx,putN_not h,placeN,if_pos hx]
   simp
  ·rw [isN,if_neg hx] at h
   rw [putN,if_neg hx,if_neg (by simpa using h),placeN,if_neg hx]
   simp
theorem mem_putN:∀ {l:List Nm} {s x:Nm},x∈putN l s↔x=s∨x∈l
 |[],s,x=>by simp [putN]
 |y::l,s,x=>by
  rw [putN]
  split
  ·rw [List.mem_cons,mem_putN,List.mem_cons];exact or_left_comm
  ·split
   ·rename_i e
    subst e
    rw [List.mem_cons]
    exact ⟨fun h=> .inr h,fun h=>h.elim .inl id⟩
   ·rw [List.mem_cons,List.mem_cons]
theorem rise_putN:∀ {l:List Nm} {s:Nm},Rise l→Rise (putN l s)
 |[],s,_=>by simp [putN,Rise]
 |y::l,s,h=>by
  have h':=List.pairwise_cons.1 h
  rw [putN]
  split
  ·rename_i hy
   refine List.pairwise_cons.2 ⟨fun a ha=> ?_,rise_putN h'.2⟩
   rcases mem_putN.1 ha with rfl|ha
   ·exact hy
   ·exact h'.1 a ha
  ·rename_i hy
   split
   ·exact h
   ·rename_i hne
    have hs:s<y:=((nm_tri y s).resolve_left hy).resolve_left hne
    refine List.pairwise_cons.2 ⟨fun a ha=> ?_,h⟩
    rcases List.mem_cons.1 ha with rfl|ha
    ·exact hs
    ·exact nm_trans hs (h'.1 a ha)
theorem putN_length (l:List Nm) (s:Nm):(putN l s).length≤l.length+1:=by
 cases h:isN l s with
 |true=>rw [putN_is h];omega
 |false=>rw [putN_not h];have :=placeN_le l s;simp;omega
theorem rise_ext:∀ {a b:List Nm},Rise a→Rise b→(∀ x,x∈a↔x∈b)→a=b
 |[],[],_,_,_=>rfl
 |[],y::b,_,_,h=>absurd ((h y).2 (List.mem_cons_self ..)) (by simp)
 |x::a,[],_,_,h=>absurd ((h x).1 (List.mem_cons_self ..)) (by simp)
 |x::a,y::b,ha,hb,h=>by
  have ha':=List.pairwise_cons.1 ha
  have hb':=List.pairwise_cons.1 hb
  have e:x=y:=by
   rcases List.mem_cons.1 ((h x).1 (List.mem_cons_self ..)) with e|h1
   ·exact e
   ·rcases List.mem_cons.1 ((h y).2 (List.mem_cons_self ..)) with e|h2
    ·exact e.symm
    ·exact absurd (ha'.1 y h2) (nm_asym (hb'.1 x h1))
  subst e
  congr 1
  refine rise_ext ha'.2 hb'.2 fun z=>⟨fun hz=> ?_,fun hz=> ?_⟩
  ·rcases List.mem_cons.1 ((h z).1 (List.mem_cons_of_mem _ hz)) with rfl|h1
   ·exact absurd (ha'.1 z hz) (nm_irrefl z)
   ·exact h1
  ·rcases List.mem_cons.1 ((h z).2 (List.mem_cons_of_mem _ hz)) with rfl|h1
   ·exact absurd (hb'.1 z hz) (nm_irrefl z)
   ·exact h1
structure Good (g:List Nm):Prop where
 rise:Rise g
 eight:∀ x∈g,x.length≤8
theorem mem_foldl_putN:∀ (xs:List Nm) (a:List Nm) (x:Nm),x∈xs.foldl putN a↔x∈xs∨x∈a
 |[],a,x=>by simp
 |y::xs,a,x=>by
  rw [List.foldl_cons,mem_foldl_putN xs,mem_putN,List.mem_cons]
  constructor
  ·rintro (h|h|h)
   ·exact .inl (.inr h)
   ·exact .inl (.inl h)
   ·exact .inr h
  ·rintro ((h|h)|h)
   ·exact .inr (.inl h)
   ·exact .inl h
   ·exact .inr (.inr h)
theorem rise_foldl_putN:∀ (xs:List Nm) (a:List Nm),Rise a→Rise (xs.foldl putN a)
 |[],a,h=>h
 |y::xs,a,h=>rise_foldl_putN xs _ (rise_putN h)
theorem foldl_putN_length:∀ (xs a:List Nm),(xs.foldl putN a).length≤xs.length+a.length
 |[],a=>by simp
 |y::xs,a=>by
  rw [List.foldl_cons,List.length_cons]
  have :=foldl_putN_length xs (putN a y)
  have :=putN_length a y
  omega
end Go.Proofs.YtmoomnpbiifedaaGreat
set_option linter.unusedVariables false
namespace Go.Proofs.YtmoomnpbiifedaaGreat
open Go Go.RowKit Go.Sort
def OwnNm (base:Nat) (w:World) (v:Value) (l:List Nm):Prop:=w.ownsRow base 9 1 v l.length (strs l)
theorem OwnNm.below {base:Nat} {w w':World} {v:Value} {l:List Nm} (h:OwnNm base w v l) (hb:Below w.heap.size w w'):OwnNm base w' v l:=owned_below h hb
theorem OwnNm.low {base b:Nat} {w:World} {v:Value} {l:List Nm} (h:OwnNm base w v l) (hb:b≤base):OwnNm b w v l:=owned_low h hb
theorem OwnNm.row {base:Nat} {w:World} {v:Value} {l:List Nm} (h:OwnNm base w v l):∃ A c,v= .slice A l.length c∧l.length≤c∧Row w w.heap.size A (strs l):=owned_row h
theorem OwnNm.nil {base:Nat} {w:World}:OwnNm base w (.slice none 0 0) []:=World.ownsRow_nil _ _ _ _
def GaveNm (l:List Nm) (w:World) (e:Ending) (w':World):Prop:=∃ v,e= .returned v∧OwnNm w.heap.size w' v l∧Below w.heap.size w w'
theorem less_of {x y:Nm}:Op.bytesLess x y=decide (x<y):=bytesLess_eq x y
theorem row_nm {w:World} {B:Nat} {A:Option Addr} {xs:List Nm} (h:Row w B A (strs xs)) {k:Nat} (hk:k<xs.length):
  ∃ b off,A=some ⟨b,off,none⟩∧b<B∧w.cell? ⟨b,off+k,none⟩=some (.string ⟨xs[k].toArray⟩):=row_str h hk
theorem as_text (x:Nm):∃ t:ByteArray,t=⟨x.toArray⟩∧t.data.toList=x:=⟨_,rfl,rfl⟩
theorem size_nm (x:Nm):(⟨x.toArray⟩:ByteArray).size=x.length:=List.size_toArray
theorem less_true {s t:ByteArray} (h:s.data.toList<t.data.toList):Op.bytesLess s.toList t.toList=true:=by rw [Lib.toList_data,Lib.toList_data,less_of];exact decide_eq_true h
theorem less_false {s t:ByteArray} (h:¬ s.data.toList<t.data.toList):Op.bytesLess s.toList t.toList=false:=by rw [Lib.toList_data,Lib.toList_data,less_of];exact decide_eq_false h
theorem same_true {s t:ByteArray} (h:s.data.toList=t.data.toList):(s.toList==t.toList)=true:=by rw [Lib.toList_data,Lib.toList_data,h];exact beq_self_eq_true _
theorem same_false {s t:ByteArray} (h:s.data.toList≠t.data.toList):(s.toList==t.toList)=false:=by rw [Lib.toList_data,Lib.toList_data];simpa using h
theorem strs_append (a b:List Nm):strs (a++b)=strs a++strs b:=by simp [strs]
theorem Row.dropped {w:World} {B b off:Nat} {l:List Nm} (h:Row w B (some ⟨b,off,none⟩) (strs l)) (k:Nat):Row w B (some ⟨b,off+k,none⟩) (strs (l.drop k)):=by
 rcases h with h|⟨b',o',e,hb,hc⟩
 ·refine .inl ?_
  have :l=[]:=by simpa [strs] using h
  simp [this,strs]
 ·injection e with e
  injection e with e1 e2
  subst e1 e2
  refine .inr ⟨b,off+k,rfl,hb,fun j u hu=> ?_⟩
  have :=hc (k+j) u (by rw [← hu];simp [strs])
  rwa [← Nat.add_assoc] at this
theorem strs_oneCell (l:List Nm):∀ u∈strs l,u.oneCell'=true:=by
 intro u hu
 obtain ⟨x,_,rfl⟩:=List.mem_map.1 hu
 rfl
theorem Row.later {w w':World} {A:Option Addr} {xs:List Value} (h:Row w w.heap.size A xs) (hb:Below w.heap.size w w'):Row w' w'.heap.size A xs:=(h.below hb).more hb.size
end Go.Proofs.YtmoomnpbiifedaaGreat
namespace Go.Proofs.YtmoomnpbiifedaaGreat
open Go Go.RowKit
set_option linter.unusedVariables false
theorem ne_atT {xs ys:List Nm} {k:Nat} (hx:k<xs.length) (hy:k<ys.length) (h:xs[k]≠ys[k]):decide (xs=ys)=false:=decide_eq_false fun e=>h (by subst e;rfl)
theorem eq_allT {xs ys:List Nm} (hl:xs.length=ys.length) (h:∀ j (hj:j<xs.length),xs[j]=ys[j]'(by omega)):decide (xs=ys)=true:=decide_eq_true (List.ext_getElem hl fun j h1 _=>h j h1)
def SameRelT (xs ys:List Nm) (w:World) (r i:Value) (wr:World):Prop:=r= .bool false∧∃ k:Nat,k≤xs.length∧i= .int .i64 (k:Int)∧Below w.heap.size w wr∧∀ j (hj:j<xs.length) (hj':j<ys.length),j<k→xs[j]=ys[j]
set_option maxHeartbeats 1000000 in
set_option maxRecDepth 100000 in
theorem ref02_Same_all (A C:Option Addr) (n m c d:Nat) (xs ys:List Nm) (w:World) (hn:xs.length=n) (hm:ys.length=m) (hx:Row w w.heap.size A (strs xs)) (hy:Row w w.heap.size C (strs ys)) (hxl:n≤9223372036854775807) (hyl:m≤9223372036854775807):
  Calls Tryz.prog 32 #[.slice A n c,.slice C m d] w fun e w'=>e= .returned (.bool (decide (xs=ys)))∧Below w.heap.size w w':=by
 subst hn hm
 have HX:=Lib.hid hx
 have HY:=Lib.hid hy
 obtain ⟨z,hz⟩:∃ z,z=decide (xs=ys):=⟨_,rfl⟩
 rw [← hz]
 have HZ:=Lib.hid hz
 clear hx hy hz
 by_cases hlen:xs.length=ys.length
 ·go_enter Tryz.func32,Tryz.ntmps32
  go_wp2
  go_loopw [4,5] (fun r i wr=>SameRelT xs ys w r i wr) (fun _ i _=>xs.length-(intOf i).toNat)
  case atStart=>exact ⟨rfl,0,Nat.zero_le _,rfl,Below.refl _ _,fun j _ _ hj=>by omega⟩
  case round=>
   obtain ⟨rfl,k,hk,rfl,hbw,hall⟩:=hrel
   by_cases hlt:k<xs.length
   ·have hlt2:k<ys.length:=by omega
    obtain ⟨b1,o1,e1,_,hc1⟩:=row_nm (HX.out.below hbw) hlt
    obtain ⟨b2,o2,e2,_,hc2⟩:=row_nm (HY.out.below hbw) hlt2
    subst e1 e2
    obtain ⟨x,hx,hx2⟩:=as_text xs[k]
    obtain ⟨y,hy,hy2⟩:=as_text ys[k]
    rw [← hx] at hc1
    rw [← hy] at hc2
    have hi0:(0:Int)≤k:=by omega
    have hi1:(k:Int)<xs.length:=by omega
    have hi2:(k:Int)<ys.length:=by omega
    by_cases he:xs[k]=ys[k]
    ·have t1:=same_true (s:=x) (t:=y) (by rw [hx2,hy2];exact he)
     have HN:Hid (∀ j (hj:j<xs.length) (hj':j<ys.length),j<k+1→xs[j]=ys[j]):=Lib.hid fun j hj hj' hjk=>by
      by_cases e:j=k
      ·subst e;exact he
      ·exact hall j hj hj' (by omega)
     clear hall he hx hx2 hy hy2
     go_wp2
     go_quiet (fail)
     go_wp2
     go_roundw
     case rel=>exact ⟨rfl,k+1,by omega,by go_num,hbw.trans ⟨rfl,rfl,rfl,Nat.le_refl _,fun _ _=>rfl⟩,HN.out⟩
     case measure=>simp [intOf];omega
    ·have t1:=same_false (s:=x) (t:=y) (by rw [hx2,hy2];exact he)
     have hzf:z=false:=by rw [HZ.out];exact ne_atT hlt hlt2 he
     subst hzf
     clear hall he hx hx2 hy hy2
     go_wp2
     go_quiet (fail)
     go_wp2
     go_ret
     exact ⟨rfl,hbw.trans ⟨rfl,rfl,rfl,Nat.le_refl _,fun _ _=>rfl⟩⟩
   ·have hzt:z=true:=by rw [HZ.out];exact eq_allT hlen fun j hj=>hall j hj (by omega) (by omega)
    subst hzt
    clear hall
    go_wp2
    go_ret
    exact ⟨rfl,hbw⟩
 ·have hzf:z=false:=by rw [HZ.out];exact decide_eq_false fun e=>hlen (by rw [e])
  subst hzf
  go_enter Tryz.func32,Tryz.ntmps32
  go_wp2
  go_ret
  exact ⟨rfl,Below.refl _ _⟩
end Go.Proofs.YtmoomnpbiifedaaGreat
namespace Go.Proofs.YtmoomnpbiifedaaGreat
open Go Go.RowKit
set_option linter.unusedVariables false
def EqRelI (xs ys:List Int) (w:World) (i:Value) (wr:World):Prop:=∃ k:Nat,k≤xs.length∧i= .int .i64 (k:Int)∧Below w.heap.size w wr∧∀ j (hj:j<xs.length) (hj':j<ys.length),j<k→xs[j]=ys[j]
set_option maxHeartbeats 1000000 in
set_option maxRecDepth 100000 in
theorem equal_ints (A C:Option Addr) (n m c d:Nat) (xs ys:List Int) (w:World) (hn:xs.length=n) (hm:ys.length=m) (hx:Row w w.heap.size A (ints xs)) (hy:Row w w.heap.size C (ints ys)) (hxl:n≤9223372036854775807) (hyl:m≤9223372036854775807):
  Calls Tryz.prog 55 #[.slice A n c,.slice C m d] w fun e w'=>e= .returned (.bool (decide (xs=ys)))∧Below w.heap.size w w':=by
 subst hn hm
 have HX:=Lib.hid hx
 have HY:=Lib.hid hy
 obtain ⟨z,hz⟩:∃ z,z=decide (xs=ys):=⟨_,rfl⟩
 rw [← hz]
 have HZ:=Lib.hid hz
 clear hx hy hz
 by_cases hlen:xs.length=ys.length
 ·go_enter Tryz.func55,Tryz.ntmps55
  go_wp2
  go_loopw [13] (fun i wr=>EqRelI xs ys w i wr) (fun i _=>xs.length-(intOf i).toNat)
  case atStart=>exact ⟨0,Nat.zero_le _,rfl,Below.refl _ _,fun j _ _ hj=>by omega⟩
  case round=>
   obtain ⟨k,hk,rfl,hbw,hall⟩:=hrel
   by_cases hlt:k<xs.length
   ·have hlt2:k<ys.length:=by omega
    obtain ⟨b1,o1,e1,_,hc1⟩:=row_int (HX.out.below hbw) hlt
    obtain ⟨b2,o2,e2,_,hc2⟩:=row_int (HY.out.below hbw) hlt2
    subst e1 e2
    have hi0:(0:Int)≤k:=by omega
    have hi1:(k:Int)<xs.length:=by omega
    have hi2:(k:Int)<ys.length:=by omega
    by_cases he:xs[k]=ys[k]
    ·have HN:Hid (∀ j (hj:j<xs.length) (hj':j<ys.length),j<k+1→xs[j]=ys[j]):=Lib.hid fun j hj hj' hjk=>by
      by_cases e:j=k
      ·subst e;exact he
      ·exact hall j hj hj' (by omega)
     rw [← he] at hc2
     obtain ⟨x,hx⟩:∃ x,x=xs[k]:=⟨_,rfl⟩
     rw [← hx] at hc1 hc2
     clear hall he hx
     go_wp2
     go_quiet (fail)
     go_wp2
     go_roundw
     case rel=>exact ⟨k+1,by omega,by go_num,hbw.trans ⟨rfl,rfl,rfl,Nat.le_refl _,fun _ _=>rfl⟩,HN.out⟩
     case measure=>simp [intOf];omega
    ·have hzf:z=false:=by rw [HZ.out];exact ne_atI hlt hlt2 he
     subst hzf
     have hne:(xs[k] != ys[k])=true:=by simpa using he
     obtain ⟨x,hx⟩:∃ x,x=xs[k]:=⟨_,rfl⟩
     obtain ⟨y,hy⟩:∃ y,y=ys[k]:=⟨_,rfl⟩
     rw [← hx] at hc1 hne
     rw [← hy] at hc2 hne
     clear hall he hx hy
     go_wp2
     go_quiet (fail)
     go_wp2
     go_ret
     exact ⟨rfl,hbw.trans ⟨rfl,rfl,rfl,Nat.le_refl _,fun _ _=>rfl⟩⟩
   ·have hzt:z=true:=by rw [HZ.out];exact eq_allI hlen fun j hj=>hall j hj (by omega) (by omega)
    subst hzt
    clear hall
    go_wp2
    go_ret
    exact ⟨rfl,hbw⟩
 ·have hzf:z=false:=by rw [HZ.out];exact decide_eq_false fun e=>hlen (by rw [e])
  subst hzf
  go_enter Tryz.func55,Tryz.ntmps55
  go_wp2
  go_ret
  exact ⟨rfl,Below.refl _ _⟩
def EqRelT (xs ys:List Nm) (w:World) (i:Value) (wr:World):Prop:=∃ k:Nat,k≤xs.length∧i= .int .i64 (k:Int)∧Below w.heap.size w wr∧∀ j (hj:j<xs.length) (hj':j<ys.length),j<k→xs[j]=ys[j]
set_option maxHeartbeats 1000000 in
set_option maxRecDepth 100000 in
theorem equal_texts (A C:Option Addr) (n m c d:Nat) (xs ys:List Nm) (w:World) (hn:xs.length=n) (hm:ys.length=m) (hx:Row w w.heap.size A (strs xs)) (hy:Row w w.heap.size C (strs ys)) (hxl:n≤9223372036854775807) (hyl:m≤9223372036854775807):
  Calls Tryz.prog 56 #[.slice A n c,.slice C m d] w fun e w'=>e= .returned (.bool (decide (xs=ys)))∧Below w.heap.size w w':=by
 subst hn hm
 have HX:=Lib.hid hx
 have HY:=Lib.hid hy
 obtain ⟨z,hz⟩:∃ z,z=decide (xs=ys):=⟨_,rfl⟩
 rw [← hz]
 have HZ:=Lib.hid hz
 clear hx hy hz
 by_cases hlen:xs.length=ys.length
 ·go_enter Tryz.func56,Tryz.ntmps56
  go_wp2
  go_loopw [13] (fun i wr=>EqRelT xs ys w i wr) (fun i _=>xs.length-(intOf i).toNat)
  case atStart=>exact ⟨0,Nat.zero_le _,rfl,Below.refl _ _,fun j _ _ hj=>by omega⟩
  case round=>
   obtain ⟨k,hk,rfl,hbw,hall⟩:=hrel
   by_cases hlt:k<xs.length
   ·have hlt2:k<ys.length:=by omega
    obtain ⟨b1,o1,e1,_,hc1⟩:=row_nm (HX.out.below hbw) hlt
    obtain ⟨b2,o2,e2,_,hc2⟩:=row_nm (HY.out.below hbw) hlt2
    subst e1 e2
    obtain ⟨x,hx,hx2⟩:=as_text xs[k]
    obtain ⟨y,hy,hy2⟩:=as_text ys[k]
    rw [← hx] at hc1
    rw [← hy] at hc2
    have hi0:(0:Int)≤k:=by omega
    have hi1:(k:Int)<xs.length:=by omega
    have hi2:(k:Int)<ys.length:=by omega
    by_cases he:xs[k]=ys[k]
    ·have t1:=same_true (s:=x) (t:=y) (by rw [hx2,hy2];exact he)
     have HN:Hid (∀ j (hj:j<xs.length) (hj':j<ys.length),j<k+1→xs[j]=ys[j]):=Lib.hid fun j hj hj' hjk=>by
      by_cases e:j=k
      ·subst e;exact he
      ·exact hall j hj hj' (by omega)
     clear hall he hx hx2 hy hy2
     go_wp2
     go_quiet (fail)
     go_wp2
     go_roundw
     case rel=>exact ⟨k+1,by omega,by go_num,hbw.trans ⟨rfl,rfl,rfl,Nat.le_refl _,fun _ _=>rfl⟩,HN.out⟩
     case measure=>simp [intOf];omega
    ·have t1:=same_false (s:=x) (t:=y) (by rw [hx2,hy2];exact he)
     have hzf:z=false:=by rw [HZ.out];exact ne_atT hlt hlt2 he
     subst hzf
     clear hall he hx hx2 hy hy2
     go_wp2
     go_quiet (fail)
     go_wp2
     go_ret
     exact ⟨rfl,hbw.trans ⟨rfl,rfl,rfl,Nat.le_refl _,fun _ _=>rfl⟩⟩
   ·have hzt:z=true:=by rw [HZ.out];exact eq_allT hlen fun j hj=>hall j hj (by omega) (by omega)
    subst hzt
    clear hall
    go_wp2
    go_ret
    exact ⟨rfl,hbw⟩
 ·have hzf:z=false:=by rw [HZ.out];exact decide_eq_false fun e=>hlen (by rw [e])
  subst hzf
  go_enter Tryz.func56,Tryz.ntmps56
  go_wp2
  go_ret
  exact ⟨rfl,Below.refl _ _⟩
end Go.Proofs.YtmoomnpbiifedaaGreat
namespace Go.Proofs.YtmoomnpbiifedaaGreat
open Go Go.RowKit
set_option linter.unusedVariables false
def SameRelP (l r:List Po) (w:World) (q i:Value) (wr:World):Prop:=q= .bool false∧∃ k:Nat,k≤l.length∧i= .int .i64 (k:Int)∧Below w.heap.size w wr∧∀ j (hj:j<l.length) (hj':j<r.length),j<k→l[j]=r[j]
set_option maxHeartbeats 2000000 in
set_option maxRecDepth 100000 in
theorem ref05_Same_any (A C:Option Addr) (n m c d:Nat) (l r:List Po) (w:World) (hn:l.length=n) (hm:r.length=m) (ha:Posts w w.heap.size A l) (hb:Posts w w.heap.size C r) (hnx:n≤9223372036854775807) (hmx:m≤9223372036854775807) (hpl:∀ p∈l,p.2.length≤9223372036854775807) (hpr:∀ p∈r,p.2.length≤9223372036854775807):
    Calls Tryz.prog 38 #[.slice A n c,.slice C m d] w fun e w'=>e= .returned (.bool (decide (l=r)))∧Below w.heap.size w w':=by
  have HL:=Lib.hid hn
  have HM:=Lib.hid hm
  have HA:=Lib.hid ha
  have HB:=Lib.hid hb
  have HPL:=Lib.hid hpl
  have HPR:=Lib.hid hpr
  obtain ⟨z,hz⟩:∃ z,z=decide (l=r):=⟨_,rfl⟩
  rw [← hz]
  have HZ:=Lib.hid hz
  clear ha hb hpl hpr hz hn hm
  by_cases hlen:m=n
  · subst hlen
    go_enter Tryz.func38,Tryz.ntmps38
    go_wp2
    go_loopw [4,5] (fun q i wr=>SameRelP l r w q i wr) (fun _ i _=>m-(intOf i).toNat)
    case atStart=>exact ⟨rfl,0,Nat.zero_le _,rfl,Below.refl _ _,fun j _ _ hj=>by omega⟩
    case round=>
      obtain ⟨rfl,k,hk,rfl,hbw,hall⟩:=hrel
      have hsz:=hbw.size
      by_cases hkm:k<m
      · have hlt:k<l.length:=by rw [HL.out];exact hkm
        have hlt2:k<r.length:=by rw [HM.out];exact hkm
        obtain ⟨b1,o1,e1,hb1,hc1,A1,c1,hd1,hl1,hx1,hr1⟩:=(HA.out.below hbw).at_ hlt
        obtain ⟨b2,o2,e2,hb2,hc2,A2,c2,hd2,hl2,hx2,hr2⟩:=(HB.out.below hbw).at_ hlt2
        subst e1 e2
        have g1:l.getD k (0,[])=l[k]:=by rw [List.getD_eq_getElem?_getD,List.getElem?_eq_getElem hlt];rfl
        have g2:r.getD k (0,[])=r[k]:=by rw [List.getD_eq_getElem?_getD,List.getElem?_eq_getElem hlt2];rfl
        rw [g1] at hc1 hd1 hl1 hr1
        rw [g2] at hc2 hd2 hl2 hr2
        clear g1 g2
        have hlp:=HPL.out l[k] (List.getElem_mem hlt)
        have hrp:=HPR.out r[k] (List.getElem_mem hlt2)
        have HALL:=Lib.hid hall
        clear hall
        obtain ⟨q1,hq1⟩:∃ q,q=l[k]:=⟨_,rfl⟩
        obtain ⟨q2,hq2⟩:∃ q,q=r[k]:=⟨_,rfl⟩
        rw [← hq1] at hc1 hd1 hl1 hr1 hlp
        rw [← hq2] at hc2 hd2 hl2 hr2 hrp
        have HQ1:=Lib.hid hq1
        have HQ2:=Lib.hid hq2
        clear hq1 hq2
        obtain ⟨y1,ps1⟩:=q1
        obtain ⟨y2,ps2⟩:=q2
        simp only at hc1 hd1 hl1 hr1 hc2 hd2 hl2 hr2 hlp hrp
        have hi0:(0:Int)≤k:=by omega
        have hi1:(k:Int)<m:=by omega
        have HR1:=Lib.hid hr1
        have HR2:=Lib.hid hr2
        clear hr1 hr2
        obtain ⟨P1,hP1⟩:∃ P,P=ps1.length:=⟨_,rfl⟩
        obtain ⟨P2,hP2⟩:∃ P,P=ps2.length:=⟨_,rfl⟩
        rw [← hP1] at hd1 hl1 hlp
        rw [← hP2] at hd2 hl2 hrp
        have HP1:=Lib.hid hP1
        have HP2:=Lib.hid hP2
        clear hP1 hP2
        obtain ⟨z1,hz1⟩:∃ z,z=decide (ps1=ps2):=⟨_,rfl⟩
        have HZ1:=Lib.hid hz1
        have SM:Hid (∀ w1,Below w.heap.size wr w1→Calls Tryz.prog 59 #[.slice A1 P1 c1,.slice A2 P2 c2] w1 fun e w'=>e= .returned (.bool z1)∧Below w1.heap.size w1 w'):=Lib.hid fun w1 h1=>by
          rw [HZ1.out]
          exact ref01_Same_any A1 A2 P1 P2 c1 c2 ps1 ps2 w1 HP1.out.symm HP2.out.symm ((HR1.out.below h1).more (by have :=h1.size;omega)) ((HR2.out.below h1).more (by have :=h1.size;omega)) hlp hrp
        clear hz1
        by_cases hy:y1=y2
        · subst hy
          by_cases hp:z1=true
          · subst hp
            have HN:Hid (∀ j (hj:j<l.length) (hj':j<r.length),j<k+1→l[j]=r[j]):=Lib.hid fun j hj hj' hjk=>by
              by_cases e:j=k
              · subst e
                have hpe:ps1=ps2:=of_decide_eq_true HZ1.out.symm
                rw [← HQ1.out,← HQ2.out,hpe]
              · exact HALL.out j hj hj' (by omega)
            go_wp2
            go_region_held3 (fun w'=>w'.cell? ⟨b1,o1+k*2+1,none⟩=some (.slice A1 P1 c1)∧w'.cell? ⟨b2,o2+k*2+1,none⟩=some (.slice A2 P2 c2))
              (first|exact ⟨hd1,hd2⟩|exact ⟨hd5,hd6⟩)
              (first
                | (go_at_call 59; refine (SM.out _ (Below.refl _ _).drew).mono ?_; rintro e w5 ⟨rfl, hb5⟩
                   have hb6:=(Below.refl w.heap.size wr).drew.trans (hb5.mono (by show w.heap.size≤wr.heap.size;omega))
                   have hd5:=(hb6.cell (p:=⟨b1,o1+k*2+1,none⟩) hb1).trans hd1
                   have hd6:=(hb6.cell (p:=⟨b2,o2+k*2+1,none⟩) hb2).trans hd2
                   have hc5:=(hb6.cell (p:=⟨b1,o1+k*2,none⟩) hb1).trans hc1
                   have hc6:=(hb6.cell (p:=⟨b2,o2+k*2,none⟩) hb2).trans hc2
                   have HB6:=Lib.hid hb6
                   clear hb5 hb6))
            have HBW6:=Lib.hid (hbw.trans HB6.out)
            clear hc1 hc2 hd1 hd2
            go_wp2
            go_quiet (fail)
            go_wp2
            go_roundw
            case rel=>exact ⟨rfl,k+1,by omega,by go_num,HBW6.out.trans ⟨rfl,rfl,rfl,Nat.le_refl _,fun _ _=>rfl⟩,HN.out⟩
            case measure=>simp [intOf];omega
          · have hpf:z1=false:=by simpa using hp
            subst hpf
            have hzf:z=false:=by
              rw [HZ.out]
              refine ne_atI hlt hlt2 fun e=>of_decide_eq_false HZ1.out.symm ?_
              rw [← HQ1.out,← HQ2.out] at e
              injection e
            subst hzf
            clear hp
            go_wp2
            go_region_held3 (fun w'=>w'.cell? ⟨b1,o1+k*2+1,none⟩=some (.slice A1 P1 c1)∧w'.cell? ⟨b2,o2+k*2+1,none⟩=some (.slice A2 P2 c2))
              (first|exact ⟨hd1,hd2⟩|exact ⟨hd5,hd6⟩)
              (first
                | (go_at_call 59; refine (SM.out _ (Below.refl _ _).drew).mono ?_; rintro e w5 ⟨rfl, hb5⟩
                   have hb6:=(Below.refl w.heap.size wr).drew.trans (hb5.mono (by show w.heap.size≤wr.heap.size;omega))
                   have hd5:=(hb6.cell (p:=⟨b1,o1+k*2+1,none⟩) hb1).trans hd1
                   have hd6:=(hb6.cell (p:=⟨b2,o2+k*2+1,none⟩) hb2).trans hd2
                   have hc5:=(hb6.cell (p:=⟨b1,o1+k*2,none⟩) hb1).trans hc1
                   have hc6:=(hb6.cell (p:=⟨b2,o2+k*2,none⟩) hb2).trans hc2
                   have HB6:=Lib.hid hb6
                   clear hb5 hb6))
            have HBW6:=Lib.hid (hbw.trans HB6.out)
            clear hc1 hc2 hd1 hd2
            go_wp2
            go_quiet (fail)
            go_wp2
            go_ret
            exact ⟨rfl,HBW6.out.trans ⟨rfl,rfl,rfl,Nat.le_refl _,fun _ _=>rfl⟩⟩
        · have hzf:z=false:=by
            rw [HZ.out]
            refine ne_atI hlt hlt2 fun e=>hy ?_
            rw [← HQ1.out,← HQ2.out] at e
            injection e
          subst hzf
          have hne:(y1 != y2)=true:=by simpa using hy
          clear hy
          go_wp2
          go_region_held3 (fun w'=>w'.cell? ⟨b1,o1+k*2+1,none⟩=some (.slice A1 P1 c1)∧w'.cell? ⟨b2,o2+k*2+1,none⟩=some (.slice A2 P2 c2))
            (first|exact ⟨hd1,hd2⟩|exact ⟨hd5,hd6⟩)
            (first
              | (go_at_call 59; refine (SM.out _ (Below.refl _ _).drew).mono ?_; rintro e w5 ⟨rfl, hb5⟩
                 have hb6:=(Below.refl w.heap.size wr).drew.trans (hb5.mono (by show w.heap.size≤wr.heap.size;omega))
                 have hd5:=(hb6.cell (p:=⟨b1,o1+k*2+1,none⟩) hb1).trans hd1
                 have hd6:=(hb6.cell (p:=⟨b2,o2+k*2+1,none⟩) hb2).trans hd2
                 have hc5:=(hb6.cell (p:=⟨b1,o1+k*2,none⟩) hb1).trans hc1
                 have hc6:=(hb6.cell (p:=⟨b2,o2+k*2,none⟩) hb2).trans hc2
                 have HB6:=Lib.hid hb6
                 clear hb5 hb6))
          have HBW6:=Lib.hid (hbw.trans HB6.out)
          clear hc1 hc2 hd1 hd2
          go_wp2
          go_quiet (fail)
          go_wp2
          go_ret
          exact ⟨rfl,HBW6.out.trans ⟨rfl,rfl,rfl,Nat.le_refl _,fun _ _=>rfl⟩⟩
      · have hzt:z=true:=by rw [HZ.out];exact eq_allI (HL.out.trans HM.out.symm) fun j hj=>hall j hj (by rw [HM.out,← HL.out];exact hj) (by have :=HL.out;omega)
        subst hzt
        clear hall
        go_wp2
        go_ret
        exact ⟨rfl,hbw⟩
  · have hzf:z=false:=by rw [HZ.out];exact decide_eq_false fun e=>hlen (by rw [← HL.out,← HM.out,e])
    subst hzf
    go_enter Tryz.func38,Tryz.ntmps38
    go_wp2
    go_ret
    exact ⟨rfl,Below.refl _ _⟩
end Go.Proofs.YtmoomnpbiifedaaGreat
namespace Go.Proofs.YtmoomnpbiifedaaGreat
open Go.Shelf Go.RowKit
def layCount_ren:Go.Shelf.Ren:=⟨fun |195=>182|n=>n,fun |0=>0|3=>3|4=>4|9=>9|n=>n,fun |n=>n⟩
theorem layCount:Lays.n195 Tryz.prog layCount_ren:={
 mixed:=by kernel_rfl
 f195:=Tryz.func182.trans (congrArg some (by kernel_rfl))
 t0:=Tryz.underlying0
 a0:=Tryz.isAgg0
 z0:=Tryz.sizeOf0
 v0:=Tryz.zeroValue0
 t3:=Tryz.underlying3
 a3:=Tryz.isAgg3
 z3:=Tryz.sizeOf3
 v3:=Tryz.zeroValue3
 t4:=Tryz.underlying4
 a4:=Tryz.isAgg4
 z4:=Tryz.sizeOf4
 v4:=Tryz.zeroValue4
 t9:=Tryz.underlying9
 a9:=Tryz.isAgg9
 z9:=Tryz.sizeOf9
 v9:=Tryz.zeroValue9}
def layString_ren:Go.Shelf.Ren:=⟨fun |169=>201|n=>n,fun |0=>0|3=>3|5=>5|9=>9|37=>86|70=>249|72=>251|127=>264|n=>n,fun |n=>n⟩
theorem layString:Lays.n169 Tryz.prog layString_ren:={
 mixed:=by kernel_rfl
 f169:=Tryz.func201.trans (congrArg some (by kernel_rfl))
 t0:=Tryz.underlying0
 a0:=Tryz.isAgg0
 z0:=Tryz.sizeOf0
 v0:=Tryz.zeroValue0
 t3:=Tryz.underlying3
 a3:=Tryz.isAgg3
 z3:=Tryz.sizeOf3
 v3:=Tryz.zeroValue3
 t9:=Tryz.underlying9
 a9:=Tryz.isAgg9
 z9:=Tryz.sizeOf9
 v9:=Tryz.zeroValue9
 t37:=Tryz.underlying86
 a37:=Tryz.isAgg86
 z37:=Tryz.sizeOf86
 v37:=Tryz.zeroValue86
 t70:=Tryz.underlying249
 a70:=Tryz.isAgg249
 z70:=Tryz.sizeOf249
 v70:=Tryz.zeroValue249
 t72:=Tryz.underlying251
 a72:=Tryz.isAgg251
 z72:=Tryz.sizeOf251
 v72:=Tryz.zeroValue251
 t127:=Tryz.underlying264
 a127:=Tryz.isAgg264
 z127:=Tryz.sizeOf264
 v127:=Tryz.zeroValue264}
theorem extraString:Builder.Extra Tryz.prog layString_ren:={
 sizeBuilder:=by kernel_rfl
 liesBuilder:=by kernel_rfl
 t5:=Tryz.underlying5
 a5:=Tryz.isAgg5
 z5:=Tryz.sizeOf5
 v5:=Tryz.zeroValue5
 infoByte:=by kernel_rfl
 cellsByte:=by kernel_rfl
 sizeByte:=by kernel_rfl
 neB5:=by decide}
def layRune_ren:Go.Shelf.Ren:=⟨fun |168=>199|240=>208|242=>209|276=>211|278=>212|n=>n,fun |0=>0|3=>3|4=>4|5=>5|9=>9|20=>20 |21=>21|37=>86|46=>157|51=>224|70=>249|72=>251|75=>253|80=>257|164=>266|n=>n,fun |n=>n⟩
theorem layRune:Lays.n168 Tryz.prog layRune_ren:={
 mixed:=by kernel_rfl
 f168:=Tryz.func199.trans (congrArg some (by kernel_rfl))
 f240:=Tryz.func208.trans (congrArg some (by kernel_rfl))
 f242:=Tryz.func209.trans (congrArg some (by kernel_rfl))
 f276:=Tryz.func211.trans (congrArg some (by kernel_rfl))
 f278:=Tryz.func212.trans (congrArg some (by kernel_rfl))
 t0:=Tryz.underlying0
 a0:=Tryz.isAgg0
 z0:=Tryz.sizeOf0
 v0:=Tryz.zeroValue0
 t3:=Tryz.underlying3
 a3:=Tryz.isAgg3
 z3:=Tryz.sizeOf3
 v3:=Tryz.zeroValue3
 t4:=Tryz.underlying4
 a4:=Tryz.isAgg4
 z4:=Tryz.sizeOf4
 v4:=Tryz.zeroValue4
 t5:=Tryz.underlying5
 a5:=Tryz.isAgg5
 z5:=Tryz.sizeOf5
 v5:=Tryz.zeroValue5
 t9:=Tryz.underlying9
 a9:=Tryz.isAgg9
 z9:=Tryz.sizeOf9
 v9:=Tryz.zeroValue9
 t20:=Tryz.underlying20
 a20:=Tryz.isAgg20
 z20:=Tryz.sizeOf20
 v20:=Tryz.zeroValue20
 t21:=Tryz.underlying21
 a21:=Tryz.isAgg21
 z21:=Tryz.sizeOf21
 v21:=Tryz.zeroValue21
 t37:=Tryz.underlying86
 a37:=Tryz.isAgg86
 z37:=Tryz.sizeOf86
 v37:=Tryz.zeroValue86
 t46:=Tryz.underlying157
 a46:=Tryz.isAgg157
 z46:=Tryz.sizeOf157
 v46:=Tryz.zeroValue157
 t51:=Tryz.underlying224
 a51:=Tryz.isAgg224
 z51:=Tryz.sizeOf224
 v51:=Tryz.zeroValue224
 t70:=Tryz.underlying249
 a70:=Tryz.isAgg249
 z70:=Tryz.sizeOf249
 v70:=Tryz.zeroValue249
 t72:=Tryz.underlying251
 a72:=Tryz.isAgg251
 z72:=Tryz.sizeOf251
 v72:=Tryz.zeroValue251
 t75:=Tryz.underlying253
 a75:=Tryz.isAgg253
 z75:=Tryz.sizeOf253
 v75:=Tryz.zeroValue253
 t164:=Tryz.underlying266
 a164:=Tryz.isAgg266
 z164:=Tryz.sizeOf266
 v164:=Tryz.zeroValue266}
theorem extraRune:Builder.Extra Tryz.prog layRune_ren:={
 sizeBuilder:=by kernel_rfl
 liesBuilder:=by kernel_rfl
 t5:=Tryz.underlying5
 a5:=Tryz.isAgg5
 z5:=Tryz.sizeOf5
 v5:=Tryz.zeroValue5
 infoByte:=by kernel_rfl
 cellsByte:=by kernel_rfl
 sizeByte:=by kernel_rfl
 neB5:=by decide}
theorem run_count (s:ByteArray) (w:World) (hs:s.size<9223372036854775807):
  Calls Tryz.prog 182 #[.string s] w fun e w'=>e= .returned (.int .i64 (Lib.runeCount s))∧∃ pos,w'=w.iter s pos:=Any.utf8_RuneCountInString layCount s w hs
theorem builder_String (B b:Nat) (l:List UInt8) (w:World) (h:Lib.IsBuilderF 251 5 B b (Lib.byteCells l) w) (hBw:B≤w.heap.size):
  Calls Tryz.prog 201 #[.pointer (some ⟨b,0,none⟩)] w fun e w'=>e= .returned (.string ⟨l.toArray⟩)∧(Lib.IsBuilderF 251 5 B b (Lib.byteCells l) w'∧Below B w w'∧Lib.OthersKept 5 (some b) w w'):=Any.Builder_String_any_k layString extraString B b l w h hBw
theorem builder_WriteRune (B b:Nat) (bs:List Value) (r:Int) (hr0: -2147483648≤r) (hr1:r≤2147483647) (w:World) (h:Lib.IsBuilderF 251 5 B b bs w) (hlen:bs.length+4≤140737488355328) (hBw:B≤w.heap.size):
  Calls Tryz.prog 199 #[.pointer (some ⟨b,0,none⟩),.int .i32 r] w fun e w'=>e= .returned (.tuple #[.int .i64 (Lib.runeCells r).length,.nilIface])∧(Lib.BuilderAtF 251 5 B b (.pointer (some ⟨b,0,none⟩)) (bs++Lib.runeCells r) w'∧Below B w w'∧Lib.OthersKept 5 (some b) w w'):=Any.Builder_WriteRune_k layRune extraRune B b bs r hr0 hr1 w h hlen hBw
end Go.Proofs.YtmoomnpbiifedaaGreat
set_option linter.unusedVariables false
namespace Go.Proofs.YtmoomnpbiifedaaGreat
open Go
def dec (l:List UInt8):Nat × Nat:=
 let at' (k:Nat):Nat:=(l.getD k 0).toNat
 let cont (k:Nat):Bool:=k<l.length&&at' k/64==2
 let b0:=at' 0
 if b0<0x80 then (b0,1)
 else if b0/32==6&&cont 1 then
  let c:=(b0%32)*64+at' 1%64
  if c≥0x80 then (c,2) else (65533,1)
 else if b0/16==14&&cont 1&&cont 2 then
  let c:=(b0%16)*4096+(at' 1%64)*64+at' 2%64
  if c≥0x800&&Utf8.valid c then (c,3) else (65533,1)
 else if b0/8==30&&cont 1&&cont 2&&cont 3 then
  let c:=(b0%8)*262144+(at' 1%64)*4096+(at' 2%64)*64+at' 3%64
  if c≥0x10000&&Utf8.valid c then (c,4) else (65533,1)
 else (65533,1)
theorem get_drop (s:ByteArray) (i k:Nat):(s.get! (i+k))=(s.data.toList.drop i).getD k 0:=by
 cases s with
 |mk a=>
  simp only [ByteArray.get!,List.getD,List.getElem?_drop,Array.getElem?_toList]
  rw [getElem!_def]
  cases a[i+k]?<;>rfl
theorem decode_dec (s:ByteArray) (i:Nat):Utf8.decode s i=dec (s.data.toList.drop i):=by
 unfold Utf8.decode dec
 simp only [get_drop s i]
 have hc:∀ k,decide (i+k<s.size)=decide (k<(s.data.toList.drop i).length):=by
  intro k
  have :s.size=s.data.toList.length:=(Array.length_toList (xs:=s.data)).symm
  rw [decide_eq_decide,List.length_drop,this]
  omega
 simp only [hc]
 rfl
theorem dec_width (l:List UInt8) (h:l≠[]):1≤(dec l).2∧(dec l).2≤l.length:=by
 have hl:1≤l.length:=by cases l<;>simp_all
 unfold dec
 simp only []
 repeat' split
 all_goals (simp_all;try omega)
theorem dec_valid (l:List UInt8):Utf8.valid ((dec l).1:Int)=true:=by
 unfold dec
 simp only []
 have hb:∀ k,(l.getD k 0).toNat<256:=fun k=>(l.getD k 0).toNat_lt
 repeat' split
 all_goals simp_all [Utf8.valid]
 all_goals (try omega)
 all_goals (have h0:=hb 0;have h1:=hb 1;try omega)
def signsF:Nat→List UInt8→List Int
 |0,_=>[]
 |f+1,l=>if l=[] then [] else ((dec l).1:Int)::signsF f (l.drop (dec l).2)
def signs (l:List UInt8):List Int:=signsF l.length l
theorem signsF_nil (f:Nat):signsF f []=[]:=by cases f<;>simp [signsF]
theorem signsF_more:∀ (f g:Nat) (l:List UInt8),l.length≤f→l.length≤g→signsF f l=signsF g l
 |0,g,l,hf,_=>by
  have :l=[]:=List.eq_nil_of_length_eq_zero (by omega)
  subst this
  rw [signsF_nil,signsF_nil]
 |f+1,0,l,_,hg=>by
  have :l=[]:=List.eq_nil_of_length_eq_zero (by omega)
  subst this
  rw [signsF_nil,signsF_nil]
 |f+1,g+1,l,hf,hg=>by
  by_cases h:l=[]
  ·subst h;rw [signsF_nil,signsF_nil]
  ·have hw:=dec_width l h
   unfold signsF
   rw [if_neg h,if_neg h,signsF_more f g _ (by rw [List.length_drop];omega) (by rw [List.length_drop];omega)]
theorem signs_nil:signs []=[]:=rfl
theorem signs_step (l:List UInt8) (h:l≠[]):signs l=((dec l).1:Int)::signs (l.drop (dec l).2):=by
 have hw:=dec_width l h
 have hl:l.length=(l.length-1)+1:=by omega
 unfold signs
 rw [hl,signsF,if_neg h,signsF_more _ _ _ (by rw [List.length_drop];omega) (Nat.le_refl _)]
theorem signs_length (l:List UInt8):(signs l).length≤l.length:=by
 have :∀ (f:Nat) (l:List UInt8),l.length≤f→(signsF f l).length≤l.length:=by
  intro f
  induction f with
  |zero=>intro l h;simp [signsF]
  |succ f ih=>
   intro l h
   by_cases e:l=[]
   ·subst e;simp [signsF]
   ·have hw:=dec_width l e
    unfold signsF
    rw [if_neg e]
    have :=ih (l.drop (dec l).2) (by rw [List.length_drop];omega)
    rw [List.length_drop] at this
    simp only [List.length_cons]
    omega
 exact this _ l (Nat.le_refl _)
theorem valid_iff (r:Int):Utf8.valid r=true↔(0≤r∧r<55296)∨(57344≤r∧r≤1114111):=by
 simp [Utf8.valid]
def text (l:List Int):List UInt8:=l.flatMap Lib.encodeRune
theorem text_append (a b:List Int):text (a++b)=text a++text b:=by simp [text]
theorem text_length (l:List Int):(text l).length≤4*l.length:=by
 induction l with
 |nil=>simp [text]
 |cons r l ih=>
  have :=Lib.encodeRuneZ_length r
  have e:text (r::l)=Lib.encodeRune r++text l:=by simp [text]
  rw [e,List.length_append,List.length_cons]
  simp only [Lib.encodeRune,List.length_map]
  omega
def isLetter (c:Int):Bool:=decide ((192≤c∧c≤591∧c≠215∧c≠247)∨(97≤c∧c≤122)∨(65≤c∧c≤90))
def isDigit (c:Int):Bool:=decide (48≤c∧c≤57)
def isUpper (c:Int):Bool:=decide ((65≤c∧c≤90)∨(192≤c∧c≤222∧c≠215))
def fold (c:Int):Int:=if isUpper c=true then c+32 else c
def okSign (c:Int):Bool:=decide (0≤c∧c≤1114111∧¬ (55296≤c∧c≤57343))
def clamp (c:Int):Int:=if okSign c=true then c else 65533
theorem okSign_valid (c:Int):okSign c=Utf8.valid c:=by
 rw [Bool.eq_iff_iff,valid_iff];simp [okSign];omega
theorem clamp_of {c:Int} (h:Utf8.valid c=true):clamp c=c:=by rw [clamp,okSign_valid,if_pos h]
theorem clamp_valid (c:Int):Utf8.valid (clamp c)=true:=by
 unfold clamp
 split
 ·rename_i h;rw [← okSign_valid];exact h
 ·decide
theorem encode_clamp (c:Int):Lib.encodeRune (clamp c)=Lib.encodeRune c:=by
 by_cases h:Utf8.valid c=true
 ·rw [clamp_of h]
 ·rw [clamp,okSign_valid,if_neg h]
  have hb:c<0∨(55296≤c∧c≤57343)∨1114111<c:=by
   have :=mt (valid_iff c).2 h
   omega
  rw [Lib.encodeRune,Lib.encodeRune,Lib.encodeRuneZ_bad hb]
  rfl
theorem fold_fold (c:Int):fold (fold c)=fold c:=by
 unfold fold
 by_cases h:isUpper c=true
 ·rw [if_pos h]
  have :¬ isUpper (c+32)=true:=by simp [isUpper] at h ⊢;omega
  rw [if_neg this]
 ·rw [if_neg h,if_neg h]
theorem letter_fold (c:Int):isLetter (fold c)=isLetter c:=by
 unfold fold
 split
 ·rename_i hu
  simp [isUpper] at hu
  rw [Bool.eq_iff_iff]
  simp [isLetter]
  omega
 ·rfl
theorem digit_fold (c:Int):isDigit (fold c)=isDigit c:=by
 unfold fold
 split
 ·rename_i hu
  simp [isUpper] at hu
  rw [Bool.eq_iff_iff]
  simp [isDigit]
  omega
 ·rfl
end Go.Proofs.YtmoomnpbiifedaaGreat
set_option linter.unusedVariables false
namespace Go.Proofs.YtmoomnpbiifedaaGreat
open Go Go.RowKit
def GaveInts (l:List Int) (w:World) (e:Ending) (w':World):Prop:=∃ v,e= .returned v∧w'.ownsRow w.heap.size 3 1 v l.length (ints l)∧Below w.heap.size w w'
set_option maxHeartbeats 1000000 in
set_option maxRecDepth 100000 in
theorem sign_Signs (s:ByteArray) (w:World) (hs:s.size≤1073741824):
  Calls Tryz.prog 160 #[.string s] w (GaveInts (signs s.data.toList) w):=by
 obtain ⟨i0,hi0,hz0,hz1,hz2⟩:=info_parts info_int
 have hrc:=Lib.runeCount_le s
 go_enter Tryz.func160,Tryz.ntmps160
 go_wp2_with (go_at_call 182;refine (run_count s _ (by omega)).mono ?_)
 rintro e w1 ⟨rfl,pos,rfl⟩
 go_wp2_with (at_make;refine wpList_make_own _ rfl _ _ 22 rfl w.heap.size 3 i0 _ 1 Tryz.underlying22 hi0 hz0 hz1 _ _ _ (Lib.runeCount s) rfl rfl rfl ?c1 ?c2 ?c3 ?_)
 case c1=>rw [hz2];omega
 case c2=>unfold maxLen;omega
 case c3=>show w.heap.size≤(w.heap.push _).size;simp
 intro w2 hown hgrow
 have hb2:Below w.heap.size w w2:=((Below.refl _ w).alloc (Nat.le_refl _) (.stringIter s pos)).grown hgrow (by simp) (fun k hk=>by cases hk)
 have hsz2:=hb2.size
 go_wp2
 go_loopw [3] (fun l wr=>∃ (pos:Nat) (acc:List Int),pos≤s.size∧acc.length≤pos∧wr.heap[w2.heap.size]?=some (.stringIter s pos)∧wr.ownsRow w.heap.size 3 1 l acc.length (ints acc)∧Below w.heap.size w wr∧acc++signs (s.data.toList.drop pos)=signs s.data.toList) (fun _ wr=>s.size-wr.iterPos w2.heap.size)
 case atStart=>
  refine ⟨0,[],Nat.zero_le _,Nat.le_refl _,?_,hown.alloc _,hb2.alloc hsz2 _,rfl⟩
  exact heap_alloc_new w2 _
 case round=>
  obtain ⟨pos,acc,hpos,hal,hit,hown,hbw,hacc⟩:=hrel
  by_cases hp:pos<s.size
  ·have hnx:∀ ty,(Instr.next (.pointer (some ⟨w2.heap.size,0,none⟩)) true ty).run Tryz.prog wr=_:=fun ty=>Lib.run_next_any_at wr w2.heap.size s pos ty hit hp
   have hdd:=decode_dec s pos
   have hne:s.data.toList.drop pos≠[]:=by
    intro h
    have :=congrArg List.length h
    rw [List.length_drop,List.length_nil] at this
    have e:s.data.toList.length=s.size:=Array.length_toList
    omega
   have hst:=signs_step _ hne
   have hwd:=dec_width _ hne
   rw [List.drop_drop] at hst
   rw [← hdd] at hst hwd
   have hlen:(s.data.toList.drop pos).length=s.size-pos:=by rw [List.length_drop];rfl
   rw [hlen] at hwd
   have hd1:=decode_le s pos
   have hown2:=owned_iter (q:=pos+(Utf8.decode s pos).2) hown hit
   have hit2:=Lib.iterAt_heap wr w2.heap.size s pos (pos+(Utf8.decode s pos).2) hit
   have hbw2:=Lib.below_iterAt hbw (k:=w2.heap.size) (by omega) s (pos+(Utf8.decode s pos).2)
   clear hdd hne hlen
   have HST:=Lib.hid hst
   have HACC:=Lib.hid hacc
   have HIT:=Lib.hid hit
   clear hst hacc hit hown hbw
   obtain ⟨wi,hwi⟩:∃ wi,wi=wr.iterAt w2.heap.size s (pos+(Utf8.decode s pos).2):=⟨_,rfl⟩
   rw [← hwi] at hnx hown2 hit2 hbw2
   have hszi:=hbw2.size
   clear hwi
   go_wp2_with (at_builtin;refine wpList_append_own _ rfl (.tmp 14) (.tmp 17) 22 rfl w.heap.size 3 i0 _ 1 8 Tryz.underlying22 hi0 hz0 hz1 hz2 rfl (by omega) _ acc.length (ints acc) rfl (hown2.alloc _) ⟨wi.heap.size,0,none⟩ 1 1 [.int .i64 (Utf8.decode s pos).1] rfl rfl ?c1 ?c2 ?c3 ?c4 ?c5 ?_)
   case c1=>
    intro j u hj
    match j,hj with
    |0,hj=>simp at hj;subst hj;simp [Addr.add]
    |(j+1),hj=>simp at hj
   case c2=>intro u hu;simp at hu;subst hu;rfl
   case c3=>unfold maxLen;omega
   case c4=>omega
   case c5=>simp;omega
   intro v' w3 hown3 hgrow3 _
   have hit3:w3.heap[w2.heap.size]?=some (.stringIter s (pos+(Utf8.decode s pos).2)):=
    iter_grown (hown2.alloc _) ((Below.heap_alloc wi _ _ (Array.getElem?_eq_some_iff.1 hit2).1).trans hit2) hgrow3
   go_wp2
   go_roundw
   case rel=>
    refine ⟨pos+(Utf8.decode s pos).2,acc++[((Utf8.decode s pos).1:Int)],by omega,by simp;omega,hit3,?_,?_,?_⟩
    ·simpa [ints] using hown3
    ·exact (hbw2.alloc (by omega) _).grown hgrow3 (by simp;omega) (fun k hk=>(hown2.lt k hk).1)
    ·rw [← HACC.out,HST.out];simp
   case measure=>
    simp only [World.iterPos,hit3,HIT.out]
    omega
  ·have hnx:∀ ty,(Instr.next (.pointer (some ⟨w2.heap.size,0,none⟩)) true ty).run Tryz.prog wr=_:=fun ty=>Lib.run_next_end_at wr w2.heap.size s pos ty hit hp
   have HACC:=Lib.hid hacc
   clear hacc
   go_wp2
   go_ret
   have he:s.data.toList.drop pos=[]:=List.drop_eq_nil_of_le (by rw [Array.length_toList];exact Nat.le_of_not_lt hp)
   have hout:=HACC.out
   rw [he,signs_nil,List.append_nil] at hout
   subst hout
   exact ⟨_,rfl,hown,hbw⟩
end Go.Proofs.YtmoomnpbiifedaaGreat
set_option linter.unusedVariables false
namespace Go.Proofs.YtmoomnpbiifedaaGreat
open Go.RowKit
set_option maxHeartbeats 1000000 in
theorem sign_Letter (c:Int) (w:World):
  Calls Tryz.prog 197 #[.int .i64 c] w fun e w'=>e= .returned (.bool (isLetter c))∧w=w':=by
 go_enter Tryz.func197,Tryz.ntmps197
 go_wp2
 all_goals
  go_ret
  refine ⟨ret_bool ?_,rfl⟩
  rw [Bool.eq_iff_iff]
  simp [isLetter]
  try omega
set_option maxHeartbeats 1000000 in
theorem ref_Letter (c:Int) (w:World):
  Calls Tryz.prog 175 #[.int .i64 c] w fun e w'=>e= .returned (.bool (isLetter c))∧w=w':=by
 go_enter Tryz.func175,Tryz.ntmps175
 go_wp2
 all_goals
  go_ret
  refine ⟨ret_bool ?_,rfl⟩
  rw [Bool.eq_iff_iff]
  simp [isLetter]
  try omega
set_option maxHeartbeats 1000000 in
theorem sign_Digit (c:Int) (w:World):
  Calls Tryz.prog 198 #[.int .i64 c] w fun e w'=>e= .returned (.bool (isDigit c))∧w=w':=by
 go_enter Tryz.func198,Tryz.ntmps198
 go_wp2
 all_goals
  go_ret
  refine ⟨ret_bool ?_,rfl⟩
  rw [Bool.eq_iff_iff]
  simp [isDigit]
  try omega
set_option maxHeartbeats 1000000 in
theorem sign_Fold (c:Int) (w:World):
  Calls Tryz.prog 180 #[.int .i64 c] w fun e w'=>e= .returned (.int .i64 (fold c))∧w=w':=by
 go_enter Tryz.func180,Tryz.ntmps180
 go_wp2
 all_goals
  go_ret
  refine ⟨ret_int ?_,rfl⟩
  try simp only [bne_iff_ne,ne_eq,bne_eq_false_iff_eq] at*
  unfold fold
  split
  all_goals
   rename_i hu
   simp [isUpper] at hu
   try omega
set_option maxHeartbeats 1000000 in
theorem ref_Fold (c:Int) (w:World):
  Calls Tryz.prog 150 #[.int .i64 c] w fun e w'=>e= .returned (.int .i64 (fold c))∧w=w':=by
 go_enter Tryz.func150,Tryz.ntmps150
 go_wp2
 all_goals
  go_ret
  refine ⟨ret_int ?_,rfl⟩
  try simp only [bne_iff_ne,ne_eq,bne_eq_false_iff_eq] at*
  unfold fold
  split
  all_goals
   rename_i hu
   simp [isUpper] at hu
   try omega
set_option maxHeartbeats 1000000 in
theorem sign_whole (c:Int) (w:World):
  Calls Tryz.prog 200 #[.int .i64 c] w fun e w'=>e= .returned (.int .i32 (clamp c))∧w=w':=by
 go_enter Tryz.func200,Tryz.ntmps200
 go_wp2
 all_goals
  go_ret
  refine ⟨ret_int ?_,rfl⟩
  unfold clamp
  split
  all_goals
   rename_i hu
   simp [okSign] at hu
   try omega
end Go.Proofs.YtmoomnpbiifedaaGreat
