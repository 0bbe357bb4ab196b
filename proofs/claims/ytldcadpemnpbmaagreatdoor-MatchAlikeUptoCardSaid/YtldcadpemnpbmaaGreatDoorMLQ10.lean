import Derived.Test.YtldcadpemnpbmaaGreatDoorMLZz
import Derived.Test.YtldcadpemnpbmaaGreatDoorMLQ09
import Derived.Test.YtldcadpemnpbmaaGreatDoorMLQ07
import Derived.WalkKit
import Derived.Test.YtldcadpemnpbmaaGreatDoorMLQ03
import Derived.Test.YtldcadpemnpbmaaGreatDoorMLQ05
set_option linter.unusedVariables false
namespace Go.Proofs.YtldcadpemnpbmaaGreatDoor
theorem docOf_last:∀ (l:List Po) (x:Int),l≠[]→docOf x l=(l.getD (l.length-1) (0,[])).1
 |[],_,h=>absurd rfl h
 |[p],_,_=>rfl
 |p::q::r,x,_=>by
  have ih:=docOf_last (q::r) p.1 (by simp)
  rw [docOf,ih]
  simp only [List.length_cons,Nat.add_sub_cancel]
  rw [List.getD_cons_succ]
theorem doc_mono:∀ {g:List Po} {x:Int},mayB' x g=true→∀ {i j:Nat},i<j→j<g.length→(g.getD i (0,[])).1<(g.getD j (0,[])).1
 |[],_,_,i,j,_,hj=>by simp at hj
 |p::r,x,h,0,j+1,_,hj=>by
  obtain ⟨_,_,_,h4⟩:=mayB'_cons.1 h
  have hj':j<r.length:=by simpa using hj
  rw [List.getD_cons_succ,List.getD_cons_zero]
  refine (may_memC h4 _ ?_).1
  rw [List.getD_eq_getElem?_getD,List.getElem?_eq_getElem hj']
  exact List.getElem_mem hj'
 |p::r,x,h,i+1,j+1,hij,hj=>by
  obtain ⟨_,_,_,h4⟩:=mayB'_cons.1 h
  rw [List.getD_cons_succ,List.getD_cons_succ]
  exact doc_mono h4 (by omega) (by simpa using hj)
theorem docC_mono {g:List Po} (h:mayB' (-1) g=true) {i j:Nat} (hij:i≤j) (hj:j<g.length):docC g (i:Int)≤docC g (j:Int):=by
 rcases Nat.lt_or_ge i j with hl|hl
 ·rw [docC_at (by omega),docC_at hj]
  have :=doc_mono h hl hj
  omega
 ·obtain rfl:i=j:=by omega
  exact Int.le_refl _
theorem getD_take {g:List Po} {n k:Nat} (h:k<n):(g.take n).getD k (0,[])=g.getD k (0,[]):=by
 rw [List.getD_eq_getElem?_getD,List.getD_eq_getElem?_getD,List.getElem?_take,if_pos h]
theorem lastP_doc {g:List Po} {k:Nat} (hk:k<blocksP g.length):lastP g (k:Int)=docC g ((8*k+(blockP g (k:Int)).length-1:Nat):Int):=by
 have hp:=blockP_some hk
 have hl:=blockP_length (l:=g) k
 have e:(g.take (8*(k+1))).length=8*k+(blockP g (k:Int)).length:=by rw [List.length_take,hl];unfold blocksP at hk;omega
 rw [lastP_end hk,docOf_last _ _ (by intro h;rw [h] at e;simp at e;omega),e,getD_take (by omega),docC_at (by omega)]
theorem block_at {g:List Po} {k j:Nat} (hj:j<(blockP g (k:Int)).length):k<blocksP g.length∧8*k+j<g.length∧(blockP g (k:Int)).drop j=g.getD (8*k+j) (0,[])::(blockP g (k:Int)).drop (j+1):=by
 have hl:=blockP_length (l:=g) k
 have h2:8*k+j<g.length:=by omega
 refine ⟨by unfold blocksP;omega,h2,?_⟩
 rw [drop_poA hj]
 congr 1
 rw [blockP_nat,getD_take (by omega),List.getD_eq_getElem?_getD,List.getD_eq_getElem?_getD,List.getElem?_drop]
theorem advC_is {g:List Po} {doc:Int}:∀ (n:Nat) (i j:Int),(j-i).toNat=n→i≤j→j≤(g.length:Int)→(∀ k,i≤k→k<j→docC g k<doc)→(j=(g.length:Int)∨doc≤docC g j)→advC g doc i=j:=by
 intro n
 induction n with
 |zero=>
  intro i j h h1 h2 h3 h4
  obtain rfl:i=j:=by omega
  exact advC_stay (by omega)
 |succ n ih=>
  intro i j h h1 h2 h3 h4
  rw [advC_step ⟨h3 i (by omega) (by omega),by omega⟩]
  exact ih (i+1) j (by omega) (by omega) h2 (fun k hk=>h3 k (by omega)) h4
theorem advC_skip {g:List Po} {doc:Int}:∀ (n:Nat) (i j:Int),(j-i).toNat=n→i≤j→j≤(g.length:Int)→(∀ k,i≤k→k<j→docC g k<doc)→advC g doc i=advC g doc j:=by
 intro n
 induction n with
 |zero=>
  intro i j h h1 h2 h3
  obtain rfl:i=j:=by omega
  rfl
 |succ n ih=>
  intro i j h h1 h2 h3
  rw [advC_step ⟨h3 i (by omega) (by omega),by omega⟩]
  exact ih (i+1) j (by omega) (by omega) h2 (fun k hk=>h3 k (by omega))
theorem count_from {p:Nat→Bool}:∀ (N:Nat),(∀ a b,a≤b→b<N→p a=true→p b=true)→
  (List.range N).countP (fun i=> !p i)≤N∧(∀ k,k<(List.range N).countP (fun i=> !p i)→p k=false)∧(∀ k,(List.range N).countP (fun i=> !p i)≤k→k<N→p k=true):=by
 intro N
 induction N with
 |zero=>intro _;simp
 |succ N ih=>
  intro hm
  obtain ⟨h1,h2,h3⟩:=ih fun a b hab hb=>hm a b hab (by omega)
  rw [List.range_succ,List.countP_append]
  obtain ⟨m,hm'⟩:∃ m,m=(List.range N).countP (fun i=> !p i):=⟨_,rfl⟩
  rw [← hm'] at h1 h2 h3 ⊢
  rcases hp:p N with _|_
  ·have e:m=N:=by
    rcases Nat.lt_or_ge m N with hl|hl
    ·have :=hm m N (by omega) (by omega) (h3 m (Nat.le_refl _) hl)
     rw [hp] at this;cases this
    ·omega
   subst e
   rw [show List.countP (fun i=> !p i) [m]=1 by simp [hp]]
   refine ⟨by omega,fun k hk=> ?_,fun k hk hk2=>by omega⟩
   rcases Nat.lt_or_ge k m with hl|hl
   ·exact h2 k hl
   ·obtain rfl:k=m:=by omega
    exact hp
  ·rw [show List.countP (fun i=> !p i) [N]=0 by simp [hp]]
   refine ⟨by omega,fun k hk=>h2 k (by omega),fun k hk hk2=> ?_⟩
   rcases Nat.lt_or_ge k N with hl|hl
   ·exact h3 k (by omega) hl
   ·obtain rfl:k=N:=by omega
    exact hp
def Pos6 (g:List Po) (i:Int) (nx:Nat) (bh:Bool) (rest:List Po):Prop:=
 (i= -1∧nx=0∧bh=false∧rest=[])∨(i=(g.length:Int)∧nx=blocksP g.length∧bh=true∧rest=[])∨
  ∃ k j:Nat,j<(blockP g (k:Int)).length∧i=((8*k+j:Nat):Int)∧nx=k+1∧bh=false∧rest=(blockP g (k:Int)).drop j
section
variable {g:List Po} {i:Int} {nx:Nat} {bh:Bool} {rest:List Po} {doc:Int}
theorem Pos6.bd (h:Pos6 g i nx bh rest): -1≤i∧i≤(g.length:Int)∧nx≤blocksP g.length:=by
 rcases h with ⟨rfl,rfl,_⟩|⟨rfl,rfl,_⟩|⟨k,j,hj,rfl,rfl,_⟩
 ·exact ⟨by omega,by omega,by omega⟩
 ·exact ⟨by omega,by omega,by omega⟩
 ·have :=block_at hj
  exact ⟨by omega,by omega,by omega⟩
theorem Pos6.tells (h:Pos6 g i nx bh rest):(bh=true→docC g i=2147483648)∧(bh=false→rest=[]→docC g i= -1)∧(rest=[]→placesC g i=[])∧
  ∀ p r,rest=p::r→bh=false∧docC g i=p.1∧placesC g i=p.2:=by
 rcases h with ⟨rfl,rfl,rfl,rfl⟩|⟨rfl,rfl,rfl,rfl⟩|⟨k,j,hj,rfl,rfl,rfl,rfl⟩
 ·exact ⟨(fun h=>by cases h),fun _ _=>docC_ahead (by omega),fun _=>placesC_none (.inl (by omega)),(fun p r h=>by cases h)⟩
 ·exact ⟨fun _=>docC_behind (by omega) (Int.le_refl _),(fun h=>by cases h),fun _=>placesC_none (.inr (Int.le_refl _)),(fun p r h=>by cases h)⟩
 ·obtain ⟨h1,h2,h3⟩:=block_at hj
  refine ⟨(fun h=>by cases h),(fun _ h=>by rw [h3] at h;cases h),(fun h=>by rw [h3] at h;cases h),fun p r h=> ?_⟩
  rw [h3] at h
  injection h with h _
  subst h
  exact ⟨rfl,docC_at h2,placesC_at h2⟩
theorem Pos6.below (h:Pos6 g i nx bh rest) (hm:mayB' (-1) g=true) (hlt:lastP g ((nx:Int)-1)<doc):∀ k:Int,i≤k→k<((8*nx:Nat):Int)→k<(g.length:Int)→docC g k<doc:=by
 intro k h1 h2 h3
 rcases h with ⟨rfl,rfl,rfl,rfl⟩|⟨rfl,rfl,rfl,rfl⟩|⟨b,j,hj,rfl,rfl,rfl,rfl⟩
 ·obtain rfl:k= -1:=by omega
  rw [docC_ahead (by omega)]
  rw [show ((0:Nat):Int)-1= -1 by omega] at hlt
  have :lastP g (-1)= -1:=by unfold lastP;rw [blockP_neg (by omega)];rfl
  omega
 ·omega
 ·obtain ⟨hb,hbl,_⟩:=block_at hj
  obtain ⟨n,rfl⟩:=Int.eq_ofNat_of_zero_le (show 0≤k by omega)
  rw [show ((b+1:Nat):Int)-1=(b:Int) by omega,lastP_doc hb] at hlt
  have hl:=blockP_length (l:=g) b
  have :=docC_mono hm (i:=n) (j:=8*b+(blockP g (b:Int)).length-1) (by omega) (by omega)
  omega
theorem block_below (hm:mayB' (-1) g=true) {b:Nat} (hb:b<blocksP g.length) (hlt:lastP g (b:Int)<doc) {k:Int} (h1:((8*b:Nat):Int)≤k) (h2:k<((8*(b+1):Nat):Int)) (h3:k<(g.length:Int)):docC g k<doc:=by
 obtain ⟨n,rfl⟩:=Int.eq_ofNat_of_zero_le (show 0≤k by omega)
 rw [lastP_doc hb] at hlt
 have hl:=blockP_length (l:=g) b
 have :=docC_mono hm (i:=n) (j:=8*b+(blockP g (b:Int)).length-1) (by omega) (by omega)
 omega
theorem Pos6.turned (h:Pos6 g i nx bh rest) (hm:mayB' (-1) g=true) (hlt:lastP g ((nx:Int)-1)<doc) {t:Nat} (ht:nx≤t) (ht2:t≤blocksP g.length) (hbl:∀ b:Nat,nx≤b→b<t→lastP g (b:Int)<doc):
  advC g doc i=advC g doc (if t=blocksP g.length then (g.length:Int) else ((8*t:Nat):Int))∧i≤(if t=blocksP g.length then (g.length:Int) else ((8*t:Nat):Int)):=by
 have hbd:=h.bd
 obtain ⟨J,hJ⟩:∃ J:Int,J=(if t=blocksP g.length then (g.length:Int) else ((8*t:Nat):Int)):=⟨_,rfl⟩
 have hJ1:J≤(g.length:Int)∧J≤((8*t:Nat):Int)∧(J=(g.length:Int)∨J=((8*t:Nat):Int)):=by
  rw [hJ]
  split
  ·rename_i e
   rw [e]
   unfold blocksP
   exact ⟨Int.le_refl _,by omega,.inl rfl⟩
  ·rename_i e
   unfold blocksP at e ht2
   exact ⟨by omega,Int.le_refl _,.inr rfl⟩
 rw [← hJ]
 have hiJ:i≤J:=by
  rcases h with ⟨rfl,_,_⟩|⟨rfl,e,_⟩|⟨b,j,hj,rfl,rfl,_⟩
  ·rcases hJ1.2.2 with e|e<;>omega
  ·rw [hJ,if_pos (by omega)];exact Int.le_refl _
  ·have h1:=block_at hj
   have h2:=blockP_length (l:=g) b
   rcases hJ1.2.2 with e|e<;>omega
 refine ⟨advC_skip _ i J rfl hiJ hJ1.1 fun k h1 h2=> ?_,hiJ⟩
 by_cases hk:k<((8*nx:Nat):Int)
 ·exact h.below hm hlt k h1 hk (by omega)
 ·obtain ⟨n,rfl⟩:=Int.eq_ofNat_of_zero_le (show 0≤k by omega)
  exact block_below hm (b:=n/8) (by unfold blocksP;omega) (hbl _ (by omega) (by omega)) (by omega) (by omega) (by omega)
theorem Pos6.stays (h:Pos6 g i nx bh rest) (hlt:doc≤lastP g ((nx:Int)-1)) (hr:rest=[]):advC g doc i=i:=by
 rcases h with ⟨rfl,rfl,rfl,rfl⟩|⟨rfl,rfl,rfl,rfl⟩|⟨b,j,hj,rfl,rfl,rfl,rfl⟩
 ·have :lastP g (((0:Nat):Int)-1)= -1:=by unfold lastP;rw [blockP_neg (by omega)];rfl
  refine advC_stay ?_
  rw [docC_ahead (by omega)]
  omega
 ·exact advC_stay (by omega)
 ·rw [(block_at hj).2.2] at hr;cases hr
end
end Go.Proofs.YtldcadpemnpbmaaGreatDoor
set_option linter.unusedVariables false
namespace Go.Proofs.YtldcadpemnpbmaaGreatDoor
theorem intLG (a b:Int):a<b∨b≤a:=by omega
def PassC (g:List Po) (i doc:Int):Prop:= -1≤i∧i≤(g.length:Int)∧∀ k, -1≤k→k<i→docC g k<doc
theorem pass_start {g:List Po} {doc:Int}:PassC g (-1) doc:=⟨Int.le_refl _,by omega,fun k h1 h2=>by omega⟩
theorem pass_more {g:List Po} {i doc doc':Int} (h:PassC g i doc) (hd:doc≤doc'):PassC g i doc':=⟨h.1,h.2.1,fun k h1 h2=>by have :=h.2.2 k h1 h2;omega⟩
theorem docC_top {g:List Po} (h:mayB' (-1) g=true) {i:Int} (hi: -1≤i):docC g i≤2147483648:=by
 rcases intLG i 0 with h0|h0
 ·rw [docC_ahead h0];omega
 ·rcases intLG i (g.length:Int) with h1|h1
  ·obtain ⟨k,rfl⟩:=Int.eq_ofNat_of_zero_le h0
   have :=(docC_lt h (k:=k) (by omega)).2
   omega
  ·rw [docC_behind h0 h1];omega
theorem adv_pass {g:List Po} (hm:mayB' (-1) g=true) {doc:Int} (h0:0≤doc) (hd:doc≤2147483648):∀ (n:Nat) {i:Int},((g.length:Int)-i).toNat=n→PassC g i doc→PassC g (advC g doc i) doc∧doc≤docC g (advC g doc i)∧0≤advC g doc i
 |n,i,hn,h=>by
  by_cases hc:docC g i<doc∧i<(g.length:Int)
  ·rw [advC_step hc]
   obtain ⟨n,rfl⟩:∃ m,n=m+1:=⟨n-1,by omega⟩
   refine adv_pass hm h0 hd n (i:=i+1) (by omega) ⟨by have :=h.1;omega,by omega,fun k h1 h2=> ?_⟩
   rcases intLG k i with hk|hk
   ·exact h.2.2 k h1 hk
   ·obtain rfl:k=i:=by omega
    exact hc.1
  ·rw [advC_stay hc]
   have h1:=h.1
   have h2:=h.2.1
   refine ⟨h,?_,?_⟩
   ·rcases intLG i (g.length:Int) with hl|hl
    ·have :¬ docC g i<doc:=fun e=>hc ⟨e,hl⟩
     omega
    ·rw [docC_behind (by omega) hl];exact hd
   ·rcases intLG i 0 with hi|hi
    ·exfalso
     have :docC g i= -1:=docC_ahead hi
     exact hc ⟨by omega,by omega⟩
    ·exact hi
def inC (g:List Po) (d:Int):Prop:=d∈g.map (·.1)
theorem inC_at {g:List Po} {d:Int} (h:inC g d):∃ k:Nat,k<g.length∧docC g (k:Int)=d:=by
 unfold inC at h
 obtain ⟨q,hq,rfl⟩:=List.mem_map.1 h
 obtain ⟨k,hk,rfl⟩:=List.getElem_of_mem hq
 exact ⟨k,hk,by rw [docC_at hk,List.getD_eq_getElem?_getD,List.getElem?_eq_getElem hk];rfl⟩
theorem pass_none {g:List Po} (hm:mayB' (-1) g=true) {i doc:Int} (h:PassC g i doc) (hi:0≤i) {d:Int} (h1:doc≤d) (h2:d<docC g i):¬ inC g d:=by
 intro hin
 obtain ⟨k,hk,rfl⟩:=inC_at hin
 rcases intLG (k:Int) i with hl|hl
 ·have :=h.2.2 k (by omega) hl;omega
 ·obtain ⟨j,rfl⟩:=Int.eq_ofNat_of_zero_le hi
  have hjk:j≤k:=by omega
  have :=docC_mono hm hjk hk
  omega
theorem stand_in {g:List Po} {i:Int} (hi:0≤i) (hl:i≤(g.length:Int)) (h:docC g i<2147483648):inC g (docC g i):=by
 obtain ⟨k,rfl⟩:=Int.eq_ofNat_of_zero_le hi
 have hk:k<g.length:=by
  rcases Nat.lt_or_ge k g.length with h1|h1
  ·exact h1
  ·rw [docC_behind (by omega) (by omega)] at h;omega
 rw [docC_at hk,List.getD_eq_getElem?_getD,List.getElem?_eq_getElem hk]
 exact List.mem_map_of_mem (List.getElem_mem hk)
def AllC (gs:List (List Po)) (d:Int):Prop:=∀ g∈gs,inC g d
def atC (g:List Po) (d:Int):List Int:=((g.find? fun q=>q.1==d).map (·.2)).getD []
theorem atC_none {g:List Po} {d:Int} (h:¬ inC g d):atC g d=[]:=by
 unfold atC
 rw [List.find?_eq_none.2 fun q hq=> ?_]
 ·rfl
 ·intro e
  exact h (by rw [← show q.1=d by simpa using e];exact List.mem_map_of_mem hq)
theorem find_doc:∀ {g:List Po} {x:Int},mayB' x g=true→∀ q∈g,(g.find? fun y=>y.1==q.1)=some q
 |[],_,_,q,hq=>by cases hq
 |p::r,x,h,q,hq=>by
  obtain ⟨_,_,_,h4⟩:=mayB'_cons.1 h
  rcases List.mem_cons.1 hq with rfl|hq
  ·simp
  ·have h5:=(may_memC h4 q hq).1
   rw [List.find?_cons_of_neg (by simp;omega)]
   exact find_doc h4 q hq
theorem atC_stand {g:List Po} (hm:mayB' (-1) g=true) {i:Int} (hi:0≤i) (hl:i<(g.length:Int)):placesC g i=atC g (docC g i):=by
 obtain ⟨k,rfl⟩:=Int.eq_ofNat_of_zero_le hi
 have hk:k<g.length:=by omega
 rw [placesC_at hk,docC_at hk,List.getD_eq_getElem?_getD,List.getElem?_eq_getElem hk]
 unfold atC
 rw [Option.getD_some,find_doc hm _ (List.getElem_mem hk)]
 rfl
end Go.Proofs.YtldcadpemnpbmaaGreatDoor
set_option linter.unusedVariables false
namespace Go.Proofs.YtldcadpemnpbmaaGreatDoor
def followF:List (List Int)→Int→Bool
 |[],_=>true
 |l::ls,n=>decide (n+1∈l)&&followF ls (n+1)
def sideF:List (List Int)→Nat
 |[]=>0
 |l::ls=>l.countP (followF ls)
theorem side_nil {l:List (List Int)} (h:[]∈l):sideF l=0:=by
 have hf:∀ (ls:List (List Int)) (n:Int),[]∈ls→followF ls n=false:=by
  intro ls
  induction ls with
  |nil=>intro n h;cases h
  |cons a ls ih=>
   intro n h
   rw [followF]
   rcases List.mem_cons.1 h with rfl|h
   ·simp
   ·rw [ih _ h,Bool.and_false]
 rcases l with _|⟨a,l⟩
 ·cases h
 ·rw [sideF]
  rcases List.mem_cons.1 h with rfl|h
  ·rfl
  ·rw [List.countP_eq_zero]
   intro x _
   rw [hf _ _ h]
   decide
end Go.Proofs.YtldcadpemnpbmaaGreatDoor
set_option linter.unusedVariables false
namespace Go.Proofs.YtldcadpemnpbmaaGreatDoor
theorem mem_placesW {x:Nm}:∀ {l:List Nm} {i:Nat} {p:Int},p∈placesW i l x↔∃ k,l[k]?=some x∧p=((i+k:Nat):Int)
 |[],i,p=>by simp [placesW]
 |y::l,i,p=>by
  have ih:=mem_placesW (x:=x) (l:=l) (i:=i+1) (p:=p)
  have hs:(∃ k,l[k]?=some x∧p=((i+1+k:Nat):Int))↔∃ k,(y::l)[k+1]?=some x∧p=((i+(k+1):Nat):Int):=by
   constructor
   ·rintro ⟨k,h1,h2⟩;exact ⟨k,by simpa using h1,by rw [h2];congr 1;omega⟩
   ·rintro ⟨k,h1,h2⟩;exact ⟨k,by simpa using h1,by rw [h2];congr 1;omega⟩
  rw [placesW]
  by_cases h:y=x
  ·rw [if_pos h,List.mem_cons,ih,hs]
   constructor
   ·rintro (h1|⟨k,h1,h2⟩)
    ·exact ⟨0,by simpa using h,by simpa using h1⟩
    ·exact ⟨k+1,h1,h2⟩
   ·rintro ⟨k,h1,h2⟩
    cases k with
    |zero=>exact .inl (by simpa using h2)
    |succ k=>exact .inr ⟨k,h1,h2⟩
  ·rw [if_neg h,ih,hs]
   constructor
   ·rintro ⟨k,h1,h2⟩;exact ⟨k+1,h1,h2⟩
   ·rintro ⟨k,h1,h2⟩
    cases k with
    |zero=>simp at h1;exact absurd h1 h
    |succ k=>exact ⟨k,h1,h2⟩
theorem mem_places0 {x:Nm} {W:List Nm} {n:Nat}:((n:Nat):Int)∈placesW 0 W x↔W[n]?=some x:=by
 rw [mem_placesW]
 constructor
 ·rintro ⟨k,h1,h2⟩
  obtain rfl:n=k:=by omega
  exact h1
 ·intro h;exact ⟨n,h,by simp⟩
theorem follow_words (W:List Nm):∀ (ws:List Nm) (n:Nat),followF (ws.map fun w=>placesW 0 W w) (n:Int)=decide ((W.drop (n+1)).take ws.length=ws)
 |[],n=>by simp [followF]
 |w::ws,n=>by
  rw [List.map_cons,followF,show ((n:Int)+1)=((n+1:Nat):Int) by omega,follow_words W ws (n+1),Bool.eq_iff_iff,Bool.and_eq_true,decide_eq_true_iff,decide_eq_true_iff,decide_eq_true_iff,mem_places0]
  by_cases h:n+1<W.length
  ·rw [List.drop_eq_getElem_cons h,List.length_cons,List.take_succ_cons,List.getElem?_eq_getElem h]
   constructor
   ·rintro ⟨h1,h2⟩
    injection h1 with h1
    rw [h1,h2]
   ·intro h1
    injection h1 with h1 h2
    exact ⟨by rw [h1],h2⟩
  ·have e:W.drop (n+1)=[]:=List.drop_eq_nil_of_le (by omega)
   rw [List.getElem?_eq_none (by omega),e]
   simp
theorem count_words (W:List Nm) (w:Nm) (ws:List Nm):∀ (j:Nat) (l:List Nm),W.drop j=l→(placesW j l w).countP (followF (ws.map fun w=>placesW 0 W w))=phraseW (w::ws) l
 |j,[],_=>rfl
 |j,y::l,h=>by
  have hj:j<W.length:=by
   rcases Nat.lt_or_ge j W.length with h1|h1
   ·exact h1
   ·rw [List.drop_eq_nil_of_le h1] at h;cases h
  have h2:=h
  rw [List.drop_eq_getElem_cons hj] at h2
  injection h2 with h3 h4
  have ih:=count_words W w ws (j+1) l h4
  rw [placesW,phraseW]
  by_cases hy:y=w
  ·rw [if_pos hy,List.countP_cons,ih,follow_words,h4]
   by_cases hh:l.take ws.length=ws
   ·rw [if_pos (by simpa using hh),if_pos ⟨by simp,by rw [List.length_cons,List.take_succ_cons,hh,hy]⟩];omega
   ·rw [if_neg (by simpa using hh),if_neg (fun q=>hh (by have :=q.2;rw [List.length_cons,List.take_succ_cons] at this;injection this))];omega
  ·rw [if_neg hy,ih,if_neg (fun q=>hy (by have :=q.2;rw [List.length_cons,List.take_succ_cons] at this;injection this))];omega
theorem side_words (W ws:List Nm):sideF (ws.map fun w=>placesW 0 W w)=phraseW ws W:=by
 cases ws with
 |nil=>
  rw [List.map_nil,sideF]
  induction W with
  |nil=>rfl
  |cons y l ih=>rw [phraseW,← ih];simp
 |cons w ws=>rw [List.map_cons,sideF,count_words W w ws 0 W (by simp)]
end Go.Proofs.YtldcadpemnpbmaaGreatDoor
set_option linter.unusedVariables false
namespace Go.Proofs.YtldcadpemnpbmaaGreatDoor
abbrev Fo:=Nat × Int
abbrev Pr:=Fo × Bool × Bool
def aheadF:List Fo→List Fo→Bool
 |[],_=>false
 |_::_,[]=>true
 |x::_,y::_=>decide (x.1≤y.1)
def restF (a b:List Fo):List Fo:=if aheadF a b=true then a.tail else a
def topF (a b:List Fo):Fo:=
 match a,b with
 |[],[]=>(0,0)
 |x::_,[]=>x
 |[],y::_=>(y.1,0+y.2)
 |x::_,y::_=>if x.1<y.1 then x else (y.1,(if x.1≤y.1 then x.2 else 0)+y.2)
def headF (a b:List Fo):Pr:=(topF a b,aheadF a b,aheadF b a)
theorem rest_le (a b:List Fo):(restF a b).length≤a.length:=by
 unfold restF
 split
 ·simp
 ·exact Nat.le_refl _
theorem rest_lt (a b:List Fo) (h:¬ (a=[]∧b=[])):(restF a b).length+(restF b a).length<a.length+b.length:=by
 have h1:=rest_le a b
 have h2:=rest_le b a
 rcases a with _|⟨x,a⟩
 ·rcases b with _|⟨y,b⟩
  ·exact absurd ⟨rfl,rfl⟩ h
  ·simp [restF,aheadF]
 ·rcases b with _|⟨y,b⟩
  ·simp [restF,aheadF]
  ·by_cases h3:x.1≤y.1
   ·have :(restF (x::a) (y::b)).length=a.length:=by simp [restF,aheadF,h3]
    simp only [List.length_cons] at h1 h2 ⊢
    omega
   ·have h4:y.1≤x.1:=by omega
    have :(restF (y::b) (x::a)).length=b.length:=by simp [restF,aheadF,h4]
    simp only [List.length_cons] at h1 h2 ⊢
    omega
def pairsF (a b:List Fo):List Pr:=if h:a=[]∧b=[] then [] else headF a b::pairsF (restF a b) (restF b a)
termination_by a.length+b.length
decreasing_by exact rest_lt a b h
theorem pairs_nil:pairsF [] []=[]:=by rw [pairsF];simp
theorem pairs_step {a b:List Fo} (h:¬ (a=[]∧b=[])):pairsF a b=headF a b::pairsF (restF a b) (restF b a):=by rw [pairsF,dif_neg h]
theorem pairs_length:∀ (n:Nat) (a b:List Fo),a.length+b.length≤n→(pairsF a b).length≤a.length+b.length
 |n,a,b,hn=>by
  by_cases h:a=[]∧b=[]
  ·rw [h.1,h.2,pairs_nil];exact Nat.le_refl _
  ·have h1:=rest_lt a b h
   rw [pairs_step h,List.length_cons]
   cases n with
   |zero=>omega
   |succ n=>
    have :=pairs_length n (restF a b) (restF b a) (by omega)
    omega
def keptL (f:Bool→Bool→Bool) (l:List Pr):List Fo:=(l.filter fun p=>f p.2.1 p.2.2).map (·.1)
def keptF (f:Bool→Bool→Bool) (a b:List Fo):List Fo:=keptL f (pairsF a b)
theorem keptL_append (f:Bool→Bool→Bool) (a b:List Pr):keptL f (a++b)=keptL f a++keptL f b:=by simp [keptL]
theorem keptL_one (f:Bool→Bool→Bool) (p:Pr):keptL f [p]=if f p.2.1 p.2.2=true then [p.1] else []:=by
 unfold keptL
 by_cases h:f p.2.1 p.2.2=true
 ·simp [h]
 ·simp [h]
theorem keptL_length (f:Bool→Bool→Bool) (l:List Pr):(keptL f l).length≤l.length:=by
 unfold keptL
 rw [List.length_map]
 exact List.length_filter_le _ _
def scF:List Fo→Nat→Option Int
 |[],_=>none
 |x::l,d=>if x.1=d then some x.2 else scF l d
def RiseF (l:List Fo):Prop:=l.Pairwise fun x y=>x.1<y.1
def LowF (d:Nat) (l:List Fo):Prop:=∀ x∈l,d≤x.1
theorem sc_low {d e:Nat}:∀ {l:List Fo},LowF d l→e<d→scF l e=none
 |[],_,_=>rfl
 |x::l,h,he=>by
  have :=h x (List.mem_cons_self ..)
  rw [scF,if_neg (by omega)]
  exact sc_low (fun y hy=>h y (List.mem_cons_of_mem _ hy)) he
theorem rise_tail {x:Fo} {l:List Fo} (h:RiseF (x::l)):RiseF l∧LowF (x.1+1) l:=⟨(List.pairwise_cons.1 h).2,fun y hy=>(List.pairwise_cons.1 h).1 y hy⟩
theorem sc_mem {l:List Fo} {d:Nat} {s:Int} (h:scF l d=some s):(d,s)∈l:=by
 induction l with
 |nil=>cases h
 |cons x l ih=>
  rw [scF] at h
  split at h
  ·rename_i h1
   injection h with h
   rw [← h1,← h]
   exact List.mem_cons_self ..
  ·exact List.mem_cons_of_mem _ (ih h)
theorem sc_of_mem:∀ {l:List Fo} {x:Fo},RiseF l→x∈l→scF l x.1=some x.2
 |y::l,x,h,hx=>by
  obtain ⟨h1,h2⟩:=rise_tail h
  rcases List.mem_cons.1 hx with rfl|hx
  ·rw [scF,if_pos rfl]
  ·have :=h2 x hx
   rw [scF,if_neg (by omega)]
   exact sc_of_mem h1 hx
theorem sc_ext:∀ {a b:List Fo},RiseF a→RiseF b→(∀ d,scF a d=scF b d)→a=b
 |[],[],_,_,_=>rfl
 |[],y::b,_,_,h=>by have :=h y.1;simp [scF] at this
 |x::a,[],_,_,h=>by have :=h x.1;simp [scF] at this
 |x::a,y::b,ha,hb,h=>by
  obtain ⟨a1,a2⟩:=rise_tail ha
  obtain ⟨b1,b2⟩:=rise_tail hb
  have hx:=h x.1
  have hy:=h y.1
  have hd:x.1=y.1:=by
   rcases Nat.lt_trichotomy x.1 y.1 with e|e|e
   ·rw [scF,if_pos rfl,scF,if_neg (by omega),sc_low b2 (by omega)] at hx;cases hx
   ·exact e
   ·rw [scF,if_neg (by omega),scF,if_pos rfl,sc_low a2 (by omega)] at hy;cases hy
  have hs:x.2=y.2:=by
   rw [scF,if_pos rfl,scF,if_pos hd.symm] at hx
   injection hx
  rw [Prod.ext hd hs,sc_ext a1 b1 fun d=> ?_]
  by_cases hdx:d=x.1
  ·rw [hdx,sc_low a2 (by omega),sc_low b2 (by omega)]
  ·have :=h d
   rwa [scF,if_neg (fun e=>hdx e.symm),scF,if_neg (fun e=>hdx (by rw [hd];exact e.symm))] at this
theorem low_more {d e:Nat} {l:List Fo} (h:LowF d l) (he:e≤d):LowF e l:=fun x hx=>Nat.le_trans he (h x hx)
def bothF (f:Bool→Bool→Bool) (x y:Option Int):Option Int:=if (x.isSome || y.isSome)&&f x.isSome y.isSome then some (x.getD 0+y.getD 0) else none
theorem step_sc {a b:List Fo} (ha:RiseF a) (hb:RiseF b) (h:¬ (a=[]∧b=[])):
  ∃ d,(topF a b).1=d∧RiseF (restF a b)∧LowF (d+1) (restF a b)∧LowF d a∧scF a d=(if aheadF a b=true then scF a d else none)∧(aheadF a b=(scF a d).isSome)∧(∀ e,e≠d→scF (restF a b) e=scF a e)∧
   RiseF (restF b a)∧LowF (d+1) (restF b a)∧LowF d b∧(aheadF b a=(scF b d).isSome)∧(∀ e,e≠d→scF (restF b a) e=scF b e)∧(topF a b).2=(scF a d).getD 0+(scF b d).getD 0:=by
 rcases a with _|⟨x,a⟩
 ·rcases b with _|⟨y,b⟩
  ·exact absurd ⟨rfl,rfl⟩ h
  ·obtain ⟨b1,b2⟩:=rise_tail hb
   refine ⟨y.1,rfl,List.Pairwise.nil,(fun z hz=>by cases hz),(fun z hz=>by cases hz),rfl,rfl,fun e _=>rfl,?_,?_,?_,?_,?_,?_⟩
   ·simpa [restF,aheadF] using b1
   ·simpa [restF,aheadF] using b2
   ·intro z hz
    rcases List.mem_cons.1 hz with rfl|hz
    ·exact Nat.le_refl _
    ·have :=b2 z hz;omega
   ·simp [aheadF,scF]
   ·intro e he
    rw [scF,if_neg (fun q=>he q.symm)]
    rfl
   ·simp [topF,scF]
 ·obtain ⟨a1,a2⟩:=rise_tail ha
  have la:LowF x.1 (x::a):=fun z hz=>by
   rcases List.mem_cons.1 hz with rfl|hz
   ·exact Nat.le_refl _
   ·have :=a2 z hz;omega
  rcases b with _|⟨y,b⟩
  ·refine ⟨x.1,rfl,by simpa [restF,aheadF] using a1,by simpa [restF,aheadF] using a2,la,by simp [aheadF],by simp [aheadF,scF],fun e he=> ?_,List.Pairwise.nil,(fun z hz=>by cases hz),(fun z hz=>by cases hz),rfl,fun e _=>rfl,by simp [topF,scF]⟩
   rw [scF,if_neg (fun q=>he q.symm)]
   rfl
  ·obtain ⟨b1,b2⟩:=rise_tail hb
   have lb:LowF y.1 (y::b):=fun z hz=>by
    rcases List.mem_cons.1 hz with rfl|hz
    ·exact Nat.le_refl _
    ·have :=b2 z hz;omega
   rcases Nat.lt_trichotomy x.1 y.1 with e|e|e
   ·have e1:x.1≤y.1:=by omega
    have e2:¬ y.1≤x.1:=by omega
    have n1:scF (y::b) x.1=none:=sc_low lb e
    refine ⟨x.1,by simp [topF,e],by simpa [restF,aheadF,e1] using a1,by simpa [restF,aheadF,e1] using a2,la,by simp [aheadF,e1],by simp [aheadF,e1,scF],fun d hd=> ?_,by simpa [restF,aheadF,e2] using hb,?_,low_more lb (by omega),by simp [aheadF,e2,n1],fun d hd=>by simp [restF,aheadF,e2],by rw [n1];simp [topF,e,scF]⟩
    ·rw [show restF (x::a) (y::b)=a by simp [restF,aheadF,e1],scF,if_neg (fun q=>hd q.symm)]
    ·rw [show restF (y::b) (x::a)=y::b by simp [restF,aheadF,e2]]
     exact low_more lb (by omega)
   ·have e1:x.1≤y.1:=by omega
    have e2:y.1≤x.1:=by omega
    have e3:¬ x.1<y.1:=by omega
    refine ⟨x.1,by simp [topF,e],by simpa [restF,aheadF,e1] using a1,by simpa [restF,aheadF,e1] using a2,la,by simp [aheadF,e1],by simp [aheadF,e1,scF],fun d hd=> ?_,by simpa [restF,aheadF,e2] using b1,?_,low_more lb e1,by simp [aheadF,scF,e],fun d hd=> ?_,by simp [topF,e,scF]⟩
    ·rw [show restF (x::a) (y::b)=a by simp [restF,aheadF,e1],scF,if_neg (fun q=>hd q.symm)]
    ·rw [show restF (y::b) (x::a)=b by simp [restF,aheadF,e2],e]
     exact b2
    ·rw [show restF (y::b) (x::a)=b by simp [restF,aheadF,e2],scF,if_neg (fun q=>hd (by rw [e];exact q.symm))]
   ·have e1:¬ x.1≤y.1:=by omega
    have e2:y.1≤x.1:=by omega
    have e3:¬ x.1<y.1:=by omega
    have n1:scF (x::a) y.1=none:=sc_low la e
    refine ⟨y.1,by simp [topF,e3],by simpa [restF,aheadF,e1] using ha,?_,low_more la e2,by simp [aheadF,e1,n1],by simp [aheadF,e1,n1],fun d hd=>by simp [restF,aheadF,e1],by simpa [restF,aheadF,e2] using b1,by simpa [restF,aheadF,e2] using b2,lb,by simp [aheadF,e2,scF],fun d hd=> ?_,by rw [n1];simp [topF,e3,e1,scF]⟩
    ·rw [show restF (x::a) (y::b)=x::a by simp [restF,aheadF,e1]]
     exact low_more la (by omega)
    ·rw [show restF (y::b) (x::a)=b by simp [restF,aheadF,e2],scF,if_neg (fun q=>hd q.symm)]
theorem kept_is (f:Bool→Bool→Bool):∀ (n:Nat) {a b:List Fo},a.length+b.length≤n→RiseF a→RiseF b→
  RiseF (keptF f a b)∧(∀ d,LowF d a→LowF d b→LowF d (keptF f a b))∧∀ d,scF (keptF f a b) d=bothF f (scF a d) (scF b d)
 |n,a,b,hn,ha,hb=>by
  by_cases h:a=[]∧b=[]
  ·rw [h.1,h.2,keptF,pairs_nil]
   exact ⟨List.Pairwise.nil,(fun _ _ _ x hx=>by cases hx),fun d=>by simp [keptL,scF,bothF]⟩
  ·have hl:=rest_lt a b h
   obtain ⟨n,rfl⟩:∃ m,n=m+1:=⟨n-1,by omega⟩
   obtain ⟨d0,t1,r1,r2,r3, -,r5,r6,q1,q2,q3,q4,q5,t2⟩:=step_sc ha hb h
   obtain ⟨i1,i2,i3⟩:=kept_is f n (by omega) r1 q1
   have e:keptF f a b=(if f (aheadF a b) (aheadF b a)=true then [topF a b] else [])++keptF f (restF a b) (restF b a):=by
    unfold keptF
    rw [pairs_step h,show headF a b::pairsF (restF a b) (restF b a)=[headF a b]++pairsF (restF a b) (restF b a) from rfl,keptL_append,keptL_one]
    rfl
   have hlow:=i2 (d0+1) r2 q2
   have hsome:(scF a d0).isSome || (scF b d0).isSome:=by
    rw [← r5,← q4]
    rcases a with _|⟨x,a⟩
    ·rcases b with _|⟨y,b⟩
     ·exact absurd ⟨rfl,rfl⟩ h
     ·rfl
    ·rcases b with _|⟨y,b⟩
     ·rfl
     ·simp only [aheadF]
      by_cases hh:x.1≤y.1
      ·simp [hh]
      ·simp [show y.1≤x.1 by omega]
   have htop:topF a b=(d0,(scF a d0).getD 0+(scF b d0).getD 0):=Prod.ext t1 t2
   rw [e]
   rw [r5,q4]
   by_cases hf:f (scF a d0).isSome (scF b d0).isSome=true
   ·rw [if_pos hf,List.singleton_append]
    refine ⟨List.pairwise_cons.2 ⟨fun y hy=>by have :=hlow y hy;omega,i1⟩,fun d h1 h2 x hx=> ?_,fun d=> ?_⟩
    ·rcases List.mem_cons.1 hx with rfl|hx
     ·rw [t1]
      rcases Bool.or_eq_true _ _ |>.mp hsome with hs|hs
      ·obtain ⟨s,hs⟩:=Option.isSome_iff_exists.1 hs
       exact h1 _ (sc_mem hs)
      ·obtain ⟨s,hs⟩:=Option.isSome_iff_exists.1 hs
       exact h2 _ (sc_mem hs)
     ·exact i2 d (fun z hz=>by
       by_cases hq:scF a z.1=none
       ·have :=r6 z.1
        by_cases hz0:z.1=d0
        ·have :=r2 z hz;omega
        ·rw [← this hz0,sc_of_mem r1 hz] at hq;cases hq
       ·obtain ⟨s,hs⟩:=Option.isSome_iff_exists.1 (by simpa [Option.isSome_iff_ne_none] using hq)
        exact h1 (z.1,s) (sc_mem hs)) (fun z hz=>by
       by_cases hq:scF b z.1=none
       ·have :=q5 z.1
        by_cases hz0:z.1=d0
        ·have :=q2 z hz;omega
        ·rw [← this hz0,sc_of_mem q1 hz] at hq;cases hq
       ·obtain ⟨s,hs⟩:=Option.isSome_iff_exists.1 (by simpa [Option.isSome_iff_ne_none] using hq)
        exact h2 (z.1,s) (sc_mem hs)) x hx
    ·rw [scF,t1]
     by_cases hd:d0=d
     ·subst hd
      rw [if_pos rfl,t2,bothF,hsome,hf]
      rfl
     ·rw [if_neg hd,i3,r6 d (fun q=>hd q.symm),q5 d (fun q=>hd q.symm)]
   ·rw [if_neg hf,List.nil_append]
    refine ⟨i1,fun d h1 h2 x hx=> ?_,fun d=> ?_⟩
    ·have :=hlow x hx
     rcases Bool.or_eq_true _ _ |>.mp hsome with hs|hs
     ·obtain ⟨s,hs⟩:=Option.isSome_iff_exists.1 hs
      have :=h1 _ (sc_mem hs)
      simp only at this
      omega
     ·obtain ⟨s,hs⟩:=Option.isSome_iff_exists.1 hs
      have :=h2 _ (sc_mem hs)
      simp only at this
      omega
    ·by_cases hd:d0=d
     ·subst hd
      rw [sc_low hlow (by omega),bothF,if_neg]
      simp [hf]
     ·rw [i3,r6 d (fun q=>hd q.symm),q5 d (fun q=>hd q.symm)]
theorem kept_rise (f:Bool→Bool→Bool) {a b:List Fo} (ha:RiseF a) (hb:RiseF b):RiseF (keptF f a b):=(kept_is f _ (Nat.le_refl _) ha hb).1
theorem kept_sc (f:Bool→Bool→Bool) {a b:List Fo} (ha:RiseF a) (hb:RiseF b) (d:Nat):scF (keptF f a b) d=bothF f (scF a d) (scF b d):=(kept_is f _ (Nat.le_refl _) ha hb).2.2 d
def tabF (n:Nat) (g:Nat→Option Int):List Fo:=(List.range n).filterMap fun d=>(g d).map fun s=>(d,s)
theorem tab_zero (g:Nat→Option Int):tabF 0 g=[]:=rfl
theorem tab_succ (n:Nat) (g:Nat→Option Int):tabF (n+1) g=tabF n g++(match g n with|none=>[]|some s=>[(n,s)]):=by
 unfold tabF
 rw [List.range_succ,List.filterMap_append]
 congr 1
 cases h:g n<;>simp [h]
theorem tab_low {n:Nat} {g:Nat→Option Int}:∀ x∈tabF n g,x.1<n∧g x.1=some x.2:=by
 intro x hx
 unfold tabF at hx
 obtain ⟨d,hd,h⟩:=List.mem_filterMap.1 hx
 obtain ⟨s,hs,rfl⟩:=Option.map_eq_some_iff.1 h
 exact ⟨List.mem_range.1 hd,hs⟩
theorem tab_rise (g:Nat→Option Int):∀ n,RiseF (tabF n g)
 |0=>List.Pairwise.nil
 |n+1=>by
  rw [tab_succ]
  refine List.pairwise_append.2 ⟨tab_rise g n,?_,fun x hx y hy=> ?_⟩
  ·cases g n with
   |none=>exact List.Pairwise.nil
   |some s=>exact List.pairwise_singleton _ _
  ·cases h:g n with
   |none=>rw [h] at hy;cases hy
   |some s=>
    rw [h] at hy
    rw [List.mem_singleton.1 hy]
    exact (tab_low x hx).1
theorem sc_append {a b:List Fo} (d:Nat):scF (a++b) d=match scF a d with|some s=>some s|none=>scF b d:=by
 induction a with
 |nil=>rfl
 |cons x a ih=>
  rw [List.cons_append,scF,scF,ih]
  split<;>rfl
theorem tab_sc (g:Nat→Option Int):∀ (n d:Nat),scF (tabF n g) d=if d<n then g d else none
 |0,d=>by rw [if_neg (by omega)];rfl
 |n+1,d=>by
  rw [tab_succ,sc_append,tab_sc g n d]
  by_cases h:d<n
  ·rw [if_pos h,if_pos (by omega)]
   cases hg:g d with
   |some s=>rfl
   |none=>
    simp only
    cases h2:g n with
    |none=>rfl
    |some s=>simp [scF];omega
  ·rw [if_neg h]
   simp only
   by_cases h1:d=n
   ·subst h1
    rw [if_pos (by omega)]
    cases g d<;>simp [scF]
   ·rw [if_neg (by omega)]
    cases h2:g n with
    |none=>rfl
    |some s=>simp [scF];omega
theorem tab_of {l:List Fo} {n:Nat} {g:Nat→Option Int} (h:RiseF l) (hs:∀ d,scF l d=if d<n then g d else none):l=tabF n g:=sc_ext h (tab_rise g n) fun d=>by rw [hs,tab_sc]
theorem tab_ext {n:Nat} {g h:Nat→Option Int} (hh:∀ d,d<n→g d=h d):tabF n g=tabF n h:=tab_of (tab_rise g n) fun d=>by
 rw [tab_sc]
 by_cases e:d<n
 ·rw [if_pos e,if_pos e,hh d e]
 ·rw [if_neg e,if_neg e]
theorem tab_length (g:Nat→Option Int) (n:Nat):(tabF n g).length≤n:=by
 unfold tabF
 have :=List.length_filterMap_le (fun d=>(g d).map fun s=>(d,s)) (List.range n)
 rwa [List.length_range] at this
def everyF (n:Nat):List Fo:=tabF n fun _=>some 0
theorem every_succ (n:Nat):everyF (n+1)=everyF n++[(n,0)]:=tab_succ n _
theorem every_length:∀ n,(everyF n).length=n
 |0=>rfl
 |n+1=>by rw [every_succ,List.length_append,every_length n];rfl
def andB (l r:Bool):Bool:=l&&r
def orB (l r:Bool):Bool:=l || r
def notB' (l r:Bool):Bool:=l&& !r
def andF:List Fo→List Fo→List Fo:=keptF andB
def orF:List Fo→List Fo→List Fo:=keptF orB
def notF (a:List Fo) (n:Nat):List Fo:=keptF notB' (everyF n) a
theorem not_is {a:List Fo} (ha:RiseF a) (n:Nat):notF a n=tabF n fun d=>if (scF a d).isSome=true then none else some 0:=by
 refine tab_of (kept_rise _ (tab_rise _ _) ha) fun d=> ?_
 rw [notF,everyF,kept_sc _ (tab_rise _ _) ha,tab_sc]
 by_cases h:d<n
 ·rw [if_pos h,if_pos h]
  cases scF a d<;>rfl
 ·rw [if_neg h,if_neg h]
  cases scF a d<;>rfl
end Go.Proofs.YtldcadpemnpbmaaGreatDoor
set_option linter.unusedVariables false
namespace Go.Proofs.YtldcadpemnpbmaaGreatDoor
open Go
theorem score_unfit {f:List Fd} {q:Qy} (h:fitsQ f q=false):scoreQ f q=0:=by
 obtain ⟨k,t,ws,ks⟩:=q
 rw [scoreQ,if_pos (.inl h)]
theorem scoreL_unfit {f:List Fd}:∀ {l:List Qy},fitL f l=0→scoreL f l=0
 |[],_=>by rw [scoreL]
 |q::l,h=>by
  rw [fitL] at h
  rw [scoreL,scoreL_unfit (by omega)]
  cases hq:fitsQ f q with
  |false=>rw [score_unfit hq]
  |true=>rw [if_pos hq] at h;omega
theorem grade_term (f:List Fd) (t:Tm) (ws:List Nm) (ks:List Qy):fitsQ f (.mk 1 t ws ks)=decide (0<(placesD f t).length)∧scoreQ f (.mk 1 t ws ks)=(placesD f t).length:=by
 have h:fitsQ f (.mk 1 t ws ks)=decide (0<(placesD f t).length):=by rw [fitsQ,if_pos rfl]
 refine ⟨h,?_⟩
 rw [scoreQ,h]
 by_cases h0:0<(placesD f t).length
 ·rw [if_neg (by simp [h0]),if_pos rfl]
 ·rw [if_pos (.inl (by simp [h0]))];omega
theorem grade_phrase (f:List Fd) (t:Tm) (ws:List Nm) (ks:List Qy):fitsQ f (.mk 5 t ws ks)=decide (0<phraseD f t.1 ws)∧scoreQ f (.mk 5 t ws ks)=phraseD f t.1 ws:=by
 have h:fitsQ f (.mk 5 t ws ks)=decide (0<phraseD f t.1 ws):=by rw [fitsQ,if_neg (by decide),if_pos rfl]
 refine ⟨h,?_⟩
 rw [scoreQ,h]
 by_cases h0:0<phraseD f t.1 ws
 ·rw [if_neg (by simp [h0]),if_neg (by decide),if_pos rfl]
 ·rw [if_pos (.inl (by simp [h0]))];omega
def enoughQ (k:Int) (fit all:Nat):Bool:=if k=2 then decide (fit=all) else if k=3 then decide (0<fit) else decide (fit=0)
theorem grade_kids {f:List Fd} {k:Int} (t:Tm) (ws:List Nm) {ks:List Qy} (h2:2≤k) (h4:k≤4):
  fitsQ f (.mk k t ws ks)=enoughQ k (fitL f ks) ks.length∧scoreQ f (.mk k t ws ks)=if enoughQ k (fitL f ks) ks.length=true then scoreL f ks else 0:=by
 have h:fitsQ f (.mk k t ws ks)=enoughQ k (fitL f ks) ks.length:=by
  rw [fitsQ,if_neg (by omega),if_neg (by omega),enoughQ]
  by_cases e2:k=2
  ·rw [if_pos e2,if_pos e2]
  ·rw [if_neg e2,if_neg e2]
   by_cases e3:k=3
   ·rw [if_pos e3,e3];simp
   ·rw [if_neg e3]
    have :decide (k=3)=false:=by simp [e3]
    rw [this]
    by_cases e:0<fitL f ks
    ·have h0:fitL f ks≠0:=by omega
     simp [e,h0]
    ·have h0:fitL f ks=0:=by omega
     simp [h0]
 refine ⟨h,?_⟩
 rw [scoreQ,h]
 cases he:enoughQ k (fitL f ks) ks.length with
 |false=>rw [if_pos (.inl rfl),if_neg (by decide)]
 |true=>
  rw [if_pos rfl]
  by_cases e4:k=4
  ·rw [if_pos (.inr e4)]
   rw [enoughQ,if_neg (by omega),if_neg (by omega)] at he
   exact (scoreL_unfit (by simpa using he)).symm
  ·rw [if_neg (by simp [e4]),if_neg (by omega),if_neg (by omega)]
def Most (f:List Fd) (M:Nat):Prop:=∀ s,(wordsD f s).length≤M
theorem phraseW_length (ws:List Nm):∀ l:List Nm,phraseW ws l≤l.length
 |[]=>by rw [phraseW];exact Nat.zero_le _
 |y::l=>by
  have :=phraseW_length ws l
  rw [phraseW,List.length_cons]
  split<;>omega
mutual
theorem score_most {f:List Fd} {M:Nat} (h:Most f M):∀ q:Qy,scoreQ f q≤M*sizeQ q
 |.mk k t ws ks=>by
  have h1:=score_mostL h ks
  have h2:(placesD f t).length≤M:=Nat.le_trans (placesW_length _ _ _) (h _)
  have h3:phraseD f t.1 ws≤M:=Nat.le_trans (phraseW_length _ _) (h _)
  rw [scoreQ,sizeQ,Nat.mul_add,Nat.mul_one]
  split
  ·omega
  ·split
   ·omega
   ·split<;>omega
theorem score_mostL {f:List Fd} {M:Nat} (h:Most f M):∀ l:List Qy,scoreL f l≤M*sizeL l
 |[]=>by rw [scoreL];omega
 |q::l=>by
  have h1:=score_most h q
  have h2:=score_mostL h l
  rw [scoreL,sizeL,Nat.mul_add]
  omega
end
theorem sizeL_le {n:Nat}:∀ {l:List Qy},(∀ q∈l,sizeQ q≤n)→sizeL l≤l.length*n
 |[],_=>by rw [sizeL];omega
 |q::l,h=>by
  have h1:=h q (List.mem_cons_self ..)
  have h2:=sizeL_le fun x hx=>h x (List.mem_cons_of_mem _ hx)
  rw [sizeL,List.length_cons,Nat.add_mul,Nat.one_mul]
  omega
theorem size_may:∀ (n:Nat) {d:Nat} {q:Qy},deepQ q≤n→mayQ d q=0→sizeQ q≤9^n
 |0,_,q,h,_=>by have :=deepQ_pos q;omega
 |n+1,d,.mk k t ws ks,h,hm=>by
  obtain ⟨hd,ho,hl⟩:=mayQ_zero hm
  have hk:sizeL ks≤ks.length*9^n:=sizeL_le fun q hq=>by
   have :=deepL_mem hq
   rw [deepQ] at h
   exact size_may n (by omega) (mayKs_zero hl q hq)
  have h8:ks.length≤8:=by
   rcases own_zero ho with ⟨_,h1,_⟩|⟨_,h1,_⟩|⟨_,_,_,_,_,h5,_⟩<;>omega
  have h9:ks.length*9^n≤8*9^n:=Nat.mul_le_mul_right _ h8
  have hp:1≤9^n:=Nat.one_le_pow _ _ (by decide)
  rw [sizeQ,Nat.pow_succ]
  omega
theorem sizeL_mem:∀ {l:List Qy} {q:Qy},q∈l→sizeQ q≤sizeL l
 |a::l,q,h=>by
  rw [sizeL]
  rcases List.mem_cons.1 h with rfl|h
  ·omega
  ·have :=sizeL_mem h;omega
theorem may_size {q:Qy} {d:Nat} (hd:1≤d) (h:mayQ d q=0):sizeQ q≤600000:=by
 have h1:=mayQ_deep h
 exact Nat.le_trans (size_may 6 (by omega) h) (by decide)
end Go.Proofs.YtldcadpemnpbmaaGreatDoor
set_option linter.unusedVariables false
namespace Go.Proofs.YtldcadpemnpbmaaGreatDoor
theorem kept_tab (f:Bool→Bool→Bool) (n:Nat) (g h:Nat→Option Int):keptF f (tabF n g) (tabF n h)=tabF n fun i=>bothF f (g i) (h i):=by
 refine tab_of (kept_rise _ (tab_rise _ _) (tab_rise _ _)) fun d=> ?_
 rw [kept_sc _ (tab_rise _ _) (tab_rise _ _),tab_sc,tab_sc]
 by_cases e:d<n
 ·rw [if_pos e,if_pos e,if_pos e]
 ·rw [if_neg e,if_neg e,if_neg e]
  rfl
theorem fold_tab (f:Bool→Bool→Bool) (n:Nat) {α:Type} (G:α→Nat→Option Int):∀ (ks:List α) (g:Nat→Option Int),
  (ks.map fun k=>tabF n (G k)).foldl (keptF f) (tabF n g)=tabF n fun i=>(ks.map fun k=>G k i).foldl (bothF f) (g i)
 |[],g=>rfl
 |k::ks,g=>by
  rw [List.map_cons,List.foldl_cons,kept_tab,fold_tab f n G ks]
  rfl
def gradeF (f:List Fd) (q:Qy):Option Int:=if fitsQ f q=true then some (scoreQ f q:Int) else none
theorem fold_none (f:List Fd):∀ ks:List Qy,(ks.map (gradeF f)).foldl (bothF andB) none=none
 |[]=>rfl
 |k::ks=>by
  rw [List.map_cons,List.foldl_cons,show bothF andB none (gradeF f k)=none by unfold bothF;cases gradeF f k<;>rfl]
  exact fold_none f ks
theorem fold_and (f:List Fd):∀ (ks:List Qy) (s:Int),(ks.map (gradeF f)).foldl (bothF andB) (some s)=if fitL f ks=ks.length then some (s+(scoreL f ks:Int)) else none
 |[],s=>by rw [fitL,scoreL,if_pos (by rfl)];simp
 |k::ks,s=>by
  have hle:=fitL_le f ks
  rw [List.map_cons,List.foldl_cons,fitL,scoreL]
  cases hk:fitsQ f k with
  |false=>
   rw [show gradeF f k=none by unfold gradeF;rw [hk];rfl,show bothF andB (some s) none=none from rfl,fold_none,if_neg (by rw [List.length_cons];simp;omega)]
  |true=>
   rw [show gradeF f k=some (scoreQ f k:Int) by unfold gradeF;rw [hk];rfl,show bothF andB (some s) (some (scoreQ f k:Int))=some (s+scoreQ f k) from rfl,fold_and f ks,if_pos rfl]
   by_cases h:fitL f ks=ks.length
   ·rw [if_pos h,if_pos (by rw [List.length_cons,h];omega)]
    congr 1
    omega
   ·rw [if_neg h,if_neg (by rw [List.length_cons];omega)]
theorem fold_or (f:List Fd):∀ (ks:List Qy) (o:Option Int),(ks.map (gradeF f)).foldl (bothF orB) o=if o.isSome=true∨0<fitL f ks then some (o.getD 0+(scoreL f ks:Int)) else none
 |[],o=>by
  rw [fitL,scoreL]
  cases o<;>simp
 |k::ks,o=>by
  rw [List.map_cons,List.foldl_cons,fold_or f ks,fitL,scoreL]
  cases hk:fitsQ f k with
  |false=>
   rw [show gradeF f k=none by unfold gradeF;rw [hk];rfl,score_unfit hk]
   cases o<;>simp [bothF,orB]
  |true=>
   rw [show gradeF f k=some (scoreQ f k:Int) by unfold gradeF;rw [hk];rfl]
   cases o<;>simp [bothF,orB]<;>omega
theorem enough2 (a b:Nat):enoughQ 2 a b=decide (a=b):=rfl
theorem enough3 (a b:Nat):enoughQ 3 a b=decide (0<a):=rfl
theorem enough4 (a b:Nat):enoughQ 4 a b=decide (a=0):=rfl
def foundP (D:List (List Fd)) (q:Qy):List Fo:=tabF D.length fun i=>gradeF (D.getD i []) q
theorem found_phrase (D:List (List Fd)) (t:Tm) (ws:List Nm) (ks:List Qy):foundP D (.mk 5 t ws ks)=tabF D.length fun i=>if 0<phraseD (D.getD i []) t.1 ws then some ((phraseD (D.getD i []) t.1 ws:Nat):Int) else none:=by
 unfold foundP
 refine tab_ext fun d _=> ?_
 obtain ⟨h1,h2⟩:=grade_phrase (D.getD d []) t ws ks
 rw [gradeF,h1,h2]
 by_cases h:0<phraseD (D.getD d []) t.1 ws
 ·rw [if_pos (by simpa using h),if_pos h]
 ·rw [if_neg (by simpa using h),if_neg h]
theorem found_term (D:List (List Fd)) (t:Tm) (ws:List Nm) (ks:List Qy):foundP D (.mk 1 t ws ks)=tabF D.length fun i=>if 0<phraseD (D.getD i []) t.1 [t.2] then some ((phraseD (D.getD i []) t.1 [t.2]:Nat):Int) else none:=by
 unfold foundP
 refine tab_ext fun d _=> ?_
 obtain ⟨h1,h2⟩:=grade_term (D.getD d []) t ws ks
 have h3:phraseD (D.getD d []) t.1 [t.2]=(placesD (D.getD d []) t).length:=phraseW_one t.2 _ 0
 rw [gradeF,h1,h2,h3]
 by_cases h:0<(placesD (D.getD d []) t).length
 ·rw [if_pos (by simpa using h),if_pos h]
 ·rw [if_neg (by simpa using h),if_neg h]
theorem found_and (D:List (List Fd)) (t:Tm) (ws:List Nm) (k:Qy) (ks:List Qy):foundP D (.mk 2 t ws (k::ks))=(ks.map (foundP D)).foldl andF (foundP D k):=by
 unfold andF foundP
 rw [fold_tab andB D.length (fun q i=>gradeF (D.getD i []) q) ks]
 refine tab_ext fun d _=> ?_
 generalize D.getD d []=F
 obtain ⟨h1,h2⟩:=grade_kids (f:=F) (k:=2) t ws (ks:=k::ks) (by decide) (by decide)
 have hle:=fitL_le F ks
 rw [enough2] at h1 h2
 rw [show (ks.map fun q=>gradeF F q)=ks.map (gradeF F) from rfl,gradeF,h1,h2,fitL,scoreL,List.length_cons]
 cases hk:fitsQ F k with
 |false=>
  have hn:decide ((if false=true then 1 else 0)+fitL F ks=ks.length+1)=false:=by simp;omega
  rw [show gradeF F k=none by unfold gradeF;rw [hk];rfl,fold_none,hn,if_neg (by decide)]
 |true=>
  rw [show gradeF F k=some (scoreQ F k:Int) by unfold gradeF;rw [hk];rfl,fold_and,if_pos rfl]
  by_cases h:fitL F ks=ks.length
  ·have hn:decide (1+fitL F ks=ks.length+1)=true:=by simp;omega
   rw [if_pos h,hn,if_pos rfl,if_pos rfl]
   congr 1
  ·have hn:decide (1+fitL F ks=ks.length+1)=false:=by simp;omega
   rw [if_neg h,hn,if_neg (by decide)]
theorem found_or (D:List (List Fd)) (t:Tm) (ws:List Nm) (k:Qy) (ks:List Qy):foundP D (.mk 3 t ws (k::ks))=(ks.map (foundP D)).foldl orF (foundP D k):=by
 unfold orF foundP
 rw [fold_tab orB D.length (fun q i=>gradeF (D.getD i []) q) ks]
 refine tab_ext fun d _=> ?_
 generalize D.getD d []=F
 obtain ⟨h1,h2⟩:=grade_kids (f:=F) (k:=3) t ws (ks:=k::ks) (by decide) (by decide)
 rw [enough3] at h1 h2
 rw [show (ks.map fun q=>gradeF F q)=ks.map (gradeF F) from rfl,gradeF,h1,h2,fitL,scoreL,fold_or]
 cases hk:fitsQ F k with
 |false=>
  rw [show gradeF F k=none by unfold gradeF;rw [hk];rfl,score_unfit hk]
  by_cases h:0<fitL F ks
  ·simp [h]
  ·simp [h]
 |true=>
  have hp:0<1+fitL F ks:=by omega
  rw [show gradeF F k=some (scoreQ F k:Int) by unfold gradeF;rw [hk];rfl]
  simp [hp]
theorem found_not (D:List (List Fd)) (t:Tm) (ws:List Nm) (k:Qy):foundP D (.mk 4 t ws [k])=notF (foundP D k) D.length:=by
 unfold foundP
 rw [not_is (tab_rise _ _)]
 refine tab_ext fun d hd=> ?_
 rw [tab_sc,if_pos hd]
 generalize D.getD d []=F
 obtain ⟨h1,h2⟩:=grade_kids (f:=F) (k:=4) t ws (ks:=[k]) (by decide) (by decide)
 rw [enough4] at h1 h2
 rw [gradeF,h1,h2,fitL,fitL,scoreL,scoreL]
 cases hk:fitsQ F k with
 |false=>rw [show gradeF F k=none by unfold gradeF;rw [hk];rfl,score_unfit hk];rfl
 |true=>rw [show gradeF F k=some (scoreQ F k:Int) by unfold gradeF;rw [hk];rfl];rfl
theorem found_low {D:List (List Fd)} {q:Qy} {M:Nat} (h:∀ f∈D,Most f M):∀ x∈foundP D q,x.1<D.length∧0≤x.2∧x.2≤((M*sizeQ q:Nat):Int):=fun x hx=>by
 obtain ⟨h1,h2⟩:=tab_low x hx
 refine ⟨h1,?_⟩
 unfold gradeF at h2
 split at h2
 ·injection h2 with h2
  have hm:=score_most (h (D.getD x.1 []) (by rw [List.getD_eq_getElem?_getD,List.getElem?_eq_getElem h1];exact List.getElem_mem h1)) q
  omega
 ·cases h2
end Go.Proofs.YtldcadpemnpbmaaGreatDoor
set_option linter.unusedVariables false
namespace Go.Proofs.YtldcadpemnpbmaaGreatDoor
open Go
instance (g:List Po) (d:Int):Decidable (inC g d):=by unfold inC;infer_instance
theorem atC_append (a b:List Po) (d:Int):atC (a++b) d=if inC a d then atC a d else atC b d:=by
 unfold atC
 rw [List.find?_append]
 split
 ·rename_i h
  unfold inC at h
  obtain ⟨q,hq,e⟩:=List.mem_map.1 h
  cases hf:a.find? fun y=>y.1==d with
  |none=>exact absurd (List.find?_eq_none.1 hf q hq) (by simp [e])
  |some y=>rfl
 ·rename_i h
  have :a.find? (fun y=>y.1==d)=none:=List.find?_eq_none.2 fun q hq e=>h (by unfold inC;rw [← show q.1=d by simpa using e];exact List.mem_map_of_mem hq)
  rw [this]
  rfl
theorem places_none {d:List Fd} (h:ApartF d) {t:Tm} (ht:t∉termsD d):placesD d t=[]:=by
 refine List.eq_nil_of_length_eq_zero ?_
 rw [places_tell h t,List.length_eq_zero_iff,List.filter_eq_nil_iff]
 intro p hp e
 exact ht ((termsD_mem h t).2 (List.mem_map.2 ⟨p,hp,by simpa using e⟩))
theorem postIn_is {i:Nat} {d:List Fd} (h:GoodF d) {t:Tm} (h0:(0:UInt8)∉t.1):postIn i d (termsD d) (keyT t)=if t∈termsD d then [((i:Int),placesD d t)] else []:=by
 by_cases ht:t∈termsD d
 ·rw [if_pos ht]
  rcases postIn_one h.zero (i:=i) (keyT t) with h1|⟨u,hu,h1⟩
  ·exfalso
   unfold postIn at h1
   rw [List.map_eq_nil_iff,List.filter_eq_nil_iff] at h1
   exact h1 t ht (by simp)
  ·have hm:((i:Int),placesD d t)∈postIn i d (termsD d) (keyT t):=by
    unfold postIn
    exact List.mem_map.2 ⟨t,List.mem_filter.2 ⟨ht,by simp⟩,rfl⟩
   rw [h1] at hm ⊢
   rw [List.mem_singleton] at hm
   rw [hm]
 ·rw [if_neg ht]
  unfold postIn
  rw [List.map_eq_nil_iff,List.filter_eq_nil_iff]
  intro u hu e
  have :keyT u=keyT t:=by simpa using e
  exact ht (by rw [← keyT_inj this (termsD_zero h.apart h.zero hu) h0];exact hu)
theorem posts_low {key:Nm} {l:List En} {i:Nat} {d:Int} (h:d<(i:Int)∨((i+l.length:Nat):Int)≤d):¬ inC (postsE i l key) d:=by
 intro hin
 unfold inC at hin
 obtain ⟨q,hq,rfl⟩:=List.mem_map.1 hin
 have :=posts_doc hq
 omega
theorem atC_posts {t:Tm} (h0:(0:UInt8)∉t.1):∀ {l:List En} {i j:Nat} (hg:GoodE l) (hj:j<l.length),atC (postsE i l (keyT t)) ((i+j:Nat):Int)=placesD l[j].2.1 t
 |[],i,j,_,hj=>by simp at hj
 |q::l,i,j,hg,hj=>by
  have hgq:=hg q (List.mem_cons_self ..)
  have hgl:GoodE l:=fun x hx=>hg x (List.mem_cons_of_mem _ hx)
  rw [postsE,atC_append,postIn_is hgq h0]
  cases j with
  |zero=>
   rw [Nat.add_zero,zB]
   by_cases ht:t∈termsD q.2.1
   ·rw [if_pos ht,if_pos (by simp [inC])]
    simp [atC]
   ·rw [if_neg ht,if_neg (by simp [inC]),atC_none (posts_low (.inl (by omega))),places_none hgq.apart ht]
  |succ j=>
   have ih:=atC_posts h0 (i:=i+1) (j:=j) hgl (by simpa using hj)
   rw [show i+1+j=i+(j+1) by omega] at ih
   rw [zC,← ih,if_neg]
   by_cases ht:t∈termsD q.2.1
   ·rw [if_pos ht];simp [inC];omega
   ·rw [if_neg ht];simp [inC]
def docsE (G:List En):List (List Fd):=G.map (·.2.1)
theorem docsE_at {G:List En} {j:Nat} (hj:j<G.length):(docsE G).getD j []=G[j].2.1:=by simp [docsE,hj]
theorem docsE_length (G:List En):(docsE G).length=G.length:=by simp [docsE]
def listsE (G:List En) (f:Nm) (ws:List Nm):List (List Po):=ws.map fun y=>postsE 0 G (keyL f y)
theorem side_doc {G:List En} (hg:GoodE G) {f:Nm} (h0:(0:UInt8)∉f) (ws:List Nm) {j:Nat} (hj:j<G.length):sideF ((listsE G f ws).map fun g=>atC g (j:Int))=phraseD G[j].2.1 f ws:=by
 unfold listsE phraseD
 rw [List.map_map,← side_words]
 congr 1
 refine List.map_congr_left fun y _=> ?_
 have :=atC_posts (t:=(f,y)) h0 (i:=0) hg hj
 rw [Nat.zero_add] at this
 exact this
theorem lists_in {G:List En} {f:Nm} {ws:List Nm} (hne:ws≠[]) {x:Int} (hx0:0≤x) (h:AllC (listsE G f ws) x):x<(G.length:Int):=by
 obtain ⟨y,ys,rfl⟩:=List.exists_cons_of_ne_nil hne
 have hin:=h _ (by unfold listsE;rw [List.map_cons];exact List.mem_cons_self ..)
 rcases intLG x ((0+G.length:Nat):Int) with h1|h1
 ·simpa using h1
 ·exact absurd hin (posts_low (.inr h1))
end Go.Proofs.YtldcadpemnpbmaaGreatDoor
