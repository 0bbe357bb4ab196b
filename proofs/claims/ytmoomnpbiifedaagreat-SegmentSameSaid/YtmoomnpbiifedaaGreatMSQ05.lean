import Derived.Test.YtmoomnpbiifedaaGreatMSZz
import Derived.Test.YtmoomnpbiifedaaGreatMSQ04
import Derived.Test.YtmoomnpbiifedaaGreatMSQ01
import Derived.Test.YtmoomnpbiifedaaGreatMSQ02
set_option linter.unusedVariables false
namespace Go.Proofs.YtmoomnpbiifedaaGreat
open Go
def tellF (s:Nm):Nat→List Nm→List (Tm × Int)
 |_,[]=>[]
 |i,x::l=>((s,x),(i:Int))::tellF s (i+1) l
theorem tellF_append (s:Nm):∀ (l:List Nm) (i:Nat) (x:Nm),tellF s i (l++[x])=tellF s i l++[((s,x),((i+l.length:Nat):Int))]
 |[],i,x=>rfl
 |y::l,i,x=>by
  rw [List.cons_append,tellF,tellF,tellF_append s l (i+1) x,List.cons_append,List.length_cons,Nat.add_assoc,Nat.add_comm 1]
theorem tellF_succ (s:Nm) {l:List Nm} {k:Nat} (hk:k<l.length):tellF s 0 (l.take (k+1))=tellF s 0 (l.take k)++[((s,l[k]),(k:Int))]:=by
 rw [List.take_succ_eq_append_getElem hk,tellF_append,List.length_take,Nat.zero_add,Nat.min_eq_left (by omega)]
theorem tellF_length (s:Nm):∀ (l:List Nm) (i:Nat),(tellF s i l).length=l.length
 |[],_=>rfl
 |x::l,i=>by rw [tellF,List.length_cons,tellF_length s l,List.length_cons]
def tellD:List Fd→List (Tm × Int)
 |[]=>[]
 |f::l=>tellF f.1 0 (words f.2)++tellD l
theorem tellD_append:∀ (l:List Fd) (f:Fd),tellD (l++[f])=tellD l++tellF f.1 0 (words f.2)
 |[],f=>by simp [tellD]
 |g::l,f=>by rw [List.cons_append,tellD,tellD,tellD_append l f,List.append_assoc]
theorem tellD_succ {l:List Fd} {k:Nat} (hk:k<l.length):tellD (l.take (k+1))=tellD (l.take k)++tellF l[k].1 0 (words l[k].2):=by
 rw [List.take_succ_eq_append_getElem hk,tellD_append]
abbrev Gr:=Tm × List Int
def addG:List Gr→Tm→Int→List Gr
 |[],t,a=>[(t,[a])]
 |p::g,t,a=>if p.1=t then (p.1,p.2++[a])::g else p::addG g t a
def groupsT (s:List (Tm × Int)):List Gr:=s.foldl (fun g p=>addG g p.1 p.2) []
theorem groupsT_snoc (s:List (Tm × Int)) (t:Tm) (a:Int):groupsT (s++[(t,a)])=addG (groupsT s) t a:=by
 unfold groupsT
 rw [List.foldl_append]
 rfl
def getG:List Gr→Tm→List Int
 |[],_=>[]
 |p::g,t=>if p.1=t then p.2 else getG g t
theorem getG_add (t u:Tm) (a:Int):∀ g:List Gr,getG (addG g t a) u=if t=u then getG g u++[a] else getG g u
 |[]=>by by_cases h:t=u<;>simp [addG,getG,h]
 |p::g=>by
  rw [addG]
  by_cases h1:p.1=t
  ·rw [if_pos h1,getG,getG]
   by_cases h2:t=u
   ·rw [if_pos h2,if_pos (h1.trans h2),if_pos (h1.trans h2)]
   ·rw [if_neg h2,if_neg (fun e=>h2 (h1.symm.trans e)),if_neg (fun e=>h2 (h1.symm.trans e))]
  ·rw [if_neg h1,getG,getG,getG_add t u a g]
   by_cases h2:p.1=u
   ·rw [if_pos h2,if_pos h2,if_neg (fun e=>h1 (h2.trans e.symm))]
   ·rw [if_neg h2,if_neg h2]
def placesS (s:List (Tm × Int)) (t:Tm):List Int:=(s.filter fun p=>decide (p.1=t)).map (·.2)
theorem getG_fold (t:Tm):∀ (s:List (Tm × Int)) (g:List Gr),getG (s.foldl (fun g p=>addG g p.1 p.2) g) t=getG g t++placesS s t
 |[],g=>by simp [placesS]
 |p::s,g=>by
  rw [List.foldl_cons,getG_fold t s,getG_add]
  unfold placesS
  by_cases h:p.1=t<;>simp [h]
theorem getG_groups (s:List (Tm × Int)) (t:Tm):getG (groupsT s) t=placesS s t:=by
 rw [groupsT,getG_fold]
 rfl
theorem keys_add (t:Tm) (a:Int):∀ g:List Gr,(addG g t a).map (·.1)=if t∈g.map (·.1) then g.map (·.1) else g.map (·.1)++[t]
 |[]=>rfl
 |p::g=>by
  have ih:=keys_add t a g
  rw [addG]
  by_cases h:p.1=t
  ·rw [if_pos h,if_pos (by simp [h])]
   rfl
  ·rw [if_neg h,List.map_cons,ih,List.map_cons]
   by_cases h2:t∈g.map (·.1)
   ·rw [if_pos h2,if_pos (List.mem_cons_of_mem _ h2)]
   ·rw [if_neg h2,if_neg]
    ·rfl
    ·intro h3
     rcases List.mem_cons.1 h3 with h3|h3
     ·exact h h3.symm
     ·exact h2 h3
theorem keys_nodup_add {g:List Gr} (h:(g.map (·.1)).Nodup) (t:Tm) (a:Int):((addG g t a).map (·.1)).Nodup:=by
 rw [keys_add]
 split
 ·exact h
 ·rename_i hn
  rw [List.nodup_append]
  exact ⟨h,by simp,fun x hx y hy e=>hn (by rw [List.mem_singleton] at hy;rw [← hy,← e];exact hx)⟩
theorem keys_fold:∀ (s:List (Tm × Int)) (g:List Gr),(g.map (·.1)).Nodup→((s.foldl (fun g p=>addG g p.1 p.2) g).map (·.1)).Nodup∧∀ t,t∈(s.foldl (fun g p=>addG g p.1 p.2) g).map (·.1)↔t∈g.map (·.1)∨t∈s.map (·.1)
 |[],g,h=>⟨h,by simp⟩
 |p::s,g,h=>by
  obtain ⟨h1,h2⟩:=keys_fold s (addG g p.1 p.2) (keys_nodup_add h _ _)
  refine ⟨h1,fun t=> ?_⟩
  rw [List.foldl_cons,h2,keys_add,List.map_cons,List.mem_cons]
  split
  ·rename_i hp
   constructor
   ·rintro (h|h)
    ·exact .inl h
    ·exact .inr (.inr h)
   ·rintro (h|rfl|h)
    ·exact .inl h
    ·exact .inl hp
    ·exact .inr h
  ·rw [List.mem_append,List.mem_singleton,or_assoc]
theorem groups_nodup (s:List (Tm × Int)):((groupsT s).map (·.1)).Nodup:=(keys_fold s [] (by simp)).1
theorem groups_mem (s:List (Tm × Int)) (t:Tm):t∈(groupsT s).map (·.1)↔t∈s.map (·.1):=by
 rw [groupsT,(keys_fold s [] (by simp)).2]
 simp
def ApartF (l:List Fd):Prop:=l.Pairwise fun f g=>f.1≠g.1
theorem wordsD_of {l:List Fd} (h:ApartF l) {f:Fd} (hf:f∈l):wordsD l f.1=words f.2:=by
 induction l with
 |nil=>cases hf
 |cons g l ih=>
  rw [ApartF,List.pairwise_cons] at h
  rw [wordsD]
  rcases List.mem_cons.1 hf with rfl|hf
  ·exact if_pos rfl
  ·rw [if_neg (h.1 f hf)]
   exact ih h.2 hf
theorem wordsD_other {l:List Fd} {s:Nm} (h:∀ f∈l,f.1≠s):wordsD l s=[]:=by
 induction l with
 |nil=>rfl
 |cons g l ih=>
  rw [wordsD,if_neg (h g (List.mem_cons_self ..))]
  exact ih fun f hf=>h f (List.mem_cons_of_mem _ hf)
theorem placesS_append (a b:List (Tm × Int)) (t:Tm):placesS (a++b) t=placesS a t++placesS b t:=by simp [placesS]
theorem placesS_F (s:Nm) (t:Tm):∀ (l:List Nm) (i:Nat),placesS (tellF s i l) t=if s=t.1 then placesW i l t.2 else []
 |[],i=>by simp [tellF,placesS,placesW]
 |x::l,i=>by
  have ih:=placesS_F s t l (i+1)
  rw [tellF]
  unfold placesS at ih ⊢
  rw [List.filter_cons]
  obtain ⟨t1,t2⟩:=t
  simp only [Prod.mk.injEq] at ih ⊢
  by_cases h1:s=t1
  ·rw [if_pos h1] at ih ⊢
   rw [placesW]
   by_cases h2:x=t2
   ·rw [if_pos h2,if_pos (by simp [h1,h2]),List.map_cons,ih]
   ·rw [if_neg h2,if_neg (by simp [h2]),ih]
  ·rw [if_neg h1] at ih ⊢
   rw [if_neg (by simp [h1]),ih]
theorem placesS_D {l:List Fd} (h:ApartF l) (t:Tm):placesS (tellD l) t=placesD l t:=by
 induction l with
 |nil=>rfl
 |cons f l ih=>
  rw [ApartF,List.pairwise_cons] at h
  rw [tellD,placesS_append,placesS_F,ih h.2]
  unfold placesD
  rw [wordsD]
  by_cases h1:f.1=t.1
  ·rw [if_pos h1,if_pos h1,wordsD_other (fun g hg e=>h.1 g hg (h1.trans e.symm)),placesW,List.append_nil]
  ·rw [if_neg h1,if_neg h1,List.nil_append]
theorem tellF_mem (s:Nm) (t:Tm):∀ (l:List Nm) (i:Nat),t∈(tellF s i l).map (·.1)↔t.1=s∧t.2∈l
 |[],i=>by simp [tellF]
 |x::l,i=>by
  rw [tellF,List.map_cons,List.mem_cons,tellF_mem s t l,List.mem_cons]
  obtain ⟨t1,t2⟩:=t
  simp only [Prod.mk.injEq]
  constructor
  ·rintro (⟨h1,h2⟩|⟨h1,h2⟩)
   ·exact ⟨h1,.inl h2⟩
   ·exact ⟨h1,.inr h2⟩
  ·rintro ⟨h1,h2|h2⟩
   ·exact .inl ⟨h1,h2⟩
   ·exact .inr ⟨h1,h2⟩
theorem tellD_mem (t:Tm):∀ l:List Fd,t∈(tellD l).map (·.1)↔∃ f∈l,t.1=f.1∧t.2∈words f.2
 |[]=>by simp [tellD]
 |f::l=>by rw [tellD,List.map_append,List.mem_append,tellF_mem,tellD_mem t l];simp
theorem putAll_mem (s:Nm) (t:Tm):∀ (ws:List Nm) (a:List Tm),t∈ws.foldl (fun b x=>putT b (s,x)) a↔t∈a∨(t.1=s∧t.2∈ws)
 |[],a=>by simp
 |x::ws,a=>by
  rw [List.foldl_cons,putAll_mem s t ws,mem_putT,List.mem_cons]
  obtain ⟨t1,t2⟩:=t
  simp only [Prod.mk.injEq]
  constructor
  ·rintro ((h|⟨h1,h2⟩)|⟨h1,h2⟩)
   ·exact .inl h
   ·exact .inr ⟨h1,.inl h2⟩
   ·exact .inr ⟨h1,.inr h2⟩
  ·rintro (h|⟨h1,h2|h2⟩)
   ·exact .inl (.inl h)
   ·exact .inl (.inr ⟨h1,h2⟩)
   ·exact .inr ⟨h1,h2⟩
theorem termsFold_mem (l:List Fd) (t:Tm):∀ (m:List Fd) (a:List Tm),t∈m.foldl (fun a f=>(wordsD l f.1).foldl (fun b x=>putT b (f.1,x)) a) a↔t∈a∨∃ f∈m,t.1=f.1∧t.2∈wordsD l f.1
 |[],a=>by simp
 |f::m,a=>by
  rw [List.foldl_cons,termsFold_mem l t m,putAll_mem]
  simp [or_assoc]
theorem termsD_mem {l:List Fd} (h:ApartF l) (t:Tm):t∈termsD l↔t∈(tellD l).map (·.1):=by
 rw [termsD,termsFold_mem,tellD_mem]
 simp only [List.not_mem_nil,false_or]
 constructor
 ·rintro ⟨f,hf,h1,h2⟩;exact ⟨f,hf,h1,by rwa [wordsD_of h hf] at h2⟩
 ·rintro ⟨f,hf,h1,h2⟩;exact ⟨f,hf,h1,by rwa [wordsD_of h hf]⟩
def NoZero (l:List Fd):Prop:=∀ f∈l,(0:UInt8)∉f.1
theorem putAll_rise {s:Nm} (h0:(0:UInt8)∉s):∀ (ws:List Nm) (a:List Tm),RiseT a→(∀ t∈a,(0:UInt8)∉t.1)→RiseT (ws.foldl (fun b x=>putT b (s,x)) a)
 |[],a,h,_=>h
 |x::ws,a,h,hz=>putAll_rise h0 ws _ (riseT_put h hz h0) fun t ht=>by
  rcases mem_putT.1 ht with ht|rfl
  ·exact hz t ht
  ·exact h0
theorem termsFold_rise (l:List Fd):∀ (m:List Fd) (a:List Tm),NoZero m→RiseT a→(∀ t∈a,(0:UInt8)∉t.1)→RiseT (m.foldl (fun a f=>(wordsD l f.1).foldl (fun b x=>putT b (f.1,x)) a) a)
 |[],a,_,h,_=>h
 |f::m,a,hm,h,hz=>termsFold_rise l m _ (fun g hg=>hm g (List.mem_cons_of_mem _ hg)) (putAll_rise (hm f (List.mem_cons_self ..)) _ _ h hz) fun t ht=>by
  rcases (putAll_mem f.1 t _ _).1 ht with ht|⟨ht,_⟩
  ·exact hz t ht
  ·rw [ht];exact hm f (List.mem_cons_self ..)
theorem termsD_rise {l:List Fd} (h:NoZero l):RiseT (termsD l):=termsFold_rise l l [] h (by simp [RiseT,Rise]) (by simp)
theorem termsD_zero {l:List Fd} (ha:ApartF l) (h:NoZero l) {t:Tm} (ht:t∈termsD l):(0:UInt8)∉t.1:=by
 obtain ⟨f,hf,h1,_⟩:=(tellD_mem t l).1 ((termsD_mem ha t).1 ht)
 rw [h1]
 exact h f hf
theorem terms_sorted {l:List Fd} (ha:ApartF l) (h0:NoZero l) {ts:List Tm} (hp:ts.Perm ((groupsT (tellD l)).map (·.1))) (hs:ts.Pairwise fun s t=>¬ keyT t<keyT s):ts=termsD l:=by
 have hmem:∀ t,t∈ts↔t∈termsD l:=fun t=>by rw [hp.mem_iff,groups_mem,termsD_mem ha]
 have hz:∀ t∈ts,(0:UInt8)∉t.1:=fun t ht=>termsD_zero ha h0 ((hmem t).1 ht)
 have hnd:ts.Nodup:=hp.nodup_iff.2 (groups_nodup _)
 have hr:RiseT ts:=by
  unfold RiseT Rise
  rw [List.pairwise_map]
  have h1:ts.Pairwise fun s t=>s∈ts∧t∈ts∧s≠t:=by
   rw [List.pairwise_iff_getElem]
   intro i j hi hj hij
   exact ⟨List.getElem_mem hi,List.getElem_mem hj,fun e=>by have :=(List.getElem_inj hnd).1 e;omega⟩
  refine (hs.and h1).imp fun {s t} h=> ?_
  obtain ⟨h2,h3,h4,h5⟩:=h
  rcases nm_tri (keyT s) (keyT t) with e|e|e
  ·exact e
  ·exact absurd (keyT_inj e (hz s h3) (hz t h4)) h5
  ·exact absurd e h2
 have h2:ts.map keyT=(termsD l).map keyT:=rise_ext hr (termsD_rise h0) fun k=>by
  simp only [List.mem_map]
  constructor
  ·rintro ⟨t,ht,rfl⟩;exact ⟨t,(hmem t).1 ht,rfl⟩
  ·rintro ⟨t,ht,rfl⟩;exact ⟨t,(hmem t).2 ht,rfl⟩
 have hlen:ts.length=(termsD l).length:=by simpa using congrArg List.length h2
 refine List.ext_getElem hlen fun i h3 h4=> ?_
 refine keyT_inj ?_ (hz _ (List.getElem_mem h3)) (termsD_zero ha h0 (List.getElem_mem h4))
 have h5:=List.getElem_of_eq h2 (i:=i) (by simpa using h3)
 simpa using h5
theorem tellD_weight {l:List Fd} (h:ApartF l):(tellD l).length=weightD l:=by
 have h1:∀ m:List Fd,(∀ f∈m,f∈l)→(tellD m).length=(m.map fun f=>(wordsD l f.1).length).sum:=by
  intro m
  induction m with
  |nil=>intro _;rfl
  |cons f m ih=>
   intro hm
   rw [tellD,List.length_append,tellF_length,ih fun g hg=>hm g (List.mem_cons_of_mem _ hg),List.map_cons,List.sum_cons,wordsD_of h (hm f (List.mem_cons_self ..))]
 exact h1 l fun f hf=>hf
theorem mayF_of:∀ {l:List Fd} {seen:List Nm} {n:Nat},mayF seen n l=0→(∀ f∈l,nameB f.1=true∧f.1∉seen)∧ApartF l∧n+(l.map fun f=>(words f.2).length).sum≤500
 |[],seen,n,h=>by
  rw [mayF] at h
  split at h
  ·cases h
  ·exact ⟨by simp,List.Pairwise.nil,by simp;omega⟩
 |f::l,seen,n,h=>by
  rw [mayF] at h
  split at h
  ·cases h
  ·rename_i h1
   split at h
   ·cases h
   ·rename_i h2
    split at h
    ·rename_i h3;exact absurd h h3
    ·obtain ⟨g1,g2,g3⟩:=mayF_of h
     refine ⟨fun g hg=> ?_,List.pairwise_cons.2 ⟨fun g hg e=>(g1 g hg).2 (by rw [← e];simp),g2⟩,by rw [List.map_cons,List.sum_cons];omega⟩
     rcases List.mem_cons.1 hg with rfl|hg
     ·exact ⟨by simpa using h1,h2⟩
     ·exact ⟨(g1 g hg).1,fun e=>(g1 g hg).2 (List.mem_append_left _ e)⟩
theorem mayD_of {l:List Fd} (h:mayD l=0):l.length≤8∧(∀ f∈l,nameB f.1=true)∧ApartF l∧NoZero l∧weightD l≤500:=by
 unfold mayD at h
 split at h
 ·cases h
 ·rename_i h8
  obtain ⟨g1,g2,g3⟩:=mayF_of h
  refine ⟨by omega,fun f hf=>(g1 f hf).1,g2,fun f hf=>nameB_zero (g1 f hf).1,?_⟩
  rw [← tellD_weight g2]
  have :∀ m:List Fd,(tellD m).length=(m.map fun f=>(words f.2).length).sum:=by
   intro m
   induction m with
   |nil=>rfl
   |cons f m ih=>rw [tellD,List.length_append,tellF_length,ih,List.map_cons,List.sum_cons]
  rw [this]
  omega
theorem placesW_ge (x:Nm):∀ (l:List Nm) (i:Nat),∀ a∈placesW i l x,(i:Int)≤a
 |[],i,a,h=>by cases h
 |y::l,i,a,h=>by
  rw [placesW] at h
  split at h
  ·rcases List.mem_cons.1 h with rfl|h
   ·exact Int.le_refl _
   ·have :=placesW_ge x l (i+1) a h;omega
  ·have :=placesW_ge x l (i+1) a h;omega
theorem placesW_rise (x:Nm):∀ (l:List Nm) (i:Nat),(placesW i l x).Pairwise (· <·)
 |[],i=>List.Pairwise.nil
 |y::l,i=>by
  rw [placesW]
  split
  ·exact List.pairwise_cons.2 ⟨fun a ha=>by have :=placesW_ge x l (i+1) a ha;omega,placesW_rise x l (i+1)⟩
  ·exact placesW_rise x l (i+1)
theorem placesW_mem (x:Nm) (a:Int):∀ (l:List Nm) (i:Nat),a∈placesW i l x↔∃ k:Nat,a=((i+k:Nat):Int)∧l[k]?=some x
 |[],i=>by simp [placesW]
 |y::l,i=>by
  rw [placesW]
  have ih:=placesW_mem x a l (i+1)
  constructor
  ·intro h
   split at h
   ·rename_i hy
    rcases List.mem_cons.1 h with rfl|h
    ·exact ⟨0,by simp,by simp [hy]⟩
    ·obtain ⟨k,h1,h2⟩:=ih.1 h
     exact ⟨k+1,by rw [h1];congr 1;omega,by simpa using h2⟩
   ·obtain ⟨k,h1,h2⟩:=ih.1 h
    exact ⟨k+1,by rw [h1];congr 1;omega,by simpa using h2⟩
  ·rintro ⟨k,h1,h2⟩
   cases k with
   |zero=>
    have :y=x:=by simpa using h2
    rw [if_pos this]
    exact List.mem_cons.2 (.inl (by simpa using h1))
   |succ k=>
    have :=ih.2 ⟨k,by rw [h1];congr 1;omega,by simpa using h2⟩
    split
    ·exact List.mem_cons_of_mem _ this
    ·exact this
end Go.Proofs.YtmoomnpbiifedaaGreat
set_option linter.unusedVariables false
namespace Go.Proofs.YtmoomnpbiifedaaGreat
open Go
structure GoodF (l:List Fd):Prop where
 len:l.length≤8
 names:∀ f∈l,f.1.length≤12
 texts:∀ f∈l,f.2.length≤1024
 apart:ApartF l
 zero:NoZero l
 wordsF:∀ f∈l,(words f.2).length≤500
 wordsS:∀ s,(wordsD l s).length≤500
 weight:weightD l≤500
theorem le_sum:∀ {l:List Nat} {a:Nat},a∈l→a≤l.sum
 |x::l,a,h=>by
  rw [List.sum_cons]
  rcases List.mem_cons.1 h with rfl|h
  ·omega
  ·have :=le_sum h;omega
theorem wordsD_le {l:List Fd} (ha:ApartF l) (s:Nm):(wordsD l s).length≤weightD l:=by
 by_cases h:∃ f∈l,f.1=s
 ·obtain ⟨f,hf,rfl⟩:=h
  unfold weightD
  exact le_sum (List.mem_map.2 ⟨f,hf,rfl⟩)
 ·rw [wordsD_other fun f hf e=>h ⟨f,hf,e⟩]
  exact Nat.zero_le _
theorem goodF_of {l:List Fd} (hm:mayD l=0) (ht:∀ f∈l,f.2.length≤1024):GoodF l:=by
 obtain ⟨g1,g2,g3,g4,g5⟩:=mayD_of hm
 refine ⟨g1,fun f hf=> ?_,ht,g3,g4,fun f hf=> ?_,fun s=>Nat.le_trans (wordsD_le g3 s) g5,g5⟩
 ·have :=g2 f hf
  rw [nameB,Bool.and_eq_true,Bool.and_eq_true,decide_eq_true_iff,decide_eq_true_iff] at this
  exact this.2.2
 ·rw [← wordsD_of g3 hf]
  exact Nat.le_trans (wordsD_le g3 _) g5
end Go.Proofs.YtmoomnpbiifedaaGreat
set_option linter.unusedVariables false
namespace Go.Proofs.YtmoomnpbiifedaaGreat
open Go
abbrev Dc:=Int × List Fd
abbrev En:=Int × List Fd × Int
abbrev Pn:=Int × List Int
def mayE (last:Int) (q:En):Int:=if mayD q.2.1≠0 then mayD q.2.1 else if q.2.2<0∨q.2.2≤last then 12 else 0
def weightE (l:List En):Nat:=(l.map fun q=>weightD q.2.1).sum
def keysIn (a:List Nm) (ts:List Tm):List Nm:=(ts.map keyT).foldl putN a
def keysE (l:List En):List Nm:=l.foldl (fun a q=>keysIn a (termsD q.2.1)) []
def postIn (i:Nat) (d:List Fd) (ts:List Tm) (key:Nm):List Pn:=(ts.filter fun t=>decide (keyT t=key)).map fun t=>((i:Int),placesD d t)
def postsE:Nat→List En→Nm→List Pn
 |_,[],_=>[]
 |i,q::l,key=>postIn i q.2.1 (termsD q.2.1) key++postsE (i+1) l key
def lastE (l:List En):Int:=match l.getLast? with|none=> -1|some q=>q.2.2
def GoodE (l:List En):Prop:=∀ q∈l,GoodF q.2.1
theorem weightE_le {l:List En} (hg:GoodE l):weightE l≤l.length*500:=by
 unfold weightE
 induction l with
 |nil=>simp
 |cons q l ih=>
  have h1:=(hg q (List.mem_cons_self ..)).weight
  have h2:=ih fun x hx=>hg x (List.mem_cons_of_mem _ hx)
  simp only [List.map_cons,List.sum_cons,List.length_cons]
  omega
theorem GoodE.snoc {l:List En} {q:En} (h:GoodE l) (hq:GoodF q.2.1):GoodE (l++[q]):=fun x hx=>by
 rcases List.mem_append.1 hx with hx|hx
 ·exact h x hx
 ·rw [List.mem_singleton.1 hx];exact hq
theorem keysIn_take {a:List Nm} {ts:List Tm} {j:Nat} (hj:j<ts.length):keysIn a (ts.take (j+1))=putN (keysIn a (ts.take j)) (keyT ts[j]):=by
 unfold keysIn
 rw [List.take_succ_eq_append_getElem hj,List.map_append,List.foldl_append]
 rfl
theorem keysE_take {l:List En} {k:Nat} (hk:k<l.length):keysE (l.take (k+1))=keysIn (keysE (l.take k)) (termsD l[k].2.1):=by
 unfold keysE
 rw [List.take_succ_eq_append_getElem hk,List.foldl_append]
 rfl
theorem keysIn_length (a:List Nm) (ts:List Tm):(keysIn a ts).length≤ts.length+a.length:=by
 have :=foldl_putN_length (ts.map keyT) a
 rwa [List.length_map] at this
theorem rise_keysIn {a:List Nm} (h:Rise a) (ts:List Tm):Rise (keysIn a ts):=rise_foldl_putN _ _ h
theorem mem_keysIn {a:List Nm} {ts:List Tm} {x:Nm}:x∈keysIn a ts↔(∃ t∈ts,keyT t=x)∨x∈a:=by
 rw [keysIn,mem_foldl_putN,List.mem_map]
theorem rise_keysE_from:∀ (l:List En) {a:List Nm},Rise a→Rise (l.foldl (fun a q=>keysIn a (termsD q.2.1)) a)
 |[],a,h=>h
 |q::l,a,h=>rise_keysE_from l (rise_keysIn h _)
theorem rise_keysE (l:List En):Rise (keysE l):=rise_keysE_from l List.Pairwise.nil
theorem mem_keysE_from:∀ (l:List En) {a:List Nm} {x:Nm},x∈l.foldl (fun a q=>keysIn a (termsD q.2.1)) a↔(∃ q∈l,∃ t∈termsD q.2.1,keyT t=x)∨x∈a
 |[],a,x=>by simp
 |q::l,a,x=>by
  rw [List.foldl_cons,mem_keysE_from l,mem_keysIn]
  constructor
  ·rintro (⟨q',hq',h⟩|h|h)
   ·exact .inl ⟨q',List.mem_cons_of_mem _ hq',h⟩
   ·exact .inl ⟨q,List.mem_cons_self ..,h⟩
   ·exact .inr h
  ·rintro (⟨q',hq',h⟩|h)
   ·rcases List.mem_cons.1 hq' with rfl|hq'
    ·exact .inr (.inl h)
    ·exact .inl ⟨q',hq',h⟩
   ·exact .inr (.inr h)
theorem mem_keysE {l:List En} {x:Nm}:x∈keysE l↔∃ q∈l,∃ t∈termsD q.2.1,keyT t=x:=by
 have :=mem_keysE_from l (a:=[]) (x:=x)
 simpa [keysE] using this
theorem keysE_length {M:Nat}:∀ {l:List En} {a:List Nm},(∀ q∈l,(termsD q.2.1).length≤M)→(l.foldl (fun a q=>keysIn a (termsD q.2.1)) a).length≤l.length*M+a.length
 |[],a,_=>by simp
 |q::l,a,h=>by
  have h1:=keysE_length (l:=l) (a:=keysIn a (termsD q.2.1)) fun x hx=>h x (List.mem_cons_of_mem _ hx)
  have h2:=keysIn_length a (termsD q.2.1)
  have h3:=h q (List.mem_cons_self ..)
  simp only [List.foldl_cons,List.length_cons,Nat.add_mul,Nat.one_mul]
  omega
theorem postIn_take {i:Nat} {d:List Fd} {ts:List Tm} {key:Nm} {j:Nat} (hj:j<ts.length):postIn i d (ts.take (j+1)) key=if keyT ts[j]=key then postIn i d (ts.take j) key++[((i:Int),placesD d ts[j])] else postIn i d (ts.take j) key:=by
 unfold postIn
 rw [List.take_succ_eq_append_getElem hj,List.filter_append,List.map_append]
 by_cases h:keyT ts[j]=key
 ·simp [h]
 ·simp [h]
theorem postsE_snoc:∀ (l:List En) (i:Nat) (q:En) (key:Nm),postsE i (l++[q]) key=postsE i l key++postIn (i+l.length) q.2.1 (termsD q.2.1) key
 |[],i,q,key=>by simp [postsE]
 |x::l,i,q,key=>by
  rw [List.cons_append,postsE,postsE,postsE_snoc l (i+1) q key,List.append_assoc,List.length_cons,show i+1+l.length=i+(l.length+1) by omega]
theorem postsE_take {l:List En} {k:Nat} {key:Nm} (hk:k<l.length):postsE 0 (l.take (k+1)) key=postsE 0 (l.take k) key++postIn k l[k].2.1 (termsD l[k].2.1) key:=by
 rw [List.take_succ_eq_append_getElem hk,postsE_snoc,List.length_take,Nat.zero_add,Nat.min_eq_left (by omega)]
theorem lastE_nil:lastE []= -1:=rfl
theorem lastE_snoc (l:List En) (q:En):lastE (l++[q])=q.2.2:=by simp [lastE]
theorem lastE_at {l:List En} (h:0<l.length):lastE l=(l[l.length-1]'(by omega)).2.2:=by
 have h0:l≠[]:=fun e=>by rw [e] at h;simp at h
 rw [lastE,List.getLast?_eq_some_getLast h0,List.getLast_eq_getElem h0]
def goodsE (l:List Dc) (most:Nat) (start step:Int):List En:=(l.take most).zipIdx.map fun p=>(p.1.1,goodD p.1.2,start+step*(p.2:Int))
theorem goodsE_length (l:List Dc) (most:Nat) (start step:Int):(goodsE l most start step).length=min most l.length:=by simp [goodsE]
theorem goodsE_take {l:List Dc} {k:Nat} {start step:Int} (hk:k<l.length):goodsE l (k+1) start step=goodsE l k start step++[(l[k].1,goodD l[k].2,start+step*(k:Int))]:=by
 unfold goodsE
 rw [List.take_succ_eq_append_getElem hk,List.zipIdx_append,List.map_append,List.length_take,Nat.zero_add,Nat.min_eq_left (by omega)]
 rfl
theorem goodsE_good (l:List Dc) (most:Nat) (start step:Int):∀ q∈goodsE l most start step,∃ d,q.2.1=goodD d:=fun q hq=>by
 obtain ⟨p,_,rfl⟩:=List.mem_map.1 hq
 exact ⟨p.1.2,rfl⟩
end Go.Proofs.YtmoomnpbiifedaaGreat
set_option linter.unusedVariables false
namespace Go.Proofs.YtmoomnpbiifedaaGreat
open Go
abbrev GP:=Nm × List Pn
def addP:List GP→Nm→Pn→List GP
 |[],t,a=>[(t,[a])]
 |p::g,t,a=>if p.1=t then (p.1,p.2++[a])::g else p::addP g t a
def getP:List GP→Nm→List Pn
 |[],_=>[]
 |p::g,t=>if p.1=t then p.2 else getP g t
theorem getP_add (t u:Nm) (a:Pn):∀ g:List GP,getP (addP g t a) u=if t=u then getP g u++[a] else getP g u
 |[]=>by by_cases h:t=u<;>simp [addP,getP,h]
 |p::g=>by
  rw [addP]
  by_cases h1:p.1=t
  ·rw [if_pos h1,getP,getP]
   by_cases h2:t=u
   ·rw [if_pos h2,if_pos (h1.trans h2),if_pos (h1.trans h2)]
   ·rw [if_neg h2,if_neg (fun e=>h2 (h1.symm.trans e)),if_neg (fun e=>h2 (h1.symm.trans e))]
  ·rw [if_neg h1,getP,getP,getP_add t u a g]
   by_cases h2:p.1=u
   ·rw [if_pos h2,if_pos h2,if_neg (fun e=>h1 (h2.trans e.symm))]
   ·rw [if_neg h2,if_neg h2]
theorem addP_keys (t:Nm) (a:Pn):∀ g:List GP,(addP g t a).map (·.1)=if t∈g.map (·.1) then g.map (·.1) else g.map (·.1)++[t]
 |[]=>by simp [addP]
 |p::g=>by
  rw [addP]
  by_cases h1:p.1=t
  ·rw [if_pos h1,if_pos (by simp [h1])]
   simp
  ·rw [if_neg h1,List.map_cons,addP_keys t a g]
   by_cases h2:t∈g.map (·.1)
   ·rw [if_pos h2,if_pos (show t∈(p::g).map (·.1) from List.mem_cons_of_mem _ h2)]
    simp
   ·rw [if_neg h2,if_neg (by rw [List.map_cons,List.mem_cons];exact fun h=>h.elim (fun e=>h1 e.symm) h2)]
    simp
theorem addP_mem {t:Nm} {a:Pn} {g:List GP} {x:Nm}:x∈(addP g t a).map (·.1)↔x∈g.map (·.1)∨x=t:=by
 rw [addP_keys]
 split
 ·rename_i h
  exact ⟨.inl,fun h'=>h'.elim id fun e=>e▸h⟩
 ·rw [List.mem_append,List.mem_singleton]
theorem addP_nodup {t:Nm} {a:Pn} {g:List GP} (h:(g.map (·.1)).Nodup):((addP g t a).map (·.1)).Nodup:=by
 rw [addP_keys]
 split
 ·exact h
 ·rename_i hn
  rw [List.nodup_append]
  exact ⟨h,by simp,fun x hx y hy e=>by rw [List.mem_singleton] at hy;subst hy;subst e;exact hn hx⟩
def turnP (i:Nat) (d:List Fd) (g:List GP) (ts:List Tm):List GP:=ts.foldl (fun g t=>addP g (keyT t) ((i:Int),placesD d t)) g
theorem turnP_take {i:Nat} {d:List Fd} {g:List GP} {ts:List Tm} {k:Nat} (hk:k<ts.length):turnP i d g (ts.take (k+1))=addP (turnP i d g (ts.take k)) (keyT ts[k]) ((i:Int),placesD d ts[k]):=by
 unfold turnP
 rw [List.take_succ_eq_append_getElem hk,List.foldl_append]
 rfl
theorem getP_turn (i:Nat) (d:List Fd) (key:Nm):∀ (ts:List Tm) (g:List GP),getP (turnP i d g ts) key=getP g key++postIn i d ts key
 |[],g=>by simp [turnP,postIn]
 |t::ts,g=>by
  rw [show turnP i d g (t::ts)=turnP i d (addP g (keyT t) ((i:Int),placesD d t)) ts from rfl,getP_turn i d key ts,getP_add]
  unfold postIn
  by_cases h:keyT t=key
  ·rw [if_pos h,List.filter_cons_of_pos (by simpa using h),List.map_cons,List.append_assoc]
   rfl
  ·rw [if_neg h,List.filter_cons_of_neg (by simpa using h)]
theorem turnP_nodup (i:Nat) (d:List Fd):∀ (ts:List Tm) (g:List GP),(g.map (·.1)).Nodup→((turnP i d g ts).map (·.1)).Nodup
 |[],g,h=>h
 |t::ts,g,h=>turnP_nodup i d ts _ (addP_nodup h)
theorem turnP_mem (i:Nat) (d:List Fd) {x:Nm}:∀ (ts:List Tm) (g:List GP),x∈(turnP i d g ts).map (·.1)↔x∈g.map (·.1)∨∃ t∈ts,keyT t=x
 |[],g=>by simp [turnP]
 |t::ts,g=>by
  rw [show turnP i d g (t::ts)=turnP i d (addP g (keyT t) ((i:Int),placesD d t)) ts from rfl,turnP_mem i d ts,addP_mem]
  constructor
  ·rintro ((h|h)|⟨t',h1,h2⟩)
   ·exact .inl h
   ·exact .inr ⟨t,List.mem_cons_self ..,h.symm⟩
   ·exact .inr ⟨t',List.mem_cons_of_mem _ h1,h2⟩
  ·rintro (h|⟨t',h1,h2⟩)
   ·exact .inl (.inl h)
   ·rcases List.mem_cons.1 h1 with rfl|h1
    ·exact .inl (.inr h2.symm)
    ·exact .inr ⟨t',h1,h2⟩
structure Stand (g:List GP) (l:List En):Prop where
 posts:∀ key,getP g key=postsE 0 l key
 nodup:(g.map (·.1)).Nodup
 keys:∀ x,x∈g.map (·.1)↔x∈keysE l
theorem Stand.nil:Stand [] []:=⟨fun _=>rfl,List.nodup_nil,fun x=>by simp [keysE]⟩
theorem Stand.turned {g:List GP} {l:List En} (h:Stand g l) (q:En):Stand (turnP l.length q.2.1 g (termsD q.2.1)) (l++[q]):=by
 refine ⟨fun key=> ?_,turnP_nodup _ _ _ _ h.nodup,fun x=> ?_⟩
 ·rw [getP_turn,h.posts,postsE_snoc,Nat.zero_add]
 ·rw [turnP_mem,h.keys,mem_keysE,mem_keysE]
  constructor
  ·rintro (⟨q',hq',h'⟩|h')
   ·exact ⟨q',List.mem_append_left _ hq',h'⟩
   ·exact ⟨q,by simp,h'⟩
  ·rintro ⟨q',hq',h'⟩
   rcases List.mem_append.1 hq' with hq'|hq'
   ·exact .inl ⟨q',hq',h'⟩
   ·rw [List.mem_singleton.1 hq'] at h';exact .inr h'
theorem keysE_nodup (l:List En):(keysE l).Nodup:=List.Pairwise.imp (fun h e=>by subst e;exact absurd h (List.lt_irrefl _)) (rise_keysE l)
theorem Stand.perm {g:List GP} {l:List En} (h:Stand g l):(g.map (·.1)).Perm (keysE l):=(List.perm_ext_iff_of_nodup h.nodup (keysE_nodup l)).2 h.keys
theorem Stand.length {g:List GP} {l:List En} (h:Stand g l):g.length=(keysE l).length:=by have :=h.perm.length_eq;rwa [List.length_map] at this
theorem sorted_keys {ks:List Nm} {l:List En} (h:ks.Perm (keysE l)):ks.mergeSort (fun x y=>decide (x≤y))=keysE l:=by
 have hp:=(List.mergeSort_perm ks (fun x y=>decide (x≤y))).trans h
 have hs:(ks.mergeSort fun x y=>decide (x≤y)).Pairwise (fun x y:Nm=>x≤y):=by
  have :=List.pairwise_mergeSort (le:=fun x y:Nm=>decide (x≤y)) (fun a b c h1 h2=>by
   simp only [decide_eq_true_eq] at*
   exact List.le_trans h1 h2) (fun a b=>by
   simp only [Bool.or_eq_true,decide_eq_true_eq]
   exact List.le_total a b) ks
  exact this.imp fun h=>by simpa using h
 refine hp.eq_of_pairwise (le:=fun x y:Nm=>x≤y) (fun a b _ _ h1 h2=>List.le_antisymm h1 h2) hs ((rise_keysE l).imp fun h=>Std.le_of_lt h)
end Go.Proofs.YtmoomnpbiifedaaGreat
set_option linter.unusedVariables false
namespace Go.Proofs.YtmoomnpbiifedaaGreat
open Go
theorem places_tell {d:List Fd} (h:ApartF d) (t:Tm):(placesD d t).length=((tellD d).filter fun p=>decide (p.1=t)).length:=by
 rw [← placesS_D h t]
 simp [placesS]
theorem places_pos {d:List Fd} (h:GoodF d) {t:Tm} (ht:t∈termsD d):0<(placesD d t).length:=by
 obtain ⟨p,hp,e⟩:=List.mem_map.1 ((termsD_mem h.apart t).1 ht)
 rw [places_tell h.apart]
 exact List.length_pos_of_mem (List.mem_filter.2 ⟨hp,by simpa using e⟩)
theorem places_len {d:List Fd} (h:GoodF d) (t:Tm):(placesD d t).length≤500:=Nat.le_trans (placesW_length _ _ _) (h.wordsS _)
theorem posts_there {key:Nm}:∀ {l:List En} {i:Nat},(∃ q∈l,∃ t∈termsD q.2.1,keyT t=key)→0<(postsE i l key).length
 |[],i,⟨q,hq,_⟩=>by cases hq
 |q::l,i,⟨x,hx,t,ht,e⟩=>by
  rw [postsE,List.length_append]
  rcases List.mem_cons.1 hx with rfl|hx
  ·have :0<(postIn i x.2.1 (termsD x.2.1) key).length:=by
    unfold postIn
    rw [List.length_map]
    exact List.length_pos_of_mem (List.mem_filter.2 ⟨ht,by simpa using e⟩)
   omega
  ·have :=posts_there (i:=i+1) ⟨x,hx,t,ht,e⟩
   omega
theorem posts_mem {key:Nm} {p:Pn}:∀ {l:List En} {i:Nat},p∈postsE i l key→∃ q∈l,∃ t∈termsD q.2.1,p.2=placesD q.2.1 t
 |[],i,h=>by cases h
 |q::l,i,h=>by
  rw [postsE] at h
  rcases List.mem_append.1 h with h|h
  ·unfold postIn at h
   obtain ⟨t,ht,rfl⟩:=List.mem_map.1 h
   exact ⟨q,List.mem_cons_self ..,t,(List.mem_filter.1 ht).1,rfl⟩
  ·obtain ⟨x,hx,t,ht,e⟩:=posts_mem h
   exact ⟨x,List.mem_cons_of_mem _ hx,t,ht,e⟩
theorem posts_good {l:List En} (hg:GoodE l) {key:Nm}:∀ p∈postsE 0 l key,0<p.2.length∧p.2.length≤500:=fun p hp=>by
 obtain ⟨q,hq,t,ht,e⟩:=posts_mem hp
 rw [e]
 exact ⟨places_pos (hg q hq) ht,places_len (hg q hq) t⟩
theorem postIn_one {i:Nat} {d:List Fd} (h:NoZero d) (key:Nm):postIn i d (termsD d) key=[]∨∃ t∈termsD d,postIn i d (termsD d) key=[((i:Int),placesD d t)]:=by
 have h1:=termsD_rise h
 unfold RiseT Rise at h1
 rw [List.pairwise_map] at h1
 have h2:=h1.filter (fun t=>decide (keyT t=key))
 unfold postIn
 match hs:(termsD d).filter fun t=>decide (keyT t=key) with
 |[]=>exact .inl rfl
 |[t]=>exact .inr ⟨t,(List.mem_filter.1 (hs▸List.mem_singleton_self t)).1,rfl⟩
 |t::u::s=>
  rw [hs] at h2
  have h3:=(List.pairwise_cons.1 h2).1 u (List.mem_cons_self ..)
  have mt:t∈(termsD d).filter fun t=>decide (keyT t=key):=by rw [hs];exact List.mem_cons_self ..
  have mu:u∈(termsD d).filter fun t=>decide (keyT t=key):=by rw [hs];exact List.mem_cons_of_mem _ (List.mem_cons_self ..)
  have ht:keyT t=key:=by simpa using (List.mem_filter.1 mt).2
  have hu:keyT u=key:=by simpa using (List.mem_filter.1 mu).2
  rw [ht,hu] at h3
  exact absurd h3 (List.lt_irrefl _)
theorem posts_len {l:List En} (hg:GoodE l) {key:Nm}:∀ (m:List En) (i:Nat),(∀ q∈m,q∈l)→(postsE i m key).length≤m.length
 |[],i,_=>by simp [postsE]
 |q::m,i,h=>by
  have ih:=posts_len hg (key:=key) m (i+1) fun x hx=>h x (List.mem_cons_of_mem _ hx)
  rw [postsE,List.length_append,List.length_cons]
  rcases postIn_one (i:=i) (hg q (h q (List.mem_cons_self ..))).zero key with e|⟨t,_,e⟩<;>rw [e]<;>simp <;>omega
theorem rises_of:∀ {ps:List Int} {x:Int},ps.Pairwise (· <·)→(∀ a∈ps,x<a)→risesZ x ps=true
 |[],x,_,_=>rfl
 |p::ps,x,h,hx=>by
  rw [List.pairwise_cons] at h
  rw [risesZ,rises_of h.2 h.1,Bool.and_true]
  exact decide_eq_true (hx p (List.mem_cons_self ..))
theorem places_may {d:List Fd} (h:GoodF d) {t:Tm} (ht:t∈termsD d):placesB (placesD d t)=true:=by
 have h0:=places_pos h ht
 have hne:placesD d t≠[]:=fun e=>by rw [e] at h0;cases h0
 rw [placesB_iff]
 refine ⟨rises_of (placesW_rise _ _ _) fun a ha=> ?_,hne,?_⟩
 ·have :=placesW_ge _ _ _ a ha
  omega
 ·have hm:(placesD d t).getLastD 0∈placesD d t:=by
   rw [List.getLastD_eq_getLast?,List.getLast?_eq_some_getLast hne]
   exact List.getLast_mem hne
  obtain ⟨k,hk,hk2⟩:=(placesW_mem _ _ _ _).1 hm
  have hl:=(List.getElem?_eq_some_iff.1 hk2).1
  have :=h.wordsS t.1
  rw [hk]
  omega
theorem posts_may {key:Nm}:∀ {l:List En} {i:Nat} {last:Int},GoodE l→last<i→i+l.length≤2147483648→mayB' last (postsE i l key)=true
 |[],i,last,_,_,_=>rfl
 |q::l,i,last,hg,hl,hi=>by
  have hq:=hg q (List.mem_cons_self ..)
  rw [List.length_cons] at hi
  have ih:=fun (last:Int) (h:last<((i+1:Nat):Int))=>posts_may (key:=key) (l:=l) (i:=i+1) (last:=last) (fun x hx=>hg x (List.mem_cons_of_mem _ hx)) h (by omega)
  rw [postsE]
  rcases postIn_one (i:=i) hq.zero key with e|⟨t,ht,e⟩
  ·rw [e,List.nil_append]
   exact ih last (by push_cast;omega)
  ·rw [e,List.singleton_append,mayB'_cons]
   exact ⟨hl,by show (i:Int)<2147483648;omega,places_may hq ht,ih _ (by push_cast;omega)⟩
end Go.Proofs.YtmoomnpbiifedaaGreat
set_option linter.unusedVariables false
namespace Go.Proofs.YtmoomnpbiifedaaGreat
open Go
structure PartsP where
 ids:List Int
 seqs:List Int
 keys:List Nm
 lists:List (List Pn)
deriving DecidableEq
def mayL (n:Nat) (l:List Pn):Bool:=mayB' (-1) l&&(decide (l.length≠0)&&decide (∀ p,l.getLast?=some p→p.1<(n:Int)))
def mayPs (x:PartsP):Bool:=decide (x.ids.length=x.seqs.length)&&(decide (x.keys.length=x.lists.length)&&(risesZ (-1) x.seqs&&(risesN x.keys&&x.lists.all (mayL x.ids.length))))
def buildP (l:List En):PartsP:=⟨l.map (·.1),l.map (·.2.2),keysE l,(keysE l).map fun k=>postsE 0 l k⟩
def atP:List Nm→List (List Pn)→Nm→List Pn
 |k::ks,l::ls,key=>if k=key then l else atP ks ls key
 |_,_,_=>[]
theorem atP_none {key:Nm}:∀ {ks:List Nm} {ls:List (List Pn)},(∀ k∈ks,k≠key)→atP ks ls key=[]
 |[],_,_=>by simp [atP]
 |k::ks,[],_=>by simp [atP]
 |k::ks,l::ls,h=>by rw [atP,if_neg (h k (List.mem_cons_self ..)),atP_none fun x hx=>h x (List.mem_cons_of_mem _ hx)]
theorem atP_at {key:Nm}:∀ {ks:List Nm} {ls:List (List Pn)} {i:Nat} (hi:i<ks.length) (hl:i<ls.length),ks[i]=key→(∀ j (hj:j<ks.length),j<i→ks[j]≠key)→atP ks ls key=ls[i]
 |[],_,i,hi,_,_,_=>by simp at hi
 |k::ks,[],i,_,hl,_,_=>by simp at hl
 |k::ks,l::ls,0,_,_,h,_=>by simp at h;simp [atP,h]
 |k::ks,l::ls,i+1,hi,hl,h,hn=>by
  have h0:=hn 0 (by simp) (by omega)
  simp at h0
  rw [atP,if_neg h0]
  simpa using atP_at (ks:=ks) (ls:=ls) (i:=i) (by simpa using hi) (by simpa using hl) (by simpa using h) fun j hj hji=>by
   have :=hn (j+1) (by simpa using hj) (by omega)
   rw [zC] at this
   exact this
def postsPs (x:PartsP) (key:Nm):List Pn:=atP x.keys x.lists key
end Go.Proofs.YtmoomnpbiifedaaGreat
namespace Go.Proofs.YtmoomnpbiifedaaGreat
open Go Go.RowKit
set_option linter.unusedVariables false
theorem owned_roomed {w:World} {base:Nat} {e:TypeId} {size:Nat} {v:Value} {n:Nat} {xs:List Value} (h:w.ownsRow base e size v n xs):∃ A c,v= .slice A n c∧(n≤c∧c≤maxLen)∧Row w w.heap.size A xs:=by
 obtain ⟨A,c,rfl,hc,hr⟩:=owned_row h
 refine ⟨A,c,rfl,⟨hc,?_⟩,hr⟩
 rcases h.2 with ⟨hv,_⟩|⟨g,cap,cur,hv,_,_,_,hcp,_⟩
 ·injection hv with _ _ e
  rw [e]
  exact Nat.zero_le _
 ·injection hv with _ _ e
  rw [e]
  exact hcp
theorem info_posting:(Tryz.prog.info? 63).map (fun i=>(i.zero,i.size,i.bytes))=some (some (.agg #[.int .i64 0,.slice none 0 0]),2,32):=by kernel_rfl
end Go.Proofs.YtmoomnpbiifedaaGreat
set_option linter.unusedVariables false
namespace Go.Proofs.YtmoomnpbiifedaaGreat
open Go Go.RowKit
def LCells (w:World) (B:Nat) (ls:List (List Pn)) (cs:List Value):Prop:=cs.length=ls.length∧∀ i (h:i<ls.length),∃ A c,cs[i]?=some (.slice A ls[i].length c)∧(ls[i].length≤c∧c≤maxLen)∧Posts w B A ls[i]
def LPosts (w:World) (B:Nat) (A:Option Addr) (ls:List (List Pn)):Prop:=∃ cs,LCells w B ls cs∧Row w B A cs
section
variable {w w':World} {B B':Nat} {A:Option Addr} {ls:List (List Pn)} {cs:List Value}
theorem LCells.below (h:LCells w B ls cs) (hb:Below B w w'):LCells w' B ls cs:=⟨h.1,fun i hi=>by obtain ⟨A,c,h1,h2,h3⟩:=h.2 i hi;exact ⟨A,c,h1,h2,h3.below hb⟩⟩
theorem LCells.more (h:LCells w B ls cs) (hB:B≤B'):LCells w B' ls cs:=⟨h.1,fun i hi=>by obtain ⟨A,c,h1,h2,h3⟩:=h.2 i hi;exact ⟨A,c,h1,h2,h3.more hB⟩⟩
theorem LPosts.below (h:LPosts w B A ls) (hb:Below B w w'):LPosts w' B A ls:=by obtain ⟨cs,h1,h2⟩:=h;exact ⟨cs,h1.below hb,h2.below hb⟩
theorem LPosts.more (h:LPosts w B A ls) (hB:B≤B'):LPosts w B' A ls:=by obtain ⟨cs,h1,h2⟩:=h;exact ⟨cs,h1.more hB,h2.more hB⟩
theorem LPosts.later (h:LPosts w w.heap.size A ls) (hb:Below w.heap.size w w'):LPosts w' w'.heap.size A ls:=(h.below hb).more hb.size
theorem LPosts.at_ (h:LPosts w B A ls) {i:Nat} (hi:i<ls.length):∃ b off A' c',A=some ⟨b,off,none⟩∧b<B∧w.cell? ⟨b,off+i,none⟩=some (.slice A' ls[i].length c')∧(ls[i].length≤c'∧c'≤maxLen)∧Posts w B A' ls[i]:=by
 obtain ⟨cs,h1,h2⟩:=h
 obtain ⟨A',c',g1,g2,g3⟩:=h1.2 i hi
 obtain ⟨b,off,rfl,hb,hc⟩:=Row.at_ h2 (by rw [h1.1];omega)
 exact ⟨b,off,A',c',rfl,hb,hc _ _ g1,g2,g3⟩
end
end Go.Proofs.YtmoomnpbiifedaaGreat
set_option linter.unusedVariables false
namespace Go.Proofs.YtmoomnpbiifedaaGreat
open Go Go.RowKit
set_option maxHeartbeats 4000000 in
set_option maxRecDepth 100000 in
theorem same_post (x y:Int) (A C:Option Addr) (n c m d:Nat) (xs ys:List Int) (w:World) (hn:xs.length=n) (hm:ys.length=m) (hx:Row w w.heap.size A (ints xs)) (hy:Row w w.heap.size C (ints ys)) (hxl:n≤9223372036854775807) (hyl:m≤9223372036854775807):
  Calls Tryz.prog 96 #[.agg #[.int .i64 x,.slice A n c],.agg #[.int .i64 y,.slice C m d]] w fun e w'=>e= .returned (.bool (decide ((x,xs)=(y,ys))))∧Below w.heap.size w w':=by
 obtain ⟨w1,hw1⟩:∃ w1,w1=(w.alloc (.cells #[.int .i64 x,.slice A n c] 63)).alloc (.cells #[.int .i64 y,.slice C m d] 63):=⟨_,rfl⟩
 have hb1:Below w.heap.size w w1:=by rw [hw1];exact ((Below.refl _ w).alloc (Nat.le_refl _) _).alloc (by simp) _
 obtain ⟨z2,hz2⟩:∃ z,z=decide (xs=ys):=⟨_,rfl⟩
 have HE:=Lib.hid (equal_ints A C n m c d xs ys w1 hn hm (Row.later hx hb1) (Row.later hy hb1) hxl hyl)
 rw [← hz2] at HE
 have HB1:=Lib.hid hb1
 have HW1:=Lib.hid hw1
 have HZ:=Lib.hid hz2
 clear hn hm hx hy hb1 hw1 hz2
 by_cases hxy:x=y
 ·subst hxy
  have hz:decide ((x,xs)=(x,ys))=z2:=by rw [HZ.out];simp
  rw [hz]
  clear hz
  go_enter Tryz.func96,Tryz.ntmps96
  go_wp2_with (go_at_call 55;rw [show (w.alloc _).alloc _=w1 from HW1.out.symm];refine HE.out.mono ?_;rintro e w2 ⟨rfl,hb2⟩)
  go_ret
  exact ⟨by cases z2<;>rfl,HB1.out.trans (hb2.mono HB1.out.size)⟩
 ·have hz:decide ((x,xs)=(y,ys))=false:=decide_eq_false fun e=>hxy (by injection e)
  have hd:(x==y)=false:=by simpa using hxy
  have hd2:decide (x=y)=false:=decide_eq_false hxy
  rw [hz]
  clear hz hxy
  go_enter Tryz.func96,Tryz.ntmps96
  go_wp2
  go_ret
  exact ⟨rfl,by rw [← HW1.out];exact HB1.out⟩
theorem getD_at10 {l:List Pn} {k:Nat} (h:k<l.length):l.getD k (0,[])=l[k]:=by simp [List.getD_eq_getElem?_getD,List.getElem?_eq_getElem h]
def EqRelP (xs ys:List Pn) (w:World) (i:Value) (wr:World):Prop:=∃ k:Nat,k≤xs.length∧i= .int .i64 (k:Int)∧Below w.heap.size w wr∧∀ j (hj:j<xs.length) (hj':j<ys.length),j<k→xs[j]=ys[j]
set_option maxHeartbeats 4000000 in
set_option maxRecDepth 100000 in
theorem equal_posts (A C:Option Addr) (n m c d:Nat) (xs ys:List Pn) (w:World) (hn:xs.length=n) (hm:ys.length=m) (hx:Posts w w.heap.size A xs) (hy:Posts w w.heap.size C ys) (hxl:n≤9223372036854775807) (hyl:m≤9223372036854775807)
    (hxp:∀ p∈xs,p.2.length≤9223372036854775807) (hyp:∀ p∈ys,p.2.length≤9223372036854775807):
    Calls Tryz.prog 95 #[.slice A n c,.slice C m d,.func (.func 96) #[] #[]] w fun e w'=>e= .returned (.bool (decide (xs=ys)))∧Below w.heap.size w w':=by
  subst hn hm
  have HX:=Lib.hid hx
  have HY:=Lib.hid hy
  have HXP:=Lib.hid hxp
  have HYP:=Lib.hid hyp
  obtain ⟨z,hz⟩:∃ z,z=decide (xs=ys):=⟨_,rfl⟩
  rw [← hz]
  have HZ:=Lib.hid hz
  clear hx hy hz hxp hyp
  by_cases hlen:xs.length=ys.length
  · obtain ⟨N,hN⟩:∃ N,N=xs.length:=⟨_,rfl⟩
    rw [← hN] at hlen hxl ⊢
    rw [← hlen] at hyl ⊢
    have HN1:=Lib.hid hN
    have HN2:=Lib.hid hlen
    clear hlen hN hyl
    go_enter Tryz.func95,Tryz.ntmps95
    go_wp2
    go_loopw [17] (fun i wr=>EqRelP xs ys w i wr) (fun i _=>N-(intOf i).toNat)
    case atStart=>exact ⟨0,Nat.zero_le _,rfl,Below.refl _ _,fun j _ _ hj=>by omega⟩
    case round=>
      obtain ⟨k,hk,rfl,hbw,hall⟩:=hrel
      have HALL:=Lib.hid hall
      have HBW:=Lib.hid hbw
      rw [← HN1.out] at hk
      by_cases hlt:k<N
      · have h1:k<xs.length:=by rw [← HN1.out];exact hlt
        have h2:k<ys.length:=by rw [← HN2.out];exact hlt
        obtain ⟨b1,o1,e1,hb1,hc1,A1,c1,hd1,hl1,_,hr1⟩:=(Posts.later HX.out hbw).at_ h1
        obtain ⟨b2,o2,e2,hb2,hc2,A2,c2,hd2,hl2,_,hr2⟩:=(Posts.later HY.out hbw).at_ h2
        subst e1 e2
        rw [getD_at10 h1] at hc1 hd1 hl1 hr1
        rw [getD_at10 h2] at hc2 hd2 hl2 hr2
        have p1:=HXP.out _ (List.getElem_mem h1)
        have p2:=HYP.out _ (List.getElem_mem h2)
        obtain ⟨zk,hzk⟩:∃ z,z=decide (xs[k]=ys[k]):=⟨_,rfl⟩
        have HZK:=Lib.hid hzk
        clear hzk hall
        obtain ⟨p,hp⟩:∃ p,p=xs[k]:=⟨_,rfl⟩
        obtain ⟨q,hq⟩:∃ q,q=ys[k]:=⟨_,rfl⟩
        have hzk2:zk=decide (p=q):=by rw [hp,hq];exact HZK.out
        rw [← hp] at hc1 hd1 hl1 hr1 p1
        rw [← hq] at hc2 hd2 hl2 hr2 p2
        obtain ⟨x,us⟩:=p
        obtain ⟨y,vs⟩:=q
        simp only at hc1 hd1 hl1 hr1 p1 hc2 hd2 hl2 hr2 p2
        obtain ⟨nu,hnu⟩:∃ n,n=us.length:=⟨_,rfl⟩
        obtain ⟨nv,hnv⟩:∃ n,n=vs.length:=⟨_,rfl⟩
        rw [← hnu] at hd1 p1
        rw [← hnv] at hd2 p2
        have SM:Hid (∀ w1,Below wr.heap.size wr w1→Calls Tryz.prog 96 #[.agg #[.int .i64 x,.slice A1 nu c1],.agg #[.int .i64 y,.slice A2 nv c2]] w1 fun e w'=>e= .returned (.bool zk)∧Below w1.heap.size w1 w'):=Lib.hid fun w1 hb=>by
          rw [hzk2]
          exact same_post x y A1 A2 nu c1 nv c2 us vs w1 hnu.symm hnv.symm (Row.later hr1 hb) (Row.later hr2 hb) p1 p2
        have HAL:Hid (∀ o o',Below wr.heap.size wr ((wr.alloc o).alloc o')):=Lib.hid fun o o'=>((Below.refl _ wr).alloc (Nat.le_refl _) _).alloc (by simp) _
        have hi0:(0:Int)≤k:=by omega
        have hi1:(k:Int)<N:=by omega
        have hc2':∀ o,(wr.alloc o).cell? ⟨b2,o2+k*2,none⟩=some (.int .i64 y):=fun o=>by
          have hbo:Below wr.heap.size wr (wr.alloc o):=(Below.refl _ wr).alloc (Nat.le_refl _) _
          exact (hbo.cell (p:=⟨b2,_,none⟩) hb2).trans hc2
        have hd2':∀ o,(wr.alloc o).cell? ⟨b2,o2+k*2+1,none⟩=some (.slice A2 nv c2):=fun o=>by
          have hbo:Below wr.heap.size wr (wr.alloc o):=(Below.refl _ wr).alloc (Nat.le_refl _) _
          exact (hbo.cell (p:=⟨b2,_,none⟩) hb2).trans hd2
        clear hb1 hl1 hr1 p1 hb2 hl2 hr2 p2 hp hq hzk2 hnu hnv hbw
        rcases hzkc:zk with _|_
        · have hzf:z=false:=by
            rw [HZ.out]
            exact decide_eq_false fun e=>of_decide_eq_false (HZK.out.symm.trans hzkc) (by subst e;rfl)
          subst hzkc hzf
          go_wp2_with (go_at_call 96; refine (SM.out _ (HAL.out _ _)).mono ?_; rintro e w5 ⟨rfl, hb5⟩
                       have HB5:Hid (Below wr.heap.size wr w5):=Lib.hid ((HAL.out _ _).trans (hb5.mono (HAL.out _ _).size))
                       clear hb5)
          go_ret
          exact ⟨rfl,HBW.out.trans (HB5.out.mono HBW.out.size)⟩
        · have HNX:Hid (∀ j (hj:j<xs.length) (hj':j<ys.length),j<k+1→xs[j]=ys[j]):=Lib.hid fun j hj hj' hjk=>by
            by_cases e:j=k
            · subst e
              exact of_decide_eq_true (HZK.out.symm.trans hzkc)
            · exact HALL.out j hj hj' (by omega)
          subst hzkc
          go_wp2_with (go_at_call 96; refine (SM.out _ (HAL.out _ _)).mono ?_; rintro e w5 ⟨rfl, hb5⟩
                       have HB5:Hid (Below wr.heap.size wr w5):=Lib.hid ((HAL.out _ _).trans (hb5.mono (HAL.out _ _).size))
                       clear hb5)
          exact ⟨⟨k+1,by rw [← HN1.out];omega,by go_num,HBW.out.trans (HB5.out.mono HBW.out.size),HNX.out⟩,by simp [intOf];omega⟩
      · have hzt:z=true:=by rw [HZ.out];exact eq_allI (by rw [← HN1.out,← HN2.out]) fun j hj=>HALL.out j hj (by rw [← HN2.out,HN1.out];exact hj) (by have :=HN1.out;omega)
        subst hzt
        clear hall
        go_wp2
        go_ret
        exact ⟨rfl,HBW.out⟩
  · have hzf:z=false:=by rw [HZ.out];exact decide_eq_false fun e=>hlen (by rw [e])
    subst hzf
    go_enter Tryz.func95,Tryz.ntmps95
    go_wp2
    go_ret
    exact ⟨rfl,Below.refl _ _⟩
set_option maxHeartbeats 1000000 in
set_option maxRecDepth 100000 in
theorem same_list (A C:Option Addr) (n c m d:Nat) (xs ys:List Pn) (w:World) (hn:xs.length=n) (hm:ys.length=m) (hx:Posts w w.heap.size A xs) (hy:Posts w w.heap.size C ys) (hxl:n≤9223372036854775807) (hyl:m≤9223372036854775807)
  (hxp:∀ p∈xs,p.2.length≤9223372036854775807) (hyp:∀ p∈ys,p.2.length≤9223372036854775807):
  Calls Tryz.prog 58 #[.slice A n c,.slice C m d] w fun e w'=>e= .returned (.bool (decide (xs=ys)))∧Below w.heap.size w w':=by
 have HE:=Lib.hid (equal_posts A C n m c d xs ys w hn hm hx hy hxl hyl hxp hyp)
 obtain ⟨z,hz⟩:∃ z,z=decide (xs=ys):=⟨_,rfl⟩
 rw [← hz] at HE ⊢
 clear hn hm hx hy hxl hyl hxp hyp hz
 go_enter Tryz.func58,Tryz.ntmps58
 go_wp2_with (go_at_call 95;refine HE.out.mono ?_;rintro e w2 ⟨rfl,hb2⟩)
 go_ret
 exact ⟨rfl,hb2⟩
def EqRelL (xs ys:List (List Pn)) (w:World) (i:Value) (wr:World):Prop:=∃ k:Nat,k≤xs.length∧i= .int .i64 (k:Int)∧Below w.heap.size w wr∧∀ j (hj:j<xs.length) (hj':j<ys.length),j<k→xs[j]=ys[j]
set_option maxHeartbeats 4000000 in
set_option maxRecDepth 100000 in
theorem equal_lists (A C:Option Addr) (n c m d:Nat) (xs ys:List (List Pn)) (w:World) (hn:xs.length=n) (hm:ys.length=m) (hx:LPosts w w.heap.size A xs) (hy:LPosts w w.heap.size C ys) (hxl:n≤9223372036854775807) (hyl:m≤9223372036854775807)
    (hxp:∀ l∈xs,l.length≤9223372036854775807∧∀ p∈l,p.2.length≤9223372036854775807) (hyp:∀ l∈ys,l.length≤9223372036854775807∧∀ p∈l,p.2.length≤9223372036854775807):
    Calls Tryz.prog 57 #[.slice A n c,.slice C m d,.func (.func 58) #[] #[]] w fun e w'=>e= .returned (.bool (decide (xs=ys)))∧Below w.heap.size w w':=by
  subst hn hm
  have HX:=Lib.hid hx
  have HY:=Lib.hid hy
  have HXP:=Lib.hid hxp
  have HYP:=Lib.hid hyp
  obtain ⟨z,hz⟩:∃ z,z=decide (xs=ys):=⟨_,rfl⟩
  rw [← hz]
  have HZ:=Lib.hid hz
  clear hx hy hz hxp hyp
  by_cases hlen:xs.length=ys.length
  · obtain ⟨N,hN⟩:∃ N,N=xs.length:=⟨_,rfl⟩
    rw [← hN] at hlen hxl ⊢
    rw [← hlen] at hyl ⊢
    have HN1:=Lib.hid hN
    have HN2:=Lib.hid hlen
    clear hlen hN hyl
    go_enter Tryz.func57,Tryz.ntmps57
    go_wp2
    go_loopw [17] (fun i wr=>EqRelL xs ys w i wr) (fun i _=>N-(intOf i).toNat)
    case atStart=>exact ⟨0,Nat.zero_le _,rfl,Below.refl _ _,fun j _ _ hj=>by omega⟩
    case round=>
      obtain ⟨k,hk,rfl,hbw,hall⟩:=hrel
      have HALL:=Lib.hid hall
      have HBW:=Lib.hid hbw
      rw [← HN1.out] at hk
      by_cases hlt:k<N
      · have h1:k<xs.length:=by rw [← HN1.out];exact hlt
        have h2:k<ys.length:=by rw [← HN2.out];exact hlt
        obtain ⟨b1,o1,A1,c1,e1,hb1,hc1,_,hr1⟩:=(HX.out.later hbw).at_ h1
        obtain ⟨b2,o2,A2,c2,e2,hb2,hc2,_,hr2⟩:=(HY.out.later hbw).at_ h2
        subst e1 e2
        have p1:=HXP.out _ (List.getElem_mem h1)
        have p2:=HYP.out _ (List.getElem_mem h2)
        obtain ⟨zk,hzk⟩:∃ z,z=decide (xs[k]=ys[k]):=⟨_,rfl⟩
        have HZK:=Lib.hid hzk
        obtain ⟨nu,hnu⟩:∃ n,n=xs[k].length:=⟨_,rfl⟩
        obtain ⟨nv,hnv⟩:∃ n,n=ys[k].length:=⟨_,rfl⟩
        rw [← hnu] at hc1
        rw [← hnv] at hc2
        have SM:Hid (∀ w1,Below wr.heap.size wr w1→Calls Tryz.prog 58 #[.slice A1 nu c1,.slice A2 nv c2] w1 fun e w'=>e= .returned (.bool zk)∧Below w1.heap.size w1 w'):=Lib.hid fun w1 hb=>by
          rw [hzk]
          exact same_list A1 A2 nu c1 nv c2 _ _ w1 hnu.symm hnv.symm (Posts.later hr1 hb) (Posts.later hr2 hb) (hnu▸p1.1) (hnv▸p2.1) p1.2 p2.2
        have HRE:Hid (Below wr.heap.size wr wr):=Lib.hid (Below.refl _ wr)
        have hi0:(0:Int)≤k:=by omega
        have hi1:(k:Int)<N:=by omega
        clear hb1 hr1 p1 hb2 hr2 p2 hnu hnv hbw hzk hall
        rcases hzkc:zk with _|_
        · have hzf:z=false:=by
            rw [HZ.out]
            exact decide_eq_false fun e=>of_decide_eq_false (HZK.out.symm.trans hzkc) (by subst e;rfl)
          subst hzkc hzf
          go_wp2_with (go_at_call 58; refine (SM.out _ HRE.out).mono ?_; rintro e w5 ⟨rfl, hb5⟩
                       have HB5:Hid (Below wr.heap.size wr w5):=Lib.hid (HRE.out.trans (hb5.mono HRE.out.size))
                       clear hb5)
          go_ret
          exact ⟨rfl,HBW.out.trans (HB5.out.mono HBW.out.size)⟩
        · have HNX:Hid (∀ j (hj:j<xs.length) (hj':j<ys.length),j<k+1→xs[j]=ys[j]):=Lib.hid fun j hj hj' hjk=>by
            by_cases e:j=k
            · subst e
              exact of_decide_eq_true (HZK.out.symm.trans hzkc)
            · exact HALL.out j hj hj' (by omega)
          subst hzkc
          go_wp2_with (go_at_call 58; refine (SM.out _ HRE.out).mono ?_; rintro e w5 ⟨rfl, hb5⟩
                       have HB5:Hid (Below wr.heap.size wr w5):=Lib.hid (HRE.out.trans (hb5.mono HRE.out.size))
                       clear hb5)
          exact ⟨⟨k+1,by rw [← HN1.out];omega,by go_num,HBW.out.trans (HB5.out.mono HBW.out.size),HNX.out⟩,by simp [intOf];omega⟩
      · have hzt:z=true:=by rw [HZ.out];exact eq_allI (by rw [← HN1.out,← HN2.out]) fun j hj=>HALL.out j hj (by rw [← HN2.out,HN1.out];exact hj) (by have :=HN1.out;omega)
        subst hzt
        clear hall
        go_wp2
        go_ret
        exact ⟨rfl,HBW.out⟩
  · have hzf:z=false:=by rw [HZ.out];exact decide_eq_false fun e=>hlen (by rw [e])
    subst hzf
    go_enter Tryz.func57,Tryz.ntmps57
    go_wp2
    go_ret
    exact ⟨rfl,Below.refl _ _⟩
end Go.Proofs.YtmoomnpbiifedaaGreat
