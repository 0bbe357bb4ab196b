import Derived.Test.YtldcadpemnpbmaaGreatDoorMLZz
import Derived.Test.YtldcadpemnpbmaaGreatDoorMLQ20
import Derived.Test.YtldcadpemnpbmaaGreatDoorMLQ10
import Derived.Test.YtldcadpemnpbmaaGreatDoorMLQ05
import Derived.BigCall
import Derived.Carry
import Derived.MapKept
import Derived.ChangeMaps
import Derived.Test.YtldcadpemnpbmaaGreatDoorMLQ04
import Derived.BigQuiet
import Derived.Deep.QuietTactic
import Derived.Test.YtldcadpemnpbmaaGreatDoorMLQ03
import Derived.Test.YtldcadpemnpbmaaGreatDoorMLQ01
import Derived.Test.YtldcadpemnpbmaaGreatDoorMLQ02
set_option linter.unusedVariables false
namespace Go.Proofs.YtldcadpemnpbmaaGreatDoor
open Go Go.RowKit
theorem lists_same (G:List En) (f:Nm) (ws:List Nm):listsP (buildP G) f ws=listsE G f ws:=by simp [listsP,listsE,posts_build]
theorem res_same {G:List En} (hG:AddOk G) {f:Nm} (hn:nameB f=true) {ws:List Nm} (hne:ws≠[]) (xs:List Int) (h:AllOf (listsP (buildP G) f ws) xs):
  resP (listsP (buildP G) f ws) xs=tabF (docsE G).length fun i=>if 0<phraseD ((docsE G).getD i []) f ws then some ((phraseD ((docsE G).getD i []) f ws:Nat):Int) else none:=by
 rw [lists_same] at h ⊢
 exact res_is hG.good (by have :=hG.few;omega) (nameB_zero hn) hne h
theorem may_kinds {k:Int} {t:Tm} {ws:List Nm} {ks:List Qy} (h:ownQ k t ws ks.length=0):
  (k=1∧nameB t.1=true∧mayWord t.2=true∧ws=[]∧ks=[])∨(k=5∧nameB t.1=true∧t.2=[]∧ws≠[]∧(∀ w∈ws,mayWord w=true)∧ws.length≤6∧ks=[])∨
  ((k=2∨k=3)∧t=([],[])∧ws=[]∧(∃ a l,ks=a::l)∧ks.length≤8)∨(k=4∧t=([],[])∧ws=[]∧∃ a,ks=[a]):=by
 unfold ownQ at h
 split at h
 ·cases h
 split at h
 ·rename_i h1 h2
  split at h
  ·cases h
  ·rename_i h3
   split at h
   ·cases h
   ·rename_i h4
    have h5:t=([],[])∧ws=[]∧ks.length≠0:=by
     refine ⟨Classical.byContradiction fun e=>h3 (.inl e),Classical.byContradiction fun e=>h3 (.inr (.inl e)),fun e=>h3 (.inr (.inr e))⟩
    obtain ⟨e1,e2,e3⟩:=h5
    have hks:∃ a l,ks=a::l:=by cases ks with|nil=>exact absurd rfl e3|cons a l=>exact ⟨a,l,rfl⟩
    by_cases hk:k=4
    ·refine .inr (.inr (.inr ⟨hk,e1,e2,?_⟩))
     obtain ⟨a,l,rfl⟩:=hks
     have :l=[]:=by
      cases l with
      |nil=>rfl
      |cons b l=>exact absurd (.inr ⟨hk,by simp⟩) h4
     exact ⟨a,by rw [this]⟩
    ·exact .inr (.inr (.inl ⟨by omega,e1,e2,hks,by omega⟩))
 ·rename_i h1 h2
  split at h
  ·cases h
  ·rename_i h3
   have hk0:ks=[]:=by cases ks with|nil=>rfl|cons a l=>exact absurd (.inl (by simp)) h3
   split at h
   ·cases h
   ·rename_i h4
    have hnm:nameB t.1=true:=by cases e:nameB t.1 with|true=>rfl|false=>exact absurd e h4
    split at h
    ·rename_i h5
     split at h
     ·rename_i h6
      exact .inl ⟨h5,hnm,h6,Classical.byContradiction fun e=>h3 (.inr (.inl ⟨h5,e⟩)),hk0⟩
     ·cases h
    ·rename_i h5
     split at h
     ·cases h
     ·rename_i h6
      split at h
      ·cases h
      ·rename_i h7
       have hk5:k=5:=by omega
       refine .inr (.inl ⟨hk5,hnm,Classical.byContradiction fun e=>h3 (.inr (.inr ⟨hk5,e⟩)),fun e=>h6 (.inl e),?_,by omega,hk0⟩)
       refine badW_false.1 ?_
       cases e:badW ws with
       |false=>rfl
       |true=>exact absurd (.inr e) h6
theorem name_small {f:Nm} (h:nameB f=true):f.length≤1000:=by
 unfold nameB at h
 simp only [Bool.and_eq_true,decide_eq_true_eq] at h
 omega
theorem word_small {f:Nm} (h:mayWord f=true):f.length≤1000:=by
 have :=(of_decide_eq_true h).2.1
 omega
set_option maxHeartbeats 8000000 in
set_option maxRecDepth 100000 in
theorem match_found {G:List En} (hG:AddOk G) {S:Nat}:∀ n,FoundOk n G S:=by
 intro n
 induction n with
 |zero=>
  intro q v w hd
  obtain ⟨k,t,ws,ks⟩:=q
  rw [deepQ] at hd
  omega
 |succ n ih=>
  intro q v w hd hmay hq hseg
  obtain ⟨k,t,ws,ks,f,x,A,c,K,d,ds,rfl,rfl,hf,hx,hc,hkd,hwr,hkr,hks⟩:=hq.open_
  obtain ⟨dd,hdd,hm⟩:=id hmay
  have hsz:=may_size hdd hm
  obtain ⟨h6,hown, -⟩:=mayQ_zero hm
  rcases may_kinds hown with ⟨rfl,hn,hw,rfl,rfl⟩|⟨rfl,hn,ht2,hne,hws,hwl,rfl⟩|⟨hk,rfl,rfl,⟨a,l,rfl⟩,hl8⟩|⟨rfl,rfl,rfl,a,rfl⟩
  ·rw [found_term]
   have hfz:f.size≤140737488355328:=by
    have :=name_small hn
    rw [← hf] at this
    simp at this
    omega
   obtain ⟨w2,hw2⟩:∃ w2,w2=(w.alloc (.cells #[.int .i64 1,.string f,.string x,.slice A 0 c,.slice K 0 d] 27)).alloc (.cells #[.string x] 9):=⟨_,rfl⟩
   have hb2:Below w.heap.size w w2:=by rw [hw2];exact ((Below.refl _ w).alloc (Nat.le_refl _) _).alloc (by simp) _
   have hrow:Row w2 w2.heap.size (some ⟨w.heap.size+1,0,none⟩) (strs [t.2]):=by
    refine .inr ⟨_,_,rfl,by rw [hw2];simp,fun j u hj=> ?_⟩
    have hcell:w2.heap[w.heap.size+1]?=some (.cells #[.string x] 9 (0,0)):=by
     rw [hw2]
     have :=heap_alloc_new (w.alloc (.cells #[.int .i64 1,.string f,.string x,.slice A 0 c,.slice K 0 d] 27)) (.cells #[.string x] 9)
     simpa using this
    cases j with
    |zero=>
     simp [strs] at hj
     subst hj
     simp [World.cell?,hcell,← hx]
    |succ j=>simp [strs] at hj
   have HP:=Lib.hid (match_phrase (hseg.below hb2) f (some ⟨w.heap.size+1,0,none⟩) 1 1 [t.2] hrow rfl hfz (fun y hy=>by rw [List.mem_singleton] at hy;rw [hy];have :=word_small hw;omega) (by omega) _ (by rw [hf];exact fun xs h=>res_same hG hn (List.cons_ne_nil _ _) xs h))
   have HW2:=Lib.hid hw2
   have HB2:=Lib.hid hb2
   clear hmay hq hm hsz hown hw2 hb2 hrow hwr hkr hks hkd hc hseg
   go_enter Tryz.func49,Tryz.ntmps49
   go_wp2_with (go_at_call 108;rw [show (w.alloc _).alloc _=w2 from HW2.out.symm];(with_reducible refine HP.out.mono ?_);rintro e w3 ⟨v,rfl,ho3,hb3⟩)
   go_ret
   exact ⟨_,rfl,ho3.low HB2.out.size,HB2.out.trans (hb3.mono HB2.out.size)⟩
  ·rw [found_phrase]
   have hwsz:∀ y∈ws,y.length≤140737488355328:=fun y hy=>by have :=word_small (hws y hy);omega
   have hfz:f.size≤140737488355328:=by
    have :=name_small hn
    rw [← hf] at this
    simp at this
    omega
   obtain ⟨w1,hw1⟩:∃ w1,w1=boxQ w 5 f x A ws.length c K 0 d:=⟨_,rfl⟩
   have hb1:Below w.heap.size w w1:=by rw [hw1];exact boxQ_below
   have HP:=Lib.hid (match_phrase (hseg.below hb1) f A ws.length c ws ((RowP.keep hwr fun b hb=>hb1.block b hb).row fun b hb=>Nat.lt_of_lt_of_le hb hb1.size) rfl hfz hwsz (by omega) _ (by rw [hf];exact fun xs h=>res_same hG hn hne xs h))
   have HW1:=Lib.hid hw1
   have HB1:=Lib.hid hb1
   clear hmay hq hm hsz hown hw1 hb1 hwr hkr hks hkd hc hseg
   obtain ⟨nw,hnw⟩:∃ nw,nw=ws.length:=⟨_,rfl⟩
   rw [← hnw] at HP HW1 ⊢
   clear hnw hwl
   go_enter Tryz.func49,Tryz.ntmps49
   go_wp2_with (go_at_call 108;rw [show w.alloc _=w1 from HW1.out.symm];(with_reducible refine HP.out.mono ?_);rintro e w3 ⟨v,rfl,ho3,hb3⟩)
   go_ret
   exact ⟨_,rfl,ho3.low HB1.out.size,HB1.out.trans (hb3.mono HB1.out.size)⟩
  ·obtain ⟨w1,hw1⟩:∃ w1,w1=boxQ w k f x A 0 c K (a::l).length d:=⟨_,rfl⟩
   have hb1:Below w.heap.size w w1:=by rw [hw1];exact boxQ_below
   have hmk:=MayS.kid hmay
   have hdk:∀ q∈a::l,deepQ q≤n:=fun q hq=>by
    rw [deepQ] at hd
    have :=deepL_mem hq
    omega
   have hkr1:RowP (fun b=>b<w1.heap.size) w1 K ds:=RowP.imp (hkr.keep fun b hb=>hb1.block b hb) fun b hb=>Nat.lt_of_lt_of_le hb hb1.size
   have hks1:QsAt (fun b=>b<w1.heap.size) w1 (a::l) ds:=(hks.keep fun b hb=>hb1.block b hb).imp fun b hb=>Nat.lt_of_lt_of_le hb hb1.size
   rw [sizeQ] at hsz
   obtain ⟨nk,hnk⟩:∃ nk,nk=(a::l).length:=⟨_,rfl⟩
   have hl9:nk≤9:=by omega
   have hj2:=match_joined hG ih (step_and (docsE G)) a l K nk d ds w1 (by rw [hnk,List.length_cons]) (by rw [hnk];exact hkd) hl9 hkr1 hks1 (hseg.below hb1) hdk hmk hsz
   have hj3:=match_joined hG ih (step_or (docsE G)) a l K nk d ds w1 (by rw [hnk,List.length_cons]) (by rw [hnk];exact hkd) hl9 hkr1 hks1 (hseg.below hb1) hdk hmk hsz
   have H2:=Lib.hid hj2
   have H3:=Lib.hid hj3
   rw [← hnk] at hw1 ⊢
   have HW1:=Lib.hid hw1
   have HB1:=Lib.hid hb1
   clear hmay hq hm hsz hown hw1 hb1 hwr hkr hks hkd hc hseg hkr1 hks1 hj2 hj3 hnk hl9 hdk hmk
   rcases hk with rfl|rfl
   ·go_enter Tryz.func49,Tryz.ntmps49
    go_wp2_with (go_at_call 109;rw [show w.alloc _=w1 from HW1.out.symm];(with_reducible refine H2.out.mono ?_);rintro e w3 ⟨v,rfl,ho3,hb3⟩)
    go_ret
    exact ⟨_,rfl,ho3.low HB1.out.size,HB1.out.trans (hb3.mono HB1.out.size)⟩
   ·go_enter Tryz.func49,Tryz.ntmps49
    go_wp2_with (go_at_call 109;rw [show w.alloc _=w1 from HW1.out.symm];(with_reducible refine H3.out.mono ?_);rintro e w3 ⟨v,rfl,ho3,hb3⟩)
    go_ret
    exact ⟨_,rfl,ho3.low HB1.out.size,HB1.out.trans (hb3.mono HB1.out.size)⟩
  ·rw [found_not]
   obtain ⟨w1,hw1⟩:∃ w1,w1=boxQ w 4 f x A 0 c K 1 d:=⟨_,rfl⟩
   have hb1:Below w.heap.size w w1:=by rw [hw1];exact boxQ_below
   have hmk:MayS a:=MayS.kid hmay a (List.mem_cons_self ..)
   have hdk:deepQ a≤n:=by
    rw [deepQ] at hd
    have :=deepL_mem (l:=[a]) (List.mem_cons_self ..)
    omega
   have hsa:sizeQ a≤600000:=by
    rw [sizeQ,sizeL] at hsz
    omega
   have hfew:=few_of hG hsa
   obtain ⟨b,off,k0,f0,x0,A0,n0,c0,K0,m0,d0,rfl,hblt,hv0,p0,p1,p2,p3,p4⟩:=kid_at hkr hks (i:=0) (by simp)
   rw [zB] at hv0
   simp only [Nat.zero_mul,Nat.add_zero] at p0 p1 p2 p3 p4
   have HF:=Lib.hid (ih a _ w1 hdk hmk (QIn.later hv0 hb1) (hseg.below hb1))
   have HL:Hid (∀ w2,Below w1.heap.size w1 w2→Calls Tryz.prog 112 #[.pointer (some ⟨S,0,none⟩)] w2 fun e w'=>e= .returned (.int .i64 ((docsE G).length:Int))∧Below w2.heap.size w2 w'):=Lib.hid fun w2 hb=>by
    have :=seg_Len (hseg.below (hb1.trans (hb.mono hb1.size)))
    rwa [show (buildP G).ids.length=(docsE G).length by simp [buildP,docsE]] at this
   have HN:Hid (∀ w2 w3 va,OwnFo w1.heap.size w2 va (foundP (docsE G) a)→Below w2.heap.size w2 w3→Calls Tryz.prog 111 #[va,.int .i64 ((docsE G).length:Int)] w3 (GaveFo (notF (foundP (docsE G) a) (docsE G).length) w3)):=Lib.hid fun w2 w3 va h1 h2=>match_Not va _ _ w3 (h1.in_.later h2) hfew (by rw [docsE_length];have :=hG.few;omega)
   have HW1:=Lib.hid hw1
   have HB1:=Lib.hid hb1
   clear hmay hq hm hsz hown hw1 hb1 hwr hkr hks hkd hc hseg hdk hmk hv0 hfew hsa
   go_enter Tryz.func49,Tryz.ntmps49
   go_wp2_with (first
    |(go_at_call 49;rw [show w.alloc _=w1 from HW1.out.symm];(with_reducible refine HF.out.mono ?_);rintro e w2 ⟨v,rfl,ho2,hb2⟩;have HO2:=Lib.hid ho2;have HB2:=Lib.hid hb2;obtain ⟨A2,c2,rfl, -, -⟩:=owned_row ho2;clear ho2 hb2)
    |(go_at_call 112;(with_reducible refine (HL.out _ HB2.out).mono ?_);rintro e w3 ⟨rfl,hb3⟩;have HN3:=Lib.hid (HN.out _ _ _ HO2.out hb3);have HB3:=Lib.hid (HB2.out.trans (hb3.mono HB2.out.size));clear hb3)
    |(go_at_call 111;(with_reducible refine HN3.out.mono ?_);rintro e w4 ⟨v,rfl,ho4,hb4⟩))
   go_ret
   have hb:Below w.heap.size w w3:=HB1.out.trans (HB3.out.mono HB1.out.size)
   exact ⟨_,rfl,ho4.low hb.size,hb.trans (hb4.mono hb.size)⟩
end Go.Proofs.YtldcadpemnpbmaaGreatDoor
namespace Go.Proofs.YtldcadpemnpbmaaGreatDoor
open Go Go.RowKit
set_option linter.unusedVariables false
def bareT (n m:Nat):Bool:=decide (n=0)&&decide (m=0)
def bareP (x:ByteArray) (m:Nat):Bool:=decide (x.data.toList=[])&&decide (m=0)
def bareK (f x:ByteArray) (n:Nat):Bool:=decide (f.data.toList=[]∧x.data.toList=[])&&decide (n=0)
theorem toList_nil {x:ByteArray} (h:x.data.toList=[]):x.toList=[]:=by rw [ByteArray.toList_eq];exact h
theorem toList_some {x:ByteArray} (h:¬ x.data.toList=[]):¬ x.toList=[]:=by rw [ByteArray.toList_eq];exact h
section
variable (k:Int) (f x:ByteArray) (A:Option Addr) (n c:Nat) (K:Option Addr) (m d:Nat) (w:World)
set_option maxHeartbeats 1000000 in
set_option maxRecDepth 100000 in
theorem query_bareTerm:Calls Tryz.prog 63 #[qV k f x A n c K m d] w fun e w'=>e= .returned (.bool (bareT n m))∧Below w.heap.size w w':=by
 obtain ⟨z,hz⟩:∃ z,z=bareT n m:=⟨_,rfl⟩
 rw [← hz]
 by_cases hn:n=0
 ·subst hn
  have HZ:Hid (((m:Int)==0)=z):=Lib.hid (by rw [hz,Bool.eq_iff_iff];simp [bareT])
  clear hz
  go_enter Tryz.func63,Tryz.ntmps63
  go_wp2
  go_ret
  exact ⟨ret_bool HZ.out,(Below.refl _ _).alloc (Nat.le_refl _) _⟩
 ·have HZ:Hid (false=z):=Lib.hid (by rw [hz];simp [bareT,hn])
  have hn':((n:Int)==0)=false:=by rw [beq_eq_false_iff_ne];omega
  clear hz
  go_enter Tryz.func63,Tryz.ntmps63
  go_wp2
  go_ret
  exact ⟨ret_bool HZ.out,(Below.refl _ _).alloc (Nat.le_refl _) _⟩
set_option maxHeartbeats 1000000 in
set_option maxRecDepth 100000 in
theorem query_barePhrase:Calls Tryz.prog 68 #[qV k f x A n c K m d] w fun e w'=>e= .returned (.bool (bareP x m))∧Below w.heap.size w w':=by
 obtain ⟨z,hz⟩:∃ z,z=bareP x m:=⟨_,rfl⟩
 rw [← hz]
 by_cases hx:x.data.toList=[]
 ·have hx':=toList_nil hx
  have HZ:Hid (((m:Int)==0)=z):=Lib.hid (by rw [hz,Bool.eq_iff_iff];simp [bareP,hx])
  clear hz hx
  go_enter Tryz.func68,Tryz.ntmps68
  go_wp2
  go_ret
  exact ⟨ret_bool HZ.out,(Below.refl _ _).alloc (Nat.le_refl _) _⟩
 ·have hx':=toList_some hx
  have HZ:Hid (false=z):=Lib.hid (by rw [hz];simp [bareP,hx])
  clear hz hx
  go_enter Tryz.func68,Tryz.ntmps68
  go_wp2
  go_ret
  exact ⟨ret_bool HZ.out,(Below.refl _ _).alloc (Nat.le_refl _) _⟩
set_option maxHeartbeats 1000000 in
set_option maxRecDepth 100000 in
theorem query_bareKids:Calls Tryz.prog 73 #[qV k f x A n c K m d] w fun e w'=>e= .returned (.bool (bareK f x n))∧Below w.heap.size w w':=by
 obtain ⟨z,hz⟩:∃ z,z=bareK f x n:=⟨_,rfl⟩
 rw [← hz]
 by_cases hf:f.data.toList=[]
 ·have hf':=toList_nil hf
  by_cases hx:x.data.toList=[]
  ·have hx':=toList_nil hx
   have HZ:Hid (((n:Int)==0)=z):=Lib.hid (by rw [hz,Bool.eq_iff_iff];simp [bareK,hx,hf])
   clear hz hx hf
   go_enter Tryz.func73,Tryz.ntmps73
   go_wp2
   go_ret
   exact ⟨ret_bool HZ.out,(Below.refl _ _).alloc (Nat.le_refl _) _⟩
  ·have hx':=toList_some hx
   have HZ:Hid (false=z):=Lib.hid (by rw [hz];simp [bareK,hx])
   clear hz hx hf
   go_enter Tryz.func73,Tryz.ntmps73
   go_wp2
   go_ret
   exact ⟨ret_bool HZ.out,(Below.refl _ _).alloc (Nat.le_refl _) _⟩
 ·have hf':=toList_some hf
  have HZ:Hid (false=z):=Lib.hid (by rw [hz];simp [bareK,hf])
  clear hz hf
  go_enter Tryz.func73,Tryz.ntmps73
  go_wp2
  go_ret
  exact ⟨ret_bool HZ.out,(Below.refl _ _).alloc (Nat.le_refl _) _⟩
end
end Go.Proofs.YtldcadpemnpbmaaGreatDoor
namespace Go.Proofs.YtldcadpemnpbmaaGreatDoor
open Go Go.RowKit
open Go.ChangeMaps (setBlock)
set_option linter.unusedVariables false
set_option maxRecDepth 100000 in
theorem query_mayKids (n:Int) (w:World):Calls Tryz.prog 74 #[.int .i64 n] w fun e w'=>e= .returned (.func (.func 132) #[] #[.pointer (some ⟨w.heap.size,0,none⟩)])∧w.alloc (.cells #[.int .i64 n] 3)=w':=by
 go_enter Tryz.func74,Tryz.ntmps74
 go_wp2
 go_ret
 exact ⟨rfl,rfl⟩
set_option maxRecDepth 100000 in
theorem query_kidsGrade (g:Nat) (w:World):Calls Tryz.prog 77 #[.func (.func g) #[] #[]] w fun e w'=>e= .returned (.func (.func 133) #[] #[.pointer (some ⟨w.heap.size,0,none⟩)])∧w.alloc (.cells #[.func (.func g) #[] #[]] 71)=w':=by
 go_enter Tryz.func77,Tryz.ntmps77
 go_wp2
 go_ret
 exact ⟨rfl,rfl⟩
def kT:Value:= .agg #[.func (.func 63) #[] #[],.func (.func 64) #[] #[],.func (.func 65) #[] #[],.func (.func 66) #[] #[],.func (.func 67) #[] #[]]
def kP:Value:= .agg #[.func (.func 68) #[] #[],.func (.func 69) #[] #[],.func (.func 70) #[] #[],.func (.func 71) #[] #[],.func (.func 72) #[] #[]]
def kK (b g:Nat):Value:= .agg #[.func (.func 73) #[] #[],.func (.func 132) #[] #[.pointer (some ⟨b,0,none⟩)],.func (.func 75) #[] #[],.func (.func 76) #[] #[],.func (.func 133) #[] #[.pointer (some ⟨g,0,none⟩)]]
def entI (k:Int) (v:Value) (i:Nat):MapEntry:={key:= .int .i64 k,val:=v,born:=i}
def kEnts (b2 g2 b3 g3 b4 g4:Nat):List MapEntry:=[entI 1 kT 0,entI 5 kP 1,entI 2 (kK b2 g2) 2,entI 3 (kK b3 g3) 3,entI 4 (kK b4 g4) 4]
structure KindsAt (w:World) (B b2 g2 b3 g3 b4 g4:Nat):Prop where
 map:w.heap[B]?=some (.map (kEnts b2 g2 b3 g3 b4 g4).toArray 5)
 m2:w.heap[b2]?=some (.cells #[.int .i64 8] 3 (0,0))
 m3:w.heap[b3]?=some (.cells #[.int .i64 8] 3 (0,0))
 m4:w.heap[b4]?=some (.cells #[.int .i64 1] 3 (0,0))
 f2:w.heap[g2]?=some (.cells #[.func (.func 78) #[] #[]] 71 (0,0))
 f3:w.heap[g3]?=some (.cells #[.func (.func 79) #[] #[]] 71 (0,0))
 f4:w.heap[g4]?=some (.cells #[.func (.func 80) #[] #[]] 71 (0,0))
theorem KindsAt.below {w w':World} {B b2 g2 b3 g3 b4 g4:Nat} (h:KindsAt w B b2 g2 b3 g3 b4 g4) (hb:Below w.heap.size w w'):KindsAt w' B b2 g2 b3 g3 b4 g4:=
 have k:∀ {b:Nat} {o:Obj},w.heap[b]?=some o→w'.heap[b]?=some o:=fun e=>(hb.block _ (Array.getElem?_eq_some_iff.1 e).1).trans e
 ⟨k h.map,k h.m2,k h.m3,k h.m4,k h.f2,k h.f3,k h.f4⟩
theorem run_check_ki (em:Bool) (k:Int) (w:World):(Instr.checkKey em 10000 3 (.int .i64 k)).run Tryz.prog w= .ok () w:=by
 have h:∀ d:Nat,(Instr.checkKey em (d+1) 3 (.int .i64 k)).run Tryz.prog w= .ok () w:=fun d=>by
  simp [Instr.checkKey,run_underlying Tryz.underlying3]
 exact h 9999
theorem run_find_ki {es:List MapEntry} {k:Int} {r:Option (Nat × Value)} (h:Instr.findNow (.int .i64) (.int .i64 k) es 0=some r) (w:World):(Instr.findKey 3 (.int .i64 k) es).run Tryz.prog w= .ok r w:=by
 simp only [Instr.findKey,Sem.run_bind,run_underlying Tryz.underlying3,Result.andThen,h]
 simp [Sem.run_pure]
section
variable {ops:Array Oper} {rest:List Oper} {o:Oper} {a:Act} {Q:Exit→Act→World→Prop}
theorem wpList_insert_ki (w:World) (hg:o.guard=none) (x y z:Operand) (hop:o.op=Op.insert 59 x y z) (B c:Nat) (es:List MapEntry) (k:Int) (v:Value) (hx:a.eval x= .map (some B)) (hat:w.heap[B]?=some (.map es.toArray c)) (hy:a.eval y= .int .i64 k) (hz:a.eval z=v)
  (hf:Instr.findNow (.int .i64) (.int .i64 k) es 0=some none)
  (hK:∀ w',w'.heap[B]?=some (.map (es++[entI k v c]).toArray (c+1))→w.grownBy w' (some B)→wpList Tryz.prog ops Q rest (a.put o.dst undef) w'):wpList Tryz.prog ops Q (o::rest) a w:=by
 refine wpList_plain hg fun K' hK'=> ?_
 have hrun:(Instr.mapUpdate 59 (.map (some B)) (.int .i64 k) v).run Tryz.prog w= .ok () (setBlock w B (.map (es++[entI k v c]).toArray (c+1))):=by
  have hp:es.toArray.push {key:= .int .i64 k,val:=v,born:=c}=(es++[entI k v c]).toArray:=by rw [List.push_toArray];rfl
  rw [← hp]
  simp [Instr.mapUpdate,run_underlying Tryz.underlying59,MapKept.run_getObj_map hat,run_check_ki,run_find_ki hf,Result.andThen,MapKept.run_setObj_map _ hat,setBlock]
 unfold Oper.wp
 simp [execOp,hop,hx,hy,hz,hrun,Result.andThen]
 exact hK' _ _ (hK _ (ChangeMaps.heap_setBlock_same hat _) ⟨rfl,rfl,rfl,by simp [setBlock],fun k _ hk=>ChangeMaps.heap_setBlock_other hat _ (fun e=>hk (by rw [e]))⟩)
end
theorem run_lookup_ki {w:World} {B b2 g2 b3 g3 b4 g4:Nat} (h:KindsAt w B b2 g2 b3 g3 b4 g4) {k:Int} {r:Option (Nat × Value)} (hf:Instr.findNow (.int .i64) (.int .i64 k) (kEnts b2 g2 b3 g3 b4 g4) 0=some r) (ok:Bool):
  (Instr.lookup 59 (.map (some B)) (.int .i64 k) ok).run Tryz.prog w= .ok (match r with|some (_,v)=>if ok=true then .tuple #[v,.bool true] else v|none=>if ok=true then .tuple #[.agg #[.nilFunc,.nilFunc,.nilFunc,.nilFunc,.nilFunc],.bool false] else .agg #[.nilFunc,.nilFunc,.nilFunc,.nilFunc,.nilFunc]) w:=by
 have hf':=run_find_ki hf w
 cases r with
 |none=>simp [Instr.lookup,run_underlying Tryz.underlying59,MapKept.run_getObj_map h.map,run_check_ki,hf',Result.andThen,Tryz.zeroValue66]
 |some y=>simp [Instr.lookup,run_underlying Tryz.underlying59,MapKept.run_getObj_map h.map,run_check_ki,hf',Result.andThen]
theorem find_kind {b2 g2 b3 g3 b4 g4:Nat}:Instr.findNow (.int .i64) (.int .i64 1) (kEnts b2 g2 b3 g3 b4 g4) 0=some (some (0,kT))∧Instr.findNow (.int .i64) (.int .i64 5) (kEnts b2 g2 b3 g3 b4 g4) 0=some (some (1,kP))∧
  Instr.findNow (.int .i64) (.int .i64 2) (kEnts b2 g2 b3 g3 b4 g4) 0=some (some (2,kK b2 g2))∧Instr.findNow (.int .i64) (.int .i64 3) (kEnts b2 g2 b3 g3 b4 g4) 0=some (some (3,kK b3 g3))∧Instr.findNow (.int .i64) (.int .i64 4) (kEnts b2 g2 b3 g3 b4 g4) 0=some (some (4,kK b4 g4)):=
 ⟨rfl,rfl,rfl,rfl,rfl⟩
theorem find_kind_no {b2 g2 b3 g3 b4 g4:Nat} {k:Int} (h:k<1∨5<k):Instr.findNow (.int .i64) (.int .i64 k) (kEnts b2 g2 b3 g3 b4 g4) 0=some none:=by
 have e1:(k==1)=false:=by rw [beq_eq_false_iff_ne];omega
 have e2:(k==5)=false:=by rw [beq_eq_false_iff_ne];omega
 have e3:(k==2)=false:=by rw [beq_eq_false_iff_ne];omega
 have e4:(k==3)=false:=by rw [beq_eq_false_iff_ne];omega
 have e5:(k==4)=false:=by rw [beq_eq_false_iff_ne];omega
 simp [kEnts,entI,Instr.findNow,Instr.sameNow,e1,e2,e3,e4,e5]
def GaveKinds (w:World) (e:Ending) (w':World):Prop:=∃ B b2 g2 b3 g3 b4 g4,e= .returned (.map (some B))∧KindsAt w' B b2 g2 b3 g3 b4 g4∧Below w.heap.size w w'
def MkAtQ (w w':World) (es:List MapEntry) (c:Nat):Prop:=w'.heap[w.heap.size]?=some (.map es.toArray c)∧Below w.heap.size w w'
def Made1 (w w':World) (b:Nat) (o:Obj):Prop:=w'.heap[b]?=some o∧w.heap.size<b
section
variable {w w' w'':World} {es:List MapEntry} {c b:Nat} {o o':Obj}
theorem MkAtQ.alloc (h:MkAtQ w w' es c):MkAtQ w (w'.alloc o) es c:=⟨by rw [← h.1];exact heap_alloc_old _ _ (Array.getElem?_eq_some_iff.1 h.1).1,h.2.trans ((Below.refl _ _).alloc h.2.size _)⟩
theorem MkAtQ.grown {es':List MapEntry} {c':Nat} (h:MkAtQ w w' es c) (h1:w''.heap[w.heap.size]?=some (.map es'.toArray c')) (hg:w'.grownBy w'' (some w.heap.size)):MkAtQ w w'' es' c':=
 ⟨h1,h.2.trans ((Below.refl _ _).grown hg h.2.size (fun k hk=>by injection hk with hk;omega))⟩
theorem Made1.alloc (h:Made1 w w' b o):Made1 w (w'.alloc o') b o:=⟨by rw [← h.1];exact heap_alloc_old _ _ (Array.getElem?_eq_some_iff.1 h.1).1,h.2⟩
theorem Made1.grown (h:Made1 w w' b o) (hg:w'.grownBy w'' (some w.heap.size)):Made1 w w'' b o:=
 ⟨(hg.block b (Array.getElem?_eq_some_iff.1 h.1).1 (fun e=>by injection e with e;have :=h.2;omega)).trans h.1,h.2⟩
theorem MkAtQ.new (h:MkAtQ w w' es c):Made1 w (w'.alloc o) w'.heap.size o:=⟨heap_alloc_new _ _,(Array.getElem?_eq_some_iff.1 h.1).1⟩
end
set_option maxHeartbeats 4000000 in
set_option maxRecDepth 100000 in
theorem query_kinds (w:World):Calls Tryz.prog 27 #[] w (GaveKinds w):=by
 have hmm:=@run_makeMap Tryz.prog
 have H0:Hid (MkAtQ w (w.alloc (.map #[] 0)) [] 0):=Lib.hid ⟨heap_alloc_new w _,(Below.refl _ _).alloc (Nat.le_refl _) _⟩
 go_enter Tryz.func27,Tryz.ntmps27
 go_wp2_with (first
  |(refine wpList_insert_ki _ (by rfl) _ _ _ (by rfl) w.heap.size 0 [] 1 _ (by rfl) H0.out.1 (by rfl) (by rfl) (by rfl) ?_;intro w1 hm hg;have H1:=Lib.hid (H0.out.grown hm hg);clear hm hg)
  |(refine wpList_insert_ki _ (by rfl) _ _ _ (by rfl) w.heap.size 1 [entI 1 kT 0] 5 _ (by rfl) H1.out.1 (by rfl) (by rfl) (by rfl) ?_;intro w2 hm hg;have H2:=Lib.hid (H1.out.grown hm hg);clear hm hg)
  |(go_at_call 74;(with_reducible refine (query_mayKids 8 _).mono ?_);rintro e w3 ⟨rfl,hw⟩;have H3:Hid (MkAtQ w w3 _ _):=Lib.hid (by rw [← hw];exact H2.out.alloc);have Gm2_3:Hid (Made1 w w3 _ (.cells #[.int .i64 8] 3)):=Lib.hid (by rw [← hw];exact H2.out.new);clear hw)
  |(go_at_call 77;(with_reducible refine (query_kidsGrade _ _).mono ?_);rintro e w4 ⟨rfl,hw⟩;have H4:Hid (MkAtQ w w4 _ _):=Lib.hid (by rw [← hw];exact H3.out.alloc);have Gg2_4:Hid (Made1 w w4 _ (.cells #[.func (.func 78) #[] #[]] 71)):=Lib.hid (by rw [← hw];exact H3.out.new);have Gm2_4:Hid (Made1 w w4 _ _):=Lib.hid (by rw [← hw];exact Gm2_3.out.alloc);clear hw)
  |(refine wpList_insert_ki _ (by rfl) _ _ _ (by rfl) w.heap.size 2 [entI 1 kT 0,entI 5 kP 1] 2 _ (by rfl) H4.out.1 (by rfl) (by rfl) (by rfl) ?_;intro w5 hm hg;have H5:=Lib.hid (H4.out.grown hm hg);have Gm2_5:=Lib.hid (Gm2_4.out.grown hg);have Gg2_5:=Lib.hid (Gg2_4.out.grown hg);clear hm hg)
  |(go_at_call 74;(with_reducible refine (query_mayKids 8 _).mono ?_);rintro e w6 ⟨rfl,hw⟩;have H6:Hid (MkAtQ w w6 _ _):=Lib.hid (by rw [← hw];exact H5.out.alloc);have Gm3_6:Hid (Made1 w w6 _ (.cells #[.int .i64 8] 3)):=Lib.hid (by rw [← hw];exact H5.out.new);have Gm2_6:Hid (Made1 w w6 _ _):=Lib.hid (by rw [← hw];exact Gm2_5.out.alloc);have Gg2_6:Hid (Made1 w w6 _ _):=Lib.hid (by rw [← hw];exact Gg2_5.out.alloc);clear hw)
  |(go_at_call 77;(with_reducible refine (query_kidsGrade _ _).mono ?_);rintro e w7 ⟨rfl,hw⟩;have H7:Hid (MkAtQ w w7 _ _):=Lib.hid (by rw [← hw];exact H6.out.alloc);have Gg3_7:Hid (Made1 w w7 _ (.cells #[.func (.func 79) #[] #[]] 71)):=Lib.hid (by rw [← hw];exact H6.out.new);have Gm2_7:Hid (Made1 w w7 _ _):=Lib.hid (by rw [← hw];exact Gm2_6.out.alloc);have Gg2_7:Hid (Made1 w w7 _ _):=Lib.hid (by rw [← hw];exact Gg2_6.out.alloc);have Gm3_7:Hid (Made1 w w7 _ _):=Lib.hid (by rw [← hw];exact Gm3_6.out.alloc);clear hw)
  |(refine wpList_insert_ki _ (by rfl) _ _ _ (by rfl) w.heap.size 3 [entI 1 kT 0,entI 5 kP 1,entI 2 (kK w2.heap.size w3.heap.size) 2] 3 _ (by rfl) H7.out.1 (by rfl) (by rfl) (by rfl) ?_;intro w8 hm hg;have H8:=Lib.hid (H7.out.grown hm hg);have Gm2_8:=Lib.hid (Gm2_7.out.grown hg);have Gg2_8:=Lib.hid (Gg2_7.out.grown hg);have Gm3_8:=Lib.hid (Gm3_7.out.grown hg);have Gg3_8:=Lib.hid (Gg3_7.out.grown hg);clear hm hg)
  |(go_at_call 74;(with_reducible refine (query_mayKids 1 _).mono ?_);rintro e w9 ⟨rfl,hw⟩;have H9:Hid (MkAtQ w w9 _ _):=Lib.hid (by rw [← hw];exact H8.out.alloc);have Gm4_9:Hid (Made1 w w9 _ (.cells #[.int .i64 1] 3)):=Lib.hid (by rw [← hw];exact H8.out.new);have Gm2_9:Hid (Made1 w w9 _ _):=Lib.hid (by rw [← hw];exact Gm2_8.out.alloc);have Gg2_9:Hid (Made1 w w9 _ _):=Lib.hid (by rw [← hw];exact Gg2_8.out.alloc);have Gm3_9:Hid (Made1 w w9 _ _):=Lib.hid (by rw [← hw];exact Gm3_8.out.alloc);have Gg3_9:Hid (Made1 w w9 _ _):=Lib.hid (by rw [← hw];exact Gg3_8.out.alloc);clear hw)
  |(go_at_call 77;(with_reducible refine (query_kidsGrade _ _).mono ?_);rintro e w10 ⟨rfl,hw⟩;have H10:Hid (MkAtQ w w10 _ _):=Lib.hid (by rw [← hw];exact H9.out.alloc);have Gg4_10:Hid (Made1 w w10 _ (.cells #[.func (.func 80) #[] #[]] 71)):=Lib.hid (by rw [← hw];exact H9.out.new);have Gm2_10:Hid (Made1 w w10 _ _):=Lib.hid (by rw [← hw];exact Gm2_9.out.alloc);have Gg2_10:Hid (Made1 w w10 _ _):=Lib.hid (by rw [← hw];exact Gg2_9.out.alloc);have Gm3_10:Hid (Made1 w w10 _ _):=Lib.hid (by rw [← hw];exact Gm3_9.out.alloc);have Gg3_10:Hid (Made1 w w10 _ _):=Lib.hid (by rw [← hw];exact Gg3_9.out.alloc);have Gm4_10:Hid (Made1 w w10 _ _):=Lib.hid (by rw [← hw];exact Gm4_9.out.alloc);clear hw)
  |(refine wpList_insert_ki _ (by rfl) _ _ _ (by rfl) w.heap.size 4 [entI 1 kT 0,entI 5 kP 1,entI 2 (kK w2.heap.size w3.heap.size) 2,entI 3 (kK w5.heap.size w6.heap.size) 3] 4 _ (by rfl) H10.out.1 (by rfl) (by rfl) (by rfl) ?_;intro w11 hm hg;have H11:=Lib.hid (H10.out.grown hm hg);have Gm2_11:=Lib.hid (Gm2_10.out.grown hg);have Gg2_11:=Lib.hid (Gg2_10.out.grown hg);have Gm3_11:=Lib.hid (Gm3_10.out.grown hg);have Gg3_11:=Lib.hid (Gg3_10.out.grown hg);have Gm4_11:=Lib.hid (Gm4_10.out.grown hg);have Gg4_11:=Lib.hid (Gg4_10.out.grown hg);clear hm hg))
 go_ret
 exact ⟨w.heap.size,_,_,_,_,_,_,rfl,⟨H11.out.1,Gm2_11.out.1,Gm3_11.out.1,Gm4_11.out.1,Gg2_11.out.1,Gg3_11.out.1,Gg4_11.out.1⟩,H11.out.2⟩
end Go.Proofs.YtldcadpemnpbmaaGreatDoor
namespace Go.Proofs.YtldcadpemnpbmaaGreatDoor
open Go Go.RowKit
set_option linter.unusedVariables false
def NameRel (s:Nm) (w:World) (i:Value) (wr:World):Prop:=∃ k:Nat,k≤s.length∧i= .int .i64 (k:Int)∧Below w.heap.size w wr∧∀ j (hj:j<s.length),j<k→smallB s[j]=true
set_option maxHeartbeats 1000000 in
set_option maxRecDepth 100000 in
theorem ref08_Name (s:ByteArray) (w:World) (hs:s.size≤9223372036854775807):
  Calls Tryz.prog 24 #[.string s] w fun e w'=>e= .returned (.bool (nameB s.data.toList))∧Below w.heap.size w w':=by
 have hsz:s.data.toList.length=s.size:=Array.length_toList
 obtain ⟨z,hz⟩:∃ z,z=nameB s.data.toList:=⟨_,rfl⟩
 rw [← hz]
 have HZ:=Lib.hid hz
 clear hz
 go_enter Tryz.func24,Tryz.ntmps24
 go_wp2
 go_loopw [2,3] (fun r i wr=>r= .bool false∧NameRel s.data.toList w i wr) (fun _ i _=>s.size-(intOf i).toNat)
 case atStart=>exact ⟨rfl,0,by omega,rfl,Below.refl _ _,fun j _ hj=>by omega⟩
 case round=>
  obtain ⟨rfl,k,hk,rfl,hbw,hall⟩:=hrel
  rw [hsz] at hk
  by_cases hlt:k<s.size
  ·have hkl:k<s.data.toList.length:=by omega
   have i0:(0:Int)≤k:=by omega
   have i1:(k:Int)<s.size:=by omega
   have hb:s[k]=s.data.toList[k]:=rfl
   cases hsm:smallB s.data.toList[k] with
   |true=>
    have h2:=hsm
    rw [smallB,← hb,Bool.and_eq_true,decide_eq_true_iff,decide_eq_true_iff] at h2
    have j1:(97:Int)≤s[k].toNat:=by omega
    have j2:(s[k].toNat:Int)≤122:=by omega
    have HN:Hid (∀ j (hj:j<s.data.toList.length),j<k+1→smallB s.data.toList[j]=true):=Lib.hid fun j hj hjk=>by
     by_cases e:j=k
     ·subst e;exact hsm
     ·exact hall j hj (by omega)
    have HSZ:=Lib.hid hsz
    clear hall hsm h2 hb hsz
    go_wp2
    go_roundw
    case rel=>exact ⟨rfl,k+1,by have :=HSZ.out;omega,by go_num,hbw,HN.out⟩
    case measure=>simp [intOf];omega
   |false=>
    have h2:=hsm
    rw [smallB,← hb,Bool.and_eq_false_iff,decide_eq_false_iff_not,decide_eq_false_iff_not] at h2
    have hbad:z=false:=by rw [HZ.out];exact nameB_bad hkl hsm
    subst hbad
    have j1:(s[k].toNat:Int)<97∨(97:Int)≤s[k].toNat∧(122:Int)<s[k].toNat:=by omega
    clear hall hsm h2 hb hsz
    rcases j1 with j1|⟨j1,j2⟩
    all_goals
     go_wp2
     go_ret
     exact ⟨rfl,hbw⟩
  ·have e:=nameB_good (s:=s.data.toList) (fun j hj=>hall j hj (by omega))
   rw [hsz,← HZ.out] at e
   clear hall hsz
   by_cases g1:1≤s.size
   ·by_cases g2:s.size≤12
    ·have d1:(decide (1≤s.size)&&decide (s.size≤12))=true:=by simp [g1,g2]
     rw [d1] at e
     subst e
     clear d1
     go_wp2
     go_ret
     exact ⟨ret_bool (decide_eq_true (by omega)),hbw⟩
    ·have d1:(decide (1≤s.size)&&decide (s.size≤12))=false:=by simp [g2]
     have g3:12<s.size:=by omega
     rw [d1] at e
     subst e
     clear d1 g2
     go_wp2
     go_ret
     exact ⟨ret_bool (decide_eq_false (by omega)),hbw⟩
   ·have d1:(decide (1≤s.size)&&decide (s.size≤12))=false:=by simp [g1]
    have g3:s.size<1:=by omega
    rw [d1] at e
    subst e
    clear d1 g1
    go_wp2
    go_ret
    exact ⟨rfl,hbw⟩
end Go.Proofs.YtldcadpemnpbmaaGreatDoor
namespace Go.Proofs.YtldcadpemnpbmaaGreatDoor
open Go Go.RowKit
set_option linter.unusedVariables false
set_option maxHeartbeats 1000000 in
set_option maxRecDepth 100000 in
theorem doc_Name (s:ByteArray) (w:World) (hs:s.size≤9223372036854775807):
  Calls Tryz.prog 125 #[.string s] w fun e w'=>e= .returned (.bool (nameB s.data.toList))∧Below w.heap.size w w':=by
 have hsz:s.data.toList.length=s.size:=Array.length_toList
 by_cases h0:s.size=0
 ·have he:s=ByteArray.empty:=by
   have :s.data.toList=[]:=List.eq_nil_of_length_eq_zero (by omega)
   cases s with|mk d=>cases d with|mk l=>simp at this;subst this;rfl
  have hm:nameB s.data.toList=false:=by rw [he];rfl
  rw [hm]
  subst he
  clear hm hsz h0
  go_enter Tryz.func125,Tryz.ntmps125
  go_wp2
  go_ret
  exact ⟨rfl,Below.refl _ _⟩
 ·have hne:s.data.toList≠[]:=fun h=>h0 (by rw [← hsz,h];rfl)
  have hs0:(s.toList==[])=false:=by
   rw [Lib.toList_data]
   simpa using hne
  obtain ⟨z,hz⟩:∃ z,z=nameB s.data.toList:=⟨_,rfl⟩
  rw [← hz]
  have HZ:=Lib.hid hz
  clear hz hne
  by_cases h12:12<s.size
  ·have hzf:z=false:=by
    rw [HZ.out,nameB,hsz]
    have d:decide (s.size≤12)=false:=decide_eq_false (by omega)
    rw [d]
    simp
   subst hzf
   clear hsz h0
   go_enter Tryz.func125,Tryz.ntmps125
   go_wp2
   go_ret
   exact ⟨rfl,Below.refl _ _⟩
  ·have hs12:s.size≤12:=by omega
   have h1:1≤s.size:=by omega
   have HSZ:=Lib.hid hsz
   clear hsz h0 h12
   go_enter Tryz.func125,Tryz.ntmps125
   go_wp2
   go_loopw [2,13] (fun r i wr=>r= .bool false∧NameRel s.data.toList w i wr) (fun _ i _=>s.size-(intOf i).toNat)
   case atStart=>exact ⟨rfl,0,by omega,rfl,Below.refl _ _,fun j _ hj=>by omega⟩
   case round=>
    obtain ⟨rfl,k,hk,rfl,hbw,hall⟩:=hrel
    rw [HSZ.out] at hk
    by_cases hlt:k<s.size
    ·have hkl:k<s.data.toList.length:=by rw [HSZ.out];exact hlt
     have i0:(0:Int)≤k:=by omega
     have i1:(k:Int)<s.size:=by omega
     have hb:s[k]=s.data.toList[k]:=rfl
     cases hsm:smallB s.data.toList[k] with
     |true=>
      have h2:=hsm
      rw [smallB,← hb,Bool.and_eq_true,decide_eq_true_iff,decide_eq_true_iff] at h2
      have j1:(97:Int)≤s[k].toNat:=by omega
      have j2:(s[k].toNat:Int)≤122:=by omega
      have HN:Hid (∀ j (hj:j<s.data.toList.length),j<k+1→smallB s.data.toList[j]=true):=Lib.hid fun j hj hjk=>by
       by_cases e:j=k
       ·subst e;exact hsm
       ·exact hall j hj (by omega)
      clear hall hsm h2 hb
      go_wp2
      go_roundw
      case rel=>exact ⟨rfl,k+1,by have :=HSZ.out;omega,by go_num,hbw,HN.out⟩
      case measure=>simp [intOf];omega
     |false=>
      have h2:=hsm
      rw [smallB,← hb,Bool.and_eq_false_iff,decide_eq_false_iff_not,decide_eq_false_iff_not] at h2
      have hbad:z=false:=by rw [HZ.out];exact nameB_bad hkl hsm
      subst hbad
      have j1:(s[k].toNat:Int)<97∨(97:Int)≤s[k].toNat∧(122:Int)<s[k].toNat:=by omega
      clear hall hsm h2 hb
      rcases j1 with j1|⟨j1,j2⟩
      all_goals
       go_wp2
       go_ret
       exact ⟨rfl,hbw⟩
    ·have e:=nameB_good (s:=s.data.toList) (fun j hj=>hall j hj (by rw [HSZ.out] at hj;omega))
     have d1:(decide (1≤s.size)&&decide (s.size≤12))=true:=by simp [h1,hs12]
     rw [HSZ.out,← HZ.out,d1] at e
     subst e
     clear hall d1
     go_wp2
     go_ret
     exact ⟨rfl,hbw⟩
end Go.Proofs.YtldcadpemnpbmaaGreatDoor
namespace Go.Proofs.YtldcadpemnpbmaaGreatDoor
open Go Go.RowKit
set_option linter.unusedVariables false
set_option maxHeartbeats 2000000 in
set_option maxRecDepth 100000 in
theorem ref_Tokens (s:ByteArray) (w:World) (hs:s.size≤268435456):
  Calls Tryz.prog 161 #[.string s] w (GaveToks (words s.data.toList) w):=by
 obtain ⟨i0,hi0,hz0,hz1,hz2⟩:=info_parts info_token
 have hwl:=words_length s.data.toList
 have hsz:s.data.toList.length=s.size:=Array.length_toList
 rw [hsz] at hwl
 go_enter Tryz.func161,Tryz.ntmps161
 go_wp2_with (go_at_call 212;refine (ref_Words s _ (by omega)).mono ?_)
 rintro e w1 ⟨v,rfl,hown,hb⟩
 obtain ⟨A,c,rfl,_,hrow⟩:=owned_row hown
 obtain ⟨ws,hl⟩:∃ ws,ws=words s.data.toList:=⟨_,rfl⟩
 rw [← hl] at hrow hwl
 rw [← hl]
 have FIN:Hid (∀ e w',GaveToks ws w e w'→GaveToks (words s.data.toList) w e w'):=by rw [← hl];exact fun _ _ h=>h
 have HB:=Lib.hid hb
 have HR:=Lib.hid hrow
 clear hl hb hown hrow
 go_wp2
 go_loopw [2,3,5,6] (fun a b o i wr=>ToksRel ws w1 a b o i wr) (fun _ _ _ i _=>ws.length-(intOf i).toNat)
 case atStart=>exact ⟨0,_,rfl,rfl,rfl,Nat.zero_le _,by omega,rfl,World.ownsRow_nil _ _ _ _,Below.refl _ _,rfl⟩
 case round=>
  obtain ⟨k,vo,rfl,rfl,rfl,hk,hk5,rfl,hown,hbw,her⟩:=hrel
  by_cases hlt:k<ws.length
  ·obtain ⟨b1,o1,e1,_,hc1⟩:=row_str (HR.out.below hbw) hlt
   subst e1
   have hat:=errFrom_at hlt
   have htk:=tokCells_take hlt
   obtain ⟨tx,htx⟩:∃ tx:ByteArray,tx=⟨ws[k].toArray⟩:=⟨_,rfl⟩
   have htl:ws[k].length=tx.size:=by rw [htx];simp [ByteArray.size]
   rw [← htx] at hc1 htk
   rw [htl,her] at hat
   clear htx htl her
   have HTK:=Lib.hid htk
   clear htk
   have hszj:=hbw.size
   by_cases h30:30<tx.size
   ·rw [if_pos h30] at hat
    have HAT:=Lib.hid hat
    clear hat
    go_wp2
    go_ret2
    exact FIN.out _ _ ⟨_,by rw [HAT.out];rfl,fun h=>by rw [HAT.out] at h;omega,fun _=>rfl,HB.out.trans (hbw.mono HB.out.size)⟩
   ·rw [if_neg h30] at hat
    by_cases h500:k=500
    ·rw [if_pos (by omega)] at hat
     have HAT:=Lib.hid hat
     subst h500
     clear hat
     go_wp2
     go_ret2
     exact FIN.out _ _ ⟨_,by rw [HAT.out];rfl,fun h=>by rw [HAT.out] at h;omega,fun _=>rfl,HB.out.trans (hbw.mono HB.out.size)⟩
    ·rw [if_neg (by omega)] at hat
     have HAT:=Lib.hid hat
     clear hat
     have h5:(k:Int)<500:=by omega
     have h5':¬ (500:Int)≤k:=by omega
     go_wp2_with (at_builtin;refine wpList_append_own _ rfl (.tmp 23) (.tmp 30) 214 rfl w1.heap.size 286 i0 _ 2 24 Tryz.underlying214 hi0 hz0 hz1 hz2 rfl (by omega) _ k (tokCells 0 (ws.take k)) rfl (hown.alloc _) ⟨wr.heap.size,0,none⟩ 1 1 [.string tx,.int .i64 k] rfl rfl (news_at wr [.string tx,.int .i64 k] 286) (by intro u hu;simp at hu;rcases hu with hu|hu<;>(subst hu;rfl)) (by unfold maxLen;omega) (by omega) (by simp;omega) ?_)
     intro v' w5 hown5 hgrow5 _
     have hbw5:=(hbw.alloc (by omega) _).grown hgrow5 (by simp;omega) (fun j hj=>(hown.lt j hj).1)
     rw [← HTK.out] at hown5
     clear hgrow5
     go_wp2
     go_roundw
     case rel=>exact ⟨k+1,_,rfl,rfl,rfl,by omega,by omega,by go_num,hown5,hbw5,HAT.out.symm⟩
     case measure=>simp [intOf];omega
  ·have hkl:k=ws.length:=by omega
   have her0:errFrom 0 ws=0:=by rw [← her,List.drop_of_length_le (by omega)];rfl
   rw [hkl,List.take_length] at hown
   have HE:=Lib.hid her0
   clear her her0 hkl
   go_wp2
   go_ret2
   exact FIN.out _ _ ⟨_,by rw [HE.out];rfl,fun _=>owned_low hown HB.out.size,fun h=>absurd HE.out h,HB.out.trans (hbw.mono HB.out.size)⟩
end Go.Proofs.YtldcadpemnpbmaaGreatDoor
namespace Go.Proofs.YtldcadpemnpbmaaGreatDoor
open Go Go.RowKit
set_option linter.unusedVariables false
set_option maxHeartbeats 2000000 in
set_option maxRecDepth 100000 in
theorem word_Tokens (s:ByteArray) (w:World) (hs:s.size≤268435456):
  Calls Tryz.prog 215 #[.string s] w (GaveToks (words s.data.toList) w):=by
 obtain ⟨i0,hi0,hz0,hz1,hz2⟩:=info_parts info_token
 have hwl:=words_length s.data.toList
 have hsz:s.data.toList.length=s.size:=Array.length_toList
 rw [hsz] at hwl
 go_enter Tryz.func215,Tryz.ntmps215
 go_wp2_with (go_at_call 221;refine (word_Words s _ (by omega)).mono ?_)
 rintro e w1 ⟨v,rfl,hown,hb⟩
 obtain ⟨A,c,rfl,_,hrow⟩:=owned_row hown
 obtain ⟨ws,hl⟩:∃ ws,ws=words s.data.toList:=⟨_,rfl⟩
 rw [← hl] at hrow hwl
 rw [← hl]
 have FIN:Hid (∀ e w',GaveToks ws w e w'→GaveToks (words s.data.toList) w e w'):=by rw [← hl];exact fun _ _ h=>h
 have HB:=Lib.hid hb
 have HR:=Lib.hid hrow
 clear hl hb hown hrow
 go_wp2
 go_loopw [2,3,4,10] (fun a b o i wr=>ToksRel ws w1 a b o i wr) (fun _ _ _ i _=>ws.length-(intOf i).toNat)
 case atStart=>exact ⟨0,_,rfl,rfl,rfl,Nat.zero_le _,by omega,rfl,World.ownsRow_nil _ _ _ _,Below.refl _ _,rfl⟩
 case round=>
  obtain ⟨k,vo,rfl,rfl,rfl,hk,hk5,rfl,hown,hbw,her⟩:=hrel
  by_cases hlt:k<ws.length
  ·obtain ⟨b1,o1,e1,_,hc1⟩:=row_str (HR.out.below hbw) hlt
   subst e1
   have hat:=errFrom_at hlt
   have htk:=tokCells_take hlt
   obtain ⟨tx,htx⟩:∃ tx:ByteArray,tx=⟨ws[k].toArray⟩:=⟨_,rfl⟩
   have htl:ws[k].length=tx.size:=by rw [htx];simp [ByteArray.size]
   rw [← htx] at hc1 htk
   rw [htl,her] at hat
   clear htx htl her
   have HTK:=Lib.hid htk
   clear htk
   have hszj:=hbw.size
   by_cases h30:30<tx.size
   ·rw [if_pos h30] at hat
    have HAT:=Lib.hid hat
    clear hat
    go_wp2
    go_ret2
    exact FIN.out _ _ ⟨_,by rw [HAT.out];rfl,fun h=>by rw [HAT.out] at h;omega,fun _=>rfl,HB.out.trans (hbw.mono HB.out.size)⟩
   ·rw [if_neg h30] at hat
    by_cases h500:k=500
    ·rw [if_pos (by omega)] at hat
     have HAT:=Lib.hid hat
     subst h500
     clear hat
     go_wp2
     go_ret2
     exact FIN.out _ _ ⟨_,by rw [HAT.out];rfl,fun h=>by rw [HAT.out] at h;omega,fun _=>rfl,HB.out.trans (hbw.mono HB.out.size)⟩
    ·rw [if_neg (by omega)] at hat
     have HAT:=Lib.hid hat
     clear hat
     have h5:(k:Int)<500:=by omega
     go_wp2_with (at_builtin;refine wpList_append_own _ rfl (.tmp 20) (.tmp 24) 214 rfl w1.heap.size 286 i0 _ 2 24 Tryz.underlying214 hi0 hz0 hz1 hz2 rfl (by omega) _ k (tokCells 0 (ws.take k)) rfl (hown.alloc _) ⟨wr.heap.size,0,none⟩ 1 1 [.string tx,.int .i64 k] rfl rfl (news_at wr [.string tx,.int .i64 k] 286) (by intro u hu;simp at hu;rcases hu with hu|hu<;>(subst hu;rfl)) (by unfold maxLen;omega) (by omega) (by simp;omega) ?_)
     intro v' w5 hown5 hgrow5 _
     have hbw5:=(hbw.alloc (by omega) _).grown hgrow5 (by simp;omega) (fun j hj=>(hown.lt j hj).1)
     rw [← HTK.out] at hown5
     clear hgrow5
     go_wp2
     go_roundw
     case rel=>exact ⟨k+1,_,rfl,rfl,rfl,by omega,by omega,by go_num,hown5,hbw5,HAT.out.symm⟩
     case measure=>simp [intOf];omega
  ·have hkl:k=ws.length:=by omega
   have her0:errFrom 0 ws=0:=by rw [← her,List.drop_of_length_le (by omega)];rfl
   rw [hkl,List.take_length] at hown
   have HE:=Lib.hid her0
   clear her her0 hkl
   go_wp2
   go_ret2
   exact FIN.out _ _ ⟨_,by rw [HE.out];rfl,fun _=>owned_low hown HB.out.size,fun h=>absurd HE.out h,HB.out.trans (hbw.mono HB.out.size)⟩
end Go.Proofs.YtldcadpemnpbmaaGreatDoor
namespace Go.Proofs.YtldcadpemnpbmaaGreatDoor
open Go Go.RowKit
set_option linter.unusedVariables false
def halfFolded (l:List Int) (k:Nat):List Int:=(l.take k).map fold++l.drop k
theorem halfFolded_zero (l:List Int):halfFolded l 0=l:=by simp [halfFolded]
theorem halfFolded_all (l:List Int):halfFolded l l.length=l.map fold:=by simp [halfFolded]
theorem halfFolded_at {l:List Int} {k:Nat} (hk:k<l.length):(halfFolded l k)[k]?=some l[k]:=by
 unfold halfFolded
 rw [List.getElem?_append_right (by simp;omega)]
 have :k-(List.map fold (List.take k l)).length=0:=by simp;omega
 rw [this,List.getElem?_drop]
 simp [hk]
theorem halfFolded_set {l:List Int} {k:Nat} (hk:k<l.length):(ints (halfFolded l k)).set k (.int .i64 (fold l[k]))=ints (halfFolded l (k+1)):=by
 unfold halfFolded ints
 rw [← List.map_set]
 congr 1
 have hlen:(List.map fold (List.take k l)).length=k:=by simp;omega
 rw [List.set_append_right _ _ (by omega),hlen,Nat.sub_self,List.take_succ_eq_append_getElem hk,List.map_append,List.append_assoc]
 congr 1
 rw [List.drop_eq_getElem_cons hk,zE]
 simp
def RefFoldRel (w:World) (l:List Int) (g cap:Nat) (i:Value) (wr:World):Prop:=
 ∃ k:Nat,k≤l.length∧i= .int .i64 k∧wr.ownsRow w.heap.size 3 1 (.slice (some ⟨g,0,none⟩) l.length cap) l.length (ints (halfFolded l k))∧Below w.heap.size w wr
set_option maxHeartbeats 1000000 in
set_option maxRecDepth 100000 in
theorem ref_FoldText (s:ByteArray) (w:World) (hs:s.size≤1073741824):
  Calls Tryz.prog 60 #[.string s] w (GaveText (foldText s.data.toList) w):=by
 have hsl:=signs_length s.data.toList
 rw [size_list] at hsl
 go_enter Tryz.func60,Tryz.ntmps60
 go_wp2_with (go_at_call 59;refine (ref_Signs s _ hs).mono ?_)
 rintro e w1 ⟨v,rfl,hown,hb1⟩
 have hft:foldText s.data.toList=text ((signs s.data.toList).map fold):=rfl
 obtain ⟨l,hl⟩:∃ l,l=signs s.data.toList:=⟨_,rfl⟩
 rw [← hl] at hown hsl hft
 have HFT:=Lib.hid hft
 clear hl hft
 by_cases h0:0<l.length
 ·obtain ⟨g,cap,rfl,hg0,hglt⟩:=hown.form h0
  go_wp2
  go_loopw [4] (fun i wr=>RefFoldRel w l g cap i wr) (fun i _=>l.length-(intOf i).toNat)
  case atStart=>exact ⟨0,Nat.zero_le _,rfl,by rw [halfFolded_zero];exact hown,hb1⟩
  case round=>
   obtain ⟨k,hk,rfl,hownr,hbw⟩:=hrel
   by_cases hlt:k<l.length
   ·have hat:=halfFolded_at hlt
    have hset:=halfFolded_set hlt
    obtain ⟨x,hx⟩:∃ x,x=l[k]:=⟨_,rfl⟩
    rw [← hx] at hat hset
    clear hx
    have hc1:wr.cell? ⟨g,k,none⟩=some (.int .i64 x):=by
     rw [hownr.cellAt k (by omega),ints,List.getElem?_map,hat]
     rfl
    have hfz:wr.frozen? ⟨g,k,none⟩=false:=hownr.frozenAt k
    obtain ⟨hown2,hgr⟩:=hownr.stored k (.int .i64 (fold x))
    rw [hset] at hown2
    have HO:=Lib.hid hown2
    have HG:=Lib.hid hgr
    have hHB:Below w.heap.size w (wr.setCell ⟨g,k,none⟩ (.int .i64 (fold x))):=hbw.setCell (by simpa using hg0) _
    clear hat hset hown2 hgr hownr
    go_wp2_with (go_at_call 122;refine (ref_Fold _ _).mono ?_)
    rintro e w' ⟨rfl,rfl⟩
    go_wp2
    go_roundw
    case rel=>exact ⟨k+1,by omega,by go_num,HO.out,hHB⟩
    case measure=>simp [intOf];omega
   ·have hkl:k=l.length:=by omega
    subst hkl
    rw [halfFolded_all] at hownr
    obtain ⟨A2,c2,he,_,hrow⟩:=owned_row hownr
    have hA2:A2=some ⟨g,0,none⟩:=by injection he with h1 h2 h3;exact h1.symm
    rw [hA2] at hrow
    clear he hA2 hownr
    go_wp2_with (go_at_call 123;refine (ref_Text_at _ _ _ (l.map fold) _ (by simp) hrow (by omega)).mono ?_)
    rintro e w2 ⟨rfl,hb2⟩
    go_wp2
    go_ret
    rw [HFT.out]
    exact ⟨rfl,hbw.trans (hb2.mono hbw.size)⟩
 ·have hnil:l=[]:=List.eq_nil_of_length_eq_zero (by omega)
  subst hnil
  obtain ⟨A2,c2,rfl,_,hrow⟩:=owned_row hown
  go_wp2
  refine wp_loop_rounds 1 ?_
  rw [rounds_succ]
  go_wp2_with (go_at_call 123;refine (ref_Text_at _ _ _ [] _ rfl .nil (by omega)).mono ?_)
  rintro e w2 ⟨rfl,hb2⟩
  go_wp2
  go_ret
  rw [HFT.out]
  exact ⟨rfl,hb1.trans (hb2.mono hb1.size)⟩
end Go.Proofs.YtldcadpemnpbmaaGreatDoor
