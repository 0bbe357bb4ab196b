import Derived.Test.YtmoomnpbiifedaaGreatMAZz
import Derived.Test.YtmoomnpbiifedaaGreatMAQ13
import Derived.Laws.Small
import Derived.Test.YtmoomnpbiifedaaGreatMAQ12
set_option linter.unusedVariables false
namespace Go.Proofs.YtmoomnpbiifedaaGreat
open Go Go.RowKit
theorem ext_ten (x:Nm) (m:Nat) (hm:m=min x.length 10):(⟨x.toArray⟩:ByteArray).extract 0 m=⟨(x.take 10).toArray⟩:=by
 apply ByteArray.ext
 subst hm
 simp
 rcases Nat.le_total x.length 10 with h|h
 ·omega
 ·omega
def fewP (x:PartsP):PartsP:=⟨x.ids.take 10,x.seqs.take 10,(x.keys.take 10).map fun k:Nm=>k.take 10,(x.lists.take 10).map fun l:List Pn=>l.take 10⟩
def FewRel1 (P base:Nat) (V:Array Value) (v1 v2:Value) (x:PartsP) (w:World) (i:Value) (wr:World):Prop:=∃ (k:Nat) (v3:Value),k≤x.keys.length∧k≤10∧i= .int .i64 (k:Int)∧wr.heap[w.heap.size]?=some (.cells V 26 (0,0))∧wr.heap[w.heap.size+1]?=some (.cells zeroP 26 (0,0))∧
 GatK 26 w.heap.size base P v1 v2 v3 (.slice none 0 0) ((x.keys.take k).map fun k:Nm=>k.take 10) [] wr∧Below w.heap.size w wr
def FewRel2 (P base:Nat) (V:Array Value) (v1 v2 v3:Value) (x:PartsP) (w:World) (i:Value) (wr:World):Prop:=∃ (k:Nat) (v4:Value),k≤x.lists.length∧k≤10∧i= .int .i64 (k:Int)∧wr.heap[w.heap.size]?=some (.cells V 26 (0,0))∧wr.heap[w.heap.size+1]?=some (.cells zeroP 26 (0,0))∧
 GatK 26 w.heap.size base P v1 v2 v3 v4 ((x.keys.take 10).map fun k:Nm=>k.take 10) ((x.lists.take k).map fun l:List Pn=>l.take 10) wr∧Below w.heap.size w wr
set_option maxHeartbeats 16000000 in
set_option maxRecDepth 100000 in
theorem law10_few (A1 A2 A3 A4:Option Addr) (n1 c1 n2 c2 n3 c3 n4 c4:Nat) (x:PartsP) (w:World)
  (hx1:x.ids.length=n1) (hx2:x.seqs.length=n2) (hx3:x.keys.length=n3) (hx4:x.lists.length=n4) (hx:PAt w w.heap.size A1 A2 A3 A4 x) (l1:n1≤c1∧c1≤maxLen) (l2:n2≤c2∧c2≤maxLen) (l3:n3≤c3∧c3≤maxLen) (l4:n4≤c4∧c4≤maxLen) (hkl:∀ k∈x.keys,k.length≤maxLen):
  Calls Tryz.prog 7 #[.agg #[.slice A1 n1 c1,.slice A2 n2 c2,.slice A3 n3 c3,.slice A4 n4 c4]] w (GaveParts (fewP x) w):=by
 obtain ⟨i0,hi0,hz0,hz1,hz2⟩:=info_parts info_string
 obtain ⟨j0,hj0,hj1,hj2,hj3⟩:=info_parts info_lists
 obtain ⟨V,hV⟩:∃ V:Array Value,V=#[.slice A1 n1 c1,.slice A2 n2 c2,.slice A3 n3 c3,.slice A4 n4 c4]:=⟨_,rfl⟩
 unfold maxLen at l1 l2 l3 l4
 have HX:=Lib.hid hx
 have HX1:=Lib.hid hx1
 have HX2:=Lib.hid hx2
 have HX3:=Lib.hid hx3
 have HX4:=Lib.hid hx4
 have HKL:=Lib.hid hkl
 have L1:=Lib.hid l1
 have L2:=Lib.hid l2
 have HV:=Lib.hid hV
 obtain ⟨m1,hm1⟩:∃ m:Nat,m=min n1 10:=⟨_,rfl⟩
 obtain ⟨m2,hm2⟩:∃ m:Nat,m=min n2 10:=⟨_,rfl⟩
 have hmn1:∀ (w:World) (ts:Array TypeId) (ty:TypeId),(Builtin.min_ ts ty #[.int .i64 n1,.int .i64 10]).run Tryz.prog w= .ok (.int .i64 (m1:Int)) w:=fun w ts ty=>by rw [run_min_int2,hm1];congr 2;split<;>omega
 have hmn2:∀ (w:World) (ts:Array TypeId) (ty:TypeId),(Builtin.min_ ts ty #[.int .i64 n2,.int .i64 10]).run Tryz.prog w= .ok (.int .i64 (m2:Int)) w:=fun w ts ty=>by rw [run_min_int2,hm2];congr 2;split<;>omega
 have hb1:m1≤c1:=by omega
 have hb2:m2≤c2:=by omega
 obtain ⟨l1a,l1b⟩:=l1
 obtain ⟨l2a,l2b⟩:=l2
 have HM1:=Lib.hid hm1
 have HM2:=Lib.hid hm2
 clear hx hx1 hx2 hx3 hx4 hkl hm1 hm2
 go_enter Tryz.func7,Tryz.ntmps7
 obtain ⟨P,hP⟩:∃ P,P=w.heap.size+1+1:=⟨_,rfl⟩
 have HP:=Lib.hid hP
 have HST:Hid (FewRel1 P (P+1) V (.slice A1 m1 c1) (.slice A2 m2 c2) x w (.int .i64 ((0:Nat):Int)) (((w.alloc (.cells #[.slice A1 n1 c1,.slice A2 n2 c2,.slice A3 n3 c3,.slice A4 n4 c4] 26)).alloc (.cells zeroP 26)).alloc (.cells #[.slice A1 m1 c1,.slice A2 m2 c2,.slice none 0 0,.slice none 0 0] 26))):=Lib.hid (by
  refine ⟨0,.slice none 0 0,Nat.zero_le _,Nat.zero_le _,rfl,?_,?_,⟨?_,by omega,by omega,by simp;omega,World.ownsRow_nil _ _ _ _,[],World.ownsRow_nil _ _ _ _,LG.nil⟩,(((Below.refl _ w).alloc (Nat.le_refl _) _).alloc (by simp) _).alloc (by simp;omega) _⟩
  ·rw [Below.heap_alloc _ _ _ (by simp;omega),Below.heap_alloc _ _ _ (by simp),HV.out]
   exact heap_alloc_new w _
  ·rw [Below.heap_alloc _ _ _ (by simp)]
   simpa using heap_alloc_new (w.alloc (.cells #[.slice A1 n1 c1,.slice A2 n2 c2,.slice A3 n3 c3,.slice A4 n4 c4] 26)) (.cells zeroP 26)
  ·rw [hP]
   simpa using heap_alloc_new ((w.alloc (.cells #[.slice A1 n1 c1,.slice A2 n2 c2,.slice A3 n3 c3,.slice A4 n4 c4] 26)).alloc (.cells zeroP 26)) (.cells #[.slice A1 m1 c1,.slice A2 m2 c2,.slice none 0 0,.slice none 0 0] 26))
 have hT:¬ PoK 26:=by unfold PoK;decide
 have HT:=Lib.hid hT
 have hRP:w.heap.size≠P∧w.heap.size+1≠P:=by omega
 have HRP:=Lib.hid hRP
 clear hT hRP hV
 go_wp2
 rw [← hP]
 clear hP hmn1 hmn2
 go_loopw [4] (fun i wr=>FewRel1 P (P+1) V (.slice A1 m1 c1) (.slice A2 m2 c2) x w i wr) (fun i _=>10-(intOf i).toNat)
 case atStart=>exact HST.out
 case round=>
  clear HST
  obtain ⟨k,v3,hk,hk10,rfl,hbx,hR,hgk,hbw⟩:=hrel
  rw [HV.out] at hbx
  have q2:=(cells4 hbx).2.2.1
  rw [HX3.out] at hk
  by_cases hlt:k<n3∧k<10
  ·obtain ⟨hkn,h10⟩:=hlt
   have hkl:k<x.keys.length:=by rw [HX3.out];exact hkn
   obtain ⟨b1,o1,rfl,hb1,hc1⟩:=row_nm HX.out.keys hkl
   have hkm:=HKL.out _ (List.getElem_mem hkl)
   have hsn:(x.keys.take (k+1)).map (fun k:Nm=>k.take 10)=(x.keys.take k).map (fun k:Nm=>k.take 10)++[x.keys[k].take 10]:=by rw [List.take_succ_eq_append_getElem hkl,List.map_append];rfl
   obtain ⟨nm,hnm⟩:∃ nm,nm=x.keys[k]:=⟨_,rfl⟩
   rw [← hnm] at hc1 hsn hkm
   obtain ⟨t,ht⟩:∃ t:ByteArray,t=⟨nm.toArray⟩:=⟨_,rfl⟩
   rw [← ht] at hc1
   have hts:t.size=nm.length:=by rw [ht];exact size_nm nm
   obtain ⟨y,hy⟩:∃ y:ByteArray,y=⟨(nm.take 10).toArray⟩:=⟨_,rfl⟩
   obtain ⟨mm,hmm⟩:∃ mm:Nat,mm=min t.size 10:=⟨_,rfl⟩
   have hmn:∀ (w:World) (ts:Array TypeId) (ty:TypeId),(Builtin.min_ ts ty #[.int .i64 t.size,.int .i64 10]).run Tryz.prog w= .ok (.int .i64 (mm:Int)) w:=fun w ts ty=>by rw [run_min_int2,hmm];congr 2;split<;>omega
   have hex:t.extract 0 mm=y:=by rw [ht,hy];exact ext_ten nm mm (by rw [hmm,hts])
   have hmle:mm≤t.size:=by omega
   unfold maxLen at hkm
   have hm63:t.size≤9223372036854775807:=by omega
   have hlen3:((x.keys.take k).map fun k:Nm=>k.take 10).length=k:=by rw [List.length_map,List.length_take];omega
   obtain ⟨W1,hW1⟩:∃ W1,W1=(wr.alloc (.cells #[.string y] 9)).drew:=⟨_,rfl⟩
   have hal:Below wr.heap.size wr W1:=by rw [hW1];exact ((Below.refl _ wr).alloc (Nat.le_refl _) _).drew
   have hg1:=hgk.below hal
   have ho1:=hg1.keys
   rw [hlen3] at ho1
   obtain ⟨g,cap,w7,hrun,hown7,hgr7, -, -⟩:=run_append_lies (P:=Tryz.prog) W1 23 23 (P+1) 9 i0 _ 1 16 Tryz.underlying23 hi0 hz0 hz1 hz2 rfl (by omega) v3 k (strs ((x.keys.take k).map fun k:Nm=>k.take 10)) ho1 ⟨wr.heap.size,0,none⟩ 1 1 [.string y] rfl (by rw [hW1];exact news_at wr [.string y] 9) (by intro u hu;simp at hu;subst hu;rfl) (by omega) (by unfold maxLen;omega) (by omega) hg1.size W1.heap.size rfl
   obtain ⟨hP7,hg8,hb8, -,ho8⟩:=hg1.key HT.out (by decide) (by decide) (k:=nm.take 10) (by rw [hlen3,← hy];exact hown7) hgr7
   obtain ⟨w8,hw8⟩:∃ w8,w8=w7.setCell ⟨P,2,none⟩ (.slice (some ⟨g,0,none⟩) (k+1) cap):=⟨_,rfl⟩
   rw [← hw8] at hg8 hb8 ho8
   have hbx1:=(hal.block _ (Array.getElem?_eq_some_iff.1 hbx).1).trans hbx
   have hR1:=(hal.block _ (Array.getElem?_eq_some_iff.1 hR).1).trans hR
   have hbx8:=ho8 _ _ _ _ HRP.out.1 hbx1 (by decide)
   have hR8:=ho8 _ _ _ _ HRP.out.2 hR1 (by decide)
   have hbw8:Below w.heap.size w w8:=hbw.trans ((hal.mono hbw.size).trans hb8)
   have hbw7:Below w.heap.size w w7:=(hbw.trans (hal.mono hbw.size)).grown hgr7 (by have :=hbw.size;have :=hal.size;omega) fun q hq=>by have :=(ho1.lt q hq).1;have :=HP.out;omega
   have hbx7:w7.heap[w.heap.size]?=_:=(hgr7.block _ (Array.getElem?_eq_some_iff.1 hbx1).1 (fun e=>by have :=(ho1.lt _ e.symm).1;have :=HP.out;omega)).trans hbx1
   have hrel:FewRel1 P (P+1) V (.slice A1 m1 c1) (.slice A2 m2 c2) x w (.int .i64 ((k:Int)+1)) w8:=⟨k+1,.slice (some ⟨g,0,none⟩) (k+1) cap,by rw [HX3.out];omega,by omega,by go_num,by rw [HV.out];exact hbx8,hR8,by rw [hsn];exact hg8,hbw8⟩
   have HREL:=Lib.hid hrel
   have HSC:Hid (∀ wx,Below w.heap.size w wx→wx.heap[w.heap.size]?=some (.cells #[.slice A1 n1 c1,.slice A2 n2 c2,.slice (some ⟨b1,o1,none⟩) n3 c3,.slice A4 n4 c4] 26 (0,0))→wx.cell? ⟨w.heap.size,2,none⟩=some (.slice (some ⟨b1,o1,none⟩) n3 c3)∧wx.cell? ⟨b1,o1+k,none⟩=some (.string t)):=Lib.hid fun wx h1 h2=>⟨(cells4 h2).2.2.1,(h1.cell (p:=⟨b1,_,none⟩) hb1).trans hc1⟩
   have HS0:=Lib.hid (HSC.out wr.drew hbw.drew hbx)
   have HS1:=Lib.hid (HSC.out W1 (hbw.trans (hal.mono hbw.size)) hbx1)
   have HS7:=Lib.hid (HSC.out w7 hbw7 hbx7)
   have HS8:=Lib.hid (HSC.out w8 hbw8 hbx8)
   have HL0:Hid (wr.drew.cell? ⟨P,2,none⟩=some v3):=Lib.hid (four10 hgk.cells).1.2.2.1
   have HLA:Hid (W1.cell? ⟨P,2,none⟩=some v3):=Lib.hid (four10 hg1.cells).1.2.2.1
   have HRUN1:=Lib.hid hrun
   have F7:=Lib.hid (And.intro (four10 hP7).1.2.2.1 (four10 hP7).2.2.2.1)
   rw [hW1] at HRUN1 HLA HS1
   rw [hw8] at HS8 HREL
   have d1:decide ((k:Int)<10)=true:=decide_eq_true (by omega)
   have k0:(0:Int)≤k:=by omega
   have k1:(k:Int)<n3:=by omega
   clear hbx hR hgk hbw hkl hb1 hc1 hkm hsn hnm ht hts hy hmm hlen3 hW1 hal hg1 ho1 hrun hown7 hgr7 hP7 hg8 hb8 ho8 hw8 hbx1 hR1 hbx8 hR8 hbw8 hbw7 hbx7 hrel HSC
   go_upto_region 7 with fail
   refine wp_region_noPanic ?_
   refine wp_region_held_drew (S:=fun wx=>wx.cell? ⟨w.heap.size,2,none⟩=some (.slice (some ⟨b1,o1,none⟩) n3 c3)∧wx.cell? ⟨b1,o1+k,none⟩=some (.string t)) (by kernel_rfl) HS0.out (fun hHeld=> ?_)
   refine wpAnyH_take (i:=0) (v:= .pointer (some ⟨P,2,none⟩)) rfl (by kernel_rfl) (by kernel_rfl) (by kernel_rfl) (fun _ _ _ h=>h) (Or.inl ⟨by rfl,fun wx hSw=>by obtain ⟨s1,s2⟩:=hSw;go_simp⟩) (by assumption) ?_
   try simp only [Act.put,zA,zB,zD,zE,zF]
   refine wpAnyH_take (i:=2) (v:= .pointer (some ⟨w.heap.size,2,none⟩)) rfl (by kernel_rfl) (by kernel_rfl) (by kernel_rfl) (fun _ _ _ h=>h) (Or.inl ⟨by rfl,fun wx hSw=>by obtain ⟨s1,s2⟩:=hSw;go_simp⟩) (by assumption) ?_
   try simp only [Act.put,zA,zB,zC,zD,zE,zF]
   refine wpAnyH_take (i:=3) (v:= .slice (some ⟨b1,o1,none⟩) n3 c3) rfl (by kernel_rfl) (by kernel_rfl) (by kernel_rfl) (fun _ _ _ h=>h) (Or.inl ⟨by rfl,fun wx hSw=>by obtain ⟨s1,s2⟩:=hSw;go_simp⟩) (by assumption) ?_
   try simp only [Act.put,zA,zB,zC,zD,zE,zF]
   refine wpAnyH_take (i:=4) (v:= .int .i64 (k:Int)) rfl (by kernel_rfl) (by kernel_rfl) (by kernel_rfl) (fun _ _ _ h=>h) (Or.inl ⟨by rfl,fun wx hSw=>by obtain ⟨s1,s2⟩:=hSw;go_simp⟩) (by assumption) ?_
   try simp only [Act.put,zA,zB,zC,zD,zE,zF]
   refine wpAnyH_take (i:=5) (v:= .pointer (some ⟨b1,o1+k,none⟩)) rfl (by kernel_rfl) (by kernel_rfl) (by kernel_rfl) (fun _ _ _ h=>h) (Or.inl ⟨by rfl,fun wx hSw=>by obtain ⟨s1,s2⟩:=hSw;go_simp⟩) (by assumption) ?_
   try simp only [Act.put,zA,zB,zC,zD,zE,zF]
   refine wpAnyH_take (i:=6) (v:= .string t) rfl (by kernel_rfl) (by kernel_rfl) (by kernel_rfl) (fun _ _ _ h=>h) (Or.inl ⟨by rfl,fun wx hSw=>by obtain ⟨s1,s2⟩:=hSw;go_simp⟩) (by assumption) ?_
   try simp only [Act.put,zA,zB,zC,zD,zE,zF]
   refine wpAnyH_take (i:=7) (v:= .pointer (some ⟨w.heap.size,2,none⟩)) rfl (by kernel_rfl) (by kernel_rfl) (by kernel_rfl) (fun _ _ _ h=>h) (Or.inl ⟨by rfl,fun wx hSw=>by obtain ⟨s1,s2⟩:=hSw;go_simp⟩) (by assumption) ?_
   try simp only [Act.put,zA,zB,zC,zD,zE,zF]
   refine wpAnyH_take (i:=8) (v:= .slice (some ⟨b1,o1,none⟩) n3 c3) rfl (by kernel_rfl) (by kernel_rfl) (by kernel_rfl) (fun _ _ _ h=>h) (Or.inl ⟨by rfl,fun wx hSw=>by obtain ⟨s1,s2⟩:=hSw;go_simp⟩) (by assumption) ?_
   try simp only [Act.put,zA,zB,zC,zD,zE,zF]
   refine wpAnyH_take (i:=9) (v:= .int .i64 (k:Int)) rfl (by kernel_rfl) (by kernel_rfl) (by kernel_rfl) (fun _ _ _ h=>h) (Or.inl ⟨by rfl,fun wx hSw=>by obtain ⟨s1,s2⟩:=hSw;go_simp⟩) (by assumption) ?_
   try simp only [Act.put,zA,zB,zC,zD,zE,zF]
   refine wpAnyH_take (i:=10) (v:= .pointer (some ⟨b1,o1+k,none⟩)) rfl (by kernel_rfl) (by kernel_rfl) (by kernel_rfl) (fun _ _ _ h=>h) (Or.inl ⟨by rfl,fun wx hSw=>by obtain ⟨s1,s2⟩:=hSw;go_simp⟩) (by assumption) ?_
   try simp only [Act.put,zA,zB,zC,zD,zE,zF]
   refine wpAnyH_take (i:=11) (v:= .string t) rfl (by kernel_rfl) (by kernel_rfl) (by kernel_rfl) (fun _ _ _ h=>h) (Or.inl ⟨by rfl,fun wx hSw=>by obtain ⟨s1,s2⟩:=hSw;go_simp⟩) (by assumption) ?_
   try simp only [Act.put,zA,zB,zC,zD,zE,zF]
   refine wpAnyH_take (i:=12) (v:= .int .i64 (t.size:Int)) rfl (by kernel_rfl) (by kernel_rfl) (by kernel_rfl) (fun _ _ _ h=>h) (Or.inl ⟨by rfl,fun wx hSw=>by obtain ⟨s1,s2⟩:=hSw;go_simp⟩) (by assumption) ?_
   try simp only [Act.put,zA,zB,zC,zD,zE,zF]
   refine wpAnyH_take (i:=13) (v:= .int .i64 (mm:Int)) rfl (by kernel_rfl) (by kernel_rfl) (by kernel_rfl) (fun _ _ _ h=>h) (Or.inl ⟨by rfl,fun wx hSw=>by obtain ⟨s1,s2⟩:=hSw;go_simp⟩) (by assumption) ?_
   try simp only [Act.put,zA,zB,zC,zD,zE,zF]
   refine wpAnyH_take (i:=14) (v:= .string y) rfl (by kernel_rfl) (by kernel_rfl) (by kernel_rfl) (fun _ _ _ h=>h) (Or.inl ⟨by rfl,fun wx hSw=>by obtain ⟨s1,s2⟩:=hSw;go_simp⟩) (by assumption) ?_
   try simp only [Act.put,zA,zB,zC,zD,zE,zF]
   refine wpAnyH_ready (rs:=[1,15]) (by kernel_rfl) (by simp) ?_
   refine (AllReadyH.cons rfl (fun K hK=> ?_) (AllReadyH.cons rfl (fun K hK=> ?_) AllReadyH.nil))
   ·try simp only [zA,zB,zC]
    have hl:=HL0.out
    go_simp
    refine hK.out _ _ ?_ (fun hHeld=> ?_)
    ·exact HS0.out
    clear hK K
    try simp only [Act.put,zA,zB,zC,zD,zE,zF]
    refine wpAnyH_ready (rs:=[15]) (by kernel_rfl) (by simp) ?_
    refine (AllReadyH.cons rfl (fun K hK=> ?_) AllReadyH.nil)
    ·try simp only [zA,zB,zC]
     go_simp
     refine hK.out _ _ ?_ (fun hHeld=> ?_)
     ·exact HS1.out
     clear hK K
     try simp only [Act.put,zA,zB,zC,zD,zE,zF]
     refine wpAnyH_ready (rs:=[16]) (by kernel_rfl) (by simp) ?_
     refine (AllReadyH.cons rfl (fun K hK=> ?_) AllReadyH.nil)
     ·try simp only [zA,zB,zC]
      refine step_append_known (a:=⟨_,_⟩) ?_ (.tmp 34) (.tmp 48) 23 ?_ v3 (.slice (some ⟨wr.heap.size,0,none⟩) 1 1) ?_ ?_ (.slice (some ⟨g,0,none⟩) (k+1) cap) w7 ?_ ?_
      ·rfl
      ·rfl
      ·rfl
      ·rfl
      ·exact HRUN1.out
      refine hK.out _ _ ?_ (fun hHeld=> ?_)
      ·exact HS7.out
      clear hK K
      try simp only [Act.put,zD,zE,zF]
      refine wpAnyH_take (i:=17) (v:= .pointer (some ⟨P,2,none⟩)) rfl (by kernel_rfl) (by kernel_rfl) (by kernel_rfl) (fun _ _ _ h=>h) (Or.inl ⟨by rfl,fun wx hSw=>by obtain ⟨s1,s2⟩:=hSw;go_simp⟩) (by assumption) ?_
      try simp only [Act.put,zA,zB,zC,zD,zE,zF]
      refine wpAnyH_ready (rs:=[18]) (by kernel_rfl) (by simp) ?_
      refine (AllReadyH.cons rfl (fun K hK=> ?_) AllReadyH.nil)
      ·try simp only [zA,zB,zC]
       obtain ⟨f7,f8⟩:=F7.out
       go_simp
       refine hK.out _ _ ?_ (fun hHeld=> ?_)
       ·exact HS8.out
       clear hK K
       try simp only [Act.put,zA,zB,zC,zD,zE,zF]
       refine wpAnyH_done (by kernel_rfl) ?_ _
       refine NoPanic.normal ?_
       go_wp2
       go_roundw
       case rel=>exact HREL.out
       case measure=>simp [intOf];omega
   ·try simp only [zA,zB,zC]
    go_simp
    refine hK.out _ _ ?_ (fun hHeld=> ?_)
    ·exact HS1.out
    clear hK K
    try simp only [Act.put,zA,zB,zC,zD,zE,zF]
    refine wpAnyH_ready (rs:=[1]) (by kernel_rfl) (by simp) ?_
    refine (AllReadyH.cons rfl (fun K hK=> ?_) AllReadyH.nil)
    ·try simp only [zA,zB,zC]
     have hl:=HLA.out
     go_simp
     refine hK.out _ _ ?_ (fun hHeld=> ?_)
     ·exact HS1.out
     clear hK K
     try simp only [Act.put,zA,zB,zC,zD,zE,zF]
     refine wpAnyH_ready (rs:=[16]) (by kernel_rfl) (by simp) ?_
     refine (AllReadyH.cons rfl (fun K hK=> ?_) AllReadyH.nil)
     ·try simp only [zA,zB,zC]
      refine step_append_known (a:=⟨_,_⟩) ?_ (.tmp 34) (.tmp 48) 23 ?_ v3 (.slice (some ⟨wr.heap.size,0,none⟩) 1 1) ?_ ?_ (.slice (some ⟨g,0,none⟩) (k+1) cap) w7 ?_ ?_
      ·rfl
      ·rfl
      ·rfl
      ·rfl
      ·exact HRUN1.out
      refine hK.out _ _ ?_ (fun hHeld=> ?_)
      ·exact HS7.out
      clear hK K
      try simp only [Act.put,zD,zE,zF]
      refine wpAnyH_take (i:=17) (v:= .pointer (some ⟨P,2,none⟩)) rfl (by kernel_rfl) (by kernel_rfl) (by kernel_rfl) (fun _ _ _ h=>h) (Or.inl ⟨by rfl,fun wx hSw=>by obtain ⟨s1,s2⟩:=hSw;go_simp⟩) (by assumption) ?_
      try simp only [Act.put,zA,zB,zC,zD,zE,zF]
      refine wpAnyH_ready (rs:=[18]) (by kernel_rfl) (by simp) ?_
      refine (AllReadyH.cons rfl (fun K hK=> ?_) AllReadyH.nil)
      ·try simp only [zA,zB,zC]
       obtain ⟨f7,f8⟩:=F7.out
       go_simp
       refine hK.out _ _ ?_ (fun hHeld=> ?_)
       ·exact HS8.out
       clear hK K
       try simp only [Act.put,zA,zB,zC,zD,zE,zF]
       refine wpAnyH_done (by kernel_rfl) ?_ _
       refine NoPanic.normal ?_
       go_wp2
       go_roundw
       case rel=>exact HREL.out
       case measure=>simp [intOf];omega
  ·have e:x.keys.take k=x.keys.take 10:=by
    by_cases h:k=10
    ·rw [h]
    ·rw [List.take_of_length_le (by rw [HX3.out];omega),List.take_of_length_le (by rw [HX3.out];omega)]
   rw [e] at hgk
   have hST2:FewRel2 P (P+1) V (.slice A1 m1 c1) (.slice A2 m2 c2) v3 x w (.int .i64 ((0:Nat):Int)) wr:=⟨0,.slice none 0 0,Nat.zero_le _,Nat.zero_le _,rfl,by rw [HV.out];exact hbx,hR,hgk,hbw⟩
   have HST2:=Lib.hid hST2
   have hsp:(k<n3∧¬ k<10)∨¬ k<n3:=by omega
   clear e hlt hk hST2 hgk hbw hbx hR
   rcases hsp with ⟨h1,h2⟩|h1
   ·have d1:decide ((k:Int)<10)=false:=decide_eq_false (by omega)
    go_wp2
    clear q2 h1 h2 d1 hk10
    obtain ⟨wo,rfl⟩:∃ wo,wo=wr:=⟨_,rfl⟩
    go_loopw [5] (fun i wr=>FewRel2 P (P+1) V (.slice A1 m1 c1) (.slice A2 m2 c2) v3 x w i wr) (fun i _=>10-(intOf i).toNat)
    case atStart=>exact HST2.out
    case round=>
     obtain ⟨j,v4,hj,hj10,rfl,hbx,hR,hgk,hbw⟩:=hrel
     rw [HV.out] at hbx
     have q2:=(cells4 hbx).2.2.2
     rw [HX4.out] at hj
     by_cases hlt:j<n4∧j<10
     ·obtain ⟨hjn,h10⟩:=hlt
      have hjl:j<x.lists.length:=by rw [HX4.out];exact hjn
      obtain ⟨b1,o1,A',c',rfl,hb1,hc1,hlc,hpo⟩:=HX.out.lists.at_ hjl
      have hsn:(x.lists.take (j+1)).map (fun l:List Pn=>l.take 10)=(x.lists.take j).map (fun l:List Pn=>l.take 10)++[x.lists[j].take 10]:=by rw [List.take_succ_eq_append_getElem hjl,List.map_append];rfl
      obtain ⟨L,hL⟩:∃ L,L=x.lists[j]:=⟨_,rfl⟩
      rw [← hL] at hc1 hlc hpo hsn
      obtain ⟨m,hm⟩:∃ m,m=L.length:=⟨_,rfl⟩
      rw [← hm] at hc1 hlc
      obtain ⟨mm,hmm⟩:∃ mm:Nat,mm=min m 10:=⟨_,rfl⟩
      have hmn:∀ (w:World) (ts:Array TypeId) (ty:TypeId),(Builtin.min_ ts ty #[.int .i64 m,.int .i64 10]).run Tryz.prog w= .ok (.int .i64 (mm:Int)) w:=fun w ts ty=>by rw [run_min_int2,hmm];congr 2;split<;>omega
      have hml:(L.take 10).length=mm:=by rw [List.length_take,hmm,hm];omega
      have hmc:mm≤c':=by omega
      have hcx:=hlc.2
      unfold maxLen at hcx
      have hlen4:((x.lists.take j).map fun l:List Pn=>l.take 10).length=j:=by rw [List.length_map,List.length_take];omega
      obtain ⟨W1,hW1⟩:∃ W1,W1=(wr.alloc (.cells #[.slice A' mm c'] 58)).drew:=⟨_,rfl⟩
      have hal:Below wr.heap.size wr W1:=by rw [hW1];exact ((Below.refl _ wr).alloc (Nat.le_refl _) _).drew
      have hg1:=hgk.below hal
      obtain ⟨cs4,ho1,hlg⟩:=hg1.lists
      have hoo:=ho1
      rw [hlen4] at ho1
      have hbw1:Below w.heap.size w W1:=hbw.trans (hal.mono hbw.size)
      have hpg:PostsG w.heap.size W1 A' (L.take 10):=PostsG.of_old ((hpo.below hbw1).cut 10) hbw1.size
      obtain ⟨g,cap,w7,hrun,hown7,hgr7, -, -⟩:=run_append_lies (P:=Tryz.prog) W1 24 24 (P+1) 58 j0 _ 1 24 Tryz.underlying24 hj0 hj1 hj2 hj3 rfl (by omega) v4 j cs4 ho1 ⟨wr.heap.size,0,none⟩ 1 1 [.slice A' mm c'] rfl (by rw [hW1];exact news_at wr [.slice A' mm c'] 58) (by intro u hu;simp at hu;subst hu;rfl) (by omega) (by unfold maxLen;omega) (by omega) hg1.size W1.heap.size rfl
      obtain ⟨hP7,hg8,hb8, -,ho8⟩:=hg1.list HT.out (by decide) (by decide) (l:=L.take 10) (by rw [hml];exact ⟨hmc,hlc.2⟩) hpg hoo hlg (by rw [hlen4,hml];exact hown7) hgr7
      obtain ⟨w8,hw8⟩:∃ w8,w8=w7.setCell ⟨P,3,none⟩ (.slice (some ⟨g,0,none⟩) (j+1) cap):=⟨_,rfl⟩
      rw [← hw8] at hg8 hb8 ho8
      have hbx1:=(hal.block _ (Array.getElem?_eq_some_iff.1 hbx).1).trans hbx
      have hR1:=(hal.block _ (Array.getElem?_eq_some_iff.1 hR).1).trans hR
      have hbx8:=ho8 _ _ _ _ HRP.out.1 hbx1 (by decide)
      have hR8:=ho8 _ _ _ _ HRP.out.2 hR1 (by decide)
      have hbw8:Below w.heap.size w w8:=hbw1.trans hb8
      have hbw7:Below w.heap.size w w7:=hbw1.grown hgr7 hbw1.size fun q hq=>by have :=(ho1.lt q hq).1;have :=HP.out;omega
      have hbx7:w7.heap[w.heap.size]?=_:=(hgr7.block _ (Array.getElem?_eq_some_iff.1 hbx1).1 (fun e=>by have :=(ho1.lt _ e.symm).1;have :=HP.out;omega)).trans hbx1
      have hrel:FewRel2 P (P+1) V (.slice A1 m1 c1) (.slice A2 m2 c2) v3 x w (.int .i64 ((j:Int)+1)) w8:=⟨j+1,.slice (some ⟨g,0,none⟩) (j+1) cap,by rw [HX4.out];omega,by omega,by go_num,by rw [HV.out];exact hbx8,hR8,by rw [hsn];exact hg8,hbw8⟩
      have HREL:=Lib.hid hrel
      have HSC:Hid (∀ wx,Below w.heap.size w wx→wx.heap[w.heap.size]?=some (.cells #[.slice A1 n1 c1,.slice A2 n2 c2,.slice A3 n3 c3,.slice (some ⟨b1,o1,none⟩) n4 c4] 26 (0,0))→wx.cell? ⟨w.heap.size,3,none⟩=some (.slice (some ⟨b1,o1,none⟩) n4 c4)∧wx.cell? ⟨b1,o1+j,none⟩=some (.slice A' m c')):=Lib.hid fun wx h1 h2=>⟨(cells4 h2).2.2.2,(h1.cell (p:=⟨b1,_,none⟩) hb1).trans hc1⟩
      have HS0:=Lib.hid (HSC.out wr.drew hbw.drew hbx)
      have HS1:=Lib.hid (HSC.out W1 hbw1 hbx1)
      have HS7:=Lib.hid (HSC.out w7 hbw7 hbx7)
      have HS8:=Lib.hid (HSC.out w8 hbw8 hbx8)
      have HL0:Hid (wr.drew.cell? ⟨P,3,none⟩=some v4):=Lib.hid (four10 hgk.cells).1.2.2.2
      have HLA:Hid (W1.cell? ⟨P,3,none⟩=some v4):=Lib.hid (four10 hg1.cells).1.2.2.2
      have HRUN1:=Lib.hid hrun
      have F7:=Lib.hid (And.intro (four10 hP7).1.2.2.2 (four10 hP7).2.2.2.2)
      rw [hW1] at HRUN1 HLA HS1
      rw [hw8] at HS8 HREL
      have d1:decide ((j:Int)<10)=true:=decide_eq_true (by omega)
      have k0:(0:Int)≤j:=by omega
      have k1:(j:Int)<n4:=by omega
      clear hbx hR hgk hbw hjl hb1 hc1 hlc hpo hsn hL hm hmm hml hlen4 hW1 hal hg1 ho1 hlg hoo hbw1 hpg hrun hown7 hgr7 hP7 hg8 hb8 ho8 hw8 hbx1 hR1 hbx8 hR8 hbw8 hbw7 hbx7 hrel HSC
      go_upto_region 11 with fail
      refine wp_region_noPanic ?_
      refine wp_region_held_drew (S:=fun wx=>wx.cell? ⟨w.heap.size,3,none⟩=some (.slice (some ⟨b1,o1,none⟩) n4 c4)∧wx.cell? ⟨b1,o1+j,none⟩=some (.slice A' m c')) (by kernel_rfl) HS0.out (fun hHeld=> ?_)
      refine wpAnyH_take (i:=0) (v:= .pointer (some ⟨P,3,none⟩)) rfl (by kernel_rfl) (by kernel_rfl) (by kernel_rfl) (fun _ _ _ h=>h) (Or.inl ⟨by rfl,fun wx hSw=>by obtain ⟨s1,s2⟩:=hSw;go_simp⟩) (by assumption) ?_
      try simp only [Act.put,zA,zB,zD,zE,zF]
      refine wpAnyH_take (i:=2) (v:= .pointer (some ⟨w.heap.size,3,none⟩)) rfl (by kernel_rfl) (by kernel_rfl) (by kernel_rfl) (fun _ _ _ h=>h) (Or.inl ⟨by rfl,fun wx hSw=>by obtain ⟨s1,s2⟩:=hSw;go_simp⟩) (by assumption) ?_
      try simp only [Act.put,zA,zB,zC,zD,zE,zF]
      refine wpAnyH_take (i:=3) (v:= .slice (some ⟨b1,o1,none⟩) n4 c4) rfl (by kernel_rfl) (by kernel_rfl) (by kernel_rfl) (fun _ _ _ h=>h) (Or.inl ⟨by rfl,fun wx hSw=>by obtain ⟨s1,s2⟩:=hSw;go_simp⟩) (by assumption) ?_
      try simp only [Act.put,zA,zB,zC,zD,zE,zF]
      refine wpAnyH_take (i:=4) (v:= .int .i64 (j:Int)) rfl (by kernel_rfl) (by kernel_rfl) (by kernel_rfl) (fun _ _ _ h=>h) (Or.inl ⟨by rfl,fun wx hSw=>by obtain ⟨s1,s2⟩:=hSw;go_simp⟩) (by assumption) ?_
      try simp only [Act.put,zA,zB,zC,zD,zE,zF]
      refine wpAnyH_take (i:=5) (v:= .pointer (some ⟨b1,o1+j,none⟩)) rfl (by kernel_rfl) (by kernel_rfl) (by kernel_rfl) (fun _ _ _ h=>h) (Or.inl ⟨by rfl,fun wx hSw=>by obtain ⟨s1,s2⟩:=hSw;go_simp⟩) (by assumption) ?_
      try simp only [Act.put,zA,zB,zC,zD,zE,zF]
      refine wpAnyH_take (i:=6) (v:= .slice A' m c') rfl (by kernel_rfl) (by kernel_rfl) (by kernel_rfl) (fun _ _ _ h=>h) (Or.inl ⟨by rfl,fun wx hSw=>by obtain ⟨s1,s2⟩:=hSw;go_simp⟩) (by assumption) ?_
      try simp only [Act.put,zA,zB,zC,zD,zE,zF]
      refine wpAnyH_take (i:=7) (v:= .pointer (some ⟨w.heap.size,3,none⟩)) rfl (by kernel_rfl) (by kernel_rfl) (by kernel_rfl) (fun _ _ _ h=>h) (Or.inl ⟨by rfl,fun wx hSw=>by obtain ⟨s1,s2⟩:=hSw;go_simp⟩) (by assumption) ?_
      try simp only [Act.put,zA,zB,zC,zD,zE,zF]
      refine wpAnyH_take (i:=8) (v:= .slice (some ⟨b1,o1,none⟩) n4 c4) rfl (by kernel_rfl) (by kernel_rfl) (by kernel_rfl) (fun _ _ _ h=>h) (Or.inl ⟨by rfl,fun wx hSw=>by obtain ⟨s1,s2⟩:=hSw;go_simp⟩) (by assumption) ?_
      try simp only [Act.put,zA,zB,zC,zD,zE,zF]
      refine wpAnyH_take (i:=9) (v:= .int .i64 (j:Int)) rfl (by kernel_rfl) (by kernel_rfl) (by kernel_rfl) (fun _ _ _ h=>h) (Or.inl ⟨by rfl,fun wx hSw=>by obtain ⟨s1,s2⟩:=hSw;go_simp⟩) (by assumption) ?_
      try simp only [Act.put,zA,zB,zC,zD,zE,zF]
      refine wpAnyH_take (i:=10) (v:= .pointer (some ⟨b1,o1+j,none⟩)) rfl (by kernel_rfl) (by kernel_rfl) (by kernel_rfl) (fun _ _ _ h=>h) (Or.inl ⟨by rfl,fun wx hSw=>by obtain ⟨s1,s2⟩:=hSw;go_simp⟩) (by assumption) ?_
      try simp only [Act.put,zA,zB,zC,zD,zE,zF]
      refine wpAnyH_take (i:=11) (v:= .slice A' m c') rfl (by kernel_rfl) (by kernel_rfl) (by kernel_rfl) (fun _ _ _ h=>h) (Or.inl ⟨by rfl,fun wx hSw=>by obtain ⟨s1,s2⟩:=hSw;go_simp⟩) (by assumption) ?_
      try simp only [Act.put,zA,zB,zC,zD,zE,zF]
      refine wpAnyH_take (i:=12) (v:= .int .i64 (m:Int)) rfl (by kernel_rfl) (by kernel_rfl) (by kernel_rfl) (fun _ _ _ h=>h) (Or.inl ⟨by rfl,fun wx hSw=>by obtain ⟨s1,s2⟩:=hSw;go_simp⟩) (by assumption) ?_
      try simp only [Act.put,zA,zB,zC,zD,zE,zF]
      refine wpAnyH_take (i:=13) (v:= .int .i64 (mm:Int)) rfl (by kernel_rfl) (by kernel_rfl) (by kernel_rfl) (fun _ _ _ h=>h) (Or.inl ⟨by rfl,fun wx hSw=>by obtain ⟨s1,s2⟩:=hSw;go_simp⟩) (by assumption) ?_
      try simp only [Act.put,zA,zB,zC,zD,zE,zF]
      refine wpAnyH_take (i:=14) (v:= .slice A' mm c') rfl (by kernel_rfl) (by kernel_rfl) (by kernel_rfl) (fun _ _ _ h=>h) (Or.inl ⟨by rfl,fun wx hSw=>by obtain ⟨s1,s2⟩:=hSw;go_simp⟩) (by assumption) ?_
      try simp only [Act.put,zA,zB,zC,zD,zE,zF]
      refine wpAnyH_ready (rs:=[1,15]) (by kernel_rfl) (by simp) ?_
      refine (AllReadyH.cons rfl (fun K hK=> ?_) (AllReadyH.cons rfl (fun K hK=> ?_) AllReadyH.nil))
      ·try simp only [zA,zB,zC]
       have hl:=HL0.out
       go_simp
       refine hK.out _ _ ?_ (fun hHeld=> ?_)
       ·exact HS0.out
       clear hK K
       try simp only [Act.put,zA,zB,zC,zD,zE,zF]
       refine wpAnyH_ready (rs:=[15]) (by kernel_rfl) (by simp) ?_
       refine (AllReadyH.cons rfl (fun K hK=> ?_) AllReadyH.nil)
       ·try simp only [zA,zB,zC]
        go_simp
        refine hK.out _ _ ?_ (fun hHeld=> ?_)
        ·exact HS1.out
        clear hK K
        try simp only [Act.put,zA,zB,zC,zD,zE,zF]
        refine wpAnyH_ready (rs:=[16]) (by kernel_rfl) (by simp) ?_
        refine (AllReadyH.cons rfl (fun K hK=> ?_) AllReadyH.nil)
        ·try simp only [zA,zB,zC]
         refine step_append_known (a:=⟨_,_⟩) ?_ (.tmp 63) (.tmp 77) 24 ?_ v4 (.slice (some ⟨wr.heap.size,0,none⟩) 1 1) ?_ ?_ (.slice (some ⟨g,0,none⟩) (j+1) cap) w7 ?_ ?_
         ·rfl
         ·rfl
         ·rfl
         ·rfl
         ·exact HRUN1.out
         refine hK.out _ _ ?_ (fun hHeld=> ?_)
         ·exact HS7.out
         clear hK K
         try simp only [Act.put,zD,zE,zF]
         refine wpAnyH_take (i:=17) (v:= .pointer (some ⟨P,3,none⟩)) rfl (by kernel_rfl) (by kernel_rfl) (by kernel_rfl) (fun _ _ _ h=>h) (Or.inl ⟨by rfl,fun wx hSw=>by obtain ⟨s1,s2⟩:=hSw;go_simp⟩) (by assumption) ?_
         try simp only [Act.put,zA,zB,zC,zD,zE,zF]
         refine wpAnyH_ready (rs:=[18]) (by kernel_rfl) (by simp) ?_
         refine (AllReadyH.cons rfl (fun K hK=> ?_) AllReadyH.nil)
         ·try simp only [zA,zB,zC]
          obtain ⟨f7,f8⟩:=F7.out
          go_simp
          refine hK.out _ _ ?_ (fun hHeld=> ?_)
          ·exact HS8.out
          clear hK K
          try simp only [Act.put,zA,zB,zC,zD,zE,zF]
          refine wpAnyH_done (by kernel_rfl) ?_ _
          refine NoPanic.normal ?_
          go_wp2
          go_roundw
          case rel=>exact HREL.out
          case measure=>simp [intOf];omega
      ·try simp only [zA,zB,zC]
       go_simp
       refine hK.out _ _ ?_ (fun hHeld=> ?_)
       ·exact HS1.out
       clear hK K
       try simp only [Act.put,zA,zB,zC,zD,zE,zF]
       refine wpAnyH_ready (rs:=[1]) (by kernel_rfl) (by simp) ?_
       refine (AllReadyH.cons rfl (fun K hK=> ?_) AllReadyH.nil)
       ·try simp only [zA,zB,zC]
        have hl:=HLA.out
        go_simp
        refine hK.out _ _ ?_ (fun hHeld=> ?_)
        ·exact HS1.out
        clear hK K
        try simp only [Act.put,zA,zB,zC,zD,zE,zF]
        refine wpAnyH_ready (rs:=[16]) (by kernel_rfl) (by simp) ?_
        refine (AllReadyH.cons rfl (fun K hK=> ?_) AllReadyH.nil)
        ·try simp only [zA,zB,zC]
         refine step_append_known (a:=⟨_,_⟩) ?_ (.tmp 63) (.tmp 77) 24 ?_ v4 (.slice (some ⟨wr.heap.size,0,none⟩) 1 1) ?_ ?_ (.slice (some ⟨g,0,none⟩) (j+1) cap) w7 ?_ ?_
         ·rfl
         ·rfl
         ·rfl
         ·rfl
         ·exact HRUN1.out
         refine hK.out _ _ ?_ (fun hHeld=> ?_)
         ·exact HS7.out
         clear hK K
         try simp only [Act.put,zD,zE,zF]
         refine wpAnyH_take (i:=17) (v:= .pointer (some ⟨P,3,none⟩)) rfl (by kernel_rfl) (by kernel_rfl) (by kernel_rfl) (fun _ _ _ h=>h) (Or.inl ⟨by rfl,fun wx hSw=>by obtain ⟨s1,s2⟩:=hSw;go_simp⟩) (by assumption) ?_
         try simp only [Act.put,zA,zB,zC,zD,zE,zF]
         refine wpAnyH_ready (rs:=[18]) (by kernel_rfl) (by simp) ?_
         refine (AllReadyH.cons rfl (fun K hK=> ?_) AllReadyH.nil)
         ·try simp only [zA,zB,zC]
          obtain ⟨f7,f8⟩:=F7.out
          go_simp
          refine hK.out _ _ ?_ (fun hHeld=> ?_)
          ·exact HS8.out
          clear hK K
          try simp only [Act.put,zA,zB,zC,zD,zE,zF]
          refine wpAnyH_done (by kernel_rfl) ?_ _
          refine NoPanic.normal ?_
          go_wp2
          go_roundw
          case rel=>exact HREL.out
          case measure=>simp [intOf];omega
     ·have e:x.lists.take j=x.lists.take 10:=by
       by_cases h:j=10
       ·rw [h]
       ·rw [List.take_of_length_le (by rw [HX4.out];omega),List.take_of_length_le (by rw [HX4.out];omega)]
      rw [e] at hgk
      have hsp:(j<n4∧¬ j<10)∨¬ j<n4:=by omega
      clear e hlt hj
      rcases hsp with ⟨h1,h2⟩|h1
      ·have d1:decide ((j:Int)<10)=false:=decide_eq_false (by omega)
       obtain ⟨B3,e3,B4,e4,rfl,rfl, -, -, -, -⟩:=hgk.read
       obtain ⟨⟨q0,q1,q2',q3⟩, -⟩:=four10 hgk.cells
       obtain ⟨_,f0,f1,f2,f3⟩:=four10 hR
       obtain ⟨N3,hN3⟩:∃ n,n=((x.keys.take 10).map fun k:Nm=>k.take 10).length:=⟨_,rfl⟩
       obtain ⟨N4,hN4⟩:∃ n,n=((x.lists.take 10).map fun l:List Pn=>l.take 10).length:=⟨_,rfl⟩
       rw [← hN3] at q2'
       rw [← hN4] at q3
       have HG4:=Lib.hid hgk
       have HR4:=Lib.hid hR
       have HBF:=Lib.hid hbw
       have HN3:=Lib.hid hN3
       have HN4:=Lib.hid hN4
       clear hgk hR hbw hN3 hN4
       go_wp2
       have hne:=HRP.out.2
       have e0:=heap_setCell_same wr (w.heap.size+1) 0 _ _ (.slice A1 m1 c1) HR4.out
       have e1:=heap_setCell_same _ (w.heap.size+1) 1 _ _ (.slice A2 m2 c2) e0
       have e2:=heap_setCell_same _ (w.heap.size+1) 2 _ _ (.slice B3 N3 e3) e1
       have e5:=heap_setCell_same _ (w.heap.size+1) 3 _ _ (.slice B4 N4 e4) e2
       have g0:=HG4.out.setOther (o:=0) HR4.out (Nat.le_succ _) hne HT.out (by decide) (by decide) (.slice A1 m1 c1)
       have g1:=g0.setOther (o:=1) e0 (Nat.le_succ _) hne HT.out (by decide) (by decide) (.slice A2 m2 c2)
       have g2:=g1.setOther (o:=2) e1 (Nat.le_succ _) hne HT.out (by decide) (by decide) (.slice B3 N3 e3)
       have g3:=g2.setOther (o:=3) e2 (Nat.le_succ _) hne HT.out (by decide) (by decide) (.slice B4 N4 e4)
       have hbF:=((((HBF.out).setCell (p:=⟨w.heap.size+1,0,none⟩) (Nat.le_succ _) (.slice A1 m1 c1)).setCell (p:=⟨w.heap.size+1,1,none⟩) (Nat.le_succ _) (.slice A2 m2 c2)).setCell (p:=⟨w.heap.size+1,2,none⟩) (Nat.le_succ _) (.slice B3 N3 e3)).setCell (p:=⟨w.heap.size+1,3,none⟩) (Nat.le_succ _) (.slice B4 N4 e4)
       obtain ⟨WF,hWF⟩:∃ WF,WF=(((wr.setCell ⟨w.heap.size+1,0,none⟩ (.slice A1 m1 c1)).setCell ⟨w.heap.size+1,1,none⟩ (.slice A2 m2 c2)).setCell ⟨w.heap.size+1,2,none⟩ (.slice B3 N3 e3)).setCell ⟨w.heap.size+1,3,none⟩ (.slice B4 N4 e4):=⟨_,rfl⟩
       rw [← hWF] at e5 g3 hbF ⊢
       have eF:WF.heap[w.heap.size+1]?=some (.cells #[.slice A1 m1 c1,.slice A2 m2 c2,.slice B3 N3 e3,.slice B4 N4 e4] 26 (0,0)):=e5
       refine bodyPost_ret (results_cell_row (P:=Tryz.prog) rfl _ _ (w.heap.size+1) 26 _ (0,0) _ rfl eF Tryz.underlying26 rfl (by kernel_rfl)) rfl ?_
       have t1:=Row.later (Row.cut HX.out.ids 10) hbF
       have t2:=Row.later (Row.cut HX.out.seqs 10) hbF
       rw [show (ints x.ids).take 10=ints (x.ids.take 10) by simp [ints]] at t1
       rw [show (ints x.seqs).take 10=ints (x.seqs.take 10) by simp [ints]] at t2
       have z1:(fewP x).ids.length=m1:=by rw [HM1.out,← HX1.out];simp [fewP];omega
       have z2:(fewP x).seqs.length=m2:=by rw [HM2.out,← HX2.out];simp [fewP];omega
       exact ⟨A1,c1,A2,c2,B3,e3,B4,e4,by rw [z1,z2,HN3.out,HN4.out];rfl,⟨t1,t2,g3.rows.1,g3.rows.2⟩,hbF⟩
      ·obtain ⟨B3,e3,B4,e4,rfl,rfl, -, -, -, -⟩:=hgk.read
       obtain ⟨⟨q0,q1,q2',q3⟩, -⟩:=four10 hgk.cells
       obtain ⟨_,f0,f1,f2,f3⟩:=four10 hR
       obtain ⟨N3,hN3⟩:∃ n,n=((x.keys.take 10).map fun k:Nm=>k.take 10).length:=⟨_,rfl⟩
       obtain ⟨N4,hN4⟩:∃ n,n=((x.lists.take 10).map fun l:List Pn=>l.take 10).length:=⟨_,rfl⟩
       rw [← hN3] at q2'
       rw [← hN4] at q3
       have HG4:=Lib.hid hgk
       have HR4:=Lib.hid hR
       have HBF:=Lib.hid hbw
       have HN3:=Lib.hid hN3
       have HN4:=Lib.hid hN4
       clear hgk hR hbw hN3 hN4
       go_wp2
       have hne:=HRP.out.2
       have e0:=heap_setCell_same wr (w.heap.size+1) 0 _ _ (.slice A1 m1 c1) HR4.out
       have e1:=heap_setCell_same _ (w.heap.size+1) 1 _ _ (.slice A2 m2 c2) e0
       have e2:=heap_setCell_same _ (w.heap.size+1) 2 _ _ (.slice B3 N3 e3) e1
       have e5:=heap_setCell_same _ (w.heap.size+1) 3 _ _ (.slice B4 N4 e4) e2
       have g0:=HG4.out.setOther (o:=0) HR4.out (Nat.le_succ _) hne HT.out (by decide) (by decide) (.slice A1 m1 c1)
       have g1:=g0.setOther (o:=1) e0 (Nat.le_succ _) hne HT.out (by decide) (by decide) (.slice A2 m2 c2)
       have g2:=g1.setOther (o:=2) e1 (Nat.le_succ _) hne HT.out (by decide) (by decide) (.slice B3 N3 e3)
       have g3:=g2.setOther (o:=3) e2 (Nat.le_succ _) hne HT.out (by decide) (by decide) (.slice B4 N4 e4)
       have hbF:=((((HBF.out).setCell (p:=⟨w.heap.size+1,0,none⟩) (Nat.le_succ _) (.slice A1 m1 c1)).setCell (p:=⟨w.heap.size+1,1,none⟩) (Nat.le_succ _) (.slice A2 m2 c2)).setCell (p:=⟨w.heap.size+1,2,none⟩) (Nat.le_succ _) (.slice B3 N3 e3)).setCell (p:=⟨w.heap.size+1,3,none⟩) (Nat.le_succ _) (.slice B4 N4 e4)
       obtain ⟨WF,hWF⟩:∃ WF,WF=(((wr.setCell ⟨w.heap.size+1,0,none⟩ (.slice A1 m1 c1)).setCell ⟨w.heap.size+1,1,none⟩ (.slice A2 m2 c2)).setCell ⟨w.heap.size+1,2,none⟩ (.slice B3 N3 e3)).setCell ⟨w.heap.size+1,3,none⟩ (.slice B4 N4 e4):=⟨_,rfl⟩
       rw [← hWF] at e5 g3 hbF ⊢
       have eF:WF.heap[w.heap.size+1]?=some (.cells #[.slice A1 m1 c1,.slice A2 m2 c2,.slice B3 N3 e3,.slice B4 N4 e4] 26 (0,0)):=e5
       refine bodyPost_ret (results_cell_row (P:=Tryz.prog) rfl _ _ (w.heap.size+1) 26 _ (0,0) _ rfl eF Tryz.underlying26 rfl (by kernel_rfl)) rfl ?_
       have t1:=Row.later (Row.cut HX.out.ids 10) hbF
       have t2:=Row.later (Row.cut HX.out.seqs 10) hbF
       rw [show (ints x.ids).take 10=ints (x.ids.take 10) by simp [ints]] at t1
       rw [show (ints x.seqs).take 10=ints (x.seqs.take 10) by simp [ints]] at t2
       have z1:(fewP x).ids.length=m1:=by rw [HM1.out,← HX1.out];simp [fewP];omega
       have z2:(fewP x).seqs.length=m2:=by rw [HM2.out,← HX2.out];simp [fewP];omega
       exact ⟨A1,c1,A2,c2,B3,e3,B4,e4,by rw [z1,z2,HN3.out,HN4.out];rfl,⟨t1,t2,g3.rows.1,g3.rows.2⟩,hbF⟩
   ·go_wp2
    clear q2 h1 hk10
    obtain ⟨wo,rfl⟩:∃ wo,wo=wr:=⟨_,rfl⟩
    go_loopw [5] (fun i wr=>FewRel2 P (P+1) V (.slice A1 m1 c1) (.slice A2 m2 c2) v3 x w i wr) (fun i _=>10-(intOf i).toNat)
    case atStart=>exact HST2.out
    case round=>
     obtain ⟨j,v4,hj,hj10,rfl,hbx,hR,hgk,hbw⟩:=hrel
     rw [HV.out] at hbx
     have q2:=(cells4 hbx).2.2.2
     rw [HX4.out] at hj
     by_cases hlt:j<n4∧j<10
     ·obtain ⟨hjn,h10⟩:=hlt
      have hjl:j<x.lists.length:=by rw [HX4.out];exact hjn
      obtain ⟨b1,o1,A',c',rfl,hb1,hc1,hlc,hpo⟩:=HX.out.lists.at_ hjl
      have hsn:(x.lists.take (j+1)).map (fun l:List Pn=>l.take 10)=(x.lists.take j).map (fun l:List Pn=>l.take 10)++[x.lists[j].take 10]:=by rw [List.take_succ_eq_append_getElem hjl,List.map_append];rfl
      obtain ⟨L,hL⟩:∃ L,L=x.lists[j]:=⟨_,rfl⟩
      rw [← hL] at hc1 hlc hpo hsn
      obtain ⟨m,hm⟩:∃ m,m=L.length:=⟨_,rfl⟩
      rw [← hm] at hc1 hlc
      obtain ⟨mm,hmm⟩:∃ mm:Nat,mm=min m 10:=⟨_,rfl⟩
      have hmn:∀ (w:World) (ts:Array TypeId) (ty:TypeId),(Builtin.min_ ts ty #[.int .i64 m,.int .i64 10]).run Tryz.prog w= .ok (.int .i64 (mm:Int)) w:=fun w ts ty=>by rw [run_min_int2,hmm];congr 2;split<;>omega
      have hml:(L.take 10).length=mm:=by rw [List.length_take,hmm,hm];omega
      have hmc:mm≤c':=by omega
      have hcx:=hlc.2
      unfold maxLen at hcx
      have hlen4:((x.lists.take j).map fun l:List Pn=>l.take 10).length=j:=by rw [List.length_map,List.length_take];omega
      obtain ⟨W1,hW1⟩:∃ W1,W1=(wr.alloc (.cells #[.slice A' mm c'] 58)).drew:=⟨_,rfl⟩
      have hal:Below wr.heap.size wr W1:=by rw [hW1];exact ((Below.refl _ wr).alloc (Nat.le_refl _) _).drew
      have hg1:=hgk.below hal
      obtain ⟨cs4,ho1,hlg⟩:=hg1.lists
      have hoo:=ho1
      rw [hlen4] at ho1
      have hbw1:Below w.heap.size w W1:=hbw.trans (hal.mono hbw.size)
      have hpg:PostsG w.heap.size W1 A' (L.take 10):=PostsG.of_old ((hpo.below hbw1).cut 10) hbw1.size
      obtain ⟨g,cap,w7,hrun,hown7,hgr7, -, -⟩:=run_append_lies (P:=Tryz.prog) W1 24 24 (P+1) 58 j0 _ 1 24 Tryz.underlying24 hj0 hj1 hj2 hj3 rfl (by omega) v4 j cs4 ho1 ⟨wr.heap.size,0,none⟩ 1 1 [.slice A' mm c'] rfl (by rw [hW1];exact news_at wr [.slice A' mm c'] 58) (by intro u hu;simp at hu;subst hu;rfl) (by omega) (by unfold maxLen;omega) (by omega) hg1.size W1.heap.size rfl
      obtain ⟨hP7,hg8,hb8, -,ho8⟩:=hg1.list HT.out (by decide) (by decide) (l:=L.take 10) (by rw [hml];exact ⟨hmc,hlc.2⟩) hpg hoo hlg (by rw [hlen4,hml];exact hown7) hgr7
      obtain ⟨w8,hw8⟩:∃ w8,w8=w7.setCell ⟨P,3,none⟩ (.slice (some ⟨g,0,none⟩) (j+1) cap):=⟨_,rfl⟩
      rw [← hw8] at hg8 hb8 ho8
      have hbx1:=(hal.block _ (Array.getElem?_eq_some_iff.1 hbx).1).trans hbx
      have hR1:=(hal.block _ (Array.getElem?_eq_some_iff.1 hR).1).trans hR
      have hbx8:=ho8 _ _ _ _ HRP.out.1 hbx1 (by decide)
      have hR8:=ho8 _ _ _ _ HRP.out.2 hR1 (by decide)
      have hbw8:Below w.heap.size w w8:=hbw1.trans hb8
      have hbw7:Below w.heap.size w w7:=hbw1.grown hgr7 hbw1.size fun q hq=>by have :=(ho1.lt q hq).1;have :=HP.out;omega
      have hbx7:w7.heap[w.heap.size]?=_:=(hgr7.block _ (Array.getElem?_eq_some_iff.1 hbx1).1 (fun e=>by have :=(ho1.lt _ e.symm).1;have :=HP.out;omega)).trans hbx1
      have hrel:FewRel2 P (P+1) V (.slice A1 m1 c1) (.slice A2 m2 c2) v3 x w (.int .i64 ((j:Int)+1)) w8:=⟨j+1,.slice (some ⟨g,0,none⟩) (j+1) cap,by rw [HX4.out];omega,by omega,by go_num,by rw [HV.out];exact hbx8,hR8,by rw [hsn];exact hg8,hbw8⟩
      have HREL:=Lib.hid hrel
      have HSC:Hid (∀ wx,Below w.heap.size w wx→wx.heap[w.heap.size]?=some (.cells #[.slice A1 n1 c1,.slice A2 n2 c2,.slice A3 n3 c3,.slice (some ⟨b1,o1,none⟩) n4 c4] 26 (0,0))→wx.cell? ⟨w.heap.size,3,none⟩=some (.slice (some ⟨b1,o1,none⟩) n4 c4)∧wx.cell? ⟨b1,o1+j,none⟩=some (.slice A' m c')):=Lib.hid fun wx h1 h2=>⟨(cells4 h2).2.2.2,(h1.cell (p:=⟨b1,_,none⟩) hb1).trans hc1⟩
      have HS0:=Lib.hid (HSC.out wr.drew hbw.drew hbx)
      have HS1:=Lib.hid (HSC.out W1 hbw1 hbx1)
      have HS7:=Lib.hid (HSC.out w7 hbw7 hbx7)
      have HS8:=Lib.hid (HSC.out w8 hbw8 hbx8)
      have HL0:Hid (wr.drew.cell? ⟨P,3,none⟩=some v4):=Lib.hid (four10 hgk.cells).1.2.2.2
      have HLA:Hid (W1.cell? ⟨P,3,none⟩=some v4):=Lib.hid (four10 hg1.cells).1.2.2.2
      have HRUN1:=Lib.hid hrun
      have F7:=Lib.hid (And.intro (four10 hP7).1.2.2.2 (four10 hP7).2.2.2.2)
      rw [hW1] at HRUN1 HLA HS1
      rw [hw8] at HS8 HREL
      have d1:decide ((j:Int)<10)=true:=decide_eq_true (by omega)
      have k0:(0:Int)≤j:=by omega
      have k1:(j:Int)<n4:=by omega
      clear hbx hR hgk hbw hjl hb1 hc1 hlc hpo hsn hL hm hmm hml hlen4 hW1 hal hg1 ho1 hlg hoo hbw1 hpg hrun hown7 hgr7 hP7 hg8 hb8 ho8 hw8 hbx1 hR1 hbx8 hR8 hbw8 hbw7 hbx7 hrel HSC
      go_upto_region 11 with fail
      refine wp_region_noPanic ?_
      refine wp_region_held_drew (S:=fun wx=>wx.cell? ⟨w.heap.size,3,none⟩=some (.slice (some ⟨b1,o1,none⟩) n4 c4)∧wx.cell? ⟨b1,o1+j,none⟩=some (.slice A' m c')) (by kernel_rfl) HS0.out (fun hHeld=> ?_)
      refine wpAnyH_take (i:=0) (v:= .pointer (some ⟨P,3,none⟩)) rfl (by kernel_rfl) (by kernel_rfl) (by kernel_rfl) (fun _ _ _ h=>h) (Or.inl ⟨by rfl,fun wx hSw=>by obtain ⟨s1,s2⟩:=hSw;go_simp⟩) (by assumption) ?_
      try simp only [Act.put,zA,zB,zD,zE,zF]
      refine wpAnyH_take (i:=2) (v:= .pointer (some ⟨w.heap.size,3,none⟩)) rfl (by kernel_rfl) (by kernel_rfl) (by kernel_rfl) (fun _ _ _ h=>h) (Or.inl ⟨by rfl,fun wx hSw=>by obtain ⟨s1,s2⟩:=hSw;go_simp⟩) (by assumption) ?_
      try simp only [Act.put,zA,zB,zC,zD,zE,zF]
      refine wpAnyH_take (i:=3) (v:= .slice (some ⟨b1,o1,none⟩) n4 c4) rfl (by kernel_rfl) (by kernel_rfl) (by kernel_rfl) (fun _ _ _ h=>h) (Or.inl ⟨by rfl,fun wx hSw=>by obtain ⟨s1,s2⟩:=hSw;go_simp⟩) (by assumption) ?_
      try simp only [Act.put,zA,zB,zC,zD,zE,zF]
      refine wpAnyH_take (i:=4) (v:= .int .i64 (j:Int)) rfl (by kernel_rfl) (by kernel_rfl) (by kernel_rfl) (fun _ _ _ h=>h) (Or.inl ⟨by rfl,fun wx hSw=>by obtain ⟨s1,s2⟩:=hSw;go_simp⟩) (by assumption) ?_
      try simp only [Act.put,zA,zB,zC,zD,zE,zF]
      refine wpAnyH_take (i:=5) (v:= .pointer (some ⟨b1,o1+j,none⟩)) rfl (by kernel_rfl) (by kernel_rfl) (by kernel_rfl) (fun _ _ _ h=>h) (Or.inl ⟨by rfl,fun wx hSw=>by obtain ⟨s1,s2⟩:=hSw;go_simp⟩) (by assumption) ?_
      try simp only [Act.put,zA,zB,zC,zD,zE,zF]
      refine wpAnyH_take (i:=6) (v:= .slice A' m c') rfl (by kernel_rfl) (by kernel_rfl) (by kernel_rfl) (fun _ _ _ h=>h) (Or.inl ⟨by rfl,fun wx hSw=>by obtain ⟨s1,s2⟩:=hSw;go_simp⟩) (by assumption) ?_
      try simp only [Act.put,zA,zB,zC,zD,zE,zF]
      refine wpAnyH_take (i:=7) (v:= .pointer (some ⟨w.heap.size,3,none⟩)) rfl (by kernel_rfl) (by kernel_rfl) (by kernel_rfl) (fun _ _ _ h=>h) (Or.inl ⟨by rfl,fun wx hSw=>by obtain ⟨s1,s2⟩:=hSw;go_simp⟩) (by assumption) ?_
      try simp only [Act.put,zA,zB,zC,zD,zE,zF]
      refine wpAnyH_take (i:=8) (v:= .slice (some ⟨b1,o1,none⟩) n4 c4) rfl (by kernel_rfl) (by kernel_rfl) (by kernel_rfl) (fun _ _ _ h=>h) (Or.inl ⟨by rfl,fun wx hSw=>by obtain ⟨s1,s2⟩:=hSw;go_simp⟩) (by assumption) ?_
      try simp only [Act.put,zA,zB,zC,zD,zE,zF]
      refine wpAnyH_take (i:=9) (v:= .int .i64 (j:Int)) rfl (by kernel_rfl) (by kernel_rfl) (by kernel_rfl) (fun _ _ _ h=>h) (Or.inl ⟨by rfl,fun wx hSw=>by obtain ⟨s1,s2⟩:=hSw;go_simp⟩) (by assumption) ?_
      try simp only [Act.put,zA,zB,zC,zD,zE,zF]
      refine wpAnyH_take (i:=10) (v:= .pointer (some ⟨b1,o1+j,none⟩)) rfl (by kernel_rfl) (by kernel_rfl) (by kernel_rfl) (fun _ _ _ h=>h) (Or.inl ⟨by rfl,fun wx hSw=>by obtain ⟨s1,s2⟩:=hSw;go_simp⟩) (by assumption) ?_
      try simp only [Act.put,zA,zB,zC,zD,zE,zF]
      refine wpAnyH_take (i:=11) (v:= .slice A' m c') rfl (by kernel_rfl) (by kernel_rfl) (by kernel_rfl) (fun _ _ _ h=>h) (Or.inl ⟨by rfl,fun wx hSw=>by obtain ⟨s1,s2⟩:=hSw;go_simp⟩) (by assumption) ?_
      try simp only [Act.put,zA,zB,zC,zD,zE,zF]
      refine wpAnyH_take (i:=12) (v:= .int .i64 (m:Int)) rfl (by kernel_rfl) (by kernel_rfl) (by kernel_rfl) (fun _ _ _ h=>h) (Or.inl ⟨by rfl,fun wx hSw=>by obtain ⟨s1,s2⟩:=hSw;go_simp⟩) (by assumption) ?_
      try simp only [Act.put,zA,zB,zC,zD,zE,zF]
      refine wpAnyH_take (i:=13) (v:= .int .i64 (mm:Int)) rfl (by kernel_rfl) (by kernel_rfl) (by kernel_rfl) (fun _ _ _ h=>h) (Or.inl ⟨by rfl,fun wx hSw=>by obtain ⟨s1,s2⟩:=hSw;go_simp⟩) (by assumption) ?_
      try simp only [Act.put,zA,zB,zC,zD,zE,zF]
      refine wpAnyH_take (i:=14) (v:= .slice A' mm c') rfl (by kernel_rfl) (by kernel_rfl) (by kernel_rfl) (fun _ _ _ h=>h) (Or.inl ⟨by rfl,fun wx hSw=>by obtain ⟨s1,s2⟩:=hSw;go_simp⟩) (by assumption) ?_
      try simp only [Act.put,zA,zB,zC,zD,zE,zF]
      refine wpAnyH_ready (rs:=[1,15]) (by kernel_rfl) (by simp) ?_
      refine (AllReadyH.cons rfl (fun K hK=> ?_) (AllReadyH.cons rfl (fun K hK=> ?_) AllReadyH.nil))
      ·try simp only [zA,zB,zC]
       have hl:=HL0.out
       go_simp
       refine hK.out _ _ ?_ (fun hHeld=> ?_)
       ·exact HS0.out
       clear hK K
       try simp only [Act.put,zA,zB,zC,zD,zE,zF]
       refine wpAnyH_ready (rs:=[15]) (by kernel_rfl) (by simp) ?_
       refine (AllReadyH.cons rfl (fun K hK=> ?_) AllReadyH.nil)
       ·try simp only [zA,zB,zC]
        go_simp
        refine hK.out _ _ ?_ (fun hHeld=> ?_)
        ·exact HS1.out
        clear hK K
        try simp only [Act.put,zA,zB,zC,zD,zE,zF]
        refine wpAnyH_ready (rs:=[16]) (by kernel_rfl) (by simp) ?_
        refine (AllReadyH.cons rfl (fun K hK=> ?_) AllReadyH.nil)
        ·try simp only [zA,zB,zC]
         refine step_append_known (a:=⟨_,_⟩) ?_ (.tmp 63) (.tmp 77) 24 ?_ v4 (.slice (some ⟨wr.heap.size,0,none⟩) 1 1) ?_ ?_ (.slice (some ⟨g,0,none⟩) (j+1) cap) w7 ?_ ?_
         ·rfl
         ·rfl
         ·rfl
         ·rfl
         ·exact HRUN1.out
         refine hK.out _ _ ?_ (fun hHeld=> ?_)
         ·exact HS7.out
         clear hK K
         try simp only [Act.put,zD,zE,zF]
         refine wpAnyH_take (i:=17) (v:= .pointer (some ⟨P,3,none⟩)) rfl (by kernel_rfl) (by kernel_rfl) (by kernel_rfl) (fun _ _ _ h=>h) (Or.inl ⟨by rfl,fun wx hSw=>by obtain ⟨s1,s2⟩:=hSw;go_simp⟩) (by assumption) ?_
         try simp only [Act.put,zA,zB,zC,zD,zE,zF]
         refine wpAnyH_ready (rs:=[18]) (by kernel_rfl) (by simp) ?_
         refine (AllReadyH.cons rfl (fun K hK=> ?_) AllReadyH.nil)
         ·try simp only [zA,zB,zC]
          obtain ⟨f7,f8⟩:=F7.out
          go_simp
          refine hK.out _ _ ?_ (fun hHeld=> ?_)
          ·exact HS8.out
          clear hK K
          try simp only [Act.put,zA,zB,zC,zD,zE,zF]
          refine wpAnyH_done (by kernel_rfl) ?_ _
          refine NoPanic.normal ?_
          go_wp2
          go_roundw
          case rel=>exact HREL.out
          case measure=>simp [intOf];omega
      ·try simp only [zA,zB,zC]
       go_simp
       refine hK.out _ _ ?_ (fun hHeld=> ?_)
       ·exact HS1.out
       clear hK K
       try simp only [Act.put,zA,zB,zC,zD,zE,zF]
       refine wpAnyH_ready (rs:=[1]) (by kernel_rfl) (by simp) ?_
       refine (AllReadyH.cons rfl (fun K hK=> ?_) AllReadyH.nil)
       ·try simp only [zA,zB,zC]
        have hl:=HLA.out
        go_simp
        refine hK.out _ _ ?_ (fun hHeld=> ?_)
        ·exact HS1.out
        clear hK K
        try simp only [Act.put,zA,zB,zC,zD,zE,zF]
        refine wpAnyH_ready (rs:=[16]) (by kernel_rfl) (by simp) ?_
        refine (AllReadyH.cons rfl (fun K hK=> ?_) AllReadyH.nil)
        ·try simp only [zA,zB,zC]
         refine step_append_known (a:=⟨_,_⟩) ?_ (.tmp 63) (.tmp 77) 24 ?_ v4 (.slice (some ⟨wr.heap.size,0,none⟩) 1 1) ?_ ?_ (.slice (some ⟨g,0,none⟩) (j+1) cap) w7 ?_ ?_
         ·rfl
         ·rfl
         ·rfl
         ·rfl
         ·exact HRUN1.out
         refine hK.out _ _ ?_ (fun hHeld=> ?_)
         ·exact HS7.out
         clear hK K
         try simp only [Act.put,zD,zE,zF]
         refine wpAnyH_take (i:=17) (v:= .pointer (some ⟨P,3,none⟩)) rfl (by kernel_rfl) (by kernel_rfl) (by kernel_rfl) (fun _ _ _ h=>h) (Or.inl ⟨by rfl,fun wx hSw=>by obtain ⟨s1,s2⟩:=hSw;go_simp⟩) (by assumption) ?_
         try simp only [Act.put,zA,zB,zC,zD,zE,zF]
         refine wpAnyH_ready (rs:=[18]) (by kernel_rfl) (by simp) ?_
         refine (AllReadyH.cons rfl (fun K hK=> ?_) AllReadyH.nil)
         ·try simp only [zA,zB,zC]
          obtain ⟨f7,f8⟩:=F7.out
          go_simp
          refine hK.out _ _ ?_ (fun hHeld=> ?_)
          ·exact HS8.out
          clear hK K
          try simp only [Act.put,zA,zB,zC,zD,zE,zF]
          refine wpAnyH_done (by kernel_rfl) ?_ _
          refine NoPanic.normal ?_
          go_wp2
          go_roundw
          case rel=>exact HREL.out
          case measure=>simp [intOf];omega
     ·have e:x.lists.take j=x.lists.take 10:=by
       by_cases h:j=10
       ·rw [h]
       ·rw [List.take_of_length_le (by rw [HX4.out];omega),List.take_of_length_le (by rw [HX4.out];omega)]
      rw [e] at hgk
      have hsp:(j<n4∧¬ j<10)∨¬ j<n4:=by omega
      clear e hlt hj
      rcases hsp with ⟨h1,h2⟩|h1
      ·have d1:decide ((j:Int)<10)=false:=decide_eq_false (by omega)
       obtain ⟨B3,e3,B4,e4,rfl,rfl, -, -, -, -⟩:=hgk.read
       obtain ⟨⟨q0,q1,q2',q3⟩, -⟩:=four10 hgk.cells
       obtain ⟨_,f0,f1,f2,f3⟩:=four10 hR
       obtain ⟨N3,hN3⟩:∃ n,n=((x.keys.take 10).map fun k:Nm=>k.take 10).length:=⟨_,rfl⟩
       obtain ⟨N4,hN4⟩:∃ n,n=((x.lists.take 10).map fun l:List Pn=>l.take 10).length:=⟨_,rfl⟩
       rw [← hN3] at q2'
       rw [← hN4] at q3
       have HG4:=Lib.hid hgk
       have HR4:=Lib.hid hR
       have HBF:=Lib.hid hbw
       have HN3:=Lib.hid hN3
       have HN4:=Lib.hid hN4
       clear hgk hR hbw hN3 hN4
       go_wp2
       have hne:=HRP.out.2
       have e0:=heap_setCell_same wr (w.heap.size+1) 0 _ _ (.slice A1 m1 c1) HR4.out
       have e1:=heap_setCell_same _ (w.heap.size+1) 1 _ _ (.slice A2 m2 c2) e0
       have e2:=heap_setCell_same _ (w.heap.size+1) 2 _ _ (.slice B3 N3 e3) e1
       have e5:=heap_setCell_same _ (w.heap.size+1) 3 _ _ (.slice B4 N4 e4) e2
       have g0:=HG4.out.setOther (o:=0) HR4.out (Nat.le_succ _) hne HT.out (by decide) (by decide) (.slice A1 m1 c1)
       have g1:=g0.setOther (o:=1) e0 (Nat.le_succ _) hne HT.out (by decide) (by decide) (.slice A2 m2 c2)
       have g2:=g1.setOther (o:=2) e1 (Nat.le_succ _) hne HT.out (by decide) (by decide) (.slice B3 N3 e3)
       have g3:=g2.setOther (o:=3) e2 (Nat.le_succ _) hne HT.out (by decide) (by decide) (.slice B4 N4 e4)
       have hbF:=((((HBF.out).setCell (p:=⟨w.heap.size+1,0,none⟩) (Nat.le_succ _) (.slice A1 m1 c1)).setCell (p:=⟨w.heap.size+1,1,none⟩) (Nat.le_succ _) (.slice A2 m2 c2)).setCell (p:=⟨w.heap.size+1,2,none⟩) (Nat.le_succ _) (.slice B3 N3 e3)).setCell (p:=⟨w.heap.size+1,3,none⟩) (Nat.le_succ _) (.slice B4 N4 e4)
       obtain ⟨WF,hWF⟩:∃ WF,WF=(((wr.setCell ⟨w.heap.size+1,0,none⟩ (.slice A1 m1 c1)).setCell ⟨w.heap.size+1,1,none⟩ (.slice A2 m2 c2)).setCell ⟨w.heap.size+1,2,none⟩ (.slice B3 N3 e3)).setCell ⟨w.heap.size+1,3,none⟩ (.slice B4 N4 e4):=⟨_,rfl⟩
       rw [← hWF] at e5 g3 hbF ⊢
       have eF:WF.heap[w.heap.size+1]?=some (.cells #[.slice A1 m1 c1,.slice A2 m2 c2,.slice B3 N3 e3,.slice B4 N4 e4] 26 (0,0)):=e5
       refine bodyPost_ret (results_cell_row (P:=Tryz.prog) rfl _ _ (w.heap.size+1) 26 _ (0,0) _ rfl eF Tryz.underlying26 rfl (by kernel_rfl)) rfl ?_
       have t1:=Row.later (Row.cut HX.out.ids 10) hbF
       have t2:=Row.later (Row.cut HX.out.seqs 10) hbF
       rw [show (ints x.ids).take 10=ints (x.ids.take 10) by simp [ints]] at t1
       rw [show (ints x.seqs).take 10=ints (x.seqs.take 10) by simp [ints]] at t2
       have z1:(fewP x).ids.length=m1:=by rw [HM1.out,← HX1.out];simp [fewP];omega
       have z2:(fewP x).seqs.length=m2:=by rw [HM2.out,← HX2.out];simp [fewP];omega
       exact ⟨A1,c1,A2,c2,B3,e3,B4,e4,by rw [z1,z2,HN3.out,HN4.out];rfl,⟨t1,t2,g3.rows.1,g3.rows.2⟩,hbF⟩
      ·obtain ⟨B3,e3,B4,e4,rfl,rfl, -, -, -, -⟩:=hgk.read
       obtain ⟨⟨q0,q1,q2',q3⟩, -⟩:=four10 hgk.cells
       obtain ⟨_,f0,f1,f2,f3⟩:=four10 hR
       obtain ⟨N3,hN3⟩:∃ n,n=((x.keys.take 10).map fun k:Nm=>k.take 10).length:=⟨_,rfl⟩
       obtain ⟨N4,hN4⟩:∃ n,n=((x.lists.take 10).map fun l:List Pn=>l.take 10).length:=⟨_,rfl⟩
       rw [← hN3] at q2'
       rw [← hN4] at q3
       have HG4:=Lib.hid hgk
       have HR4:=Lib.hid hR
       have HBF:=Lib.hid hbw
       have HN3:=Lib.hid hN3
       have HN4:=Lib.hid hN4
       clear hgk hR hbw hN3 hN4
       go_wp2
       have hne:=HRP.out.2
       have e0:=heap_setCell_same wr (w.heap.size+1) 0 _ _ (.slice A1 m1 c1) HR4.out
       have e1:=heap_setCell_same _ (w.heap.size+1) 1 _ _ (.slice A2 m2 c2) e0
       have e2:=heap_setCell_same _ (w.heap.size+1) 2 _ _ (.slice B3 N3 e3) e1
       have e5:=heap_setCell_same _ (w.heap.size+1) 3 _ _ (.slice B4 N4 e4) e2
       have g0:=HG4.out.setOther (o:=0) HR4.out (Nat.le_succ _) hne HT.out (by decide) (by decide) (.slice A1 m1 c1)
       have g1:=g0.setOther (o:=1) e0 (Nat.le_succ _) hne HT.out (by decide) (by decide) (.slice A2 m2 c2)
       have g2:=g1.setOther (o:=2) e1 (Nat.le_succ _) hne HT.out (by decide) (by decide) (.slice B3 N3 e3)
       have g3:=g2.setOther (o:=3) e2 (Nat.le_succ _) hne HT.out (by decide) (by decide) (.slice B4 N4 e4)
       have hbF:=((((HBF.out).setCell (p:=⟨w.heap.size+1,0,none⟩) (Nat.le_succ _) (.slice A1 m1 c1)).setCell (p:=⟨w.heap.size+1,1,none⟩) (Nat.le_succ _) (.slice A2 m2 c2)).setCell (p:=⟨w.heap.size+1,2,none⟩) (Nat.le_succ _) (.slice B3 N3 e3)).setCell (p:=⟨w.heap.size+1,3,none⟩) (Nat.le_succ _) (.slice B4 N4 e4)
       obtain ⟨WF,hWF⟩:∃ WF,WF=(((wr.setCell ⟨w.heap.size+1,0,none⟩ (.slice A1 m1 c1)).setCell ⟨w.heap.size+1,1,none⟩ (.slice A2 m2 c2)).setCell ⟨w.heap.size+1,2,none⟩ (.slice B3 N3 e3)).setCell ⟨w.heap.size+1,3,none⟩ (.slice B4 N4 e4):=⟨_,rfl⟩
       rw [← hWF] at e5 g3 hbF ⊢
       have eF:WF.heap[w.heap.size+1]?=some (.cells #[.slice A1 m1 c1,.slice A2 m2 c2,.slice B3 N3 e3,.slice B4 N4 e4] 26 (0,0)):=e5
       refine bodyPost_ret (results_cell_row (P:=Tryz.prog) rfl _ _ (w.heap.size+1) 26 _ (0,0) _ rfl eF Tryz.underlying26 rfl (by kernel_rfl)) rfl ?_
       have t1:=Row.later (Row.cut HX.out.ids 10) hbF
       have t2:=Row.later (Row.cut HX.out.seqs 10) hbF
       rw [show (ints x.ids).take 10=ints (x.ids.take 10) by simp [ints]] at t1
       rw [show (ints x.seqs).take 10=ints (x.seqs.take 10) by simp [ints]] at t2
       have z1:(fewP x).ids.length=m1:=by rw [HM1.out,← HX1.out];simp [fewP];omega
       have z2:(fewP x).seqs.length=m2:=by rw [HM2.out,← HX2.out];simp [fewP];omega
       exact ⟨A1,c1,A2,c2,B3,e3,B4,e4,by rw [z1,z2,HN3.out,HN4.out];rfl,⟨t1,t2,g3.rows.1,g3.rows.2⟩,hbF⟩
end Go.Proofs.YtmoomnpbiifedaaGreat
