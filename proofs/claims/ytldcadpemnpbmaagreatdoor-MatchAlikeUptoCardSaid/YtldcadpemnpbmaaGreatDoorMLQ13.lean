import Derived.Test.YtldcadpemnpbmaaGreatDoorMLZz
import Derived.Test.YtldcadpemnpbmaaGreatDoorMLQ12
import Derived.Test.YtldcadpemnpbmaaGreatDoorMLQ11
import Derived.Deep.QuietTactic
import Derived.BigQuiet
import Derived.Deep.RegionHeld3
import Derived.StillTailTactics
set_option linter.unusedVariables false
namespace Go.Proofs.YtldcadpemnpbmaaGreatDoor
open Go Go.RowKit
set_option maxHeartbeats 1000000 in
set_option maxRecDepth 100000 in
theorem turn_asks (C b1 b2:Nat) (g:List Po) (nx:Nat) (doc:Int) (k:Nat) (W:World) (h:Seen C b1 b2 g nx doc W) (hg:GoodG g) (hk:nx+k<blocksP g.length):
  Calls Tryz.prog 322 (#[.int .i64 (k:Int)]++#[.pointer (some ⟨b1,0,none⟩),.pointer (some ⟨b2,0,none⟩)]) W fun e w'=>e= .returned (.bool (decide (doc≤lastP g ((nx+k:Nat):Int))))∧∃ q,w'=W.drewN q:=by
 obtain ⟨c1,c2,c3,hl⟩:=h
 have hbl:nx+k≤1000:=by have :=hg.len;unfold blocksP at hk;omega
 have HLA:Hid (∀ n,Calls Tryz.prog 299 #[.pointer (some ⟨C,0,none⟩),.int .i64 ((nx:Int)+(k:Int))] (W.drewN n) fun e w'=>e= .returned (.int .i64 (lastP g ((nx+k:Nat):Int)))∧w'=W.drewN n):=Lib.hid fun n=>by
  have :=in_Last C _ g (W.drewN n) (hl.below ⟨rfl,rfl,rfl,Nat.le_refl _,fun _ _=>rfl⟩) (by have :=hg.len;omega) ((nx+k:Nat):Int) (by omega)
  rw [show ((nx+k:Nat):Int)=(nx:Int)+(k:Int) by omega] at this ⊢
  exact this.mono fun e w' h=>⟨h.1,h.2.symm⟩
 obtain ⟨x,hx⟩:∃ x,x=lastP g ((nx+k:Nat):Int):=⟨_,rfl⟩
 rw [← hx] at HLA
 rw [← hx]
 clear hx hl hg hk
 go_enter Tryz.func322,Tryz.ntmps322
 go_wp2
 go_quiet ((go_at_call 299;exact Calls.quiet_of_same (HLA.out _)))
 go_wp2
 go_ret
 exact ⟨rfl,_,rfl⟩
def Turned06 (fu:Prop × Nat) (C:Nat) (g:List Po) (doc i:Int) (w w':World):Prop:=
 ∃ i' vb ve A c nx bh rd rest,CBlk C vb ve g A (List.length rest) c nx bh rd w'∧ListN w' vb ve g∧Pos6 g i' nx bh rest∧rest.length≤c∧c≤maxLen∧PostsN fu w' A rest∧
  advC g doc i=advC g doc i'∧(rest≠[]→doc≤lastP g ((nx:Int)-1))∧(rest=[]→advC g doc i'=i')∧OnlyAt C w w'
section
variable {C nx m c:Nat} {vb ve:Value} {g:List Po} {A:Option Addr} {bh:Bool} {rd:Int} {w:World}
theorem CBlk.setRest (h:CBlk C vb ve g A m c nx bh rd w) (A':Option Addr) (m' c':Nat):CBlk C vb ve g A' m' c' nx bh rd (w.setCell ⟨C,4,none⟩ (.slice A' m' c')):=
 heap_setCell_same w C 4 #[vb,ve,.int .i64 (g.length:Int),.int .i64 (totalP g:Int),.slice A m c,.int .i64 (nx:Int),.bool bh,.int .i64 rd] 338 _ h
theorem CBlk.setNext (h:CBlk C vb ve g A m c nx bh rd w) (nx':Nat):CBlk C vb ve g A m c nx' bh rd (w.setCell ⟨C,5,none⟩ (.int .i64 (nx':Int))):=
 heap_setCell_same w C 5 #[vb,ve,.int .i64 (g.length:Int),.int .i64 (totalP g:Int),.slice A m c,.int .i64 (nx:Int),.bool bh,.int .i64 rd] 338 _ h
theorem CBlk.setBehind (h:CBlk C vb ve g A m c nx bh rd w) (b:Bool):CBlk C vb ve g A m c nx b rd (w.setCell ⟨C,6,none⟩ (.bool b)):=
 heap_setCell_same w C 6 #[vb,ve,.int .i64 (g.length:Int),.int .i64 (totalP g:Int),.slice A m c,.int .i64 (nx:Int),.bool bh,.int .i64 rd] 338 _ h
theorem CBlk.setReads (h:CBlk C vb ve g A m c nx bh rd w) (r:Int):CBlk C vb ve g A m c nx bh r (w.setCell ⟨C,7,none⟩ (.int .i64 r)):=
 heap_setCell_same w C 7 #[vb,ve,.int .i64 (g.length:Int),.int .i64 (totalP g:Int),.slice A m c,.int .i64 (nx:Int),.bool bh,.int .i64 rd] 338 _ h
end
def TurnMid (C:Nat) (vb ve:Value) (g:List Po) (A:Option Addr) (m c nx:Nat) (bh:Bool) (rd:Int) (wb wx:World):Prop:=CBlk C vb ve g A m c nx bh rd wx∧OnlyAt C wb wx
theorem turn_mid {C:Nat} {vb ve:Value} {g:List Po} {A:Option Addr} {m c nx nx':Nat} {bh:Bool} {rd:Int} {wb w5:World} (h:CBlk C vb ve g A m c nx bh rd wb) (hb:Below wb.heap.size wb w5):
  TurnMid C vb ve g A m c nx' bh rd wb (w5.setCell ⟨C,5,none⟩ (.int .i64 (nx':Int))):=by
 have h5:=h.only (OnlyIn.of_below (S:=fun _=>False) hb) (fun h=>h)
 exact ⟨heap_setCell_same w5 C 5 #[vb,ve,.int .i64 (g.length:Int),.int .i64 (totalP g:Int),.slice A m c,.int .i64 (nx:Int),.bool bh,.int .i64 rd] 338 _ h5,(OnlyIn.of_below hb).setCell _⟩
set_option maxHeartbeats 4000000 in
set_option maxRecDepth 100000 in
theorem cur_turn {fu:Prop × Nat} (C nx:Nat) (vb ve:Value) (g:List Po) (A:Option Addr) (c:Nat) (bh:Bool) (rd:Int) (rest:List Po) (doc i:Int) (w:World)
  (hblk:CBlk C vb ve g A (List.length rest) c nx bh rd w) (hl:ListN w vb ve g) (hp:Pos6 g i nx bh rest) (hg:GoodG g) (hlt:lastP g ((nx:Int)-1)<doc) (hfu:fu.2≤w.heap.size):
  Calls Tryz.prog 300 #[.pointer (some ⟨C,0,none⟩),.int .i64 doc] w fun e w'=>(∃ v,e= .returned v)∧Turned06 fu C g doc i w w':=by
 have hC:=hblk.lt
 obtain ⟨wb,hwb⟩:∃ wb,wb=(w.alloc (.cells #[.pointer (some ⟨C,0,none⟩)] 247)).alloc (.cells #[.int .i64 doc] 3):=⟨_,rfl⟩
 have hb0:Below w.heap.size w wb:=by rw [hwb];exact ((Below.refl _ w).alloc (Nat.le_refl _) _).alloc (by simp) _
 have q1:wb.heap[w.heap.size]?=some (.cells #[.pointer (some ⟨C,0,none⟩)] 247 (0,0)):=by
  rw [hwb];exact (Below.heap_alloc _ _ _ (by simp)).trans (heap_alloc_new w _)
 have q2:wb.heap[w.heap.size+1]?=some (.cells #[.int .i64 doc] 3 (0,0)):=by rw [hwb];exact heap_alloc2_new _ _ _
 have hblk0:=hblk.only (OnlyIn.of_below (S:=fun _=>False) hb0) (fun h=>h)
 have hl0:=hl.only (OnlyIn.of_below (S:=fun _=>False) hb0) (fun D hD=>hD.elim)
 have hlin:=hblk0.lin hl0
 have hnb:nx≤blocksP g.length:=hp.bd.2.2
 have hb1000:blocksP g.length≤1000:=by have :=hg.len;unfold blocksP;omega
 have hsz0:=hb0.size
 obtain ⟨n,hn⟩:∃ n,n=blocksP g.length-nx:=⟨_,rfl⟩
 have seen:∀ W,Below wb.heap.size wb W→Seen C w.heap.size (w.heap.size+1) g nx doc W:=fun W hW=>by
  obtain ⟨⟨_,_,_,_,_,c5,_⟩,_⟩:=cell_eight (hblk0.only (OnlyIn.of_below (S:=fun _=>False) hW) (fun h=>h))
  refine ⟨?_,?_,c5,hlin.below hW⟩
  ·simp [World.cell?,hW.block _ (lt_of_block q1),q1]
  ·simp [World.cell?,hW.block _ (lt_of_block q2),q2]
 have hsea:∀ W,Below wb.heap.size wb W→Calls Tryz.prog 321 #[.int .i64 (n:Int),.func (.func 322) #[] #[.pointer (some ⟨w.heap.size,0,none⟩),.pointer (some ⟨w.heap.size+1,0,none⟩)]] W fun e w'=>
   e= .returned (.int .i64 ((List.range n).countP (fun k=> !decide (doc≤lastP g ((nx+k:Nat):Int))):Nat))∧Below W.heap.size W w':=fun W hW=>
  sort_Search 322 _ n (fun k=>decide (doc≤lastP g ((nx+k:Nat):Int))) W
   (enters_of Tryz.func322 (by kernel_rfl) rfl) (by omega)
   (fun W' k hk hW'=>turn_asks C _ _ g nx doc k W' (seen W' (hW.trans (hW'.mono hW.size))) hg (by omega))
   (fun a b hab hb h=>by
    have h1:=lastP_doc (g:=g) (k:=nx+a) (by omega)
    have h2:=lastP_doc (g:=g) (k:=nx+b) (by omega)
    have h3:=blockP_length (l:=g) (nx+a)
    have h4:=blockP_length (l:=g) (nx+b)
    have h5:blocksP g.length=(g.length+7)/8:=rfl
    have h6:=docC_mono hg.may (i:=8*(nx+a)+(blockP g ((nx+a:Nat):Int)).length-1) (j:=8*(nx+b)+(blockP g ((nx+b:Nat):Int)).length-1) (by omega) (by omega)
    have h7:=of_decide_eq_true h
    exact decide_eq_true (by omega))
 have hcf:=count_from (p:=fun k=>decide (doc≤lastP g ((nx+k:Nat):Int))) n (fun a b hab hb h=>by
    have h1:=lastP_doc (g:=g) (k:=nx+a) (by omega)
    have h2:=lastP_doc (g:=g) (k:=nx+b) (by omega)
    have h3:=blockP_length (l:=g) (nx+a)
    have h4:=blockP_length (l:=g) (nx+b)
    have h5:blocksP g.length=(g.length+7)/8:=rfl
    have h6:=docC_mono hg.may (i:=8*(nx+a)+(blockP g ((nx+a:Nat):Int)).length-1) (j:=8*(nx+b)+(blockP g ((nx+b:Nat):Int)).length-1) (by omega) (by omega)
    have h7:=of_decide_eq_true h
    exact decide_eq_true (by omega))
 obtain ⟨t,ht⟩:∃ t,t=(List.range n).countP (fun k=> !decide (doc≤lastP g ((nx+k:Nat):Int))):=⟨_,rfl⟩
 rw [← ht] at hsea hcf
 obtain ⟨hcf1,hcf2,hcf3⟩:=hcf
 have htd:=hp.turned hg.may hlt (t:=nx+t) (by omega) (by omega) (fun b hb1 hb2=>by
  have :=hcf2 (b-nx) (by omega)
  have :=of_decide_eq_false this
  rw [show nx+(b-nx)=b by omega] at this
  omega)
 have HTD:=Lib.hid htd
 have HCF3:=Lib.hid hcf3
 have HSEA:=Lib.hid hsea
 have SEEN:=Lib.hid seen
 have HL:=Lib.hid hl
 have HBLK:=Lib.hid hblk
 have HP:=Lib.hid hp
 have HG:=Lib.hid hg
 have HN:=Lib.hid hn
 have HFU:=Lib.hid hfu
 have HB0:=Lib.hid hb0
 have hbw:Below wb.heap.size wb wb.drew:=(Below.refl _ wb).drew
 obtain ⟨w2,hw2⟩:∃ w2,w2=wb.drew:=⟨_,rfl⟩
 rw [← hw2] at hbw
 obtain ⟨z1,z2,z3,_⟩:=seen w2 hbw
 have HBLO:=Lib.hid (in_Blocks C _ g w2 (hlin.below hbw))
 have HSEA:=Lib.hid (hsea w2 hbw)
 have h25:∀ w5,Below w2.heap.size w2 w5→Below wb.heap.size wb w5:=fun w5 h=>hbw.trans (h.mono hbw.size)
 have SEE5:Hid (∀ w5,Below w2.heap.size w2 w5→(w5.cell? ⟨w.heap.size,0,none⟩=some (.pointer (some ⟨C,0,none⟩))∧w5.cell? ⟨C,5,none⟩=some (.int .i64 (nx:Int)))∧w5.frozen? ⟨C,5,none⟩=false):=Lib.hid fun w5 h=>
  ⟨⟨(seen w5 (h25 w5 h)).box1,(seen w5 (h25 w5 h)).next⟩,(cell_eight (hblk0.only (OnlyIn.of_below (S:=fun _=>False) (h25 w5 h)) (fun h=>h))).2.2.1⟩
 have HMID:Hid (∀ w5,Below w2.heap.size w2 w5→TurnMid C vb ve g A (List.length rest) c (nx+t) bh rd wb (w5.setCell ⟨C,5,none⟩ (.int .i64 ((nx:Int)+(t:Int))))):=Lib.hid fun w5 h5=>by
  have :=turn_mid (nx':=nx+t) hblk0 (h25 w5 h5)
  rw [Int.natCast_add] at this
  exact this
 have HBX:Hid (∀ w5,Below w2.heap.size w2 w5→(w5.setCell ⟨C,5,none⟩ (.int .i64 ((nx:Int)+(t:Int)))).cell? ⟨w.heap.size,0,none⟩=some (.pointer (some ⟨C,0,none⟩))):=Lib.hid fun w5 h5=>by
  rw [World.cell?_of_block (a:=⟨w.heap.size,0,none⟩) (Below.heap_setCell w5 ⟨C,5,none⟩ _ w.heap.size (by simp only;omega))]
  exact (seen w5 (h25 w5 h5)).box1
 obtain ⟨N,hN⟩:∃ N,N=blocksP g.length:=⟨_,rfl⟩
 rw [← hN] at HBLO hnb hb1000 hn
 have hnz:IntKind.i64.wrap ((N:Int)-(nx:Int))=(n:Int):=by rw [IntWalk.i64_in _ (by omega)];omega
 have hnt:IntKind.i64.wrap ((nx:Int)+(t:Int))=(nx:Int)+(t:Int):=IntWalk.i64_in _ (by omega)
 have HNN:=Lib.hid hN
 clear hfu htd hcf2 hcf3 hsea seen hl hblk hp hg hn hb0 hl0 hlin q1 q2 hlt hbw h25 ht hN
 go_enter Tryz.func300,Tryz.ntmps300
 go_upto_region 1 with fail
 rw [← hwb]
 clear hwb
 go_cut [] from 4 to 21 (fun wx=>TurnMid C vb ve g A (List.length rest) c (nx+t) bh rd wb wx)
 case first=>
  refine wp_region_noPanic ?_
  refine wp_region_held_drew (S:=(fun w'=>w'.cell? ⟨w.heap.size,0,none⟩=some (.pointer (some ⟨C,0,none⟩)))) (by kernel_rfl) (by rw [← hw2];exact z1) (fun hHeld=> ?_)
  rw [← hw2]
  clear hw2 hHeld
  refine wpAnyH_take (i:=0) (v:=(.pointer (some ⟨C,0,none⟩))) rfl (by kernel_rfl) (by kernel_rfl) (by kernel_rfl) (fun _ _ _ h=>h) (Or.inl ⟨by rfl,fun wx hSw=>by go_simp⟩) (by assumption) ?_
  try simp only [Act.put,zA,zB,zD,zE,zF]
  refine wpAnyH_take (i:=1) (v:=(.pointer (some ⟨C,0,none⟩))) rfl (by kernel_rfl) (by kernel_rfl) (by kernel_rfl) (fun _ _ _ h=>h) (Or.inl ⟨by rfl,fun wx hSw=>by go_simp⟩) (by assumption) ?_
  try simp only [Act.put,zA,zB,zC,zD,zE,zF]
  refine wpAnyH_take (i:=2) (v:=(.pointer (some ⟨C,5,none⟩))) rfl (by kernel_rfl) (by kernel_rfl) (by kernel_rfl) (fun _ _ _ h=>h) (Or.inl ⟨by rfl,fun wx hSw=>by go_simp⟩) (by assumption) ?_
  try simp only [Act.put,zA,zB,zC,zD,zE,zF]
  refine wpAnyH_take (i:=4) (v:=(.pointer (some ⟨C,0,none⟩))) rfl (by kernel_rfl) (by kernel_rfl) (by kernel_rfl) (fun _ _ _ h=>h) (Or.inl ⟨by rfl,fun wx hSw=>by go_simp⟩) (by assumption) ?_
  try simp only [Act.put,zA,zB,zC,zD,zE,zF]
  refine wpAnyH_take (i:=5) (v:=(.pointer (some ⟨C,0,none⟩))) rfl (by kernel_rfl) (by kernel_rfl) (by kernel_rfl) (fun _ _ _ h=>h) (Or.inl ⟨by rfl,fun wx hSw=>by go_simp⟩) (by assumption) ?_
  try simp only [Act.put,zA,zB,zC,zD,zE,zF]
  refine wpAnyH_take (i:=6) (v:=(.pointer (some ⟨C,0,none⟩))) rfl (by kernel_rfl) (by kernel_rfl) (by kernel_rfl) (fun _ _ _ h=>h) (Or.inl ⟨by rfl,fun wx hSw=>by go_simp⟩) (by assumption) ?_
  try simp only [Act.put,zA,zB,zC,zD,zE,zF]
  refine wpAnyH_take (i:=8) (v:=(.pointer (some ⟨C,0,none⟩))) rfl (by kernel_rfl) (by kernel_rfl) (by kernel_rfl) (fun _ _ _ h=>h) (Or.inl ⟨by rfl,fun wx hSw=>by go_simp⟩) (by assumption) ?_
  try simp only [Act.put,zA,zB,zC,zD,zE,zF]
  refine wpAnyH_take (i:=9) (v:=(.pointer (some ⟨C,0,none⟩))) rfl (by kernel_rfl) (by kernel_rfl) (by kernel_rfl) (fun _ _ _ h=>h) (Or.inl ⟨by rfl,fun wx hSw=>by go_simp⟩) (by assumption) ?_
  try simp only [Act.put,zA,zB,zC,zD,zE,zF]
  refine wpAnyH_take (i:=10) (v:=(.pointer (some ⟨C,5,none⟩))) rfl (by kernel_rfl) (by kernel_rfl) (by kernel_rfl) (fun _ _ _ h=>h) (Or.inl ⟨by rfl,fun wx hSw=>by go_simp⟩) (by assumption) ?_
  try simp only [Act.put,zA,zB,zC,zD,zE,zF]
  refine wpAnyH_take (i:=13) (v:=(.func (.func 322) #[] #[.pointer (some ⟨w.heap.size,0,none⟩),.pointer (some ⟨w.heap.size+1,0,none⟩)])) rfl (by kernel_rfl) (by kernel_rfl) (by kernel_rfl) (fun _ _ _ h=>h) (Or.inl ⟨by rfl,fun wx hSw=>by go_simp⟩) (by assumption) ?_
  try simp only [Act.put,zA,zB,zC,zD,zE,zF]
  refine wpAnyH_ready (rs:=[3,7,11]) (by kernel_rfl) (by simp) ?_
  refine AllReadyH.cons rfl (fun K hK=> ?_) ?_
  ·try simp only [zA,zB,zC]
   go_simp
   refine hK.out _ _ ?_ (fun hHeld1=> ?_)
   ·exact z1
   clear hK K
   try simp only [Act.put,zA,zB,zC,zD,zE,zF]
   refine wpAnyH_ready (rs:=[7,11]) (by kernel_rfl) (by simp) ?_
   refine AllReadyH.cons rfl (fun K hK=> ?_) ?_
   ·try simp only [zA,zB,zC]
    go_simp
    go_at_call 231
    (with_reducible refine HBLO.out.mono ?_)
    rintro e w' ⟨rfl,rfl⟩
    go_wp2_with fail
    refine hK.out _ _ ?_ (fun hHeld2=> ?_)
    ·exact z1
    clear hK K
    try simp only [Act.put,zA,zB,zC,zD,zE,zF]
    refine wpAnyH_ready (rs:=[11]) (by kernel_rfl) (by simp) ?_
    refine AllReadyH.cons rfl (fun K hK=> ?_) AllReadyH.nil
    try simp only [zA,zB,zC]
    go_simp
    refine hK.out _ _ ?_ (fun hHeld3=> ?_)
    ·exact z1
    clear hK K
    try simp only [Act.put,zA,zB,zC,zD,zE,zF]
    refine wpAnyH_take (i:=12) (v:=(.int .i64 (n:Int))) rfl (by kernel_rfl) (by kernel_rfl) (by kernel_rfl) (fun _ _ _ h=>h) (Or.inl ⟨by rfl,fun wx hSw=>by go_simp⟩) (by assumption) ?_
    try simp only [Act.put,zA,zB,zC,zD,zE,zF]
    refine wpAnyH_ready (rs:=[14]) (by kernel_rfl) (by simp) ?_
    refine AllReadyH.cons rfl (fun K hK=> ?_) AllReadyH.nil
    try simp only [zA,zB,zC]
    go_simp
    go_at_call 321
    (with_reducible refine HSEA.out.mono ?_)
    rintro e w5 ⟨rfl,hb5⟩
    have HB5:=Lib.hid hb5
    obtain ⟨⟨y1,y3⟩,y5⟩:=SEE5.out w5 hb5
    clear hb5
    go_wp2_with fail
    refine hK.out _ _ ?_ (fun hHeld4=> ?_)
    ·exact y1
    clear hK K
    try simp only [Act.put,zA,zB,zC,zD,zE,zF]
    refine wpAnyH_take (i:=15) (v:=(.int .i64 ((nx:Int)+(t:Int)))) rfl (by kernel_rfl) (by kernel_rfl) (by kernel_rfl) (fun _ _ _ h=>h) (Or.inl ⟨by rfl,fun wx hSw=>by go_simp⟩) (by assumption) ?_
    try simp only [Act.put,zA,zB,zC,zD,zE,zF]
    refine wpAnyH_take (i:=16) (v:=(.pointer (some ⟨C,0,none⟩))) rfl (by kernel_rfl) (by kernel_rfl) (by kernel_rfl) (fun _ _ _ h=>h) (Or.inl ⟨by rfl,fun wx hSw=>by go_simp⟩) (by assumption) ?_
    try simp only [Act.put,zA,zB,zC,zD,zE,zF]
    refine wpAnyH_take (i:=17) (v:=(.pointer (some ⟨C,5,none⟩))) rfl (by kernel_rfl) (by kernel_rfl) (by kernel_rfl) (fun _ _ _ h=>h) (Or.inl ⟨by rfl,fun wx hSw=>by go_simp⟩) (by assumption) ?_
    try simp only [Act.put,zA,zB,zC,zD,zE,zF]
    refine wpAnyH_ready (rs:=[18]) (by kernel_rfl) (by simp) ?_
    refine AllReadyH.cons rfl (fun K hK=> ?_) AllReadyH.nil
    try simp only [zA,zB,zC]
    go_simp
    refine hK.out _ _ ?_ (fun hHeld5=> ?_)
    ·exact HBX.out w5 HB5.out
    clear hK K
    try simp only [Act.put,zA,zB,zC,zD,zE,zF]
    refine wpAnyH_done (by kernel_rfl) ?_ _
    refine NoPanic.normal ?_
    go_wp2_with fail
    go_meet
    exact HMID.out w5 HB5.out
   refine AllReadyH.cons rfl (fun K hK=> ?_) AllReadyH.nil
   try simp only [zA,zB,zC]
   go_simp
   refine hK.out _ _ ?_ (fun hHeld6=> ?_)
   ·exact z1
   clear hK K
   try simp only [Act.put,zA,zB,zC,zD,zE,zF]
   refine wpAnyH_ready (rs:=[7]) (by kernel_rfl) (by simp) ?_
   refine AllReadyH.cons rfl (fun K hK=> ?_) AllReadyH.nil
   try simp only [zA,zB,zC]
   go_simp
   go_at_call 231
   (with_reducible refine HBLO.out.mono ?_)
   rintro e w' ⟨rfl,rfl⟩
   go_wp2_with fail
   refine hK.out _ _ ?_ (fun hHeld7=> ?_)
   ·exact z1
   clear hK K
   try simp only [Act.put,zA,zB,zC,zD,zE,zF]
   refine wpAnyH_take (i:=12) (v:=(.int .i64 (n:Int))) rfl (by kernel_rfl) (by kernel_rfl) (by kernel_rfl) (fun _ _ _ h=>h) (Or.inl ⟨by rfl,fun wx hSw=>by go_simp⟩) (by assumption) ?_
   try simp only [Act.put,zA,zB,zC,zD,zE,zF]
   refine wpAnyH_ready (rs:=[14]) (by kernel_rfl) (by simp) ?_
   refine AllReadyH.cons rfl (fun K hK=> ?_) AllReadyH.nil
   try simp only [zA,zB,zC]
   go_simp
   go_at_call 321
   (with_reducible refine HSEA.out.mono ?_)
   rintro e w5 ⟨rfl,hb5⟩
   have HB5:=Lib.hid hb5
   obtain ⟨⟨y1,y3⟩,y5⟩:=SEE5.out w5 hb5
   clear hb5
   go_wp2_with fail
   refine hK.out _ _ ?_ (fun hHeld8=> ?_)
   ·exact y1
   clear hK K
   try simp only [Act.put,zA,zB,zC,zD,zE,zF]
   refine wpAnyH_take (i:=15) (v:=(.int .i64 ((nx:Int)+(t:Int)))) rfl (by kernel_rfl) (by kernel_rfl) (by kernel_rfl) (fun _ _ _ h=>h) (Or.inl ⟨by rfl,fun wx hSw=>by go_simp⟩) (by assumption) ?_
   try simp only [Act.put,zA,zB,zC,zD,zE,zF]
   refine wpAnyH_take (i:=16) (v:=(.pointer (some ⟨C,0,none⟩))) rfl (by kernel_rfl) (by kernel_rfl) (by kernel_rfl) (fun _ _ _ h=>h) (Or.inl ⟨by rfl,fun wx hSw=>by go_simp⟩) (by assumption) ?_
   try simp only [Act.put,zA,zB,zC,zD,zE,zF]
   refine wpAnyH_take (i:=17) (v:=(.pointer (some ⟨C,5,none⟩))) rfl (by kernel_rfl) (by kernel_rfl) (by kernel_rfl) (fun _ _ _ h=>h) (Or.inl ⟨by rfl,fun wx hSw=>by go_simp⟩) (by assumption) ?_
   try simp only [Act.put,zA,zB,zC,zD,zE,zF]
   refine wpAnyH_ready (rs:=[18]) (by kernel_rfl) (by simp) ?_
   refine AllReadyH.cons rfl (fun K hK=> ?_) AllReadyH.nil
   try simp only [zA,zB,zC]
   go_simp
   refine hK.out _ _ ?_ (fun hHeld9=> ?_)
   ·exact HBX.out w5 HB5.out
   clear hK K
   try simp only [Act.put,zA,zB,zC,zD,zE,zF]
   refine wpAnyH_done (by kernel_rfl) ?_ _
   refine NoPanic.normal ?_
   go_wp2_with fail
   go_meet
   exact HMID.out w5 HB5.out
  refine AllReadyH.cons rfl (fun K hK=> ?_) ?_
  ·try simp only [zA,zB,zC]
   go_simp
   go_at_call 231
   (with_reducible refine HBLO.out.mono ?_)
   rintro e w' ⟨rfl,rfl⟩
   go_wp2_with fail
   refine hK.out _ _ ?_ (fun hHeld10=> ?_)
   ·exact z1
   clear hK K
   try simp only [Act.put,zA,zB,zC,zD,zE,zF]
   refine wpAnyH_ready (rs:=[3,11]) (by kernel_rfl) (by simp) ?_
   refine AllReadyH.cons rfl (fun K hK=> ?_) ?_
   ·try simp only [zA,zB,zC]
    go_simp
    refine hK.out _ _ ?_ (fun hHeld11=> ?_)
    ·exact z1
    clear hK K
    try simp only [Act.put,zA,zB,zC,zD,zE,zF]
    refine wpAnyH_ready (rs:=[11]) (by kernel_rfl) (by simp) ?_
    refine AllReadyH.cons rfl (fun K hK=> ?_) AllReadyH.nil
    try simp only [zA,zB,zC]
    go_simp
    refine hK.out _ _ ?_ (fun hHeld12=> ?_)
    ·exact z1
    clear hK K
    try simp only [Act.put,zA,zB,zC,zD,zE,zF]
    refine wpAnyH_take (i:=12) (v:=(.int .i64 (n:Int))) rfl (by kernel_rfl) (by kernel_rfl) (by kernel_rfl) (fun _ _ _ h=>h) (Or.inl ⟨by rfl,fun wx hSw=>by go_simp⟩) (by assumption) ?_
    try simp only [Act.put,zA,zB,zC,zD,zE,zF]
    refine wpAnyH_ready (rs:=[14]) (by kernel_rfl) (by simp) ?_
    refine AllReadyH.cons rfl (fun K hK=> ?_) AllReadyH.nil
    try simp only [zA,zB,zC]
    go_simp
    go_at_call 321
    (with_reducible refine HSEA.out.mono ?_)
    rintro e w5 ⟨rfl,hb5⟩
    have HB5:=Lib.hid hb5
    obtain ⟨⟨y1,y3⟩,y5⟩:=SEE5.out w5 hb5
    clear hb5
    go_wp2_with fail
    refine hK.out _ _ ?_ (fun hHeld13=> ?_)
    ·exact y1
    clear hK K
    try simp only [Act.put,zA,zB,zC,zD,zE,zF]
    refine wpAnyH_take (i:=15) (v:=(.int .i64 ((nx:Int)+(t:Int)))) rfl (by kernel_rfl) (by kernel_rfl) (by kernel_rfl) (fun _ _ _ h=>h) (Or.inl ⟨by rfl,fun wx hSw=>by go_simp⟩) (by assumption) ?_
    try simp only [Act.put,zA,zB,zC,zD,zE,zF]
    refine wpAnyH_take (i:=16) (v:=(.pointer (some ⟨C,0,none⟩))) rfl (by kernel_rfl) (by kernel_rfl) (by kernel_rfl) (fun _ _ _ h=>h) (Or.inl ⟨by rfl,fun wx hSw=>by go_simp⟩) (by assumption) ?_
    try simp only [Act.put,zA,zB,zC,zD,zE,zF]
    refine wpAnyH_take (i:=17) (v:=(.pointer (some ⟨C,5,none⟩))) rfl (by kernel_rfl) (by kernel_rfl) (by kernel_rfl) (fun _ _ _ h=>h) (Or.inl ⟨by rfl,fun wx hSw=>by go_simp⟩) (by assumption) ?_
    try simp only [Act.put,zA,zB,zC,zD,zE,zF]
    refine wpAnyH_ready (rs:=[18]) (by kernel_rfl) (by simp) ?_
    refine AllReadyH.cons rfl (fun K hK=> ?_) AllReadyH.nil
    try simp only [zA,zB,zC]
    go_simp
    refine hK.out _ _ ?_ (fun hHeld14=> ?_)
    ·exact HBX.out w5 HB5.out
    clear hK K
    try simp only [Act.put,zA,zB,zC,zD,zE,zF]
    refine wpAnyH_done (by kernel_rfl) ?_ _
    refine NoPanic.normal ?_
    go_wp2_with fail
    go_meet
    exact HMID.out w5 HB5.out
   refine AllReadyH.cons rfl (fun K hK=> ?_) AllReadyH.nil
   try simp only [zA,zB,zC]
   go_simp
   refine hK.out _ _ ?_ (fun hHeld15=> ?_)
   ·exact z1
   clear hK K
   try simp only [Act.put,zA,zB,zC,zD,zE,zF]
   refine wpAnyH_take (i:=12) (v:=(.int .i64 (n:Int))) rfl (by kernel_rfl) (by kernel_rfl) (by kernel_rfl) (fun _ _ _ h=>h) (Or.inl ⟨by rfl,fun wx hSw=>by go_simp⟩) (by assumption) ?_
   try simp only [Act.put,zA,zB,zC,zD,zE,zF]
   refine wpAnyH_ready (rs:=[3,14]) (by kernel_rfl) (by simp) ?_
   refine AllReadyH.cons rfl (fun K hK=> ?_) ?_
   ·try simp only [zA,zB,zC]
    go_simp
    refine hK.out _ _ ?_ (fun hHeld16=> ?_)
    ·exact z1
    clear hK K
    try simp only [Act.put,zA,zB,zC,zD,zE,zF]
    refine wpAnyH_ready (rs:=[14]) (by kernel_rfl) (by simp) ?_
    refine AllReadyH.cons rfl (fun K hK=> ?_) AllReadyH.nil
    try simp only [zA,zB,zC]
    go_simp
    go_at_call 321
    (with_reducible refine HSEA.out.mono ?_)
    rintro e w5 ⟨rfl,hb5⟩
    have HB5:=Lib.hid hb5
    obtain ⟨⟨y1,y3⟩,y5⟩:=SEE5.out w5 hb5
    clear hb5
    go_wp2_with fail
    refine hK.out _ _ ?_ (fun hHeld17=> ?_)
    ·exact y1
    clear hK K
    try simp only [Act.put,zA,zB,zC,zD,zE,zF]
    refine wpAnyH_take (i:=15) (v:=(.int .i64 ((nx:Int)+(t:Int)))) rfl (by kernel_rfl) (by kernel_rfl) (by kernel_rfl) (fun _ _ _ h=>h) (Or.inl ⟨by rfl,fun wx hSw=>by go_simp⟩) (by assumption) ?_
    try simp only [Act.put,zA,zB,zC,zD,zE,zF]
    refine wpAnyH_take (i:=16) (v:=(.pointer (some ⟨C,0,none⟩))) rfl (by kernel_rfl) (by kernel_rfl) (by kernel_rfl) (fun _ _ _ h=>h) (Or.inl ⟨by rfl,fun wx hSw=>by go_simp⟩) (by assumption) ?_
    try simp only [Act.put,zA,zB,zC,zD,zE,zF]
    refine wpAnyH_take (i:=17) (v:=(.pointer (some ⟨C,5,none⟩))) rfl (by kernel_rfl) (by kernel_rfl) (by kernel_rfl) (fun _ _ _ h=>h) (Or.inl ⟨by rfl,fun wx hSw=>by go_simp⟩) (by assumption) ?_
    try simp only [Act.put,zA,zB,zC,zD,zE,zF]
    refine wpAnyH_ready (rs:=[18]) (by kernel_rfl) (by simp) ?_
    refine AllReadyH.cons rfl (fun K hK=> ?_) AllReadyH.nil
    try simp only [zA,zB,zC]
    go_simp
    refine hK.out _ _ ?_ (fun hHeld18=> ?_)
    ·exact HBX.out w5 HB5.out
    clear hK K
    try simp only [Act.put,zA,zB,zC,zD,zE,zF]
    refine wpAnyH_done (by kernel_rfl) ?_ _
    refine NoPanic.normal ?_
    go_wp2_with fail
    go_meet
    exact HMID.out w5 HB5.out
   refine AllReadyH.cons rfl (fun K hK=> ?_) AllReadyH.nil
   try simp only [zA,zB,zC]
   go_simp
   go_at_call 321
   (with_reducible refine HSEA.out.mono ?_)
   rintro e w5 ⟨rfl,hb5⟩
   have HB5:=Lib.hid hb5
   obtain ⟨⟨y1,y3⟩,y5⟩:=SEE5.out w5 hb5
   clear hb5
   go_wp2_with fail
   refine hK.out _ _ ?_ (fun hHeld19=> ?_)
   ·exact y1
   clear hK K
   try simp only [Act.put,zA,zB,zC,zD,zE,zF]
   refine wpAnyH_ready (rs:=[3]) (by kernel_rfl) (by simp) ?_
   refine AllReadyH.cons rfl (fun K hK=> ?_) AllReadyH.nil
   try simp only [zA,zB,zC]
   go_simp
   refine hK.out _ _ ?_ (fun hHeld20=> ?_)
   ·exact y1
   clear hK K
   try simp only [Act.put,zA,zB,zC,zD,zE,zF]
   refine wpAnyH_take (i:=15) (v:=(.int .i64 ((nx:Int)+(t:Int)))) rfl (by kernel_rfl) (by kernel_rfl) (by kernel_rfl) (fun _ _ _ h=>h) (Or.inl ⟨by rfl,fun wx hSw=>by go_simp⟩) (by assumption) ?_
   try simp only [Act.put,zA,zB,zC,zD,zE,zF]
   refine wpAnyH_take (i:=16) (v:=(.pointer (some ⟨C,0,none⟩))) rfl (by kernel_rfl) (by kernel_rfl) (by kernel_rfl) (fun _ _ _ h=>h) (Or.inl ⟨by rfl,fun wx hSw=>by go_simp⟩) (by assumption) ?_
   try simp only [Act.put,zA,zB,zC,zD,zE,zF]
   refine wpAnyH_take (i:=17) (v:=(.pointer (some ⟨C,5,none⟩))) rfl (by kernel_rfl) (by kernel_rfl) (by kernel_rfl) (fun _ _ _ h=>h) (Or.inl ⟨by rfl,fun wx hSw=>by go_simp⟩) (by assumption) ?_
   try simp only [Act.put,zA,zB,zC,zD,zE,zF]
   refine wpAnyH_ready (rs:=[18]) (by kernel_rfl) (by simp) ?_
   refine AllReadyH.cons rfl (fun K hK=> ?_) AllReadyH.nil
   try simp only [zA,zB,zC]
   go_simp
   refine hK.out _ _ ?_ (fun hHeld21=> ?_)
   ·exact HBX.out w5 HB5.out
   clear hK K
   try simp only [Act.put,zA,zB,zC,zD,zE,zF]
   refine wpAnyH_done (by kernel_rfl) ?_ _
   refine NoPanic.normal ?_
   go_wp2_with fail
   go_meet
   exact HMID.out w5 HB5.out
  refine AllReadyH.cons rfl (fun K hK=> ?_) AllReadyH.nil
  try simp only [zA,zB,zC]
  go_simp
  refine hK.out _ _ ?_ (fun hHeld22=> ?_)
  ·exact z1
  clear hK K
  try simp only [Act.put,zA,zB,zC,zD,zE,zF]
  refine wpAnyH_ready (rs:=[3,7]) (by kernel_rfl) (by simp) ?_
  refine AllReadyH.cons rfl (fun K hK=> ?_) ?_
  ·try simp only [zA,zB,zC]
   go_simp
   refine hK.out _ _ ?_ (fun hHeld23=> ?_)
   ·exact z1
   clear hK K
   try simp only [Act.put,zA,zB,zC,zD,zE,zF]
   refine wpAnyH_ready (rs:=[7]) (by kernel_rfl) (by simp) ?_
   refine AllReadyH.cons rfl (fun K hK=> ?_) AllReadyH.nil
   try simp only [zA,zB,zC]
   go_simp
   go_at_call 231
   (with_reducible refine HBLO.out.mono ?_)
   rintro e w' ⟨rfl,rfl⟩
   go_wp2_with fail
   refine hK.out _ _ ?_ (fun hHeld24=> ?_)
   ·exact z1
   clear hK K
   try simp only [Act.put,zA,zB,zC,zD,zE,zF]
   refine wpAnyH_take (i:=12) (v:=(.int .i64 (n:Int))) rfl (by kernel_rfl) (by kernel_rfl) (by kernel_rfl) (fun _ _ _ h=>h) (Or.inl ⟨by rfl,fun wx hSw=>by go_simp⟩) (by assumption) ?_
   try simp only [Act.put,zA,zB,zC,zD,zE,zF]
   refine wpAnyH_ready (rs:=[14]) (by kernel_rfl) (by simp) ?_
   refine AllReadyH.cons rfl (fun K hK=> ?_) AllReadyH.nil
   try simp only [zA,zB,zC]
   go_simp
   go_at_call 321
   (with_reducible refine HSEA.out.mono ?_)
   rintro e w5 ⟨rfl,hb5⟩
   have HB5:=Lib.hid hb5
   obtain ⟨⟨y1,y3⟩,y5⟩:=SEE5.out w5 hb5
   clear hb5
   go_wp2_with fail
   refine hK.out _ _ ?_ (fun hHeld25=> ?_)
   ·exact y1
   clear hK K
   try simp only [Act.put,zA,zB,zC,zD,zE,zF]
   refine wpAnyH_take (i:=15) (v:=(.int .i64 ((nx:Int)+(t:Int)))) rfl (by kernel_rfl) (by kernel_rfl) (by kernel_rfl) (fun _ _ _ h=>h) (Or.inl ⟨by rfl,fun wx hSw=>by go_simp⟩) (by assumption) ?_
   try simp only [Act.put,zA,zB,zC,zD,zE,zF]
   refine wpAnyH_take (i:=16) (v:=(.pointer (some ⟨C,0,none⟩))) rfl (by kernel_rfl) (by kernel_rfl) (by kernel_rfl) (fun _ _ _ h=>h) (Or.inl ⟨by rfl,fun wx hSw=>by go_simp⟩) (by assumption) ?_
   try simp only [Act.put,zA,zB,zC,zD,zE,zF]
   refine wpAnyH_take (i:=17) (v:=(.pointer (some ⟨C,5,none⟩))) rfl (by kernel_rfl) (by kernel_rfl) (by kernel_rfl) (fun _ _ _ h=>h) (Or.inl ⟨by rfl,fun wx hSw=>by go_simp⟩) (by assumption) ?_
   try simp only [Act.put,zA,zB,zC,zD,zE,zF]
   refine wpAnyH_ready (rs:=[18]) (by kernel_rfl) (by simp) ?_
   refine AllReadyH.cons rfl (fun K hK=> ?_) AllReadyH.nil
   try simp only [zA,zB,zC]
   go_simp
   refine hK.out _ _ ?_ (fun hHeld26=> ?_)
   ·exact HBX.out w5 HB5.out
   clear hK K
   try simp only [Act.put,zA,zB,zC,zD,zE,zF]
   refine wpAnyH_done (by kernel_rfl) ?_ _
   refine NoPanic.normal ?_
   go_wp2_with fail
   go_meet
   exact HMID.out w5 HB5.out
  refine AllReadyH.cons rfl (fun K hK=> ?_) AllReadyH.nil
  try simp only [zA,zB,zC]
  go_simp
  go_at_call 231
  (with_reducible refine HBLO.out.mono ?_)
  rintro e w' ⟨rfl,rfl⟩
  go_wp2_with fail
  refine hK.out _ _ ?_ (fun hHeld27=> ?_)
  ·exact z1
  clear hK K
  try simp only [Act.put,zA,zB,zC,zD,zE,zF]
  refine wpAnyH_take (i:=12) (v:=(.int .i64 (n:Int))) rfl (by kernel_rfl) (by kernel_rfl) (by kernel_rfl) (fun _ _ _ h=>h) (Or.inl ⟨by rfl,fun wx hSw=>by go_simp⟩) (by assumption) ?_
  try simp only [Act.put,zA,zB,zC,zD,zE,zF]
  refine wpAnyH_ready (rs:=[3,14]) (by kernel_rfl) (by simp) ?_
  refine AllReadyH.cons rfl (fun K hK=> ?_) ?_
  ·try simp only [zA,zB,zC]
   go_simp
   refine hK.out _ _ ?_ (fun hHeld28=> ?_)
   ·exact z1
   clear hK K
   try simp only [Act.put,zA,zB,zC,zD,zE,zF]
   refine wpAnyH_ready (rs:=[14]) (by kernel_rfl) (by simp) ?_
   refine AllReadyH.cons rfl (fun K hK=> ?_) AllReadyH.nil
   try simp only [zA,zB,zC]
   go_simp
   go_at_call 321
   (with_reducible refine HSEA.out.mono ?_)
   rintro e w5 ⟨rfl,hb5⟩
   have HB5:=Lib.hid hb5
   obtain ⟨⟨y1,y3⟩,y5⟩:=SEE5.out w5 hb5
   clear hb5
   go_wp2_with fail
   refine hK.out _ _ ?_ (fun hHeld29=> ?_)
   ·exact y1
   clear hK K
   try simp only [Act.put,zA,zB,zC,zD,zE,zF]
   refine wpAnyH_take (i:=15) (v:=(.int .i64 ((nx:Int)+(t:Int)))) rfl (by kernel_rfl) (by kernel_rfl) (by kernel_rfl) (fun _ _ _ h=>h) (Or.inl ⟨by rfl,fun wx hSw=>by go_simp⟩) (by assumption) ?_
   try simp only [Act.put,zA,zB,zC,zD,zE,zF]
   refine wpAnyH_take (i:=16) (v:=(.pointer (some ⟨C,0,none⟩))) rfl (by kernel_rfl) (by kernel_rfl) (by kernel_rfl) (fun _ _ _ h=>h) (Or.inl ⟨by rfl,fun wx hSw=>by go_simp⟩) (by assumption) ?_
   try simp only [Act.put,zA,zB,zC,zD,zE,zF]
   refine wpAnyH_take (i:=17) (v:=(.pointer (some ⟨C,5,none⟩))) rfl (by kernel_rfl) (by kernel_rfl) (by kernel_rfl) (fun _ _ _ h=>h) (Or.inl ⟨by rfl,fun wx hSw=>by go_simp⟩) (by assumption) ?_
   try simp only [Act.put,zA,zB,zC,zD,zE,zF]
   refine wpAnyH_ready (rs:=[18]) (by kernel_rfl) (by simp) ?_
   refine AllReadyH.cons rfl (fun K hK=> ?_) AllReadyH.nil
   try simp only [zA,zB,zC]
   go_simp
   refine hK.out _ _ ?_ (fun hHeld30=> ?_)
   ·exact HBX.out w5 HB5.out
   clear hK K
   try simp only [Act.put,zA,zB,zC,zD,zE,zF]
   refine wpAnyH_done (by kernel_rfl) ?_ _
   refine NoPanic.normal ?_
   go_wp2_with fail
   go_meet
   exact HMID.out w5 HB5.out
  refine AllReadyH.cons rfl (fun K hK=> ?_) AllReadyH.nil
  try simp only [zA,zB,zC]
  go_simp
  go_at_call 321
  (with_reducible refine HSEA.out.mono ?_)
  rintro e w5 ⟨rfl,hb5⟩
  have HB5:=Lib.hid hb5
  obtain ⟨⟨y1,y3⟩,y5⟩:=SEE5.out w5 hb5
  clear hb5
  go_wp2_with fail
  refine hK.out _ _ ?_ (fun hHeld31=> ?_)
  ·exact y1
  clear hK K
  try simp only [Act.put,zA,zB,zC,zD,zE,zF]
  refine wpAnyH_ready (rs:=[3]) (by kernel_rfl) (by simp) ?_
  refine AllReadyH.cons rfl (fun K hK=> ?_) AllReadyH.nil
  try simp only [zA,zB,zC]
  go_simp
  refine hK.out _ _ ?_ (fun hHeld32=> ?_)
  ·exact y1
  clear hK K
  try simp only [Act.put,zA,zB,zC,zD,zE,zF]
  refine wpAnyH_take (i:=15) (v:=(.int .i64 ((nx:Int)+(t:Int)))) rfl (by kernel_rfl) (by kernel_rfl) (by kernel_rfl) (fun _ _ _ h=>h) (Or.inl ⟨by rfl,fun wx hSw=>by go_simp⟩) (by assumption) ?_
  try simp only [Act.put,zA,zB,zC,zD,zE,zF]
  refine wpAnyH_take (i:=16) (v:=(.pointer (some ⟨C,0,none⟩))) rfl (by kernel_rfl) (by kernel_rfl) (by kernel_rfl) (fun _ _ _ h=>h) (Or.inl ⟨by rfl,fun wx hSw=>by go_simp⟩) (by assumption) ?_
  try simp only [Act.put,zA,zB,zC,zD,zE,zF]
  refine wpAnyH_take (i:=17) (v:=(.pointer (some ⟨C,5,none⟩))) rfl (by kernel_rfl) (by kernel_rfl) (by kernel_rfl) (fun _ _ _ h=>h) (Or.inl ⟨by rfl,fun wx hSw=>by go_simp⟩) (by assumption) ?_
  try simp only [Act.put,zA,zB,zC,zD,zE,zF]
  refine wpAnyH_ready (rs:=[18]) (by kernel_rfl) (by simp) ?_
  refine AllReadyH.cons rfl (fun K hK=> ?_) AllReadyH.nil
  try simp only [zA,zB,zC]
  go_simp
  refine hK.out _ _ ?_ (fun hHeld33=> ?_)
  ·exact HBX.out w5 HB5.out
  clear hK K
  try simp only [Act.put,zA,zB,zC,zD,zE,zF]
  refine wpAnyH_done (by kernel_rfl) ?_ _
  refine NoPanic.normal ?_
  go_wp2_with fail
  go_meet
  exact HMID.out w5 HB5.out
 case rest=>
  obtain ⟨hbc,hoc⟩:=hcut
  have hl0:=HL.out.only (OnlyIn.of_below (S:=fun _=>False) HB0.out) (fun D hD=>hD.elim)
  have hlc:=hl0.only hoc hblk0.curs
  have hlin:=hbc.lin hlc
  have hown:OnlyAt C w wc:=(OnlyIn.of_below HB0.out).trans hoc
  have b1:wc.cell? ⟨w.heap.size,0,none⟩=some (.pointer (some ⟨C,0,none⟩)):=(hoc.keepCell (p:=⟨w.heap.size,0,none⟩) (World.block_lt_of_cell? wb _ (SEEN.out wb (Below.refl _ _)).box1) (fun (h:w.heap.size=C)=>by omega)).trans (SEEN.out wb (Below.refl _ _)).box1
  obtain ⟨nt,hnt'⟩:∃ nt,nt=nx+t:=⟨_,rfl⟩
  rw [← hnt'] at hbc HTD
  obtain ⟨⟨_,_,_,_,_,c5,_⟩,f4,f5,f6,f7⟩:=cell_eight hbc
  have hbc':=HNN.out
  have htl:nt≤N:=by have h1:=HN.out;omega
  have HB1:Hid (∀ n,Calls Tryz.prog 231 #[.pointer (some ⟨C,0,none⟩)] (wc.drewN n) fun e w'=>e= .returned (.int .i64 (N:Int))∧w'=wc.drewN n):=Lib.hid fun n=>by
   have :=in_Blocks C _ g (wc.drewN n) (hlin.below ⟨rfl,rfl,rfl,Nat.le_refl _,fun _ _=>rfl⟩)
   rw [← HNN.out] at this
   exact this.mono fun e w' h=>⟨h.1,h.2.symm⟩
  have HOWN:=Lib.hid hown
  have HLC:=Lib.hid hlc
  have HLIN:=Lib.hid hlin
  have HBC:=Lib.hid hbc
  have HB1x:=Lib.hid b1
  have HC:=Lib.hid hC
  clear z1 z2 z3 hl0 hlc hlin hown hbc hoc hw2 hnz hnt hbc' hcf1 hblk0 hsz0
  by_cases hend:nt=N
  ·have hq:((nt:Int)==(N:Int))=true:=by rw [hend];exact beq_self_eq_true _
   have HE:=Lib.hid hend
   have HNT:=Lib.hid hnt'
   clear hend hnt' htl
   go_wp2
   go_quiet ((go_at_call 231;exact Calls.quiet_of_same (HB1.out _)))
   obtain ⟨wd,hwd⟩:∃ wd,wd=wc.drewN nq:=⟨_,rfl⟩
   have hbd:Below wc.heap.size wc wd:=by rw [hwd];exact ⟨rfl,rfl,rfl,Nat.le_refl _,fun _ _=>rfl⟩
   rw [← hwd]
   clear hwd
   have hblkd:=HBC.out.only (OnlyIn.of_below (S:=fun _=>False) hbd) (fun h=>h)
   obtain ⟨⟨_,_,_,_,d4,d5,d6,_⟩,e4,e5,e6,e7⟩:=cell_eight hblkd
   have bd:wd.cell? ⟨w.heap.size,0,none⟩=some (.pointer (some ⟨C,0,none⟩)):=(hbd.cell (World.block_lt_of_cell? wc _ b1)).trans b1
   have HBD:=Lib.hid hbd
   have HBLKD:=Lib.hid hblkd
   clear hbd hblkd b1 c5 f4 f5 f6 f7
   go_wp2
   go_region
   all_goals
    go_wp2
    refine bodyPost_ret (results_none rfl _ _ _) rfl ?_
    have hz:=((HBLKD.out.setRest none 0 0).setBehind true)
    have hon:OnlyAt C wd ((wd.setCell ⟨C,4,none⟩ (.slice none 0 0)).setCell ⟨C,6,none⟩ (.bool true)):=((OnlyIn.of_below (Below.refl _ wd)).setCell _).setCell _
    obtain ⟨wz,hwz⟩:∃ wz,wz=(wd.setCell ⟨C,4,none⟩ (.slice none 0 0)).setCell ⟨C,6,none⟩ (.bool true):=⟨_,rfl⟩
    rw [← hwz] at hz hon
    rw [← hwz]
    have hzd:Below wz.heap.size wz wz.drew:=(Below.refl _ wz).drew
    have hz:=hz.only (OnlyIn.of_below (S:=fun _=>False) hzd) (fun h=>h)
    have hon:=hon.trans (OnlyIn.of_below hzd)
    have hld:=HLC.out.only (OnlyIn.of_below (S:=fun _=>False) HBD.out) (fun D hD=>hD.elim)
    have hnb:nt=blocksP g.length:=by have :=HE.out;have :=HNN.out;omega
    have htd:=HTD.out.1
    rw [if_pos hnb] at htd
    refine ⟨⟨_,rfl⟩,(g.length:Int),vb,ve,none,0,nt,true,rd,[],hz,hld.only hon HBLKD.out.curs,.inr (.inl ⟨rfl,hnb,rfl,rfl⟩),Nat.le_refl _,Nat.zero_le _,PostsN.nil (by have h1:=HFU.out;have h2:=HOWN.out.size;have h3:=HBD.out.size;have h4:=hon.size;omega),htd,(fun h=>absurd rfl h),(fun _=>advC_stay (by omega)),?_⟩
    have h1:=(HOWN.out.trans (OnlyIn.of_below HBD.out)).trans hon
    exact ⟨h1.os,h1.tape,h1.output,h1.size,h1.block⟩
  ·have hq:((nt:Int)==(N:Int))=false:=by rw [beq_eq_false_iff_ne];omega
   have HE:=Lib.hid hend
   have HNT:=Lib.hid hnt'
   clear hend hnt'
   go_wp2
   go_quiet ((go_at_call 231;exact Calls.quiet_of_same (HB1.out _)))
   obtain ⟨wd,hwd⟩:∃ wd,wd=wc.drewN nq:=⟨_,rfl⟩
   have hbd:Below wc.heap.size wc wd:=by rw [hwd];exact ⟨rfl,rfl,rfl,Nat.le_refl _,fun _ _=>rfl⟩
   rw [← hwd]
   clear hwd
   have hblkd:=HBC.out.only (OnlyIn.of_below (S:=fun _=>False) hbd) (fun h=>h)
   obtain ⟨⟨_,_,_,_,d4,d5,d6,_⟩,e4,e5,e6,e7⟩:=cell_eight hblkd
   have bd:wd.cell? ⟨w.heap.size,0,none⟩=some (.pointer (some ⟨C,0,none⟩)):=(hbd.cell (World.block_lt_of_cell? wc _ b1)).trans b1
   clear b1 c5 f4 f5 f6 f7
   go_wp2
   obtain ⟨we,hwe⟩:∃ we,we=wd.drew:=⟨_,rfl⟩
   have hbe:Below wc.heap.size wc we:=by rw [hwe];exact hbd.trans ((Below.refl _ wd).drew)
   have HBE:=Lib.hid hbe
   have HBK:=Lib.hid (in_Block C g we (HLIN.out.below hbe) HG.out.may HG.out.bytes (by have :=HG.out.len;omega) (nt:Int) (by omega))
   have HST:Hid (∀ w6,Below we.heap.size we w6→((w6.cell? ⟨w.heap.size,0,none⟩=some (.pointer (some ⟨C,0,none⟩))∧w6.cell? ⟨C,5,none⟩=some (.int .i64 (nt:Int)))∧(w6.cell? ⟨C,4,none⟩=some (.slice A (List.length rest) c)∧w6.frozen? ⟨C,4,none⟩=false))∧
     ∀ u,(w6.setCell ⟨C,4,none⟩ u).cell? ⟨w.heap.size,0,none⟩=some (.pointer (some ⟨C,0,none⟩))∧(w6.setCell ⟨C,4,none⟩ u).cell? ⟨C,5,none⟩=some (.int .i64 (nt:Int))):=Lib.hid fun w6 h6=>by
    have h6':Below wc.heap.size wc w6:=HBE.out.trans (h6.mono HBE.out.size)
    have hblk6:=HBC.out.only (OnlyIn.of_below (S:=fun _=>False) h6') (fun h=>h)
    have y1:w6.cell? ⟨w.heap.size,0,none⟩=some (.pointer (some ⟨C,0,none⟩)):=(h6'.cell (World.block_lt_of_cell? wc _ HB1x.out)).trans HB1x.out
    obtain ⟨⟨_,_,_,_,x4,x5,_⟩,y4,_⟩:=cell_eight hblk6
    refine ⟨⟨⟨y1,x5⟩,x4,y4⟩,fun u=>⟨?_,?_⟩⟩
    ·rw [World.cell?_of_block (a:=⟨w.heap.size,0,none⟩) (Below.heap_setCell w6 ⟨C,4,none⟩ u w.heap.size (fun (h:w.heap.size=C)=>by have :=HC.out;omega))]
     exact y1
    ·have hx:(w6.setCell ⟨C,4,none⟩ u).heap[C]?=some (.cells #[vb,ve,.int .i64 (g.length:Int),.int .i64 (totalP g:Int),u,.int .i64 (nt:Int),.bool bh,.int .i64 rd] 338 (0,0)):=
      heap_setCell_same w6 C 4 #[vb,ve,.int .i64 (g.length:Int),.int .i64 (totalP g:Int),.slice A (List.length rest) c,.int .i64 (nt:Int),.bool bh,.int .i64 rd] 338 u hblk6
     exact (cell_eight hx).1.2.2.2.2.2.1
   obtain ⟨⟨⟨z1,z2⟩,z3,z4⟩,_⟩:=HST.out we (Below.refl _ we)
   rw [hwe] at z1 z2 z3 z4
   clear hbe hbd hblkd bd d4 d5 d6 e4 e5 e6 e7
   go_region_held3 (fun w'=>w'.cell? ⟨w.heap.size,0,none⟩=some (.pointer (some ⟨C,0,none⟩))∧w'.cell? ⟨C,5,none⟩=some (.int .i64 (nt:Int)))
    (first|exact ⟨z1,z2⟩|exact ⟨x1,x2⟩|exact hs6 _)
    (first
     |(go_simp;go_at_call 323;rw [← hwe];(with_reducible refine HBK.out.mono ?_);rintro e w6 ⟨v,rfl,hnew,hb6⟩;obtain ⟨A',c',rfl,hc',hcx',hpn⟩:=PostsN.of_new (p:=fu) hnew (by have h1:=HFU.out;have h2:=HOWN.out.size;have h3:=HBE.out.size;omega) hb6.size;obtain ⟨m',hm'⟩:∃ m',m'=(blockP g (nt:Int)).length:=⟨_,rfl⟩;rw [← hm'];have HM:=Lib.hid hm';have HPN:=Lib.hid hpn;have HB6:=Lib.hid hb6;obtain ⟨⟨⟨x1,x2⟩,x3,x4⟩,hs6⟩:=HST.out w6 hb6;clear hpn hnew hm' hb6))
   all_goals
    have HB6':Hid (Below wc.heap.size wc w6):=Lib.hid (HBE.out.trans (HB6.out.mono HBE.out.size))
    have hblk6:=HBC.out.only (OnlyIn.of_below (S:=fun _=>False) HB6'.out) (fun h=>h)
    have hz6:=(hblk6.setRest A' m' c')
    obtain ⟨w7,hw7⟩:∃ w7,w7=w6.setCell ⟨C,4,none⟩ (.slice A' m' c'):=⟨_,rfl⟩
    have ho7:OnlyAt C w6 w7:=by rw [hw7];exact (OnlyIn.of_below (Below.refl _ w6)).setCell _
    rw [← hw7] at hz6
    obtain ⟨hy1,hy2⟩:=hs6 (.slice A' m' c')
    rw [← hw7] at hy1 hy2
    rw [← hw7]
    obtain ⟨⟨_,_,_,_,_,_,_,d7⟩,_,e5,_,e7⟩:=cell_eight hz6
    have hnw:IntKind.i64.wrap ((nt:Int)+1)=(nt:Int)+1:=IntWalk.i64_in _ (by omega)
    have hz8:=(hz6.setNext (nt+1))
    rw [show ((nt+1:Nat):Int)=(nt:Int)+1 by omega] at hz8
    obtain ⟨w8,hw8⟩:∃ w8,w8=w7.setCell ⟨C,5,none⟩ (.int .i64 ((nt:Int)+1)):=⟨_,rfl⟩
    have ho8:OnlyAt C w7 w8:=by rw [hw8];exact (OnlyIn.of_below (Below.refl _ w7)).setCell _
    rw [← hw8] at hz8
    obtain ⟨⟨_,_,_,_,_,_,_,d8⟩,_,_,_,e8⟩:=cell_eight hz8
    have hy8:w8.cell? ⟨w.heap.size,0,none⟩=some (.pointer (some ⟨C,0,none⟩)):=(ho8.keepCell (p:=⟨w.heap.size,0,none⟩) (World.block_lt_of_cell? w7 _ hy1) (fun (h:w.heap.size=C)=>by have :=HC.out;omega)).trans hy1
    have HZ8:=Lib.hid hz8
    have HO:=Lib.hid (ho7.trans ho8)
    have HBLK6:=Lib.hid hblk6
    have HW8:=Lib.hid hw8
    clear hz8 hz6 ho7 ho8 hblk6 hw7 hw8 hs6 x1 x2 x3 x4 z1 z2 z3 z4
    go_wp2
    rw [← HW8.out]
    go_end0
    have hz9:=HZ8.out.setReads (wrap64 (rd+1))
    have ho9:OnlyAt C w8 (w8.setCell ⟨C,7,none⟩ (.int .i64 (wrap64 (rd+1)))):=(OnlyIn.of_below (Below.refl _ w8)).setCell _
    obtain ⟨w9,hw9⟩:∃ w9,w9=w8.setCell ⟨C,7,none⟩ (.int .i64 (wrap64 (rd+1))):=⟨_,rfl⟩
    rw [← hw9] at hz9 ho9
    rw [← hw9]
    have ho69:OnlyAt C w6 w9:=HO.out.trans ho9
    have hcu:Curs (fun k=>k=C) w6:=HBLK6.out.curs
    have hl6:=HLC.out.only (OnlyIn.of_below (S:=fun _=>False) HB6'.out) (fun D hD=>hD.elim)
    have hlt:nt<blocksP g.length:=by have :=HE.out;have :=HNN.out;omega
    have htd:=HTD.out.1
    rw [if_neg (by omega)] at htd
    have hbl:=blockP_length (l:=g) nt
    have hpos:0<(blockP g (nt:Int)).length:=by have h5:blocksP g.length=(g.length+7)/8:=rfl;omega
    have hle:doc≤lastP g (nt:Int):=by
     have :=HCF3.out t (Nat.le_refl _) (by have h1:=HN.out;have h2:=HNT.out;omega)
     rw [← HNT.out] at this
     exact of_decide_eq_true this
    refine ⟨⟨_,rfl⟩,((8*nt:Nat):Int),vb,ve,A',c',nt+1,bh,_,blockP g (nt:Int),(by rw [← HM.out];exact hz9),hl6.only ho69 hcu,.inr (.inr ⟨nt,0,hpos,by omega,rfl,?_,(by simp)⟩),hc',hcx',HPN.out.only ho69 hcu,htd,(fun _=>by rw [show ((nt+1:Nat):Int)-1=(nt:Int) by omega];exact hle),(fun h=>by rw [h] at hpos;simp at hpos),?_⟩
    ·rcases HP.out with ⟨_,_,h,_⟩|⟨_,h,_,_⟩|⟨_,_,_,_,_,h,_⟩
     ·exact h
     ·have :=HNT.out;omega
     ·exact h
    ·exact (HOWN.out.trans (OnlyIn.of_below HB6'.out)).trans ho69
end Go.Proofs.YtldcadpemnpbmaaGreatDoor
