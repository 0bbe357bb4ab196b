import Derived.Shelf.Sort.Plain
import Derived.Shelf.Slices.In.SortNone
import Derived.Sort.OwnSorted
import Derived.Sort.Grow
import Derived.Lib.OwnBridge
import Derived.Test.YtmoomnpbiifedaaGreatMSQ01
import Derived.Test.YtmoomnpbiifedaaGreatMSQ02
import Derived.Test.YtmoomnpbiifedaaGreatMSQ15
import Derived.Test.YtmoomnpbiifedaaGreatMSQ05
import Derived.Test.YtmoomnpbiifedaaGreatMSQ14
import Derived.BigCall
import Derived.BigQuiet
import Derived.Deep.QuietTactic
import Derived.Test.YtmoomnpbiifedaaGreatMSQ04
import Derived.Deep.RegionHeld3
import Derived.Deep.AppendLies
set_option linter.unusedVariables false
namespace Go.Proofs.YtmoomnpbiifedaaGreat
open Go.Shelf Go.RowKit Go.Sort
def laySortS_ren:Go.Shelf.Ren:=⟨fun |125=>144|128=>170|129=>171|190=>119|258=>143|302=>161|303=>162|304=>163|305=>164|306=>165|307=>166|308=>167|309=>168|310=>169|329=>184|330=>185|333=>183|334=>186|335=>187|336=>157|344=>202|n=>n,fun |0=>0|3=>3|4=>4|5=>5|9=>9|31=>23|46=>157|51=>224|53=>226|131=>109|182=>216|183=>217|218=>236|222=>240|228=>258|229=>231|n=>n,fun |n=>n⟩
theorem laySortS:Lays.n190 Tryz.prog laySortS_ren:={
 mixed:=by kernel_rfl
 f125:=Tryz.func144.trans (congrArg some (by kernel_rfl))
 f128:=Tryz.func170.trans (congrArg some (by kernel_rfl))
 f129:=Tryz.func171.trans (congrArg some (by kernel_rfl))
 f190:=Tryz.func119.trans (congrArg some (by kernel_rfl))
 f258:=Tryz.func143.trans (congrArg some (by kernel_rfl))
 f302:=Tryz.func161.trans (congrArg some (by kernel_rfl))
 f303:=Tryz.func162.trans (congrArg some (by kernel_rfl))
 f304:=Tryz.func163.trans (congrArg some (by kernel_rfl))
 f305:=Tryz.func164.trans (congrArg some (by kernel_rfl))
 f306:=Tryz.func165.trans (congrArg some (by kernel_rfl))
 f307:=Tryz.func166.trans (congrArg some (by kernel_rfl))
 f308:=Tryz.func167.trans (congrArg some (by kernel_rfl))
 f309:=Tryz.func168.trans (congrArg some (by kernel_rfl))
 f310:=Tryz.func169.trans (congrArg some (by kernel_rfl))
 f329:=Tryz.func184.trans (congrArg some (by kernel_rfl))
 f330:=Tryz.func185.trans (congrArg some (by kernel_rfl))
 f333:=Tryz.func183.trans (congrArg some (by kernel_rfl))
 f334:=Tryz.func186.trans (congrArg some (by kernel_rfl))
 f335:=Tryz.func187.trans (congrArg some (by kernel_rfl))
 f336:=Tryz.func157.trans (congrArg some (by kernel_rfl))
 f344:=Tryz.func202.trans (congrArg some (by kernel_rfl))
 t0:=Tryz.underlying0
 a0:=Tryz.isAgg0
 z0:=Tryz.sizeOf0
 v0:=Tryz.zeroValue0
 t3:=Tryz.underlying3
 a3:=Tryz.isAgg3
 z3:=Tryz.sizeOf3
 v3:=Tryz.zeroValue3
 t4:=Tryz.underlying4
 a4:=Tryz.isAgg4
 z4:=Tryz.sizeOf4
 v4:=Tryz.zeroValue4
 t5:=Tryz.underlying5
 a5:=Tryz.isAgg5
 z5:=Tryz.sizeOf5
 v5:=Tryz.zeroValue5
 t9:=Tryz.underlying9
 a9:=Tryz.isAgg9
 z9:=Tryz.sizeOf9
 v9:=Tryz.zeroValue9
 t31:=Tryz.underlying23
 a31:=Tryz.isAgg23
 z31:=Tryz.sizeOf23
 v31:=Tryz.zeroValue23
 t46:=Tryz.underlying157
 a46:=Tryz.isAgg157
 z46:=Tryz.sizeOf157
 v46:=Tryz.zeroValue157
 t51:=Tryz.underlying224
 a51:=Tryz.isAgg224
 z51:=Tryz.sizeOf224
 v51:=Tryz.zeroValue224
 t53:=Tryz.underlying226
 a53:=Tryz.isAgg226
 z53:=Tryz.sizeOf226
 v53:=Tryz.zeroValue226
 t131:=Tryz.underlying109
 a131:=Tryz.isAgg109
 z131:=Tryz.sizeOf109
 v131:=Tryz.zeroValue109
 t182:=Tryz.underlying216
 a182:=Tryz.isAgg216
 z182:=Tryz.sizeOf216
 v182:=Tryz.zeroValue216
 t183:=Tryz.underlying217
 a183:=Tryz.isAgg217
 z183:=Tryz.sizeOf217
 v183:=Tryz.zeroValue217
 t218:=Tryz.underlying236
 a218:=Tryz.isAgg236
 z218:=Tryz.sizeOf236
 v218:=Tryz.zeroValue236
 t222:=Tryz.underlying240
 a222:=Tryz.isAgg240
 z222:=Tryz.sizeOf240
 v222:=Tryz.zeroValue240
 t228:=Tryz.underlying258
 a228:=Tryz.isAgg258
 z228:=Tryz.sizeOf258
 v228:=Tryz.zeroValue258
 t229:=Tryz.underlying231
 a229:=Tryz.isAgg231
 z229:=Tryz.sizeOf231
 v229:=Tryz.zeroValue231}
theorem sort_texts (base:Nat) (v:Value) (xs:List Nm) (w:World) (ho:OwnNm base w v xs) (hb:base≤w.heap.size) (hbig:xs.length≤1073741824):
  Calls Tryz.prog 119 #[v] w fun e w'=>e= .returned (.tuple #[])∧OwnNm base w' v (xs.mergeSort fun x y=>decide (x≤y))∧Below base w w':=by
 have hl2:(xs.mergeSort fun x y=>decide (x≤y)).length=xs.length:=List.length_mergeSort xs
 rcases ho.2 with ⟨rfl,h0⟩|⟨g,cap,cur,rfl,hbase,hh,h1,h2,h3,h4⟩
 ·obtain rfl:xs=[]:=List.eq_nil_of_length_eq_zero h0
  exact (Any.slices_Sort_string_none laySortS none 0 w).mono fun e w' ⟨he,hw⟩=>⟨he,by rw [hw];simpa using OwnNm.nil,by rw [hw];exact Below.refl _ _⟩
 ·have hH:Holds encStr w g 0 xs.toArray:=holds_of_block hh (by simpa [strs] using h4)
  refine (Any.slices_Sort_string laySortS g 0 cap xs w hH (lt_of_block hh) (by omega)).mono fun e w' ⟨he,n,os,hw⟩=>⟨he,?_,?_⟩
  ·rw [hw]
   unfold OwnNm
   rw [hl2]
   exact ownsRow_sorted hl2 hbase hh h1 h2 h3
  ·rw [hw]
   exact (Below.refl base w).grown (grownBy_sorted _) hb (fun j hj=>by cases hj;exact hbase)
end Go.Proofs.YtmoomnpbiifedaaGreat
set_option linter.unusedVariables false
namespace Go.Proofs.YtmoomnpbiifedaaGreat
open Go Go.RowKit
attribute [local go_sem] Oper.semAt_some
def NmVar (base B:Nat) (l:List Nm) (W:World):Prop:=∃ v,W.heap[B]?=some (.cells #[v] 23 (0,0))∧OwnNm base W v l
theorem ownN_cells {base:Nat} {w:World} {v:Value} {l:List Nm} (h:OwnNm base w v l) {k:Nat} {o:Obj} (hk:w.heap[k]?=some o) (ho:o.isCells=false):v.ownBlock≠some k:=by
 intro he
 rcases h.2 with ⟨rfl,_⟩|⟨g,cap,cur,rfl,_,hh,_⟩
 ·cases he
 ·simp only [Value.ownBlock,Option.some.injEq] at he
  subst he
  rw [hh] at hk
  cases hk
  cases ho
theorem NmVar.firm (N base B:Nat) (l:List Nm):FirmM N (NmVar base B l):=fun W k o o' _ ho hc ⟨v,h1,h2⟩=>by
 have hB:B≠k:=fun e=>by subst e;rw [h1] at ho;injection ho with ho;rw [← ho] at hc;cases hc
 exact ⟨v,(World.putObj_heap_other hB).trans h1,owned_keep h2 fun g hg=>World.putObj_heap_other fun e=>by subst e;exact ownN_cells h2 ho hc hg⟩
theorem NmVar.moved {base base' B:Nat} {l:List Nm} {w w':World} (h:NmVar base B l w) (hm:MvIt base' w w'):NmVar base B l w':=by
 obtain ⟨v,h1,h2⟩:=h
 refine ⟨v,hm.keep _ _ h1 (by simp),owned_keep h2 fun g hg=> ?_⟩
 rcases h2.2 with ⟨rfl,_⟩|⟨g',cap,cur,rfl,_,hh,_⟩
 ·cases hg
 ·simp only [Value.ownBlock,Option.some.injEq] at hg
  subst hg
  rw [hm.keep _ _ hh (by simp),hh]
def CollInS (w:World) (pre:List Nm) (W:World):Prop:=NmVar w.heap.size w.heap.size pre W∧Below w.heap.size w W∧pre.length≤134217728
def CollAxS (f:Value) (w:World) (x:Nm) (a:Act) (W:World):Prop:=a={tmps:=#[.slice none 0 0,f,.pointer (some ⟨w.heap.size,0,none⟩),undef,.slice none 0 0,kV x,f,kV x,undef,undef,undef,undef,undef],defers:=[]}
def GotKeysS (ks:List Nm) (w:World) (e:Ending) (w':World):Prop:=∃ v ts,e= .returned v∧ts.Perm ks∧OwnNm w.heap.size w' v ts∧Below w.heap.size w w'
set_option maxHeartbeats 8000000 in
set_option maxRecDepth 100000 in
theorem keys_appendS (Bx B c:Nat) (m:List EntK) (w:World) (hm:MapK w B c m) (hc:w.cell? ⟨Bx,0,none⟩=some (.map (some B))) (hl:m.length≤134217727):
  Calls Tryz.prog 142 #[.slice none 0 0,.func (.func 120) #[] #[.pointer (some ⟨Bx,0,none⟩)]] w (GotKeysS (m.map (·.1)) w):=by
 obtain ⟨i0,hi0,hz0,hz1,hz2⟩:=info_parts info_string
 refine (callsIn_wide (n:=6)).1 ?_
 obtain ⟨w2,hw2⟩:∃ w2,w2=w.alloc (.cells #[.slice none 0 0] 23):=⟨_,rfl⟩
 have hb2:Below w.heap.size w w2:=by rw [hw2];exact (Below.refl _ _).alloc (Nat.le_refl _) _
 have hm2:MapK w2 B c m:=(hb2.block B (Array.getElem?_eq_some_iff.1 hm).1).trans hm
 have hc2:=(hb2.cell (p:=⟨Bx,0,none⟩) (World.block_lt_of_cell? w _ hc)).trans hc
 have hv2:NmVar w.heap.size w.heap.size [] w2:=⟨_,by rw [hw2];exact heap_alloc_new w _,OwnNm.nil⟩
 have hs2:w2.heap.size=w.heap.size+1:=by rw [hw2];simp
 have HT:=Lib.hid (keys_movedP 5 w.heap.size Bx B c m w2 (by omega) hb2.size hm2 hc2)
 have HW2:=Lib.hid hw2
 have HB2:=Lib.hid hb2
 have HV2:=Lib.hid hv2
 clear hw2 hb2 hm2 hc2 hv2 hm hc
 refine callsIn_of_wp_marks Tryz.func142 rfl trivial ?_ rfl
 simp only [Tryz.ntmps142,List.size_toArray,List.length_cons,List.length_nil,Nat.reduceAdd,Nat.reduceSub,Array.replicate_succ,Array.replicate_zero,List.push_toArray,List.append_toArray,List.nil_append,List.cons_append]
 gi_wp2
 rw [← HW2.out]
 refine wpIn_range_moved (by omega) (gf:=120) (lb:=#[.pointer (some ⟨Bx,0,none⟩)]) rfl (enters_of Tryz.func120 (by kernel_rfl) rfl)
  HT.out (fun hb=>MvIt.of hb (Nat.le_refl _)) (fun {A B k o} hk hmv ho hnc=>hmv.keep _ _ ho (by rcases hnc with ⟨x,rfl⟩|⟨x,rfl⟩<;>simp))
  (fun h k=>h.trans k) (fun W lp x o' hlp ho=>KpIt.loop W lp x o' (by omega) ho) (fun _=>rfl)
  (CollInS w) (fun s A' B' h hmv=>⟨h.1.moved hmv,h.2.1.trans (hmv.below.mono (by omega)),h.2.2⟩)
  (fun s=>fun W l o o' h1 h2 h3 h=>⟨NmVar.firm _ _ _ _ W l o o' h1 h2 h3 h.1,Below.firm (by omega) W l o o' h1 h2 h3 h.2.1,h.2.2⟩)
  (fun s x W l o o' _ _ _ h=>h) ⟨HV2.out,HB2.out,by simp⟩
  (CollAxS (.func (.func 120) #[] #[.pointer (some ⟨Bx,0,none⟩)]) w) (fun x a' W l o o' _ ho hc h=>h) ?assign ?body ?done
 case assign=>
  intro lp pre x W K' hi hx hK'
  unfold encK kV
  gi_wp2
  exact hK' _ _ rfl hi hx (Below.refl _ _) (KpIt.of (Below.refl _ _) hi.2.1.size)
 case body=>
  rintro lp pre x a' W rfl ⟨⟨v,hv,hown⟩,hbw,hpl⟩ hlt
  unfold kV
  obtain ⟨X,hX⟩:∃ X:ByteArray,X=⟨x.toArray⟩:=⟨_,rfl⟩
  rw [← hX]
  have hfl:strs [x]=[.string X]:=by rw [hX];rfl
  have cB:=cell_of_one hv
  have fB:=free_of_one hv
  have hsz:=hbw.size
  have hlB:=lt_of_block hv
  obtain ⟨k,hk⟩:∃ k,k=pre.length:=⟨_,rfl⟩
  have ho1:W.ownsRow w.heap.size 9 1 v k (strs pre):=by rw [hk];exact hown
  have hkl:k≤134217727:=by omega
  have HO:=Lib.hid ho1
  have HOW:=Lib.hid hown
  have HV:=Lib.hid hv
  have HBW:=Lib.hid hbw
  have HK:=Lib.hid hk
  have HFL:=Lib.hid hfl
  have HLT:=Lib.hid hlt
  clear hv hown hbw ho1 hk hfl hX hlt hpl
  gi_wp2_with (gi_at_builtin;refine wpListIn_append_own _ rfl (.tmp 8) (.tmp 10) 23 rfl w.heap.size 9 i0 _ 1 16 Tryz.underlying23 hi0 hz0 hz1 hz2 rfl (by omega) _ k (strs pre) rfl (HO.out.alloc _) ⟨W.heap.size,0,none⟩ 1 1 [.string X] rfl rfl (news_at W [.string X] 9) (by intro u hu;simp at hu;subst hu;rfl) (by unfold maxLen;omega) (by omega) (by simp;omega) ?_)
  intro v' w4 hown4 hgrow4 hz4
  clear hz4
  obtain ⟨g',cap',hv',_,_⟩:=hown4.form (by omega)
  have hne:=owned_apart HOW.out HV.out (by decide)
  have hal:Below W.heap.size W (W.alloc (.cells #[.string X] 9)):=(Below.refl _ _).alloc (Nat.le_refl _) _
  have hv4:w4.heap[w.heap.size]?=some (.cells #[v] 23 (0,0)):=(hgrow4.block _ (by simp;omega) (fun e=>hne e.symm)).trans ((hal.block _ hlB).trans HV.out)
  have cB4:=cell_of_one hv4
  have fB4:=free_of_one hv4
  have hne':=owned_apart hown4 hv4 (by decide)
  have hs4:W.heap.size≤w4.heap.size:=Nat.le_trans hal.size hgrow4.size
  have hkeep:∀ (j:Nat),j<W.heap.size→j≠w.heap.size→v.ownBlock≠some j→(w4.setCell ⟨w.heap.size,0,none⟩ v').heap[j]?=W.heap[j]?:=fun j h1 h2 h3=>by
   rw [Below.heap_setCell _ _ _ _ h2,hgrow4.block j (Nat.lt_of_lt_of_le h1 hal.size) (fun e=>h3 e.symm),hal.block j h1]
  have hnc:∀ (j:Nat) (o:Obj),W.heap[j]?=some o→o.isCells=false→(w4.setCell ⟨w.heap.size,0,none⟩ v').heap[j]?=some o:=fun j o h1 h2=>by
   rw [hkeep j (Array.getElem?_eq_some_iff.1 h1).1 (fun e=> ?_) (ownN_cells HOW.out h1 h2),h1]
   subst e
   have :=HV.out
   rw [this] at h1
   injection h1 with h1
   rw [← h1] at h2
   cases h2
  have hbl:Below w.heap.size W (w4.setCell ⟨w.heap.size,0,none⟩ v'):=⟨hgrow4.os,hgrow4.tape,hgrow4.output,by simpa using hs4,fun j hj=>hkeep j (by omega) (by omega) (fun e=>by have :=(HO.out.lt j e).1;omega)⟩
  have hin:CollInS w (pre++[x]) (w4.setCell ⟨w.heap.size,0,none⟩ v'):=by
   refine ⟨⟨v',one_setCell hv4,?_⟩,HBW.out.trans hbl,by rw [List.length_append,List.length_singleton,← HK.out];omega⟩
   have :=ownsRow_setCell_other hown4 (show v'.ownBlock≠some (⟨w.heap.size,0,none⟩:Addr).block from hne') v'
   unfold OwnNm
   rw [List.length_append,List.length_singleton,← HK.out,strs_append,HFL.out]
   exact this
  have HKO:Hid (KeepsOthers W (w4.setCell ⟨w.heap.size,0,none⟩ v')):=Lib.hid ⟨by simpa using hs4,hnc⟩
  have HKP:Hid (KpIt w.heap.size W (w4.setCell ⟨w.heap.size,0,none⟩ v')):=Lib.hid ⟨hbl,fun j o h1 h2=>hnc j o h1 (by rcases h2 with ⟨_,_,_,_,rfl⟩|⟨_,_,rfl⟩<;>rfl)⟩
  have HIN:=Lib.hid hin
  subst hv'
  clear hkeep hnc hbl hin hne hne' hal hv4 hgrow4 hown4
  gi_wp2
  exact ⟨HKO.out,HKP.out,HIN.out⟩
 case done=>
  rintro D' ys W hD2 hys ⟨⟨v,hv,hown⟩,hbw,_⟩ hK'
  have cB:=cell_of_one hv
  have HO:=Lib.hid hown
  have HBW:=Lib.hid hbw
  have HV:=Lib.hid hv
  have HYS:=Lib.hid hys
  clear hys hown hbw hv
  gi_wp2
  refine ⟨by simp,.inl ⟨_,_,rfl,run_takeDeferred hK',?_⟩⟩
  refine ⟨_,results_tmp rfl _ _ _,?_⟩
  refine ⟨v,ys,rfl,HYS.out,owned_keep HO.out fun g hg=>World.putObj_heap_other fun e=> ?_,Below.firm (by omega) W D' _ (.deferred none) hD2 hK' rfl HBW.out⟩
  subst e
  exact ownN_cells HO.out hK' rfl hg
set_option maxHeartbeats 1000000 in
theorem keys_collectS (Bx B c:Nat) (m:List EntK) (w:World) (hm:MapK w B c m) (hc:w.cell? ⟨Bx,0,none⟩=some (.map (some B))) (hl:m.length≤134217727):
  Calls Tryz.prog 118 #[.func (.func 120) #[] #[.pointer (some ⟨Bx,0,none⟩)]] w (GotKeysS (m.map (·.1)) w):=by
 have HA:=Lib.hid (keys_appendS Bx B c m w hm hc hl)
 clear hm hc
 go_enter Tryz.func118,Tryz.ntmps118
 go_wp2_with (go_at_call 142;(with_reducible refine HA.out.mono ?_);rintro e w' ⟨v,ts,rfl,hp,ho,hb⟩)
 go_ret
 exact ⟨v,ts,rfl,hp,ho,hb⟩
set_option maxHeartbeats 2000000 in
theorem keys_sortedS (Bx B c:Nat) (m:List EntK) (l:List En) (w:World) (hm:MapK w B c m) (hc:w.cell? ⟨Bx,0,none⟩=some (.map (some B))) (hl:m.length≤134217727) (hk:(m.map (·.1)).Perm (keysE l)):
    Calls Tryz.prog 89 #[.func (.func 120) #[] #[.pointer (some ⟨Bx,0,none⟩)]] w (GaveNm (keysE l) w):=by
  have HA:=Lib.hid (keys_collectS Bx B c m w hm hc hl)
  have hks:(m.map (·.1)).length≤134217727:=by simpa using hl
  have HK:=Lib.hid hk
  obtain ⟨ks,hk2⟩:∃ ks,ks=m.map (·.1):=⟨_,rfl⟩
  rw [← hk2] at hks HA HK
  clear hm hc hk hk2
  go_enter Tryz.func89,Tryz.ntmps89
  go_wp2_with (first
    | (go_at_call 118; (with_reducible refine HA.out.mono ?_); rintro e w1 ⟨v, ts, rfl, hp, ho, hb⟩
       have hlt:ts.length≤134217727:=by rw [hp.length_eq];exact hks
       have HS:=Lib.hid (sort_texts w.heap.size v ts w1 ho hb.size (by omega))
       have HP:=Lib.hid hp
       have HB:=Lib.hid hb
       clear hp ho hb)
    |(go_at_call 119;(with_reducible refine HS.out.mono ?_);rintro e w2 ⟨rfl,ho2,hb2⟩))
  go_ret
  rw [sorted_keys (HP.out.trans HK.out)] at ho2
  exact ⟨v,rfl,ho2,HB.out.trans hb2⟩
end Go.Proofs.YtmoomnpbiifedaaGreat
namespace Go.Proofs.YtmoomnpbiifedaaGreat
open Go Go.RowKit
set_option linter.unusedVariables false
theorem drewN_below (w:World) (m:Nat):Below w.heap.size w (w.drewN m):=⟨rfl,rfl,rfl,Nat.le_refl _,fun _ _=>rfl⟩
def boxD (w:World) (id:Int) (A:Option Addr) (n c:Nat):World:=w.alloc (.cells #[.int .i64 id,.slice A n c] 53)
theorem boxD_cells {w wr:World} {id:Int} {A:Option Addr} {n c:Nat} (h:Below (boxD w id A n c).heap.size (boxD w id A n c) wr):
  wr.cell? ⟨w.heap.size,0,none⟩=some (.int .i64 id)∧wr.cell? ⟨w.heap.size,1,none⟩=some (.slice A n c):=by
 have hb:wr.heap[w.heap.size]?=some (.cells #[.int .i64 id,.slice A n c] 53 (0,0)):=(h.block w.heap.size (by simp [boxD])).trans (heap_alloc_new w _)
 exact ⟨by simp [World.cell?,hb],by simp [World.cell?,hb]⟩
theorem boxD_below (w:World) (id:Int) (A:Option Addr) (n c:Nat):Below w.heap.size w (boxD w id A n c):=(Below.refl _ w).alloc (Nat.le_refl _) _
theorem boxD_size (w:World) (id:Int) (A:Option Addr) (n c:Nat):(boxD w id A n c).heap.size=w.heap.size+1:=by simp [boxD]
theorem boxD_out {w wr:World} {id:Int} {A:Option Addr} {n c:Nat} (h:Below (boxD w id A n c).heap.size (boxD w id A n c) wr):Below w.heap.size w wr:=
 (boxD_below w id A n c).trans (h.mono (by rw [boxD_size];omega))
end Go.Proofs.YtmoomnpbiifedaaGreat
namespace Go.Proofs.YtmoomnpbiifedaaGreat
open Go Go.RowKit
set_option linter.unusedVariables false
def WordsRel8 (l:List Fd) (s:Nm) (w1:World) (a i:Value) (wr:World):Prop:=
 a= .slice none 0 0∧∃ k:Nat,k≤l.length∧i= .int .i64 (k:Int)∧Below w1.heap.size w1 wr∧∀ j (hj:j<l.length),j<k→l[j].1≠s
set_option maxHeartbeats 1000000 in
set_option maxRecDepth 100000 in
theorem ref08_Words (id:Int) (A:Option Addr) (n c:Nat) (l:List Fd) (s:ByteArray) (w:World) (hl:l.length=n) (hr:FRow w w.heap.size A l) (hn:n≤1073741824) (ht:∀ f∈l,f.2.length≤268435456):
  Calls Tryz.prog 109 #[docV id A n c,.string s] w (GaveStrs (wordsD l s.data.toList) w):=by
 subst hl
 have HR:=Lib.hid hr
 have HT:=Lib.hid ht
 obtain ⟨ws,hws⟩:∃ ws,ws=wordsD l s.data.toList:=⟨_,rfl⟩
 rw [← hws]
 have HW:=Lib.hid hws
 clear hws hr ht
 go_enter Tryz.func109,Tryz.ntmps109
 go_wp2
 obtain ⟨w1,hw1⟩:∃ w1,w1=boxD w id A l.length c:=⟨_,rfl⟩
 have hb1:∀ wr,Below w1.heap.size w1 wr→Below w.heap.size w wr∧wr.cell? ⟨w.heap.size,0,none⟩=some (.int .i64 id)∧wr.cell? ⟨w.heap.size,1,none⟩=some (.slice A l.length c):=fun wr h=>by
  subst hw1
  exact ⟨boxD_out h,boxD_cells h⟩
 have HB1:=Lib.hid hb1
 clear hb1
 rw [show w.alloc _=w1 from hw1.symm]
 clear hw1
 go_loopw [4,5] (fun a i wr=>WordsRel8 l s.data.toList w1 a i wr) (fun _ i _=>l.length-(intOf i).toNat)
 case atStart=>exact ⟨rfl,0,by omega,rfl,Below.refl _ _,fun j _ hj=>by omega⟩
 case round=>
  obtain ⟨rfl,k,hk,rfl,hbw,hall⟩:=hrel
  obtain ⟨hb0,hc0,hc1⟩:=HB1.out _ hbw
  by_cases hlt:k<l.length
  ·obtain ⟨b1,o1,e1,_,hf1,hf2⟩:=(HR.out.below hb0).at_ hlt
   subst e1
   have ht8:=HT.out _ (List.getElem_mem hlt)
   obtain ⟨x,hx,hx2⟩:=as_text l[k].1
   obtain ⟨y,hy,hy2⟩:=as_text l[k].2
   rw [← hx] at hf1
   rw [← hy] at hf2
   have i0:(0:Int)≤k:=by omega
   have i1:(k:Int)<l.length:=by omega
   by_cases he:l[k].1=s.data.toList
   ·have t1:=same_true (s:=x) (t:=s) (by rw [hx2];exact he)
    have hys:y.size≤268435456:=by rw [hy,size_nm];omega
    have C1:=Lib.hid fun w=>ref_Words y w hys
    have hww:words y.data.toList=ws:=by rw [hy2,HW.out];exact (wordsD_at hlt hall he).symm
    rw [hww] at C1
    have HB0:=Lib.hid hb0
    clear hall he hx hx2 hy hy2 hww ht8 hb0
    go_wp2_with (go_at_call 130;refine (C1.out _).mono ?_)
    rintro e w2 ⟨v,rfl,hown,hb2⟩
    have HO:=Lib.hid hown
    have HB2:=Lib.hid hb2
    clear hown hb2
    go_wp2
    go_ret
    exact ⟨_,rfl,owned_low HO.out HB0.out.size,HB0.out.trans (HB2.out.mono HB0.out.size)⟩
   ·have t1:=same_false (s:=x) (t:=s) (by rw [hx2];exact he)
    have HN:Hid (∀ j (hj:j<l.length),j<k+1→l[j].1≠s.data.toList):=Lib.hid fun j hj hjk=>by
     by_cases e:j=k
     ·subst e;exact he
     ·exact hall j hj (by omega)
    clear hall he hx hx2 hy hy2 ht8 hb0
    go_wp2
    go_roundw
    case rel=>exact ⟨rfl,k+1,by omega,by go_num,hbw,HN.out⟩
    case measure=>simp [intOf];omega
  ·have hn0:ws=[]:=by rw [HW.out];exact wordsD_none fun j hj=>hall j hj (by omega)
   subst hn0
   have HB0:=Lib.hid hb0
   clear hall hb0
   go_wp2
   go_ret
   exact ⟨_,rfl,World.ownsRow_nil _ _ _ _,HB0.out⟩
end Go.Proofs.YtmoomnpbiifedaaGreat
namespace Go.Proofs.YtmoomnpbiifedaaGreat
open Go Go.RowKit
set_option linter.unusedVariables false
def boxT (w:World) (f x:ByteArray):World:=w.alloc (.cells #[.string f,.string x] 39)
theorem boxT_of {w wr:World} {f x:ByteArray} (h:Below (boxT w f x).heap.size (boxT w f x) wr):Below w.heap.size w wr∧wr.cell? ⟨w.heap.size,0,none⟩=some (.string f)∧wr.cell? ⟨w.heap.size,1,none⟩=some (.string x):=by
 have hb:wr.heap[w.heap.size]?=some (.cells #[.string f,.string x] 39 (0,0)):=(h.block w.heap.size (by simp [boxT])).trans (heap_alloc_new w _)
 exact ⟨((Below.refl _ w).alloc (Nat.le_refl _) _).trans (h.mono (by simp [boxT])),by simp [World.cell?,hb],by simp [World.cell?,hb]⟩
def PutGotT (base:Nat) (l:List Tm) (w:World) (e:Ending) (w':World):Prop:=∃ v,e= .returned v∧OwnTm base w' v l∧Below w.heap.size w w'
def FitsT (l:List Tm):Prop:=∀ t∈l,t.1.length≤536870912∧t.2.length≤536870912
def BackRel (l:List Tm) (t:Tm) (w1:World) (i:Value) (wr:World):Prop:=∃ k:Nat,k≤l.length∧i= .int .i64 (k:Int)∧Below w1.heap.size w1 wr∧backT l t k=backT l t l.length
set_option maxHeartbeats 4000000 in
set_option maxRecDepth 100000 in
theorem ref08_PutTerm (base:Nat) (v:Value) (l:List Tm) (f x:ByteArray) (w:World) (ho:OwnTm base w v l) (hb:base≤w.heap.size) (hl:l.length≤1048576) (hfit:FitsT l) (hf:f.size≤536870912) (hx:x.size≤536870912):
    Calls Tryz.prog 110 #[v,.agg #[.string f,.string x]] w (PutGotT base (putT l (f.data.toList,x.data.toList)) w):=by
  obtain ⟨A,c,rfl,hnc,hrow⟩:=ho.row
  have HO:=Lib.hid ho
  have HR:=Lib.hid hrow
  have HF:=Lib.hid hfit
  obtain ⟨n,hn⟩:∃ n,n=l.length:=⟨_,rfl⟩
  obtain ⟨t,ht⟩:∃ t:Tm,t=(f.data.toList,x.data.toList):=⟨_,rfl⟩
  rw [← ht]
  have HNEW:Hid (∀ w':World,FRow (w'.alloc (.cells #[.string f,.string x] 39)) (w'.alloc (.cells #[.string f,.string x] 39)).heap.size (some ⟨w'.heap.size,0,none⟩) [t]):=Lib.hid fun w'=>by rw [ht];exact frow_new w' (f.data.toList,x.data.toList) 39
  have HB1:Hid (∀ w1,w1=boxT w f x→∀ wr,Below w1.heap.size w1 wr→Below w.heap.size w wr∧wr.cell? ⟨w.heap.size,0,none⟩=some (.string f)∧wr.cell? ⟨w.heap.size,1,none⟩=some (.string x)):=Lib.hid fun w1 e wr h=>by subst e;exact boxT_of h
  have HT:=Lib.hid ht
  have HN:=Lib.hid hn
  rw [← hn] at hnc hl
  rw [← hn]
  clear ho hrow hfit ht hn
  go_enter Tryz.func110,Tryz.ntmps110
  go_wp2
  obtain ⟨w1,hw1⟩:∃ w1,w1=boxT w f x:=⟨_,rfl⟩
  have HB2:=Lib.hid (HB1.out w1 hw1)
  rw [show w.alloc _=w1 from hw1.symm]
  clear hw1 HB1
  go_loopw [5] (fun i wr=>BackRel l t w1 i wr) (fun i _=>(intOf i).toNat)
  case atStart=>exact ⟨n,by rw [HN.out];omega,rfl,Below.refl _ _,by rw [HN.out]⟩
  case round=>
    obtain ⟨k,hk,rfl,hbw,hback⟩:=hrel
    rw [← HN.out] at hk
    obtain ⟨hb0,a0,a1⟩:=HB2.out _ hbw
    by_cases hk0:k=0
    · subst hk0
      have HB0:=Lib.hid hb0
      have HBK:Hid (backT l t l.length=0):=Lib.hid (by rw [← hback];rfl)
      have HE:Hid (putT l t=l.take 0++t::l.drop 0):=Lib.hid (by rw [putT,HBK.out];simp [hereT])
      have HTL:Hid ((l.take 0).length=0):=Lib.hid (by simp)
      have HDL:Hid ((l.drop 0).length=n):=Lib.hid (by rw [HN.out];simp)
      have HLE2:Hid (([]++l.take 0).length+1≤1073741824):=Lib.hid (by simp)
      have HLE3:Hid (([]++l.take 0++[t]).length+n≤1073741824):=Lib.hid (by simp;omega)
      have HRT:Hid (FRow w w.heap.size A (l.take 0)):=Lib.hid (HR.out.cut 0)
      have HRD:Hid (FRow w w.heap.size A (l.drop 0)):=Lib.hid (by simpa using HR.out)
      clear hback hb0
      rcases HO.out.2 with ⟨h0,hn0⟩|⟨g,cap,cur,hv,_⟩
      · injection h0 with hA h0 hc
        have hn0':n=0:=by rw [HN.out];exact hn0
        clear hn0 h0
        subst hA hc hn0'
        go_wp2
        go_quiet (fail)
        obtain ⟨wq,hwq,hb0,a0,a1⟩:∃ wq,wq=wr.drewN nq∧Below w.heap.size w wq∧wq.cell? ⟨w.heap.size,0,none⟩=some (.string f)∧wq.cell? ⟨w.heap.size,1,none⟩=some (.string x):=⟨_,rfl,HB0.out.trans ((drewN_below _ _).mono HB0.out.size),a0,a1⟩
        rw [← hwq]
        have HBQ:=Lib.hid hb0
        clear hwq hb0 hbw
        go_wp2
        go_quiet (fail)
        obtain ⟨wt,hwt,hbx,a0,a1⟩:∃ wt,wt=wq.drewN nq∧Below w.heap.size w wt∧wt.cell? ⟨w.heap.size,0,none⟩=some (.string f)∧wt.cell? ⟨w.heap.size,1,none⟩=some (.string x):=⟨_,rfl,HBQ.out.trans ((drewN_below _ _).mono HBQ.out.size),a0,a1⟩
        rw [← hwt]
        have HBX:=Lib.hid hbx
        have HLTB:Hid (w.heap.size<wt.heap.size):=Lib.hid (World.block_lt_of_cell? wt _ a0)
        clear hwt hbx
        go_wp2_with (first
          | (at_builtin; refine wpList_append_tm _ rfl (.tmp 36) (.tmp 39) rfl wt.heap.size _ [] rfl OwnTm.nil _ 0 _ (l.take 0) rfl HTL.out ((HRT.out).later HBX.out) (by simp <;> omega) (Nat.le_refl _) ?_
             intro v1 w2 ho2 hb2
             have HO2:=Lib.hid ho2
             have HB2':=Lib.hid hb2
             have a0:=(hb2.cell (p:=⟨w.heap.size,0,none⟩) HLTB.out).trans a0
             have a1:=(hb2.cell (p:=⟨w.heap.size,1,none⟩) HLTB.out).trans a1
             clear ho2 hb2)
          | (at_builtin; refine wpList_append_tm _ rfl (.tmp 41) (.tmp 43) rfl wt.heap.size _ ([] ++ l.take 0) rfl (HO2.out.below ((Below.refl _ _).alloc (Nat.le_refl _) _)) _ 1 1 [t] rfl rfl (HNEW.out _) HLE2.out (by have := HB2'.out.size; simp; omega) ?_
             intro v2 w3 ho3 hb3
             have HO3:=Lib.hid ho3
             have HB3:=Lib.hid (HB2'.out.trans (((Below.refl _ _).alloc (Nat.le_refl _) _).mono HB2'.out.size |>.trans hb3))
             clear ho3 hb3)
          | (at_builtin; refine wpList_append_tm _ rfl (.tmp 45) (.tmp 48) rfl wt.heap.size _ ([] ++ l.take 0 ++ [t]) rfl HO3.out _ _ _ (l.drop 0) rfl (by have := HDL.out; omega) ((HRD.out).later (HBX.out.trans (HB3.out.mono HBX.out.size))) (by have := HLE3.out; omega) HB3.out.size ?_
             intro v3 w4 ho4 hb4
             have HO4:=Lib.hid ho4
             have HB4:=Lib.hid (HB3.out.trans hb4)
             clear ho4 hb4))
        go_ret
        refine ⟨_,rfl,?_,HBX.out.trans (HB4.out.mono HBX.out.size)⟩
        rw [HE.out]
        exact (by simpa using HO4.out:OwnTm wt.heap.size w4 v3 _).low (Nat.le_trans hb HBX.out.size)
      · injection hv with hA h0 hc
        subst hA
        clear h0 hc
        by_cases hc0:c=0
        · have hn0':n=0:=by omega
          subst hc0 hn0'
          go_wp2
          go_quiet (fail)
          obtain ⟨wq,hwq,hb0,a0,a1⟩:∃ wq,wq=wr.drewN nq∧Below w.heap.size w wq∧wq.cell? ⟨w.heap.size,0,none⟩=some (.string f)∧wq.cell? ⟨w.heap.size,1,none⟩=some (.string x):=⟨_,rfl,HB0.out.trans ((drewN_below _ _).mono HB0.out.size),a0,a1⟩
          rw [← hwq]
          have HBQ:=Lib.hid hb0
          clear hwq hb0 hbw
          go_wp2
          go_quiet (fail)
          obtain ⟨wt,hwt,hbx,a0,a1⟩:∃ wt,wt=wq.drewN nq∧Below w.heap.size w wt∧wt.cell? ⟨w.heap.size,0,none⟩=some (.string f)∧wt.cell? ⟨w.heap.size,1,none⟩=some (.string x):=⟨_,rfl,HBQ.out.trans ((drewN_below _ _).mono HBQ.out.size),a0,a1⟩
          rw [← hwt]
          have HBX:=Lib.hid hbx
          have HLTB:Hid (w.heap.size<wt.heap.size):=Lib.hid (World.block_lt_of_cell? wt _ a0)
          clear hwt hbx
          go_wp2_with (first
            | (at_builtin; refine wpList_append_tm _ rfl (.tmp 36) (.tmp 39) rfl wt.heap.size _ [] rfl OwnTm.nil _ 0 _ (l.take 0) rfl HTL.out ((HRT.out).later HBX.out) (by simp <;> omega) (Nat.le_refl _) ?_
               intro v1 w2 ho2 hb2
               have HO2:=Lib.hid ho2
               have HB2':=Lib.hid hb2
               have a0:=(hb2.cell (p:=⟨w.heap.size,0,none⟩) HLTB.out).trans a0
               have a1:=(hb2.cell (p:=⟨w.heap.size,1,none⟩) HLTB.out).trans a1
               clear ho2 hb2)
            | (at_builtin; refine wpList_append_tm _ rfl (.tmp 41) (.tmp 43) rfl wt.heap.size _ ([] ++ l.take 0) rfl (HO2.out.below ((Below.refl _ _).alloc (Nat.le_refl _) _)) _ 1 1 [t] rfl rfl (HNEW.out _) HLE2.out (by have := HB2'.out.size; simp; omega) ?_
               intro v2 w3 ho3 hb3
               have HO3:=Lib.hid ho3
               have HB3:=Lib.hid (HB2'.out.trans (((Below.refl _ _).alloc (Nat.le_refl _) _).mono HB2'.out.size |>.trans hb3))
               clear ho3 hb3)
            | (at_builtin; refine wpList_append_tm _ rfl (.tmp 45) (.tmp 48) rfl wt.heap.size _ ([] ++ l.take 0 ++ [t]) rfl HO3.out _ _ _ (l.drop 0) rfl (by have := HDL.out; omega) ((HRD.out).later (HBX.out.trans (HB3.out.mono HBX.out.size))) (by have := HLE3.out; omega) HB3.out.size ?_
               intro v3 w4 ho4 hb4
               have HO4:=Lib.hid ho4
               have HB4:=Lib.hid (HB3.out.trans hb4)
               clear ho4 hb4))
          go_ret
          refine ⟨_,rfl,?_,HBX.out.trans (HB4.out.mono HBX.out.size)⟩
          rw [HE.out]
          exact (by simpa using HO4.out:OwnTm wt.heap.size w4 v3 _).low (Nat.le_trans hb HBX.out.size)
        · have hc1:0<c:=by omega
          go_wp2
          go_quiet (fail)
          obtain ⟨wq,hwq,hb0,a0,a1⟩:∃ wq,wq=wr.drewN nq∧Below w.heap.size w wq∧wq.cell? ⟨w.heap.size,0,none⟩=some (.string f)∧wq.cell? ⟨w.heap.size,1,none⟩=some (.string x):=⟨_,rfl,HB0.out.trans ((drewN_below _ _).mono HB0.out.size),a0,a1⟩
          rw [← hwq]
          have HBQ:=Lib.hid hb0
          clear hwq hb0 hbw
          go_wp2
          go_quiet (fail)
          obtain ⟨wt,hwt,hbx,a0,a1⟩:∃ wt,wt=wq.drewN nq∧Below w.heap.size w wt∧wt.cell? ⟨w.heap.size,0,none⟩=some (.string f)∧wt.cell? ⟨w.heap.size,1,none⟩=some (.string x):=⟨_,rfl,HBQ.out.trans ((drewN_below _ _).mono HBQ.out.size),a0,a1⟩
          rw [← hwt]
          have HBX:=Lib.hid hbx
          have HLTB:Hid (w.heap.size<wt.heap.size):=Lib.hid (World.block_lt_of_cell? wt _ a0)
          clear hwt hbx
          go_wp2_with (first
            | (at_builtin; refine wpList_append_tm _ rfl (.tmp 36) (.tmp 39) rfl wt.heap.size _ [] rfl OwnTm.nil _ 0 _ (l.take 0) rfl HTL.out ((HRT.out).later HBX.out) (by simp <;> omega) (Nat.le_refl _) ?_
               intro v1 w2 ho2 hb2
               have HO2:=Lib.hid ho2
               have HB2':=Lib.hid hb2
               have a0:=(hb2.cell (p:=⟨w.heap.size,0,none⟩) HLTB.out).trans a0
               have a1:=(hb2.cell (p:=⟨w.heap.size,1,none⟩) HLTB.out).trans a1
               clear ho2 hb2)
            | (at_builtin; refine wpList_append_tm _ rfl (.tmp 41) (.tmp 43) rfl wt.heap.size _ ([] ++ l.take 0) rfl (HO2.out.below ((Below.refl _ _).alloc (Nat.le_refl _) _)) _ 1 1 [t] rfl rfl (HNEW.out _) HLE2.out (by have := HB2'.out.size; simp; omega) ?_
               intro v2 w3 ho3 hb3
               have HO3:=Lib.hid ho3
               have HB3:=Lib.hid (HB2'.out.trans (((Below.refl _ _).alloc (Nat.le_refl _) _).mono HB2'.out.size |>.trans hb3))
               clear ho3 hb3)
            | (at_builtin; refine wpList_append_tm _ rfl (.tmp 45) (.tmp 48) rfl wt.heap.size _ ([] ++ l.take 0 ++ [t]) rfl HO3.out _ _ _ (l.drop 0) rfl (by have := HDL.out; omega) ((HRD.out).later (HBX.out.trans (HB3.out.mono HBX.out.size))) (by have := HLE3.out; omega) HB3.out.size ?_
               intro v3 w4 ho4 hb4
               have HO4:=Lib.hid ho4
               have HB4:=Lib.hid (HB3.out.trans hb4)
               clear ho4 hb4))
          go_ret
          refine ⟨_,rfl,?_,HBX.out.trans (HB4.out.mono HBX.out.size)⟩
          rw [HE.out]
          exact (by simpa using HO4.out:OwnTm wt.heap.size w4 v3 _).low (Nat.le_trans hb HBX.out.size)
    · obtain ⟨j,rfl⟩:∃ j,k=j+1:=⟨k-1,by omega⟩
      have hjl:j<l.length:=by have :=HN.out;omega
      obtain ⟨b1,o1,e1,hb1,hc1,hc2⟩:=HR.out.at_ hjl
      subst e1
      have hfj:=HF.out _ (List.getElem_mem hjl)
      obtain ⟨y,hy,hy2⟩:=as_text l[j].1
      obtain ⟨z,hz,hz2⟩:=as_text l[j].2
      rw [← hy] at hc1
      rw [← hz] at hc2
      have hsy:y.size≤1073741824:=by rw [hy,size_nm];omega
      have hsz:z.size≤1073741824:=by rw [hz,size_nm];omega
      have C1:Hid (∀ w',Calls Tryz.prog 41 #[.agg #[.string f,.string x]] w' fun e w''=>e= .returned (.string (keyB f x))∧Below w'.heap.size w' w''):=Lib.hid fun w'=>ref_Key f x w' (by omega) (by omega)
      have C2:Hid (∀ w',Calls Tryz.prog 41 #[.agg #[.string y,.string z]] w' fun e w''=>e= .returned (.string (keyB y z))∧Below w'.heap.size w' w''):=Lib.hid fun w'=>ref_Key y z w' (by omega) (by omega)
      have HK1:Hid ((keyB f x).data.toList=keyT t):=Lib.hid (by rw [keyB_list,HT.out];rfl)
      have HK2:Hid ((keyB y z).data.toList=keyT (atT l j)):=Lib.hid (by rw [keyB_list,hy2,hz2,atT_lt hjl];rfl)
      obtain ⟨K1,hK1⟩:∃ K1,K1=keyB f x:=⟨_,rfl⟩
      obtain ⟨K2,hK2⟩:∃ K2,K2=keyB y z:=⟨_,rfl⟩
      rw [← hK1] at C1 HK1
      rw [← hK2] at C2 HK2
      have HYZ:Hid (l[j]=(y.data.toList,z.data.toList)):=Lib.hid (by rw [hy2,hz2])
      have i0:(0:Int)<((j+1:Nat):Int):=by omega
      have d0:decide ((0:Int)<((j+1:Nat):Int))=true:=decide_eq_true (by omega)
      have d1:decide (0<j+1)=true:=decide_eq_true (by omega)
      have i1:IntKind.i64.wrap (((j+1:Nat):Int)-1)=(j:Int):=by rw [IntWalk.i64_in _ (by omega)];omega
      have i2:(0:Int)≤j:=by omega
      have i3:(j:Int)<n:=by omega
      have HSS:Hid (∀ w',Below w1.heap.size wr w'→Below w.heap.size w w'∧w'.cell? ⟨w.heap.size,0,none⟩=some (.string f)∧w'.cell? ⟨w.heap.size,1,none⟩=some (.string x)∧w'.cell? ⟨b1,o1+j*2,none⟩=some (.string y)∧w'.cell? ⟨b1,o1+j*2+1,none⟩=some (.string z)):=Lib.hid fun w' h=>by
        have h2:=HB2.out _ (hbw.trans h)
        exact ⟨h2.1,h2.2.1,h2.2.2,(h2.1.cell (p:=⟨b1,o1+j*2,none⟩) hb1).trans hc1,(h2.1.cell (p:=⟨b1,o1+j*2+1,none⟩) hb1).trans hc2⟩
      obtain ⟨hb0,a0,a1,hc1,hc2⟩:=HSS.out _ (Below.refl _ _)
      have hszr:=hbw.size
      have HBW:=Lib.hid hbw
      have HBA:=Lib.hid hback
      obtain ⟨k1,hk1⟩:∃ k1,k1=j+1:=⟨_,rfl⟩
      rw [← hk1] at i0 i1 hk d0 d1
      rw [← hk1]
      have HKJ:=Lib.hid hk1
      clear hfj hy hz hy2 hz2 hK1 hK2 hsy hsz hb0 hbw hback hk1 hk0
      by_cases hless:keyT t<keyT (atT l j)
      · have t1:=less_true (s:=K1) (t:=K2) (by rw [HK1.out,HK2.out];exact hless)
        have HBK:Hid (backT l t j=backT l t l.length):=Lib.hid (by rw [← HBA.out,backT,if_pos hless])
        clear hless
        go_wp2
        go_region_held3 (fun w'=>w'.cell? ⟨w.heap.size,0,none⟩=some (.string f)∧w'.cell? ⟨w.heap.size,1,none⟩=some (.string x)∧w'.cell? ⟨b1,o1+j*2,none⟩=some (.string y)∧w'.cell? ⟨b1,o1+j*2+1,none⟩=some (.string z))
          (first|exact (HSS.out _ (Below.refl _ _).drew).2|exact (HSS.out _ HBA1.out).2|exact (HSS.out _ HBA2.out).2)
          (first
            | (go_at_call 41; (with_reducible refine (C1.out _).mono ?_); rintro e w4 ⟨rfl, hb4⟩
               have HBA1:Hid (Below w1.heap.size wr w4):=Lib.hid (((Below.refl _ wr).drew.trans hb4).mono hszr)
               clear hb4)
            | (go_at_call 41; (with_reducible refine (C2.out _).mono ?_); rintro e w5 ⟨rfl, hb5⟩
               have HBA2:Hid (Below w1.heap.size wr w5):=Lib.hid (HBA1.out.trans (hb5.mono (Nat.le_trans hszr HBA1.out.size)))
               clear hb5))
        all_goals
          go_wp2
          exact ⟨⟨j,by omega,rfl,HBW.out.trans HBA2.out,HBK.out⟩,by have :=HKJ.out;simp [intOf];omega⟩
      · have t1:=less_false (s:=K1) (t:=K2) (by rw [HK1.out,HK2.out];exact hless)
        have HBK:Hid (backT l t l.length=k1):=Lib.hid (by rw [← HBA.out,HKJ.out,backT,if_neg hless])
        clear hless
        by_cases he:atT l j=t
        · have hel:(y.data.toList,z.data.toList)=(f.data.toList,x.data.toList):=by rw [← HYZ.out,← atT_lt hjl,he,HT.out]
          have t2:=same_true (s:=y) (t:=f) (congrArg Prod.fst hel)
          have t3:=same_true (s:=z) (t:=x) (congrArg Prod.snd hel)
          have HE:Hid (putT l t=l):=Lib.hid (by
            rw [putT,HBK.out,hereT,show k1-1=j by have :=HKJ.out;omega,decide_eq_true he,decide_eq_true (show 0<k1 by omega)]
            rfl)
          clear he hel
          go_wp2
          go_region_held3 (fun w'=>w'.cell? ⟨w.heap.size,0,none⟩=some (.string f)∧w'.cell? ⟨w.heap.size,1,none⟩=some (.string x)∧w'.cell? ⟨b1,o1+j*2,none⟩=some (.string y)∧w'.cell? ⟨b1,o1+j*2+1,none⟩=some (.string z))
            (first|exact (HSS.out _ (Below.refl _ _).drew).2|exact (HSS.out _ HBA1.out).2|exact (HSS.out _ HBA2.out).2)
            (first
              | (go_at_call 41; (with_reducible refine (C1.out _).mono ?_); rintro e w4 ⟨rfl, hb4⟩
                 have HBA1:Hid (Below w1.heap.size wr w4):=Lib.hid (((Below.refl _ wr).drew.trans hb4).mono hszr)
                 clear hb4)
              | (go_at_call 41; (with_reducible refine (C2.out _).mono ?_); rintro e w5 ⟨rfl, hb5⟩
                 have HBA2:Hid (Below w1.heap.size wr w5):=Lib.hid (HBA1.out.trans (hb5.mono (Nat.le_trans hszr HBA1.out.size)))
                 clear hb5))
          all_goals
            go_wp2
            have HBQ:Hid (Below w.heap.size w w5):=Lib.hid (HSS.out _ HBA2.out).1
            obtain ⟨_,a0,a1,c1,c2⟩:=HSS.out _ HBA2.out
            go_quiet (fail)
            obtain ⟨wt,hwt,hbx,a0,a1⟩:∃ wt,wt=w5.drewN nq∧Below w.heap.size w wt∧wt.cell? ⟨w.heap.size,0,none⟩=some (.string f)∧wt.cell? ⟨w.heap.size,1,none⟩=some (.string x):=⟨_,rfl,HBQ.out.trans ((drewN_below _ _).mono HBQ.out.size),a0,a1⟩
            rw [← hwt]
            have HBX:=Lib.hid hbx
            have HLTB:Hid (w.heap.size<wt.heap.size):=Lib.hid (World.block_lt_of_cell? wt _ a0)
            clear hwt hbx
            go_wp2
            go_ret
            refine ⟨_,rfl,?_,HBX.out⟩
            rw [HE.out,HN.out]
            exact HO.out.below HBX.out
        · have hel:¬ ((y.data.toList,z.data.toList)=(f.data.toList,x.data.toList)):=fun h=>he (by rw [atT_lt hjl,HYZ.out,h,HT.out])
          have ht:(y.toList==f.toList)=false∨(y.toList==f.toList)=true∧(z.toList==x.toList)=false:=by
            by_cases h1:y.data.toList=f.data.toList
            · exact .inr ⟨same_true h1,same_false fun h2=>hel (Prod.ext h1 h2)⟩
            · exact .inl (same_false h1)
          have HE:Hid (putT l t=l.take k1++t::l.drop k1):=Lib.hid (by
            rw [putT,HBK.out,hereT,show k1-1=j by have :=HKJ.out;omega,decide_eq_false he,Bool.and_false]
            rfl)
          have HTL:Hid ((l.take k1).length=k1):=Lib.hid (by rw [List.length_take,← HN.out];omega)
          have HDL:Hid ((l.drop k1).length=n-k1):=Lib.hid (by rw [List.length_drop,← HN.out])
          have HLE2:Hid (([]++l.take k1).length+1≤1073741824):=Lib.hid (by have :=HTL.out;simp only [List.nil_append];omega)
          have HLE3:Hid (([]++l.take k1++[t]).length+(n-k1)≤1073741824):=Lib.hid (by have :=HTL.out;simp only [List.nil_append,List.length_append,List.length_singleton];omega)
          have HRT:Hid (FRow w w.heap.size (some ⟨b1,o1,none⟩) (l.take k1)):=Lib.hid (HR.out.cut k1)
          clear he hel
          by_cases hck:c=k1
          · have hnk:n=k1:=by omega
            have HRD:Hid (∀ A,FRow w w.heap.size A (l.drop k1)):=Lib.hid fun A=> .inl (by rw [List.drop_of_length_le (by rw [← HN.out];omega)];rfl)
            subst hck
            subst hnk
            rcases ht with t2|⟨t2,t3⟩
            all_goals
              go_wp2
              go_region_held3 (fun w'=>w'.cell? ⟨w.heap.size,0,none⟩=some (.string f)∧w'.cell? ⟨w.heap.size,1,none⟩=some (.string x)∧w'.cell? ⟨b1,o1+j*2,none⟩=some (.string y)∧w'.cell? ⟨b1,o1+j*2+1,none⟩=some (.string z))
                (first|exact (HSS.out _ (Below.refl _ _).drew).2|exact (HSS.out _ HBA1.out).2|exact (HSS.out _ HBA2.out).2)
                (first
                  | (go_at_call 41; (with_reducible refine (C1.out _).mono ?_); rintro e w4 ⟨rfl, hb4⟩
                     have HBA1:Hid (Below w1.heap.size wr w4):=Lib.hid (((Below.refl _ wr).drew.trans hb4).mono hszr)
                     clear hb4)
                  | (go_at_call 41; (with_reducible refine (C2.out _).mono ?_); rintro e w5 ⟨rfl, hb5⟩
                     have HBA2:Hid (Below w1.heap.size wr w5):=Lib.hid (HBA1.out.trans (hb5.mono (Nat.le_trans hszr HBA1.out.size)))
                     clear hb5))
              all_goals
                go_wp2
                have HBQ:Hid (Below w.heap.size w w5):=Lib.hid (HSS.out _ HBA2.out).1
                obtain ⟨_,a0,a1,c1,c2⟩:=HSS.out _ HBA2.out
                go_quiet (fail)
                obtain ⟨wt,hwt,hbx,a0,a1⟩:∃ wt,wt=w5.drewN nq∧Below w.heap.size w wt∧wt.cell? ⟨w.heap.size,0,none⟩=some (.string f)∧wt.cell? ⟨w.heap.size,1,none⟩=some (.string x):=⟨_,rfl,HBQ.out.trans ((drewN_below _ _).mono HBQ.out.size),a0,a1⟩
                rw [← hwt]
                have HBX:=Lib.hid hbx
                have HLTB:Hid (w.heap.size<wt.heap.size):=Lib.hid (World.block_lt_of_cell? wt _ a0)
                clear hwt hbx
                go_wp2_with (first
                  | (at_builtin; refine wpList_append_tm _ rfl (.tmp 36) (.tmp 39) rfl wt.heap.size _ [] rfl OwnTm.nil _ n _ (l.take n) rfl HTL.out ((HRT.out).later HBX.out) (by simp <;> omega) (Nat.le_refl _) ?_
                     intro v1 w2 ho2 hb2
                     have HO2:=Lib.hid ho2
                     have HB2':=Lib.hid hb2
                     have a0:=(hb2.cell (p:=⟨w.heap.size,0,none⟩) HLTB.out).trans a0
                     have a1:=(hb2.cell (p:=⟨w.heap.size,1,none⟩) HLTB.out).trans a1
                     clear ho2 hb2)
                  | (at_builtin; refine wpList_append_tm _ rfl (.tmp 41) (.tmp 43) rfl wt.heap.size _ ([] ++ l.take n) rfl (HO2.out.below ((Below.refl _ _).alloc (Nat.le_refl _) _)) _ 1 1 [t] rfl rfl (HNEW.out _) HLE2.out (by have := HB2'.out.size; simp; omega) ?_
                     intro v2 w3 ho3 hb3
                     have HO3:=Lib.hid ho3
                     have HB3:=Lib.hid (HB2'.out.trans (((Below.refl _ _).alloc (Nat.le_refl _) _).mono HB2'.out.size |>.trans hb3))
                     clear ho3 hb3)
                  | (at_builtin; refine wpList_append_tm _ rfl (.tmp 45) (.tmp 48) rfl wt.heap.size _ ([] ++ l.take n ++ [t]) rfl HO3.out _ _ _ (l.drop n) rfl (by have := HDL.out; omega) (((HRD.out _)).later (HBX.out.trans (HB3.out.mono HBX.out.size))) (by have := HLE3.out; omega) HB3.out.size ?_
                     intro v3 w4 ho4 hb4
                     have HO4:=Lib.hid ho4
                     have HB4:=Lib.hid (HB3.out.trans hb4)
                     clear ho4 hb4))
                go_ret
                refine ⟨_,rfl,?_,HBX.out.trans (HB4.out.mono HBX.out.size)⟩
                rw [HE.out]
                exact (by simpa using HO4.out:OwnTm wt.heap.size w4 v3 _).low (Nat.le_trans hb HBX.out.size)
          · have HRD:Hid (FRow w w.heap.size (some ⟨b1,o1+k1*2,none⟩) (l.drop k1)):=Lib.hid (HR.out.dropped k1)
            have hck1:k1<c:=by omega
            rcases ht with t2|⟨t2,t3⟩
            all_goals
              go_wp2
              go_region_held3 (fun w'=>w'.cell? ⟨w.heap.size,0,none⟩=some (.string f)∧w'.cell? ⟨w.heap.size,1,none⟩=some (.string x)∧w'.cell? ⟨b1,o1+j*2,none⟩=some (.string y)∧w'.cell? ⟨b1,o1+j*2+1,none⟩=some (.string z))
                (first|exact (HSS.out _ (Below.refl _ _).drew).2|exact (HSS.out _ HBA1.out).2|exact (HSS.out _ HBA2.out).2)
                (first
                  | (go_at_call 41; (with_reducible refine (C1.out _).mono ?_); rintro e w4 ⟨rfl, hb4⟩
                     have HBA1:Hid (Below w1.heap.size wr w4):=Lib.hid (((Below.refl _ wr).drew.trans hb4).mono hszr)
                     clear hb4)
                  | (go_at_call 41; (with_reducible refine (C2.out _).mono ?_); rintro e w5 ⟨rfl, hb5⟩
                     have HBA2:Hid (Below w1.heap.size wr w5):=Lib.hid (HBA1.out.trans (hb5.mono (Nat.le_trans hszr HBA1.out.size)))
                     clear hb5))
              all_goals
                go_wp2
                have HBQ:Hid (Below w.heap.size w w5):=Lib.hid (HSS.out _ HBA2.out).1
                obtain ⟨_,a0,a1,c1,c2⟩:=HSS.out _ HBA2.out
                go_quiet (fail)
                obtain ⟨wt,hwt,hbx,a0,a1⟩:∃ wt,wt=w5.drewN nq∧Below w.heap.size w wt∧wt.cell? ⟨w.heap.size,0,none⟩=some (.string f)∧wt.cell? ⟨w.heap.size,1,none⟩=some (.string x):=⟨_,rfl,HBQ.out.trans ((drewN_below _ _).mono HBQ.out.size),a0,a1⟩
                rw [← hwt]
                have HBX:=Lib.hid hbx
                have HLTB:Hid (w.heap.size<wt.heap.size):=Lib.hid (World.block_lt_of_cell? wt _ a0)
                clear hwt hbx
                go_wp2_with (first
                  | (at_builtin; refine wpList_append_tm _ rfl (.tmp 36) (.tmp 39) rfl wt.heap.size _ [] rfl OwnTm.nil _ k1 _ (l.take k1) rfl HTL.out ((HRT.out).later HBX.out) (by simp <;> omega) (Nat.le_refl _) ?_
                     intro v1 w2 ho2 hb2
                     have HO2:=Lib.hid ho2
                     have HB2':=Lib.hid hb2
                     have a0:=(hb2.cell (p:=⟨w.heap.size,0,none⟩) HLTB.out).trans a0
                     have a1:=(hb2.cell (p:=⟨w.heap.size,1,none⟩) HLTB.out).trans a1
                     clear ho2 hb2)
                  | (at_builtin; refine wpList_append_tm _ rfl (.tmp 41) (.tmp 43) rfl wt.heap.size _ ([] ++ l.take k1) rfl (HO2.out.below ((Below.refl _ _).alloc (Nat.le_refl _) _)) _ 1 1 [t] rfl rfl (HNEW.out _) HLE2.out (by have := HB2'.out.size; simp; omega) ?_
                     intro v2 w3 ho3 hb3
                     have HO3:=Lib.hid ho3
                     have HB3:=Lib.hid (HB2'.out.trans (((Below.refl _ _).alloc (Nat.le_refl _) _).mono HB2'.out.size |>.trans hb3))
                     clear ho3 hb3)
                  | (at_builtin; refine wpList_append_tm _ rfl (.tmp 45) (.tmp 48) rfl wt.heap.size _ ([] ++ l.take k1 ++ [t]) rfl HO3.out _ _ _ (l.drop k1) rfl (by have := HDL.out; omega) ((HRD.out).later (HBX.out.trans (HB3.out.mono HBX.out.size))) (by have := HLE3.out; omega) HB3.out.size ?_
                     intro v3 w4 ho4 hb4
                     have HO4:=Lib.hid ho4
                     have HB4:=Lib.hid (HB3.out.trans hb4)
                     clear ho4 hb4))
                go_ret
                refine ⟨_,rfl,?_,HBX.out.trans (HB4.out.mono HBX.out.size)⟩
                rw [HE.out]
                exact (by simpa using HO4.out:OwnTm wt.heap.size w4 v3 _).low (Nat.le_trans hb HBX.out.size)
end Go.Proofs.YtmoomnpbiifedaaGreat
namespace Go.Proofs.YtmoomnpbiifedaaGreat
open Go Go.RowKit
set_option linter.unusedVariables false
def boxDT (w:World) (id:Int) (A:Option Addr) (n c:Nat) (f x:ByteArray):World:=(boxD w id A n c).alloc (.cells #[.string f,.string x] 39)
theorem boxDT_size (w:World) (id:Int) (A:Option Addr) (n c:Nat) (f x:ByteArray):(boxDT w id A n c f x).heap.size=w.heap.size+2:=by simp [boxDT,boxD]
theorem boxDT_of {w wr:World} {id:Int} {A:Option Addr} {n c:Nat} {f x:ByteArray} (h:Below (boxDT w id A n c f x).heap.size (boxDT w id A n c f x) wr):
  Below w.heap.size w wr∧wr.cell? ⟨w.heap.size,0,none⟩=some (.int .i64 id)∧wr.cell? ⟨w.heap.size,1,none⟩=some (.slice A n c)∧wr.cell? ⟨w.heap.size+1,0,none⟩=some (.string f)∧wr.cell? ⟨w.heap.size+1,1,none⟩=some (.string x):=by
 have hs:=boxDT_size w id A n c f x
 have h0:Below (boxD w id A n c).heap.size (boxD w id A n c) (boxDT w id A n c f x):=(Below.refl _ _).alloc (Nat.le_refl _) _
 have h1:Below (boxD w id A n c).heap.size (boxD w id A n c) wr:=h0.trans (h.mono (by rw [hs,boxD_size];omega))
 have hb:wr.heap[w.heap.size+1]?=some (.cells #[.string f,.string x] 39 (0,0)):=(h.block (w.heap.size+1) (by omega)).trans (by have :=heap_alloc_new (boxD w id A n c) (.cells #[.string f,.string x] 39);rwa [boxD_size] at this)
 obtain ⟨c0,c1⟩:=boxD_cells h1
 exact ⟨boxD_out h1,c0,c1,by simp [World.cell?,hb],by simp [World.cell?,hb]⟩
theorem boxDT_below (w:World) (id:Int) (A:Option Addr) (n c:Nat) (f x:ByteArray):Below w.heap.size w (boxDT w id A n c f x):=(boxD_below w id A n c).alloc (by simp [boxD]) _
end Go.Proofs.YtmoomnpbiifedaaGreat
namespace Go.Proofs.YtmoomnpbiifedaaGreat
open Go Go.RowKit
set_option linter.unusedVariables false
def PlacesRel8 (l:List Nm) (x:Nm) (all:List Int) (w1:World) (o i:Value) (wr:World):Prop:=
 ∃ (k:Nat) (out:List Int) (vo:Value),vo=o∧k≤l.length∧i= .int .i64 (k:Int)∧out.length≤k∧wr.ownsRow w1.heap.size 3 1 o out.length (ints out)∧Below w1.heap.size w1 wr∧out++placesW k (l.drop k) x=all
set_option maxHeartbeats 2000000 in
set_option maxRecDepth 100000 in
theorem ref08_Places (id:Int) (A:Option Addr) (n c:Nat) (l:List Fd) (f x:ByteArray) (w:World) (hl:l.length=n) (hr:FRow w w.heap.size A l) (hn:n≤1073741824) (ht:∀ f∈l,f.2.length≤268435456) (hw:∀ s,(wordsD l s).length≤1073741824):
  Calls Tryz.prog 82 #[docV id A n c,.agg #[.string f,.string x]] w (GaveInts (placesD l (f.data.toList,x.data.toList)) w):=by
 obtain ⟨i0,hi0,hz0,hz1,hz2⟩:=info_parts info_int
 have c1:=fun w' (h:Below w.heap.size w w')=>ref08_Words id A n c l f w' hl (hr.later h) hn ht
 obtain ⟨ws,hws⟩:∃ ws,ws=wordsD l f.data.toList:=⟨_,rfl⟩
 have hwl:=hw f.data.toList
 rw [← hws] at c1 hwl
 obtain ⟨all,hall⟩:∃ all,all=placesD l (f.data.toList,x.data.toList):=⟨_,rfl⟩
 rw [← hall]
 have HALL:Hid ([]++placesW 0 (ws.drop 0) x.data.toList=all):=Lib.hid (by rw [hall,hws];rfl)
 have C1:=Lib.hid c1
 clear c1 hws hall hw ht hr hl
 go_enter Tryz.func82,Tryz.ntmps82
 go_wp2_with (go_at_call 109;refine (C1.out _ (boxDT_below w id A n c f x)).mono ?_)
 rintro e w2 ⟨v,rfl,hown,hb2⟩
 obtain ⟨A2,c2,rfl,_,hrow⟩:=owned_row hown
 have HB2:Hid (∀ wr,Below w2.heap.size w2 wr→Below w.heap.size w wr∧wr.cell? ⟨w.heap.size+1,1,none⟩=some (.string x)):=Lib.hid fun wr h=>by
  have :=boxDT_of (hb2.trans (h.mono hb2.size))
  exact ⟨this.1,this.2.2.2.2⟩
 have HR:=Lib.hid hrow
 clear hb2 hown hrow
 go_wp2
 go_loopw [5,7] (fun o i wr=>PlacesRel8 ws x.data.toList all w2 o i wr) (fun _ i _=>ws.length-(intOf i).toNat)
 case atStart=>exact ⟨0,[],_,rfl,by omega,rfl,by simp,World.ownsRow_nil _ _ _ _,Below.refl _ _,HALL.out⟩
 case round=>
  obtain ⟨k,out,vo,rfl,hk,rfl,hok,hout,hbw,hgo⟩:=hrel
  obtain ⟨hb0,hcx⟩:=HB2.out _ hbw
  by_cases hlt:k<ws.length
  ·obtain ⟨b1,o1,e1,_,hc1⟩:=row_nm (HR.out.below hbw) hlt
   subst e1
   rw [placesW_at hlt] at hgo
   obtain ⟨y,hy,hy2⟩:=as_text ws[k]
   rw [← hy] at hc1
   have j0:(0:Int)≤k:=by omega
   have j1:(k:Int)<ws.length:=by omega
   by_cases he:ws[k]=x.data.toList
   ·have t1:=same_true (s:=y) (t:=x) (by rw [hy2];exact he)
    rw [if_pos he] at hgo
    have HGO:Hid ((out++[(k:Int)])++placesW (k+1) (ws.drop (k+1)) x.data.toList=all):=Lib.hid (by rw [← hgo];simp)
    clear he hy hy2 hgo hb0
    go_wp2
    go_quiet (fail)
    go_wp2_with (at_builtin;refine wpList_append_own _ rfl (.tmp 25) (.tmp 27) 22 rfl w2.heap.size 3 i0 _ 1 8 Tryz.underlying22 hi0 hz0 hz1 hz2 rfl (by omega) _ out.length (ints out) rfl ((owned_below hout (drewN_below _ _)).alloc _) ⟨_,0,none⟩ 1 1 [.int .i64 k] rfl rfl (news_at _ [.int .i64 k] 3) (by intro u hu;simp at hu;subst hu;rfl) (by unfold maxLen;omega) (by omega) (by have :=hbw.size;simp;omega) ?_)
    intro v' w5 hown5 hgrow5 _
    have hbw5:=((hbw.trans ((drewN_below wr nq).mono hbw.size)).alloc (by have :=hbw.size;simp;omega) _).grown hgrow5 (by have :=hbw.size;simp;omega) (fun j hj=>(hout.lt j hj).1)
    clear hgrow5
    go_wp2
    go_roundw
    case rel=>exact ⟨k+1,out++[(k:Int)],_,rfl,by omega,by go_num,by simp;omega,by simpa [ints] using hown5,hbw5,HGO.out⟩
    case measure=>simp [intOf];omega
   ·have t1:=same_false (s:=y) (t:=x) (by rw [hy2];exact he)
    rw [if_neg he] at hgo
    have HGO:=Lib.hid hgo
    clear he hy hy2 hgo hb0
    go_wp2
    go_quiet (fail)
    go_wp2
    go_roundw
    case rel=>exact ⟨k+1,out,_,rfl,by omega,by go_num,by omega,owned_below hout (drewN_below _ _),hbw.trans ⟨rfl,rfl,rfl,Nat.le_refl _,fun _ _=>rfl⟩,HGO.out⟩
    case measure=>simp [intOf];omega
  ·have hkl:k=ws.length:=by omega
   subst hkl
   rw [List.drop_length] at hgo
   have hal:out=all:=by rw [← hgo];simp [placesW]
   subst hal
   have HB0:=Lib.hid hb0
   clear hgo hb0
   go_wp2
   go_ret
   exact ⟨_,rfl,owned_low hout (by have :=(HB2.out _ (Below.refl _ _)).1.size;omega),HB0.out⟩
end Go.Proofs.YtmoomnpbiifedaaGreat
