/- The given tied card of MergeCounts: for every input the call returns true, and each argument reads afterwards as it read before; one package variable, the table of math/bits.TrailingZeros64, starts as the program's text lays it. No other condition. -/
import Derived.Test.YtpehcaidjlemiaaGreatDoorRows
import Derived.Test.YtpehcaidjlemiaaGreatDoorCards
import Derived.Test.YtpehcaidjlemiaaGreatDoorTie
import Derived.Test.YtpehcaidjlemiaaGreatDoorMCQ02
import Derived.Test.YtpehcaidjlemiaaGreatDoorMCQ05
import Derived.Test.YtpehcaidjlemiaaGreatDoorMergeCountsWalk
import Derived.ProofKit
import Derived.OpenShut
import Derived.ShutString
import Derived.ChangeOld
import Derived.Lib.SmallJoins
import Derived.SizedLaws
import Derived.Lay
import Derived.LaidMore
import Derived.LaidOnce
import Derived.SevenTiedAt
set_option maxRecDepth 100000
namespace Go.Proofs.YtpehcaidjlemiaaGreatDoor.lawMergeCounts
open Go.ChangeShapes Go.WideShapes Go.ChangeAt Go.RowKit Go.Joins
open Go.ChangeMaps (open_string shut_string)
set_option linter.unusedVariables false
theorem own:ownKnob Tryz.prog.godebug=none:=by kernel_rfl
theorem cells69:Tryz.prog.cellsOf 69=2:=by kernel_rfl
theorem laidOut:laidOutB Tryz.prog=true:=by kernel_rfl
theorem lifted (os:Os) (started:os.Started) (H:Type) (enc:TypeId × Value->H):
  ReturnsInHanded {} Tryz.checked os 8 .any (fun w args=>(Rows.mergeCountsSpec.pre enc Tryz.prog Tryz.f8 [] false w args/\laidMetH Tryz.prog qfH w)/\sizedMet enc Tryz.prog Tryz.f8 (OpenSpec.ofChange Rows.mergeCountsSpec) false w args)
   (Rows.mergeCountsSpec.post enc Tryz.prog Tryz.f8 false true false false):=by
 refine returnsInHanded_of_change_and (C:=Tryz.checked) (X:=fun w _=>laidMetH Tryz.prog qfH w) (fun _ _ _ hh h=>h.of_heap hh) own started (by kernel_rfl) Tryz.func8
  (ChangeSpec.witness_shaped (enc:=enc) (C:=Tryz.checked) (os:=os) (X:=fun w _=>laidMetH Tryz.prog qfH w) false (World.laidAll Tryz.prog os qfH) #[.slice none 0 0,.slice none 0 0,.agg #[.string ByteArray.empty,.string ByteArray.empty]] 8 (World.laidAll_os _ _ _)
   (World.shaped_of_ZipB (by kernel_rfl) (by kernel_rfl)) (by kernel_rfl) (by kernel_rfl) (by kernel_rfl)
   (by rw [MakeChecks.laidMetH_plain _ _ _ (by kernel_rfl)];exact laidMet_laidAll _ (by kernel_rfl) (by kernel_rfl))) ?_
 intro W base args ds gs before hval0 hW _ hsz0 hL _;have hsz:(DataW.weightsEach Tryz.prog (Tryz.f8.params.toList++Rows.mergeCountsSpec.plain.varTypes Tryz.prog) (ds++gs)).all (· <=reachBytes)=true:=hsz0;clear hsz0;have hval:∀ (j:Nat) t v,Tryz.f8.params[j]?=some t->args[j]?=some v->Value.okWide Tryz.prog W .any base t v:=hval0;have hW':=hW;obtain ⟨p,q,hA0,hV,rfl,hfz,hnd⟩:=hW;have hA:DataW.TrodAll enc Tryz.prog W 0 (fun _=>true) true Tryz.f8.params.toList args.toList ds p:=hA0;rw [Tryz.params8] at hA hval hsz;obtain ⟨v0,vs0,d0,ds0,p0,q0,hargs,rfl,rfl,h0,r0⟩:=trodAll_cons hA;obtain ⟨v1,vs1,d1,ds1,p1,q1,rfl,rfl,rfl,h1,r1⟩:=trodAll_cons r0;obtain ⟨v2,vs2,d2,ds2,p2,q2,rfl,rfl,rfl,h2,r2⟩:=trodAll_cons r1;obtain ⟨rfl,rfl,rfl⟩:=trodAll_nil r2;obtain rfl:args=#[v0,v1,v2]:=by cases args;simp_all
 obtain ⟨rfl,rfl⟩:=trodVars_none hV;obtain ⟨a0,len0,cap0,rfl⟩:=okWide_slice Tryz.underlying22 (hval 0 22 v0 rfl rfl);have k0:=h0;have lt0:∀ x∈p0,x.block<W.heap.size:=by obtain ⟨m,hm⟩:=k0;exact DataW.trod_lt m _ _ _ hm
 obtain ⟨z0,w0⟩:∃ zs,qiS W a0 len0 cap0 zs:=by obtain ⟨fuel,hf⟩:=h0;exact qsZ hf
 obtain ⟨a1,len1,cap1,rfl⟩:=okWide_slice Tryz.underlying23 (hval 1 23 v1 rfl rfl);have k1:=h1;have lt1:∀ x∈p1,x.block<W.heap.size:=by obtain ⟨m,hm⟩:=k1;exact DataW.trod_lt m _ _ _ hm
 obtain ⟨z1,w1⟩:∃ zs,qgR .i64 W a1 len1 cap1 zs:=by
  obtain ⟨fuel,hf⟩:=h1;rcases open_ints Tryz.underlying23 Tryz.underlying3 (by kernel_rfl) hf with ⟨hcs,_⟩|⟨x,l,c,zs,hcs,_,hl,hm,hz,_,hcell,hwz⟩
  ·simp [Value.cells] at hcs
   obtain ⟨rfl,rfl,rfl⟩:=hcs;exact ⟨[],qqx⟩
  ·simp [Value.cells] at hcs
   obtain ⟨rfl,rfl,rfl⟩:=hcs;exact ⟨_,qqy hl hm (by simpa using hz) hcell hwz⟩
 obtain ⟨c2_0,c2_1,y2_0,y2_1,m2,rfl,rfl,rfl,g2_0,g2_1⟩:=open_agg2 Tryz.underlying69 (by kernel_rfl) cells69 (hval 2 69 v2 rfl rfl) h2;obtain ⟨a2_0,e2_0,rfl,w2_0⟩:=DataW.trod_string Tryz.underlying9 g2_0;simp only [List.cons.injEq,and_true] at e2_0;subst e2_0;obtain ⟨a2_1,e2_1,rfl,w2_1⟩:=DataW.trod_string Tryz.underlying9 g2_1;simp only [List.cons.injEq,and_true] at e2_1;subst e2_1;have hall:=List.all_eq_true.1 hsz;have f0:a2_0.size<=140737488355328:=by
  have h:=hall _ (DataW.weights_mem_each (j:=2) (t:=69) (d:= .agg [.lit (.string a2_0.data.toList),.lit (.string a2_1.data.toList)]) rfl rfl a2_0.data.toList.length (by simp [DataW.weights,Tryz.underlying69,DataW.weightsEach]));have h2:=of_decide_eq_true h;rw [show a2_0.data.toList.length=a2_0.size from rfl] at h2
  exact Nat.le_trans h2 (Nat.le_of_lt reachBytes_lt)
 have f1:a2_1.size<=140737488355328:=by
  have h:=hall _ (DataW.weights_mem_each (j:=2) (t:=69) (d:= .agg [.lit (.string a2_0.data.toList),.lit (.string a2_1.data.toList)]) rfl rfl a2_1.data.toList.length (by simp [DataW.weights,Tryz.underlying69,DataW.weightsEach]));have h2:=of_decide_eq_true h;rw [show a2_1.data.toList.length=a2_1.size from rfl] at h2
  exact Nat.le_trans h2 (Nat.le_of_lt reachBytes_lt)
 clear hA0 hval0;simp only [List.append_nil] at hW';refine (walk_MergeCounts a0 len0 cap0 z0 a1 len1 cap1 z1 a2_0 a2_1 W w0 w1 f0 f1 (qq2 hL)).mono fun e W' ⟨he,bel⟩=> ?_
 subst he;exact ⟨_,rfl,_,_,_,[],_,[],hW',trodAll_mk1 (shut_bool Tryz.underlying4 _),(trodAll_cons_mk (Below.trod laidOut (by kernel_rfl) (of_decide_eq_true (by kernel_rfl)) k0 bel lt0) (trodAll_cons_mk (Below.trod laidOut (by kernel_rfl) (of_decide_eq_true (by kernel_rfl)) k1 bel lt1) (trodAll_cons_mk (shut_agg2 (y0:=(.lit (.string a2_0.data.toList),[])) (y1:=(.lit (.string a2_1.data.toList),[])) Tryz.underlying69 (by kernel_rfl) cells69 (shut_string Tryz.underlying9 w2_0) (shut_string Tryz.underlying9 w2_1)) trodAll_mk0))),rfl,bel.frame _,fun h=>by cases h⟩
theorem over:Rows.mergeCountsRow.holds Tryz.pinned (OpenSpec.ofChange Rows.mergeCountsSpec):=
 OpenClaim.holds_of_wide 8 Tryz.f8 rfl rfl rfl rfl rfl rfl rfl ⟨rfl,rfl,rfl,rfl,rfl⟩ rfl rfl rfl rfl rfl (by kernel_rfl) Tryz.func8 (by kernel_rfl)
  (of_decide_eq_true (by kernel_rfl)) (by unfold Func.isWrapper;first|(rw [if_pos (by decide+kernel)];kernel_rfl)|(rw [if_neg (by decide+kernel)];exact ⟨rfl,rfl⟩))
  (fun os started H enc _=>lifted os started H enc)
theorem proved:Rows.MergeCountsCardSaid:=
 Claim7.holds_tied_plain_at .later [] [.data] true _ true
  over (fun _ h=>by cases h) (by kernel_rfl) (fun _ h=>by cases h) mergeCounts_row_tie rfl ⟨rfl,rfl⟩ (by kernel_rfl) rfl
  (fun f fn hf hfn=>by
   obtain rfl:f=8:=Option.some.inj ((show Tryz.prog.funcNamed "concordance/concordancelaw11.MergeCounts" =some 8 by kernel_rfl).symm.trans hf) |>.symm
   obtain rfl:fn=Tryz.f8:=(Option.some.inj (Tryz.func8.symm.trans hfn)).symm;exact ⟨by kernel_rfl,fun j t ht=>by
    rw [Tryz.params8] at ht;have hm:t∈[22,23,69]:=by simpa using Array.mem_of_getElem? ht
    have hall:([22,23,69].all fun u=> !Tryz.prog.wantsStandIn u)=true:=by kernel_rfl
    exact (show Tryz.prog.wantsStandIn t=false by simpa using List.all_eq_true.1 hall t hm)⟩)
  (by kernel_rfl)
#print axioms proved
end Go.Proofs.YtpehcaidjlemiaaGreatDoor.lawMergeCounts
