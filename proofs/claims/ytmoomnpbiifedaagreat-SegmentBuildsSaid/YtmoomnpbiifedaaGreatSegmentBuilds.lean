/- The given statement of SegmentBuilds: for every input the call returns true, and each argument reads afterwards as it read before. No condition. -/
import Derived.Test.YtmoomnpbiifedaaGreatRows
import Derived.Test.YtmoomnpbiifedaaGreatSegmentBuildsWalk
import Derived.ProofKit
import Derived.OpenShut
import Derived.ShutString
import Derived.ChangeOld
import Derived.SizedLaws
import Derived.Lib.SmallJoins
import Derived.Test.YtmoomnpbiifedaaGreatMBQ29
namespace Go.Proofs.YtmoomnpbiifedaaGreat.lawSegmentBuilds
open Go.ChangeShapes Go.WideShapes Go.ChangeAt Go.RowKit Go.Joins
open Go.ChangeMaps (open_string shut_string)
set_option linter.unusedVariables false
theorem own:ownKnob Tryz.prog.godebug=none:=by kernel_rfl
theorem cells39:Tryz.prog.cellsOf 39=2:=by kernel_rfl
theorem laidOut:laidOutB Tryz.prog=true:=by kernel_rfl
set_option maxRecDepth 100000 in
theorem lifted (os:Os) (started:os.Started) (H:Type) (enc:TypeId × Value→H):
  ReturnsInHanded {} Tryz.checked os 4 .any (Rows.segmentBuildsSpec.pre6 enc Tryz.prog Tryz.f4 Rows.segmentBuildsRow.domain false) (Rows.segmentBuildsSpec.post enc Tryz.prog Tryz.f4 false true false false):=by
 refine returnsInHanded_of_change_sized (C:=Tryz.checked) own started (by kernel_rfl) Tryz.func4
  (ChangeSpec.witness6 (enc:=enc) (C:=Tryz.checked) false ⟨#[],#[.slice none 0 0,.int .i64 0,.agg #[.string ByteArray.empty,.string ByteArray.empty]],[]⟩ 8 (by kernel_rfl) (by kernel_rfl) (by kernel_rfl) (by kernel_rfl)) ?_
 intro W base args ds gs before hval0 hW hcnd hsz0 _
 have hsz:(DataW.weightsEach Tryz.prog (Tryz.f4.params.toList++Rows.segmentBuildsSpec.plain.varTypes Tryz.prog) (ds++gs)).all (· ≤reachBytes)=true:=hsz0
 clear hsz0
 have hval:∀ (j:Nat) t v,Tryz.f4.params[j]?=some t→args[j]?=some v→Value.okWide Tryz.prog W .any base t v:=hval0
 have hW':=hW
 obtain ⟨p,q,hA0,hV,rfl,hfz,hnd⟩:=hW
 have hA:DataW.TrodAll enc Tryz.prog W 0 (fun _=>true) true Tryz.f4.params.toList args.toList ds p:=hA0
 rw [Tryz.params4] at hA hval hsz
 obtain ⟨v0,vs0,d0,ds0,p0,q0,hargs,rfl,rfl,h0,r0⟩:=trodAll_cons hA
 obtain ⟨v1,vs1,d1,ds1,p1,q1,rfl,rfl,rfl,h1,r1⟩:=trodAll_cons r0
 obtain ⟨v2,vs2,d2,ds2,p2,q2,rfl,rfl,rfl,h2,r2⟩:=trodAll_cons r1
 obtain ⟨rfl,rfl,rfl⟩:=trodAll_nil r2
 obtain rfl:args=#[v0,v1,v2]:=by cases args;simp_all
 obtain ⟨rfl,rfl⟩:=trodVars_none hV
 obtain ⟨a0,len0,cap0,rfl⟩:=okWide_slice Tryz.underlying27 (hval 0 27 v0 rfl rfl)
 have k0:=h0
 have lt0:∀ x∈p0,x.block<W.heap.size:=by obtain ⟨m,hm⟩:=k0;exact DataW.trod_lt m _ _ _ hm
 obtain ⟨z0,w0⟩:∃ zs,InDocs W a0 len0 cap0 zs:=by obtain ⟨fuel,hf⟩:=h0;exact in_docs hf
 obtain ⟨a1,rfl,rfl,rfl,w1⟩:=open_int Tryz.underlying3 (hval 1 3 v1 rfl rfl) h1
 obtain ⟨c2_0,c2_1,y2_0,y2_1,m2,rfl,rfl,rfl,g2_0,g2_1⟩:=open_agg2 Tryz.underlying39 (by kernel_rfl) cells39 (hval 2 39 v2 rfl rfl) h2
 obtain ⟨a2_0,e2_0,rfl,w2_0⟩:=DataW.trod_string Tryz.underlying9 g2_0
 simp only [List.cons.injEq,and_true] at e2_0
 subst e2_0
 obtain ⟨a2_1,e2_1,rfl,w2_1⟩:=DataW.trod_string Tryz.underlying9 g2_1
 simp only [List.cons.injEq,and_true] at e2_1
 subst e2_1
 have hall:=List.all_eq_true.1 hsz
 have f0:a2_0.size≤140737488355328:=by
  have h:=hall _ (DataW.weights_mem_each (j:=2) (t:=39) (d:= .agg [.lit (.string a2_0.data.toList),.lit (.string a2_1.data.toList)]) rfl rfl a2_0.data.toList.length (by simp [DataW.weights,Tryz.underlying39,DataW.weightsEach]))
  have h2:=of_decide_eq_true h
  rw [show a2_0.data.toList.length=a2_0.size from rfl] at h2
  exact Nat.le_trans h2 (Nat.le_of_lt reachBytes_lt)
 have f1:a2_1.size≤140737488355328:=by
  have h:=hall _ (DataW.weights_mem_each (j:=2) (t:=39) (d:= .agg [.lit (.string a2_0.data.toList),.lit (.string a2_1.data.toList)]) rfl rfl a2_1.data.toList.length (by simp [DataW.weights,Tryz.underlying39,DataW.weightsEach]))
  have h2:=of_decide_eq_true h
  rw [show a2_1.data.toList.length=a2_1.size from rfl] at h2
  exact Nat.le_trans h2 (Nat.le_of_lt reachBytes_lt)
 clear hA0 hval0
 simp only [List.append_nil] at hW'
 refine (walk_SegmentBuilds a0 len0 cap0 z0 a1 a2_0 a2_1 W w0 w1 f0 f1).mono fun e W' ⟨he,bel⟩=> ?_
 subst he
 exact ⟨_,rfl,_,_,_,[],_,[],hW',trodAll_mk1 (shut_bool Tryz.underlying4 _),(trodAll_cons_mk (Below.trod laidOut (by kernel_rfl) (of_decide_eq_true (by kernel_rfl)) k0 bel lt0) (trodAll_cons_mk (shut_int Tryz.underlying3 w1) (trodAll_cons_mk (shut_agg2 (y0:=(.lit (.string a2_0.data.toList),[])) (y1:=(.lit (.string a2_1.data.toList),[])) Tryz.underlying39 (by kernel_rfl) cells39 (shut_string Tryz.underlying9 w2_0) (shut_string Tryz.underlying9 w2_1)) trodAll_mk0))),rfl,bel.frame _,fun h=>by cases h⟩
theorem over:Rows.segmentBuildsRow.holds Tryz.pinned (OpenSpec.ofChange Rows.segmentBuildsSpec):=
 OpenClaim.holds_of_wide 4 Tryz.f4 rfl rfl rfl rfl rfl rfl rfl ⟨rfl,rfl,rfl,rfl,rfl⟩ rfl rfl rfl rfl rfl (by kernel_rfl) Tryz.func4 (by kernel_rfl)
  (of_decide_eq_true (by kernel_rfl)) (by unfold Func.isWrapper;first|(rw [if_pos (by decide+kernel)];kernel_rfl)|(rw [if_neg (by decide+kernel)];exact ⟨rfl,rfl⟩))
  (fun os started H enc _=>lifted os started H enc)
theorem proved:Rows.SegmentBuildsSaid:=over
#print axioms proved
end Go.Proofs.YtmoomnpbiifedaaGreat.lawSegmentBuilds
