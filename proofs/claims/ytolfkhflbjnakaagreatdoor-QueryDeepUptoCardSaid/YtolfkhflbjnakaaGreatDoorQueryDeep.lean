/- The given tied card of QueryDeep, the second form: the call returns true, and each argument reads afterwards as it read before; three package variables (utf8's acceptRanges and first, query's names) start as the program's text lays them. Of arguments and variables that together hold at most 1048576 values and letters. No other condition. -/
import Derived.Test.YtolfkhflbjnakaaGreatDoorRows
import Derived.Test.YtolfkhflbjnakaaGreatDoorCards
import Derived.Test.YtolfkhflbjnakaaGreatDoorTie
import Derived.Test.YtolfkhflbjnakaaGreatDoorNAQ07
import Derived.Test.YtolfkhflbjnakaaGreatDoorNAQ08
import Derived.Test.YtolfkhflbjnakaaGreatDoorQueryDeepWalk
import Derived.ProofKit
import Derived.OpenShut
import Derived.ShutString
import Derived.ChangeOld
import Derived.Lib.SmallJoins
import Derived.Lay
import Derived.LaidMore
import Derived.LaidOnce
import Derived.Deep.DeepHandedRow
import Derived.SevenTiedAt
namespace Go.Proofs.YtolfkhflbjnakaaGreatDoor.lawQueryDeep
open Go.ChangeShapes Go.WideShapes Go.ChangeAt Go.RowKit Go.Joins
open Go.ChangeMaps (open_string shut_string)
set_option linter.unusedVariables false

theorem own : ownKnob Tryz.prog.godebug = none := by kernel_rfl
theorem laidOut : laidOutB Tryz.prog = true := by kernel_rfl

set_option maxRecDepth 100000 in
theorem contract (H : Type) (enc : TypeId × Value → H) (W : World) (base : Nat) (args : Array Value) (ds gs : List (DataW H)) (before : List MemPlace)
    (hval : ∀ (j : Nat) t v, Tryz.f11.params[j]? = some t → args[j]? = some v → Value.okWide Tryz.prog W .any base t v)
    (hW : DataW.Whole enc Tryz.prog Tryz.f11.params.toList Rows.queryDeepSpec.vars false W args.toList ds gs before) (hk : Rows.uptoSmall H (ds ++ gs) = true) (hL : laidMetH Tryz.prog laid12 W) (hsh : W.ShapedOpen Tryz.prog) :
    Calls Tryz.prog 11 args W fun e W' => ∃ v, e = .returned v ∧ Rows.queryDeepSpec.post enc Tryz.prog Tryz.f11 false true false false W args v W' := by
  have hW' := hW
  obtain ⟨p, q, hA0, hV, rfl, hfz, hnd⟩ := hW
  have hA : DataW.TrodAll enc Tryz.prog W 0 (fun _ => true) true Tryz.f11.params.toList args.toList ds p := hA0
  rw [Tryz.params11] at hA hval
  obtain ⟨v0, vs0, d0, ds0, p0, q0, hargs, rfl, rfl, h0, r0⟩ := trodAll_cons hA
  obtain ⟨v1, vs1, d1, ds1, p1, q1, rfl, rfl, rfl, h1, r1⟩ := trodAll_cons r0
  obtain ⟨rfl, rfl, rfl⟩ := trodAll_nil r1
  obtain rfl : args = #[v0, v1] := by cases args; simp_all
  obtain ⟨rfl, rfl⟩ := trodVars_none hV
  have hbulk : Rows.uptoBulkAll [d0, d1] ≤ 1048576 := by have := of_decide_eq_true hk; simpa only [List.append_nil] using this
  rw [bulk_all2] at hbulk
  have hone0 := bulk_one d0
  have hone1 := bulk_one d1
  obtain ⟨a0, rfl, rfl, rfl, w0⟩ := open_int Tryz.underlying3 (hval 0 3 v0 rfl rfl) h0
  have hs1 : Rows.uptoBulk d1 ≤ 1048576 := by omega
  obtain ⟨c1_0, c1_1, y1_0, y1_1, m1, rfl, rfl, rfl, g1_0, g1_1⟩ := open_agg2 Tryz.underlying23 (by kernel_rfl) term_cells (hval 1 23 v1 rfl rfl) h1
  have hs1_0 := bulk_part (d := y1_0.1) (ps := [y1_0.1, y1_1.1]) (by simp)
  have hs1_1 := bulk_part (d := y1_1.1) (ps := [y1_0.1, y1_1.1]) (by simp)
  obtain ⟨a1_0, e1_0, rfl, w1_0⟩ := DataW.trod_string Tryz.underlying9 g1_0
  simp only [List.cons.injEq, and_true] at e1_0
  subst e1_0
  have hz1_0 : a1_0.size ≤ 100000000 := by
    rw [show a1_0.size = a1_0.data.toList.length from Array.length_toList.symm]
    have := bulk_str (H := H) a1_0.data.toList
    simp only at hs1_0 hs1
    omega
  obtain ⟨a1_1, e1_1, rfl, w1_1⟩ := DataW.trod_string Tryz.underlying9 g1_1
  simp only [List.cons.injEq, and_true] at e1_1
  subst e1_1
  have hz1_1 : a1_1.size ≤ 100000000 := by
    rw [show a1_1.size = a1_1.data.toList.length from Array.length_toList.symm]
    have := bulk_str (H := H) a1_1.data.toList
    simp only at hs1_1 hs1
    omega
  clear hA0
  simp only [List.append_nil] at hW'
  refine (walk_QueryDeep W (glob_of hL hsh) a0 (wf_bd w0) a1_0 a1_1 hz1_0 hz1_1).mono fun e W' ⟨he, bel⟩ => ?_
  subst he
  exact ⟨_, rfl, _, _, _, [], _, [], hW', trodAll_mk1 (shut_bool Tryz.underlying4 _), (trodAll_cons_mk (shut_int Tryz.underlying3 w0) (trodAll_cons_mk (shut_agg2 (y0 := (.lit (.string a1_0.data.toList), [])) (y1 := (.lit (.string a1_1.data.toList), [])) Tryz.underlying23 (by kernel_rfl) term_cells (shut_string Tryz.underlying9 w1_0) (shut_string Tryz.underlying9 w1_1)) trodAll_mk0)), rfl, bel.frame _, fun h => by cases h⟩

theorem reads (os : Os) {H : Type} (enc : TypeId × Value → H) : ∃ places, DataW.whole enc Tryz.prog ((World.laidAll Tryz.prog os laid12).forCall (fun _ _ => 0) ⟨#[], #[.int .i64 0, .agg #[.string ByteArray.empty, .string ByteArray.empty]], []⟩).memory Tryz.f11.params.toList Rows.queryDeepSpec.vars false #[(.int .i64 0 : Value), .agg #[.string ByteArray.empty, .string ByteArray.empty]].toList 8 = some ([.lit (.int .i64 0), .agg [.lit (.string []), .lit (.string [])]], [], places) :=
  ⟨[], by kernel_rfl⟩

set_option maxRecDepth 100000 in
theorem lifted (os : Os) (started : os.Started) (H : Type) (enc : TypeId × Value → H) (F : Stop.Interp) :
    ReturnsInHanded {} Tryz.checked os 11 .any ((Rows.OpenSpec.upto Rows.queryDeepSpec).preRow enc Tryz.prog Tryz.f11 Rows.queryDeepUptoRow.domain false Rows.queryDeepUptoRow.laid) (((Rows.OpenSpec.upto Rows.queryDeepSpec).at F).post enc Tryz.prog Tryz.f11 false true false false) := by
  obtain ⟨places, hx⟩ := reads os enc
  refine returnsInHanded_of_row (C := Tryz.checked) (s := Rows.OpenSpec.upto Rows.queryDeepSpec) own started (by kernel_rfl) Tryz.func11
    (witness_row_at (enc := enc) (C := Tryz.checked) false (World.laidAll Tryz.prog os laid12) #[.int .i64 0, .agg #[.string ByteArray.empty, .string ByteArray.empty]] (World.laidAll_os _ _ _) (by kernel_rfl) (by kernel_rfl) (by kernel_rfl)
      (OpenSpec.preRow_of_cond 8 hx (by kernel_rfl) (fun k hk => by cases hk; kernel_rfl) (by kernel_rfl) (laidMet_laidAll _ (by kernel_rfl) (by kernel_rfl)))) ?_
  intro W base args ds gs before hval hW _ hcond _ hL hsh _
  exact contract H enc W base args ds gs before hval hW (hcond _ rfl) hL hsh

theorem said : Rows.QueryDeepUptoSaid :=
  OpenClaim.holds_of_cond 11 Tryz.f11 rfl rfl rfl rfl rfl rfl rfl ⟨rfl, rfl, rfl, rfl, rfl⟩ rfl rfl rfl rfl rfl (by kernel_rfl) Tryz.func11 (by kernel_rfl)
    (of_decide_eq_true (by kernel_rfl)) (by unfold Func.isWrapper; first | (rw [if_pos (by decide +kernel)]; kernel_rfl) | (rw [if_neg (by decide +kernel)]; exact ⟨rfl, rfl⟩))
    (fun os started H enc _ F => by rw [OpenClaim.pre_eq_preRow]; exact lifted os started H enc F)

theorem plain (f : FuncId) (fn : Func) (hf : Tryz.pinned.checked.prog.funcNamed "concordance/concordancelaw12.QueryDeep" = some f) (hfn : Tryz.pinned.checked.prog.funcs[f]? = some fn) :
    false = Tryz.pinned.checked.prog.looks [] ∧ ∀ (j : Nat) t, fn.params[j]? = some t → Tryz.pinned.checked.prog.wantsStandIn t = false := by
  obtain rfl : f = 11 := Option.some.inj ((show Tryz.prog.funcNamed "concordance/concordancelaw12.QueryDeep" = some 11 by kernel_rfl).symm.trans hf) |>.symm
  obtain rfl : fn = Tryz.f11 := (Option.some.inj (Tryz.func11.symm.trans hfn)).symm
  refine ⟨by kernel_rfl, fun j t ht => ?_⟩
  rw [Tryz.params11] at ht
  have hm : t ∈ [3, 23] := by simpa using Array.mem_of_getElem? ht
  have hall : ([3, 23].all fun u => !Tryz.prog.wantsStandIn u) = true := by kernel_rfl
  exact (show Tryz.prog.wantsStandIn t = false by simpa using List.all_eq_true.1 hall t hm)

theorem proved : Rows.QueryDeepUptoCardSaid :=
  Claim7.holds_tied_plain_at .later [] _ _ _ _ said (fun _ h => by cases h) (by kernel_rfl) (fun _ h => by cases h) queryDeepUpto_row_tie rfl ⟨rfl, rfl⟩ (by kernel_rfl) rfl plain (by kernel_rfl)
#print axioms proved
end Go.Proofs.YtolfkhflbjnakaaGreatDoor.lawQueryDeep
