/- What All hands back: it tells a set's numbers one by one, rising, as long as a round says 'on'. -/
import Derived.RangeFuncNested
import Derived.RangeFuncBound
import Derived.RangeFuncCalls
import Derived.RangeFuncLeaves
import Derived.Shelf.Abstract
import Derived.Shelf.RegionOpen
import Derived.WalkKit
import Derived.OwnWalkIn
import Derived.TacticsInMore
import Derived.LoopNIn
import Derived.LoopIn
import Derived.Maps.AppendAt
import Derived.Test.YtkflmhpmnceniaaDoorPut03
set_option linter.unusedVariables false
namespace Go.Proofs.YtkflmhpmnceniaaDoor
open Go Go.RowKit Go.Shelf
open Plain (Wd WS Rep elems elemW)
attribute [local go_sem] Oper.semAt_some

/-- What a round that goes on keeps: whatever is cells, but the blocks X. -/
def KpX (X : Nat → Prop) (W W' : World) : Prop := W.heap.size ≤ W'.heap.size ∧ ∀ k, k < W.heap.size → ¬ X k → ∀ o : Obj, W.heap[k]? = some o → o.isCells = true → W'.heap[k]? = some o
theorem KpX.refl (X : Nat → Prop) (W : World) : KpX X W W := ⟨Nat.le_refl _, fun _ _ _ _ h _ => h⟩
theorem KpX.trans {X : Nat → Prop} {A B C : World} (h : KpX X A B) (k : KpX X B C) : KpX X A C :=
  ⟨Nat.le_trans h.1 k.1, fun i hi hx o ho hc => k.2 i (Nat.lt_of_lt_of_le hi h.1) hx o (h.2 i hi hx o ho hc) hc⟩
theorem KpX.of_below {X : Nat → Prop} {W W' : World} (h : Below W.heap.size W W') : KpX X W W' := ⟨h.size, fun k hk _ o ho _ => by rw [h.block k hk]; exact ho⟩
theorem KpX.putObj (X : Nat → Prop) (W : World) (l : Nat) (o o' : Obj) (hl : W.heap[l]? = some o) (hc : o.isCells = false) : KpX X W (W.putObj l o') := by
  refine ⟨by simp [World.putObj], fun k hk _ p hp hpc => ?_⟩
  by_cases e : k = l
  · subst e
    rw [hl] at hp
    injection hp with hp
    subst hp
    rw [hc] at hpc
    cases hpc
  · simp only [World.putObj]
    rw [Array.getElem?_setIfInBounds_ne (by omega)]
    exact hp
theorem KpX.cell {X : Nat → Prop} {W W' : World} (h : KpX X W W') {a : Addr} {v : Value} (hx : ¬ X a.block) (hc : W.cell? a = some v) : W'.cell? a = some v := by
  have hlt := World.block_lt_of_cell? W a hc
  obtain ⟨o, ho⟩ : ∃ o, W.heap[a.block]? = some o := ⟨_, Array.getElem?_eq_getElem hlt⟩
  have hcells : o.isCells = true := by
    cases o <;> simp [World.cell?, ho] at hc <;> rfl
  rw [World.cell?_of_block (w := W) (by rw [h.2 _ hlt hx o ho hcells, ho])]
  exact hc
theorem SetAt.keepX {X : Nat → Prop} {w w' : World} {base B n : Nat} {ws : List Wd} (h : SetAt w base B n ws) (hk : KpX X w w') (h1 : ¬ X B) (h2 : ∀ g, setOwn w B = some g → ¬ X g) : SetAt w' base B n ws ∧ setOwn w' B = setOwn w B := by
  have hl := h.lt
  obtain ⟨hb, v, hv, ho⟩ := h
  have hB := hk.2 B hl h1 _ hv rfl
  refine ⟨⟨hb, v, hB, owned_keep ho fun g hg => ?_⟩, setOwn_eq (by rw [hB, hv])⟩
  have hgo : setOwn w B = some g := by rw [setOwn_at hv]; exact hg
  rcases ho.2 with ⟨rfl, _⟩ | ⟨g', cap, cur, rfl, _, hh, _⟩
  · cases hg
  · simp only [Value.ownBlock, Option.some.injEq] at hg
    subst hg
    rw [hk.2 g' (Array.getElem?_eq_some_iff.1 hh).1 (h2 _ hgo) _ hh rfl, hh]
theorem Tab.keepX {X : Nat → Prop} {w w' : World} (h : Tab w) (hk : KpX X w w') (h1 : ¬ X 0) : Tab w' := fun j hj => hk.cell (a := ⟨0, j, none⟩) h1 (h j hj)

/-- What the iterator reads: the variable that leads to the set, the set, the table; none of it is X. -/
structure Reads (X : Nat → Prop) (D C n : Nat) (ws : List Wd) (W : World) : Prop where
  var : W.cell? ⟨D, 0, none⟩ = some (.pointer (some ⟨C, 0, none⟩))
  set : SetAt W 0 C n ws
  tab : Tab W
  xD : ¬ X D
  xC : ¬ X C
  xG : ∀ g, setOwn W C = some g → ¬ X g
  xT : ¬ X 0
theorem Reads.keep {X : Nat → Prop} {D C n : Nat} {ws : List Wd} {W W' : World} (h : Reads X D C n ws W) (hk : KpX X W W') : Reads X D C n ws W' := by
  obtain ⟨h1, h2⟩ := h.set.keepX hk h.xC h.xG
  exact ⟨hk.cell (a := ⟨D, 0, none⟩) h.xD h.var, h1, h.tab.keepX hk h.xT, h.xD, h.xC, fun g hg => h.xG g (by rw [← h2]; exact hg), h.xT⟩

theorem J_below {J : List Nat → World → Prop} {B : Nat} (hJ : AbidesFrom B J) {s : List Nat} {W W' : World} (h : J s W) (hb : Below W.heap.size W W') : J s W' :=
  hJ s W W' none h ⟨hb.os, hb.tape, hb.output, hb.size, fun k hk _ => hb.block k hk⟩ (fun r e => by cases e)

def AllRel (X : Nat → Prop) (ws : List Wd) (J : List Nat → World → Prop) (W : World) (i : Value) (wr : World) : Prop :=
  ∃ k : Nat, k ≤ ws.length ∧ i = .int .i64 k ∧ J (elems (ws.take k)) wr ∧ KpX X W wr
def OneRel03 (X : Nat → Prop) (ws : List Wd) (k : Nat) (p : Wd) (J : List Nat → World → Prop) (W : World) (v : Value) (wr : World) : Prop :=
  ∃ (b y : Nat) (done : List Nat), v = .pointer (some ⟨b, 0, none⟩) ∧ W.heap.size ≤ b ∧ wr.cell? ⟨b, 0, none⟩ = some (.int .i64 p.1) ∧ wr.cell? ⟨b, 1, none⟩ = some (.int .u64 y) ∧ y < 18446744073709551616 ∧
    elemW p = done ++ elemW (p.1, y) ∧ J (elems (ws.take k) ++ done) wr ∧ KpX X W wr
/-- What is left of the word in a variable. -/
def leftIn (v : Value) (w : World) : Nat := match v with | .pointer (some a) => (match w.cell? ⟨a.block, 1, none⟩ with | some (.int _ z) => z.toNat | _ => 0) | _ => 0
theorem leftIn_eq {w : World} {b y : Nat} (h : w.cell? ⟨b, 1, none⟩ = some (.int .u64 y)) : leftIn (.pointer (some ⟨b, 0, none⟩)) w = y := by simp [leftIn, h]
theorem elems_take {ws : List Wd} {k : Nat} (hk : k < ws.length) : elems (ws.take (k + 1)) = elems (ws.take k) ++ elemW (ws[k]'hk) := by
  rw [List.take_succ_eq_append_getElem hk, Plain.elems_append]
  simp [elems]
theorem elems_split {ws : List Wd} {k : Nat} (hk : k < ws.length) : elems ws = elems (ws.take k) ++ (elemW (ws[k]'hk) ++ elems (ws.drop (k + 1))) := by
  have e : elems ws = elems (ws.take (k + 1)) ++ elems (ws.drop (k + 1)) := by rw [← Plain.elems_append, List.take_append_drop]
  rw [e, elems_take hk, List.append_assoc]

set_option maxHeartbeats 8000000 in
set_option maxRecDepth 100000 in
theorem all_1_in (n l D C N : Nat) (hn : 1 ≤ n) (X : Nat → Prop) (ws : List Wd) (hw : WS N ws) (hN : N ≤ big) (J Jx : List Nat → World → Prop) (W : World) (hX : ∀ k, X k → k < W.heap.size)
    (hJ : AbidesFrom W.heap.size J)
    (hY : ∀ pre x W1, J pre W1 → pre.length < (elems ws).length → YieldAt Fence.wide (n - 1) Tryd.prog l #[.int .i64 ((x : Nat) : Int)] W1 fun e W' =>
      (e = .returned (.bool true) ∧ J (pre ++ [x]) W' ∧ KpX X W1 W') ∨ (e = .returned (.bool false) ∧ Jx (pre ++ [x]) W'))
    (hR : Reads X D C N ws W) (h0 : J [] W) :
    CallsIn Fence.wide n Tryd.prog 39 #[.func (.yield l) #[] #[], .pointer (some ⟨D, 0, none⟩)] W fun e W' => (∃ v, e = .returned v) ∧
      ((∃ ys, ys = elems ws ∧ J ys W') ∨ (∃ pre, pre <+: elems ws ∧ Jx pre W')) := by
  refine callsIn_of_wp Tryd.func39 rfl trivial ?_ rfl
  simp only [Tryd.ntmps39, List.size_toArray, List.length_cons, List.length_nil, Nat.reduceAdd, Nat.reduceSub, Array.replicate_succ, Array.replicate_zero, List.push_toArray, List.append_toArray, List.nil_append, List.cons_append]
  obtain ⟨A, c, c0, c1, hc, hr⟩ := hR.set.read
  have cD := hR.var
  have HR := Lib.hid hR
  have HY := Lib.hid hY
  have HJ := Lib.hid hJ
  have HX := Lib.hid hX
  have H0 := Lib.hid h0
  have HW := Lib.hid hw
  have HN := Lib.hid hN
  have hl := (len_big hw hN).1
  clear hR hY hJ hX h0 hr hw hN
  gi_wp2
  gi_loopw [10] (AllRel X ws J W) (fun i _ => ws.length - (intOf i).toNat)
  case atStart => exact ⟨0, Nat.zero_le _, rfl, H0.out, KpX.refl _ _⟩
  case round =>
    obtain ⟨k, hk, rfl, hJk, hkp⟩ := hrel
    have HRW := Lib.hid (HR.out.keep hkp)
    have HJK := Lib.hid hJk
    have HKP := Lib.hid hkp
    have hz := hkp.1
    clear hJk hkp
    have cDr := HRW.out.var
    obtain ⟨A', c', c0', c1', hc', hr'⟩ := HRW.out.set.read
    by_cases hlt : k < ws.length
    · obtain ⟨b1, o1, e1, hb1, hc1, hc2⟩ := row_word hr' hlt
      subst e1
      have hpf := HW.out.fits _ (List.getElem_mem hlt)
      have hpb := (len_big HW.out HN.out).2 _ (List.getElem_mem hlt)
      have HSPL := Lib.hid (elems_split hlt)
      have HTK := Lib.hid (elems_take hlt)
      obtain ⟨p, hp⟩ : ∃ p, p = ws[k]'hlt := ⟨_, rfl⟩
      rw [← hp] at hc1 hc2 hpf hpb HSPL HTK
      have hkl : (k : Int) < ws.length := by omega
      clear hp hr' hc' c0'
      gi_wp2
      gi_loopw [4] (OneRel03 X ws k p J W) (fun v wr2 => leftIn v wr2)
      case atStart =>
        refine ⟨wr.heap.size, p.2, [], rfl, hz, ?_, ?_, hpf, rfl, ?_, ?_⟩
        · simp [World.cell?_alloc_at]
        · simp [World.cell?_alloc_at]
        · rw [List.append_nil]
          exact J_below HJ.out HJK.out ((Below.refl _ _).alloc (Nat.le_refl _) _)
        · exact HKP.out.trans (KpX.of_below ((Below.refl _ _).alloc (Nat.le_refl _) _))
      case round =>
        obtain ⟨b, y, done, rfl, hWb, hb0, hb1c, hyf, hel, hJd, hkp2⟩ := hrel
        have HEL := Lib.hid hel
        have HJD := Lib.hid hJd
        have HKP2 := Lib.hid hkp2
        have HRR := Lib.hid (HR.out.keep hkp2)
        have hz2 := hkp2.1
        have HLW := Lib.hid (leftIn_eq hb1c)
        clear hel hJd hkp2
        by_cases hy0 : y = 0
        · subst hy0
          have hfin : elems (ws.take (k + 1)) = elems (ws.take k) ++ done := by
            rw [HTK.out]
            congr 1
            have := HEL.out
            rw [Plain.elemW_zero, List.append_nil] at this
            exact this
          have HFIN := Lib.hid hfin
          clear hfin
          gi_wp2
          go_roundw
          case rel => exact ⟨k + 1, by omega, by go_num, by rw [HFIN.out]; exact HJD.out, HKP2.out⟩
          case measure => simp [intOf]; omega
        · have hstep := Plain.elemW_step (a := p.1) hyf hy0
          have hctz := (Plain.ctz_bit hyf hy0).choose_spec.2
          have hand := bits_and_u64_nat y (y - 1) hyf (by omega)
          have hlow := Plain.low_lt hy0
          have hwrap : IntKind.u64.wrap ((y : Int) - 1) = ((y - 1 : Nat) : Int) := by rw [IntKind.wrap_u64]; omega
          obtain ⟨y1, hy1⟩ : ∃ y1, y1 = y - 1 := ⟨_, rfl⟩
          rw [← hy1] at hand hwrap hstep hlow
          obtain ⟨y2, hy2⟩ : ∃ y2, y2 = y &&& y1 := ⟨_, rfl⟩
          rw [← hy2] at hand hstep hlow
          have HLE := Lib.hid (fun w hT => least_any p.1 y w (by omega) hyf hy0 hT)
          obtain ⟨x, hx⟩ : ∃ x, x = p.1 * 64 + Lib.ctz 64 y := ⟨_, rfl⟩
          rw [← hx] at HLE hstep
          have HST := Lib.hid hstep
          have hz0 : ((y : Int) == 0) = false := by simp; omega
          have hz3 : ((y : Int) != 0) = true := by simp; omega
          have HY0 := Lib.hid hy0
          have HY2F := Lib.hid (show y2 < 18446744073709551616 by omega)
          have HLOW := Lib.hid hlow
          clear hstep hctz hy1 hy2 hx hy0 hlow
          gi_wp2_with (first | (refine ⟨trivial, ?_⟩; gi_at_call 40; refine (callsIn_wide.2 (HLE.out _ HRR.out.tab)).mono ?_) | (gi_at_call 40; refine (callsIn_wide.2 (HLE.out _ HRR.out.tab)).mono ?_))
          rintro e w3 ⟨rfl, hb3⟩
          have hlen : (elems (ws.take k) ++ done).length < (elems ws).length := by
            rw [HSPL.out, HEL.out, HST.out]
            simp
            try omega
          have hpre : (elems (ws.take k) ++ done) ++ [x] <+: elems ws := by
            rw [HSPL.out, HEL.out, HST.out]
            exact ⟨elemW (p.1, y2) ++ elems (ws.drop (k + 1)), by simp⟩
          have HPRE := Lib.hid hpre
          obtain ⟨fn, tmps, assign, body, hy, hR'⟩ := HY.out _ x w3 (J_below HJ.out HJD.out hb3) hlen
          have hbw : b < wr.heap.size := World.block_lt_of_cell? wr _ hb0
          have hnx : ¬ X b := fun e => by have := HX.out b e; omega
          have hb0' : w3.cell? ⟨b, 0, none⟩ = some (.int .i64 p.1) := (hb3.cell (p := ⟨b, 0, none⟩) hbw).trans hb0
          have hb1' : w3.cell? ⟨b, 1, none⟩ = some (.int .u64 y) := (hb3.cell (p := ⟨b, 1, none⟩) hbw).trans hb1c
          have HK3 := Lib.hid (HKP2.out.trans (KpX.of_below hb3))
          have hz3w := HK3.out.1
          clear hlen hpre hb0 hb1c hb3
          gi_wp2
          refine hR'.mono ?_
          rintro e W4 (⟨rfl, hJ4, hk4⟩ | ⟨rfl, hJx4⟩)
          · have hb04 := hk4.cell (a := ⟨b, 0, none⟩) hnx hb0'
            have hb14 := hk4.cell (a := ⟨b, 1, none⟩) hnx hb1'
            have hz4 := hk4.1
            have HJ4 := Lib.hid hJ4
            have HK4 := Lib.hid (HK3.out.trans hk4)
            clear hJ4 hk4 hb0' hb1' hy hR'
            gi_wp2
            go_roundw
            case rel =>
              refine ⟨W4.heap.size, y2, done ++ [x], rfl, by omega, ?_, ?_, HY2F.out, ?_, ?_, ?_⟩
              · simp [World.cell?_alloc_at]
              · simp [World.cell?_alloc_at]
              · rw [HEL.out, HST.out, List.append_assoc]
                rfl
              · rw [← List.append_assoc]
                exact J_below HJ.out HJ4.out ((Below.refl _ _).alloc (Nat.le_refl _) _)
              · exact HK4.out.trans (KpX.of_below ((Below.refl _ _).alloc (Nat.le_refl _) _))
            case measure =>
              rw [HLW.out, leftIn_eq (y := y2) (by simp [World.cell?_alloc_at])]
              exact HLOW.out
          · gi_wp2
            refine bodyPost_ret (results_none rfl _ _ _) rfl ?_
            exact ⟨⟨_, rfl⟩, .inr ⟨_, HPRE.out, hJx4⟩⟩
    · obtain rfl : k = ws.length := by omega
      gi_wp2
      go_end0
      exact ⟨⟨_, rfl⟩, .inl ⟨_, rfl, by have := HJK.out; rwa [List.take_length] at this⟩⟩
end Go.Proofs.YtkflmhpmnceniaaDoor
