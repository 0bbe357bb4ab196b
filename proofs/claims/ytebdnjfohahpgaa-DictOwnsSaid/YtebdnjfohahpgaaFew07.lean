/- What the statements' own 'few' of layer 7 answers: the first 20 texts, the first 8 bytes of each. -/
import Derived.Test.YtebdnjfohahpgaaRise07
import Derived.Deep.RegionHeld3
import Derived.Deep.AppendLies
namespace Go.Proofs.Ytebdnjfohahpgaa
open Go Go.RowKit
set_option linter.unusedVariables false

def fewN (l : List Nm) : List Nm := (l.take 20).map fun x => x.take 8
theorem fewN_snoc {l : List Nm} {k : Nat} (hk : k < l.length) : (l.take (k + 1)).map (fun x : Nm => x.take 8) = (l.take k).map (fun x : Nm => x.take 8) ++ [l[k].take 8] := by
  rw [List.take_succ_eq_append_getElem hk, List.map_append]
  rfl
theorem ext_eight (x : Nm) (m : Nat) (hm : m = min x.length 8) : (⟨x.toArray⟩ : ByteArray).extract 0 m = ⟨(x.take 8).toArray⟩ := by
  apply ByteArray.ext
  subst hm
  simp
  rcases Nat.le_total x.length 8 with h | h
  · omega
  · omega
theorem OwnNm.push {base : Nat} {w' : World} {v' : Value} {l : List Nm} {x : Nm} (h : w'.ownsRow base 9 1 v' (l.length + 1) (strs l ++ [.string ⟨x.toArray⟩])) : OwnNm base w' v' (l ++ [x]) := by
  unfold OwnNm
  rw [List.length_append, List.length_singleton]
  simpa [strs] using h

def FewRel07 (l : List Nm) (w : World) (vo i : Value) (wr : World) : Prop :=
  ∃ k : Nat, k ≤ l.length ∧ k ≤ 20 ∧ i = .int .i64 (k : Int) ∧ OwnNm w.heap.size wr vo ((l.take k).map fun x => x.take 8) ∧ Below w.heap.size w wr

set_option maxHeartbeats 2000000 in
set_option maxRecDepth 100000 in
theorem law07_few (A : Option Addr) (n d : Nat) (l : List Nm) (w : World) (hr : Row w w.heap.size A (strs l)) (hn : l.length = n) (hnd : n ≤ d) (hd : d ≤ maxLen) (hx : ∀ x ∈ l, x.length ≤ maxLen) :
    Calls Try.prog 9 #[.slice A n d] w (GaveNm (fewN l) w) := by
  obtain ⟨i0, hi0, hz0, hz1, hz2⟩ := info_parts info_string
  subst hn
  unfold maxLen at hd
  have HR := Lib.hid hr
  have HX := Lib.hid hx
  clear hr hx
  go_enter Try.func9, Try.ntmps9
  go_wp2
  go_loopw [3, 4] (fun vo i wr => FewRel07 l w vo i wr) (fun _ i _ => 20 - (intOf i).toNat)
  case atStart => exact ⟨0, by omega, by omega, rfl, OwnNm.nil, Below.refl _ _⟩
  case round =>
    obtain ⟨k, hk, hk20, rfl, hown, hbw⟩ := hrel
    have hsz := hbw.size
    by_cases hlt : k < l.length ∧ k < 20
    · obtain ⟨hkl, h20⟩ := hlt
      have d1 : decide ((k : Int) < 20) = true := decide_eq_true (by omega)
      obtain ⟨b1, o1, e1, hb1, hc1⟩ := row_nm (HR.out.below hbw) hkl
      subst e1
      have hsn := fewN_snoc hkl
      have hx8 := HX.out _ (List.getElem_mem hkl)
      obtain ⟨x, hx⟩ : ∃ x, x = l[k] := ⟨_, rfl⟩
      rw [← hx] at hc1 hsn hx8
      obtain ⟨t, ht⟩ : ∃ t : ByteArray, t = ⟨x.toArray⟩ := ⟨_, rfl⟩
      rw [← ht] at hc1
      have hts : t.size = x.length := by rw [ht]; exact size_nm x
      obtain ⟨y, hy⟩ : ∃ y : ByteArray, y = ⟨(x.take 8).toArray⟩ := ⟨_, rfl⟩
      obtain ⟨mm, hmm⟩ : ∃ mm : Nat, mm = min t.size 8 := ⟨_, rfl⟩
      have hmn : ∀ (w : World) (ts : Array TypeId) (ty : TypeId), (Builtin.min_ ts ty #[.int .i64 t.size, .int .i64 8]).run Try.prog w = .ok (.int .i64 (mm : Int)) w := fun w ts ty => by rw [run_min_int2, hmm]; congr 2; split <;> omega
      have hex : t.extract 0 mm = y := by rw [ht, hy]; exact ext_eight x mm (by rw [hmm, hts])
      have hm1 : mm ≤ t.size := by omega
      unfold maxLen at hx8
      have hm2 : t.size ≤ 9223372036854775807 := by omega
      rw [OwnNm, show ((l.take k).map fun x : Nm => x.take 8).length = k by rw [List.length_map, List.length_take]; omega] at hown
      obtain ⟨cs, hcs⟩ : ∃ cs, cs = strs ((l.take k).map fun x : Nm => x.take 8) := ⟨_, rfl⟩
      rw [← hcs] at hown
      have HC1 := Lib.hid hown
      have HSN := Lib.hid hsn
      have HCS := Lib.hid hcs
      have HY := Lib.hid hy
      have HSS : Hid (∀ w', Below w.heap.size wr w' → w'.cell? ⟨b1, o1 + k, none⟩ = some (.string t)) := Lib.hid fun w' h => (h.cell (p := ⟨b1, o1 + k, none⟩) hb1).trans hc1
      clear hown hsn hx ht hts hy hmm hcs
      go_wp2
      go_region_held3 (fun w' => w'.cell? ⟨b1, o1 + k, none⟩ = some (.string t))
        (first | exact HSS.out _ (Below.refl _ _).drew | exact HSS.out _ ((Below.refl _ _).drew.alloc hsz _) | exact HSS.out _ HB5.out)
        (first
          | (refine step_append_lies _ (by rfl) _ _ _ (by rfl) w.heap.size 9 i0 _ 1 16 Try.underlying22 hi0 hz0 hz1 hz2 rfl (by omega) _ k cs (by rfl) ((HC1.out.alloc _).drew)
              ⟨wr.heap.size, 0, none⟩ 1 1 [.string y] (by rfl) (by rfl) (World.news_of_block (cs := #[.string y]) (t := 9) (fr := (0, 0)) (heap_alloc_new wr.drew _)) (by intro u hu; simp at hu; subst hu; rfl)
              (by omega) (by unfold maxLen; omega) (by omega) (by simp; omega) (wr.heap.size + 1) (by simp) ?_
             intro gg cap w5 hown5 hg5 hat hlt5
             have hb5 : Below w.heap.size wr w5 := ((Below.refl _ wr).drew.alloc hsz _).grown hg5 (by simp; omega) fun k hk => (HC1.out.lt k hk).1
             have HB5 := Lib.hid hb5))
      have hpush : OwnNm w.heap.size w5 (.slice (some ⟨gg, 0, none⟩) (k + 1) cap) (((l.take k).map fun x : Nm => x.take 8) ++ [x.take 8]) := by
        have hlen : ((l.take k).map fun x : Nm => x.take 8).length = k := by rw [List.length_map, List.length_take]; omega
        refine OwnNm.push ?_
        rw [hlen, ← HCS.out, ← HY.out]
        exact hown5
      rw [← HSN.out] at hpush
      have hfin : FewRel07 l w (.slice (some ⟨gg, 0, none⟩) (k + 1) cap) (.int .i64 ((k : Int) + 1)) w5 := ⟨k + 1, by omega, by omega, by simp, hpush, hbw.trans HB5.out⟩
      have HF := Lib.hid hfin
      clear hfin hpush hown5 hg5
      go_wp2
      go_roundw
      case rel => exact HF.out
      case measure => simp [intOf]; omega
    · have hfin : OwnNm w.heap.size wr u3 (fewN l) := by
        have e : l.take k = l.take 20 := by
          by_cases h : k = 20
          · rw [h]
          · rw [List.take_of_length_le (by omega), List.take_of_length_le (by omega)]
        unfold fewN
        rw [← e]
        exact hown
      have HFIN : Hid (∃ v, Ending.returned u3 = Ending.returned v ∧ OwnNm w.heap.size wr v (fewN l) ∧ Below w.heap.size w wr) := Lib.hid ⟨_, rfl, hfin, hbw⟩
      have hsp : (k < l.length ∧ ¬ k < 20) ∨ ¬ k < l.length := by omega
      clear hfin hown hbw hlt hk
      rcases hsp with ⟨h1, h2⟩ | h1
      · have d1 : decide ((k : Int) < 20) = false := decide_eq_false (by omega)
        go_wp2
        go_ret
        exact HFIN.out
      · go_wp2
        go_ret
        exact HFIN.out
end Go.Proofs.Ytebdnjfohahpgaa
