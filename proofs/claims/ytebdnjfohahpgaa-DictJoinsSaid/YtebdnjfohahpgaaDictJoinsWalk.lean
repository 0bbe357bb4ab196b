/- DictJoins, walked: true for every input. -/
import Derived.Test.YtebdnjfohahpgaaJoin07
import Derived.Test.YtebdnjfohahpgaaMade07
import Derived.Test.YtebdnjfohahpgaaProbes07
import Derived.Test.YtebdnjfohahpgaaArg07
import Derived.Test.YtebdnjfohahpgaaNat
import Derived.Deep.RegionHeld3
import Derived.Deep.AppendLies
set_option linter.unusedVariables false
namespace Go.Proofs.Ytebdnjfohahpgaa
open Go Go.RowKit

def fewL (ls : List (List Nm)) : List (List Nm) := ls.map fun l => fewN (l.take 10)
theorem fewL_snoc {ls : List (List Nm)} {k : Nat} (hk : k < ls.length) : fewL (ls.take (k + 1)) = fewL (ls.take k) ++ [fewN (ls[k].take 10)] := by
  rw [fewL, List.take_succ_eq_append_getElem hk, List.map_append]
  rfl
theorem fewN_ten (l : List Nm) : (fewN (l.take 10)).length ≤ 10 := by
  unfold fewN
  rw [List.length_map, List.length_take, List.length_take]
  omega
theorem fewN_all (l : List Nm) : ∀ x ∈ fewN l, x.length ≤ 8 := by
  intro x hx
  obtain ⟨y, _, rfl⟩ := List.mem_map.1 hx
  rw [List.length_take]
  omega
theorem fewL_flat : ∀ (ls : List (List Nm)), (fewL ls).flatten.length ≤ ls.length * 10
  | [] => by simp [fewL]
  | l :: ls => by
    have h1 := fewL_flat ls
    have h2 := fewN_ten l
    simp only [fewL, List.map_cons, List.flatten_cons, List.length_append, List.length_cons] at *
    omega
theorem OwnLs.room {base : Nat} {w : World} {v : Value} {l : List (List Nm)} (h : OwnLs base w v l) : ∃ A c, v = .slice A l.length c ∧ l.length ≤ c ∧ c ≤ maxLen ∧ Lists w w.heap.size A l := by
  obtain ⟨cs, h1, h2⟩ := h
  obtain ⟨A, c, rfl, hc, hr⟩ := owned_row h1
  refine ⟨A, c, rfl, hc, ?_, cs, h2.cells, hr⟩
  rcases h1.2 with ⟨h4, _⟩ | ⟨g, cap, cur, h4, _, _, _, h5, _⟩
  · injection h4 with _ _ h4; omega
  · injection h4 with _ _ h4; rw [h4]; exact h5
theorem info_strs : (Try.prog.info? 22).map (fun i => (i.zero, i.size, i.bytes)) = some (some (.slice none 0 0), 1, 24) := by kernel_rfl

def JoinsRel (ls : List (List Nm)) (w : World) (vo i : Value) (wr : World) : Prop :=
  ∃ k : Nat, k ≤ ls.length ∧ k ≤ 5 ∧ i = .int .i64 (k : Int) ∧ OwnLs w.heap.size wr vo (fewL (ls.take k)) ∧ Below w.heap.size w wr

set_option maxHeartbeats 8000000 in
set_option maxRecDepth 100000 in
theorem walk_DictJoins (a0 : Option Addr) (len0 cap0 : Nat) (z0 : List (List Nm)) (a1 : Int) (w : World) (h0 : InLists w a0 len0 cap0 z0) (h1 : (Lit.int .i64 a1).wf = true) :
    Calls Try.prog 6 #[.slice a0 len0 cap0, .int .i64 a1] w fun e w' => e = .returned (.bool true) ∧ Below w.heap.size w w' := by
  obtain ⟨i0, hi0, hz0, hz1, hz2⟩ := info_parts info_strs
  obtain ⟨hlc, hcm, hzl, hls, hzm⟩ := h0
  have HB0 := Lib.hid (wf_bd h1)
  subst hzl
  have HL := Lib.hid hls
  have HM := Lib.hid hzm
  unfold maxLen at hcm
  clear hls hzm h1
  go_enter Try.func6, Try.ntmps6
  go_wp2
  go_loopw [5, 6] (JoinsRel z0 w) (fun _ i _ => 5 - (intOf i).toNat)
  case atStart => exact ⟨0, by omega, by omega, rfl, OwnLs.nil, Below.refl _ _⟩
  case round =>
    obtain ⟨k, hk, hk5, rfl, hown, hbw⟩ := hrel
    have hsz := hbw.size
    by_cases hlt : k < z0.length ∧ k < 5
    · obtain ⟨hkl, hk52⟩ := hlt
      have d1 : decide ((k : Int) < 5) = true := decide_eq_true (by omega)
      obtain ⟨b1, o1, rfl, hb1, A', c', hc1, hle, hcm', hrow⟩ := (HL.out.below hbw).at_ hkl
      have hsn := fewL_snoc hkl
      have hxm := HM.out _ (List.getElem_mem hkl)
      obtain ⟨x, hx⟩ : ∃ x, x = z0[k] := ⟨_, rfl⟩
      rw [← hx] at hc1 hle hrow hsn hxm
      obtain ⟨m, hm⟩ : ∃ m, m = x.length := ⟨_, rfl⟩
      rw [← hm] at hc1 hle
      obtain ⟨mm, hmm⟩ : ∃ mm : Nat, mm = min m 10 := ⟨_, rfl⟩
      have hmn : ∀ (w : World) (ts : Array TypeId) (ty : TypeId), (Builtin.min_ ts ty #[.int .i64 m, .int .i64 10]).run Try.prog w = .ok (.int .i64 (mm : Int)) w := fun w ts ty => by rw [run_min_int2, hmm]; congr 2; split <;> omega
      have hm2 : mm ≤ m := by omega
      have hm3 : mm ≤ c' := by omega
      have hrow2 : Row wr wr.heap.size A' (strs (x.take 10)) := by
        have := (hrow.more hsz).cut 10
        rwa [show (strs x).take 10 = strs (x.take 10) by simp [strs, List.map_take]] at this
      have C1 := Lib.hid (fun W (hb : Below wr.heap.size wr W) => law07_few A' mm c' (x.take 10) W (Row.later hrow2 hb) (by rw [List.length_take, hmm, hm]; omega) hm3 hcm' (fun y hy => hxm y (List.mem_of_mem_take hy)))
      unfold maxLen at hcm'
      have k1 : (0 : Int) ≤ (mm : Int) := by omega
      have k2 : (mm : Int) ≤ (m : Int) := by omega
      have k3 : (mm : Int) ≤ (c' : Int) := by omega
      have k4 : (m : Int) ≤ (c' : Int) := by omega
      obtain ⟨cs, hcs1, hcs2⟩ := hown
      have hlen : (fewL (z0.take k)).length = k := by simp [fewL, List.length_take]; omega
      rw [hlen] at hcs1
      have HC1 := Lib.hid hcs1
      have HC2 := Lib.hid hcs2
      have HSN := Lib.hid hsn
      have HLEN := Lib.hid hlen
      have HSS : Hid (∀ w', Below w.heap.size wr w' → w'.cell? ⟨b1, o1 + k, none⟩ = some (.slice A' m c')) := Lib.hid fun w' h => (h.cell (p := ⟨b1, o1 + k, none⟩) hb1).trans hc1
      clear hx hm hmm hrow hrow2 hsn hxm hcs1 hcs2 hlen
      go_wp2
      go_region_held3 (fun w' => w'.cell? ⟨b1, o1 + k, none⟩ = some (.slice A' m c'))
        (first | exact HSS.out _ (Below.refl _ _).drew | exact HSS.out _ HB4.out | exact HSS.out _ (HB4.out.alloc (by have := HB4.out.size; omega) _) | exact HSS.out _ HB5.out)
        (first
          | (go_at_call 9; refine (C1.out _ (by first | exact (Below.refl _ _).drew | exact Below.refl _ _)).mono ?_; rintro e w4 ⟨v4, rfl, ho4, hb4⟩
             have hb4' : Below wr.heap.size wr w4 := (show Below wr.heap.size wr _ from (by first | exact (Below.refl _ _).drew | exact Below.refl _ _)).trans hb4
             have HO4 : Hid (OwnNm w.heap.size w4 v4 (fewN (x.take 10))) := Lib.hid (ho4.low (by first | exact hsz | (simp; exact hsz)))
             obtain ⟨A4, c4, hv4, _, _, _⟩ := ho4.room
             have HC4 := Lib.hid (owned_below HC1.out hb4')
             have HC24 := Lib.hid (HC2.out.imp fun _ _ h => h.below hb4')
             have HB4 := Lib.hid (hb4'.mono hsz)
             subst hv4
             clear ho4 hb4 hb4')
          | (refine step_append_lies _ (by rfl) _ _ _ (by rfl) w.heap.size 22 i0 _ 1 24 Try.underlying50 hi0 hz0 hz1 hz2 rfl (by omega) _ k cs (by rfl) (HC4.out.alloc _)
              ⟨w4.heap.size, 0, none⟩ 1 1 [.slice A4 (fewN (x.take 10)).length c4] (by rfl) (by rfl) (World.news_of_block (cs := #[.slice A4 (fewN (x.take 10)).length c4]) (t := 22) (fr := (0, 0)) (heap_alloc_new w4 _)) (by intro u hu; simp at hu; subst hu; rfl)
              (by omega) (by unfold maxLen; omega) (by omega) (by have := HB4.out.size; simp; omega) (w4.heap.size + 1) (by simp) ?_
             intro gg cap w5 hown5 hg5 hat hlt5
             have hb5 : Below w.heap.size wr w5 := (HB4.out.alloc (by have := HB4.out.size; omega) _).grown hg5 (by have := HB4.out.size; simp; omega) fun k hk => (HC4.out.lt k hk).1
             have HB5 := Lib.hid hb5))
      have hba : Below w4.heap.size w4 (w4.alloc (.cells #[.slice A4 (fewN (x.take 10)).length c4] 22)) := (Below.refl _ _).alloc (Nat.le_refl _) _
      have hpush : OwnLs w.heap.size w5 (.slice (some ⟨gg, 0, none⟩) (k + 1) cap) (fewL (z0.take k) ++ [fewN (x.take 10)]) :=
        OwnLs.push (by rw [HLEN.out]; exact HC4.out.alloc _) (HC24.out.imp fun _ _ h => h.below hba) (HO4.out.below hba) (by rw [HLEN.out]; exact hown5) hg5
      rw [← HSN.out] at hpush
      have hfin : JoinsRel z0 w (.slice (some ⟨gg, 0, none⟩) (k + 1) cap) (.int .i64 ((k : Int) + 1)) w5 := ⟨k + 1, by omega, by omega, by simp, hpush, hbw.trans HB5.out⟩
      have HF := Lib.hid hfin
      clear hfin hpush hown5 hg5 hba
      go_wp2
      go_roundw
      case rel => exact HF.out
      case measure => simp [intOf]; omega
    · obtain ⟨L, hL⟩ : ∃ L, L = fewL (z0.take k) := ⟨_, rfl⟩
      rw [← hL] at hown
      have hLn : L.length ≤ 5 := by rw [hL]; simp [fewL, List.length_take]; omega
      have hLf : L.flatten.length ≤ 1000 := by
        have h1 := fewL_flat (z0.take k)
        rw [← hL] at h1
        have h2 : (z0.take k).length ≤ 5 := by rw [List.length_take]; omega
        omega
      have hL8 : ∀ a ∈ L, ∀ x ∈ a, x.length ≤ 1048576 := by
        intro a ha x hx
        rw [hL] at ha
        obtain ⟨l, _, rfl⟩ := List.mem_map.1 ha
        have := fewN_all _ x hx
        omega
      have hj := joinN_length L
      obtain ⟨AL, cL, rfl, hc1, hc2, hlL⟩ := hown.room
      obtain ⟨nl, hnl⟩ : ∃ n, n = L.length := ⟨_, rfl⟩
      have C1 := Lib.hid (dict_Join AL nl cL L wr hnl.symm (by omega) (by omega) hc2 hlL hLf)
      have C2 := Lib.hid (fun W (hb : Below wr.heap.size wr W) => ref_Join07 AL nl cL L W hnl.symm (hlL.later hb) hLf (by omega) hL8)
      rw [← hnl]
      obtain ⟨J, hJ⟩ : ∃ J, J = joinN L := ⟨_, rfl⟩
      rw [← hJ] at C1 C2 hj
      have hJl : J.length ≤ 1000 := by omega
      have CP1 := Lib.hid (fun W => dict_Probes a1 W HB0.out.1 HB0.out.2)
      have CP2 := Lib.hid (fun W => ref_Probes07 a1 W HB0.out.1 HB0.out.2)
      have LV := Lib.hid (fun W => law07_lives W)
      have HBW := Lib.hid hbw
      have hsp : (k < z0.length ∧ ¬ k < 5) ∨ ¬ k < z0.length := by omega
      clear hL hown hLn hLf hL8 hj hc1 hc2 hlL hnl hJ hbw hlt hk
      have hd : (decide (k < z0.length) = true ∧ decide ((k : Int) < 5) = false ∧ k < z0.length) ∨ ¬ k < z0.length := by
        rcases hsp with ⟨h1, h2⟩ | h1
        · exact .inl ⟨decide_eq_true h1, decide_eq_false (by omega), h1⟩
        · exact .inr h1
      clear hsp
      rcases hd with ⟨e1, e2, e3⟩ | e1
      all_goals
        go_wp2_with (first
          | (go_at_call 25; refine (C1.out).mono ?_; rintro e w5 ⟨v5, rfl, ho5, hb5⟩; have HO5 := Lib.hid ho5; have HB5 := Lib.hid hb5; clear ho5 hb5)
          | (go_at_call 26; refine (C2.out _ HB5.out).mono ?_; rintro e w6 ⟨v6, rfl, ho6, hb6⟩
             obtain ⟨A5, c5, rfl, _, _, hr5⟩ := (HO5.out.below hb6).room
             obtain ⟨A6, c6, rfl, _, _, hr6⟩ := ho6.room
             have CS := Lib.hid (ref02_Same A5 A6 J.length J.length c5 c6 J w6 rfl rfl hr5 hr6 (by omega))
             have HB6 := Lib.hid (HB5.out.trans (hb6.mono HB5.out.size))
             clear ho6 hb6 hr5 hr6)
          | (go_at_call 16; refine (CS.out).mono ?_; rintro e w7 ⟨rfl, hb7⟩; have HB7 := Lib.hid (HB6.out.trans (hb7.mono HB6.out.size)); clear hb7)
          | (go_at_call 27; refine (CP1.out _).mono ?_; rintro e w8 ⟨rfl, rfl⟩)
          | (go_at_call 28; refine (CP2.out _).mono ?_; rintro e w9 ⟨rfl, rfl⟩)
          | (go_at_call 18; refine (LV.out _).mono ?_; rintro e w10 ⟨rfl, hb10⟩))
        go_ret
        exact ⟨rfl, HBW.out.trans ((HB7.out.trans (hb10.mono HB7.out.size)).mono HBW.out.size)⟩
end Go.Proofs.Ytebdnjfohahpgaa
