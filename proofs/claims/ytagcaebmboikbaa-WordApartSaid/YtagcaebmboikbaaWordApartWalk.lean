/- The walk of WordApart: it returns true for every input, and nothing that was there turns. -/
import Derived.Test.YtagcaebmboikbaaWordKeysWalk
import Derived.Deep.RegionLaw
namespace Go.Proofs.Ytagcaebmboikbaa
open Go Go.RowKit
set_option linter.unusedVariables false

def cleanL (l : List UInt8) : List UInt8 := l.filter fun b => decide (b ≠ 0)
theorem cleanL_no (l : List UInt8) : (0 : UInt8) ∉ cleanL l := by simp [cleanL]
theorem cleanL_length (l : List UInt8) : (cleanL l).length ≤ l.length := List.length_filter_le ..
theorem cleanL_take {l : List UInt8} {k : Nat} (hk : k < l.length) : cleanL (l.take (k + 1)) = cleanL (l.take k) ++ if l[k] = 0 then [] else [l[k]] := by
  unfold cleanL
  rw [List.take_succ_eq_append_getElem hk, List.filter_append]
  congr 1
  by_cases h : l[k] = 0
  · rw [if_pos h, List.filter_cons, if_neg (by simpa using h)]; rfl
  · rw [if_neg h, List.filter_cons, if_pos (by simpa using h)]; rfl

def CleanRel (l : List UInt8) (w : World) (o i : Value) (wr : World) : Prop :=
  ∃ (k n : Nat) (vo : Value), vo = o ∧ k ≤ l.length ∧ n ≤ k ∧ i = .int .i64 k ∧ wr.ownsRow w.heap.size 5 1 o n (Lib.byteCells (cleanL (l.take k))) ∧ Hid (n = (cleanL (l.take k)).length) ∧ Below w.heap.size w wr

set_option maxHeartbeats 2000000 in
set_option maxRecDepth 100000 in
theorem law02_clean (s : ByteArray) (w : World) (hs : s.size ≤ 1000) :
    Calls Try.prog 23 #[.string s] w (GaveText (cleanL s.data.toList) w) := by
  obtain ⟨i0, hi0, hz0, hz1, hz2⟩ := info_parts info_byte
  have hsz : s.data.toList.length = s.size := Array.length_toList
  go_enter Try.func23, Try.ntmps23
  go_wp2
  have HSZ := Lib.hid hsz
  clear hsz
  go_loopw [3, 4] (fun o i wr => CleanRel s.data.toList w o i wr) (fun _ i _ => s.size - (intOf i).toNat)
  case atStart => exact ⟨0, 0, _, rfl, Nat.zero_le _, Nat.le_refl _, rfl, World.ownsRow_nil _ _ _ _, Lib.hid rfl, Below.refl _ _⟩
  case round =>
    obtain ⟨k, n, vo, rfl, hk, hnk, rfl, hown, HN, hbw⟩ := hrel
    have hk2 : k ≤ s.size := by rw [← HSZ.out]; exact hk
    by_cases hlt : k < s.size
    · have hlt2 : k < s.data.toList.length := by rw [HSZ.out]; exact hlt
      have hct := cleanL_take hlt2
      have hget : s.data.toList[k] = s[k] := by rw [Array.getElem_toList]; rfl
      rw [hget] at hct
      have hszj := hbw.size
      by_cases h0 : s[k] = 0
      · rw [if_pos h0, List.append_nil] at hct
        have hb0 : (((s[k].toNat : Nat) : Int) != 0) = false := by rw [h0]; rfl
        have HCT := Lib.hid hct
        clear hct hget h0 hk
        go_wp2
        go_roundw
        case rel => exact ⟨k + 1, n, _, rfl, by omega, by omega, by go_num, by rw [HCT.out]; exact hown, Lib.hid (by rw [HCT.out]; exact HN.out), hbw⟩
        case measure => simp [intOf]; omega
      · rw [if_neg h0] at hct
        have hb0 : (((s[k].toNat : Nat) : Int) != 0) = true := by
          rw [bne_iff_ne]
          intro h
          exact h0 (UInt8.toNat_inj.1 (by simpa using (by omega : s[k].toNat = 0)))
        have HCT := Lib.hid hct
        clear hct hget h0 hk
        go_wp2_with (at_builtin; refine wpList_append_own _ rfl (.tmp 15) (.tmp 19) 34 rfl w.heap.size 5 i0 _ 1 1 Try.underlying34 hi0 hz0 hz1 hz2 rfl (by omega) _ n (Lib.byteCells (cleanL (s.data.toList.take k))) rfl (hown.alloc _) ⟨wr.heap.size, 0, none⟩ 1 1 [.int .u8 s[k].toNat] rfl rfl (news_at wr [.int .u8 s[k].toNat] 5) (by intro u hu; simp at hu; subst hu; rfl) (by unfold maxLen; omega) (by omega) (by simp; omega) ?_)
        intro v' w5 hown5 hgrow5 _
        have hbw5 := (hbw.alloc (by omega) _).grown hgrow5 (by simp; omega) (fun j hj => (hown.lt j hj).1)
        have hown6 : w5.ownsRow w.heap.size 5 1 v' (n + 1) (Lib.byteCells (cleanL (s.data.toList.take (k + 1)))) := by
          rw [HCT.out, Lib.byteCells_append]; exact hown5
        clear hgrow5 hown5
        go_wp2
        go_roundw
        case rel => exact ⟨k + 1, n + 1, _, rfl, by omega, by omega, by go_num, hown6, Lib.hid (by rw [HCT.out, List.length_append, ← HN.out]; rfl), hbw5⟩
        case measure => simp [intOf]; omega
    · have hks : s.data.toList.take k = s.data.toList := List.take_of_length_le (by rw [HSZ.out]; omega)
      rw [hks] at hown HN
      obtain ⟨A, c, rfl, _, hrow⟩ := owned_row hown
      have hcv := run_string_of (P := Try.prog) hrow 34 9 5 c Try.underlying34 Try.underlying5 Try.underlying9
      rw [← HN.out] at hcv
      clear hks hrow hown
      go_wp2
      go_ret
      exact ⟨rfl, hbw⟩

/-- few and clean, as functions: some text without a byte 0. -/
theorem clean_some (s : ByteArray) (hs : s.size ≤ 30) :
    ∃ t : ByteArray, t.size ≤ 30 ∧ (0 : UInt8) ∉ t.data.toList ∧ ∀ w, Calls Try.prog 23 #[.string s] w fun e w' => e = .returned (.string t) ∧ Below w.heap.size w w' := by
  have hsz : s.data.toList.length = s.size := Array.length_toList
  have hcl := cleanL_length s.data.toList
  refine ⟨⟨(cleanL s.data.toList).toArray⟩, ?_, by simpa using cleanL_no s.data.toList, fun w => law02_clean s w (by omega)⟩
  rw [← size_list]
  show (cleanL s.data.toList).length ≤ 30
  omega

set_option maxHeartbeats 4000000 in
set_option maxRecDepth 100000 in
theorem walk_WordApart (a0 a1 b0 b1 : ByteArray) (w : World) (s0 : a0.size ≤ maxLen) (s1 : a1.size ≤ maxLen) (s2 : b0.size ≤ maxLen) (s3 : b1.size ≤ maxLen) :
    Calls Try.prog 7 #[.agg #[.string a0, .string a1], .agg #[.string b0, .string b1]] w fun e w' => e = .returned (.bool true) ∧ Below w.heap.size w w' := by
  obtain ⟨x0, hx0, fx⟩ := few_some a0 30 30 rfl s0 (by omega)
  obtain ⟨y, hy, fy⟩ := few_some a1 30 30 rfl s1 (by omega)
  obtain ⟨u0, hu0, fu⟩ := few_some b0 30 30 rfl s2 (by omega)
  obtain ⟨v, hv, fv⟩ := few_some b1 30 30 rfl s3 (by omega)
  obtain ⟨x, hx, nx, cx⟩ := clean_some x0 hx0
  obtain ⟨u, hu, nu, cu⟩ := clean_some u0 hu0
  have FX := Lib.hid fx
  have FY := Lib.hid fy
  have FU := Lib.hid fu
  have FV := Lib.hid fv
  have CX := Lib.hid cx
  have CU := Lib.hid cu
  have NX := Lib.hid nx
  have NU := Lib.hid nu
  clear fx fy fu fv cx cu nx nu s0 s1 s2 s3
  have hbx0 := boxes_new w a0 a1 b0 b1
  obtain ⟨w0, hw0⟩ : ∃ w0, w0 = (w.alloc (.cells #[.string a0, .string a1] 37)).alloc (.cells #[.string b0, .string b1] 37) := ⟨_, rfl⟩
  have hb0 : Below w.heap.size w w0 := by rw [hw0]; exact ((Below.refl _ _).alloc (Nat.le_refl _) _).alloc (by simp) _
  rw [← hw0] at hbx0
  have hbx : Boxed w w.heap.size (w.heap.size + 1) a0 a1 b0 b1 w0 := ⟨hbx0, hb0⟩
  obtain ⟨⟨d0, d1, d2, d3⟩, e0, e1, e2, e3⟩ := hbx.all
  clear hbx0 hb0
  go_enter Try.func7, Try.ntmps7
  go_upto_region 1 with fail
  rw [← hw0]
  clear hw0
  go_cut [] from 7 to 14 (fun wx => Boxed w w.heap.size (w.heap.size + 1) x y b0 b1 wx)
  case first =>
    go_region_law (first
      | (go_simp; go_at_call 10; (with_reducible refine (FX.out _).mono ?_); rintro e w' ⟨rfl, rfl⟩)
      | (go_simp; go_at_call 10; (with_reducible refine (FY.out _).mono ?_); rintro e w' ⟨rfl, rfl⟩)
      | (go_simp; go_at_call 23; refine (CX.out _).mono ?_; rintro e w2 ⟨rfl, hb2⟩; have hbx := keepBoxed hbx hb2; obtain ⟨⟨d0, d1, d2, d3⟩, e0, e1, e2, e3⟩ := hbx.all))
    all_goals
      go_wp2_with fail
      go_meet
      exact hbx.set1 x y (Nat.le_refl _) (by omega)
  case rest =>
    clear d0 d1 d2 d3 e0 e1 e2 e3 hbx FX FY CX
    have hbx := hcut
    clear hcut
    obtain ⟨⟨d0, d1, d2, d3⟩, e0, e1, e2, e3⟩ := hbx.all
    go_upto_region 2 with fail
    go_cut [] from 15 to 22 (fun wx => Boxed w w.heap.size (w.heap.size + 1) x y u v wx)
    case first =>
      go_region_law (first
        | (go_simp; go_at_call 10; (with_reducible refine (FU.out _).mono ?_); rintro e w' ⟨rfl, rfl⟩)
        | (go_simp; go_at_call 10; (with_reducible refine (FV.out _).mono ?_); rintro e w' ⟨rfl, rfl⟩)
        | (go_simp; go_at_call 23; refine (CU.out _).mono ?_; rintro e w2 ⟨rfl, hb2⟩; have hbx := keepBoxed hbx hb2; obtain ⟨⟨d0, d1, d2, d3⟩, e0, e1, e2, e3⟩ := hbx.all))
      all_goals
        go_wp2_with fail
        go_meet
        exact hbx.set2 u v (by omega) (by omega)
    case rest =>
      clear d0 d1 d2 d3 e0 e1 e2 e3 hbx FU FV CU
      have hbx := hcut
      clear hcut
      obtain ⟨⟨d0, d1, d2, d3⟩, e0, e1, e2, e3⟩ := hbx.all
      have hkx : keyL x.data.toList y.data.toList = (keyB x y).data.toList := (keyB_list x y).symm
      have hkz : (keyB x y).size ≤ 1073741824 := by
        have h1 : x.data.toList.length = x.size := Array.length_toList
        have h2 : y.data.toList.length = y.size := Array.length_toList
        rw [← size_list, keyB_list, keyL, List.length_append, List.length_cons]
        omega
      have HKX := Lib.hid hkx
      clear hkx
      go_wp2_with (first
        | (go_at_call 19; refine (word_Key x y _ (by omega) (by omega)).mono ?_; rintro e w3 ⟨rfl, hb3⟩)
        | (go_at_call 22; refine (word_Term (keyB x y) _ hkz).mono ?_))
      rintro e w4 ⟨hh, hb4⟩
      have hbx := keepBoxed (keepBoxed hbx hb3) hb4
      clear d0 d1 d2 d3 e0 e1 e2 e3
      obtain ⟨⟨d0, d1, d2, d3⟩, e0, e1, e2, e3⟩ := hbx.all
      have ht : e = .returned (.tuple #[.agg #[.string x, .string y], .bool true]) := by
        rcases hh with ⟨h0, rfl⟩ | ⟨f, g, hf, h0, rfl⟩
        · exact absurd (by rw [← HKX.out, keyL]; simp) h0
        · rw [← HKX.out] at hf
          obtain ⟨h1, h2⟩ := keyL_inj hf NX.out h0
          rw [bytes_of_list h1, bytes_of_list h2]
      subst ht
      clear hh
      go_wp2
      have hal := Below.alloc (Below.refl w4.heap.size w4) (Nat.le_refl _) (.cells #[.string x, .string y] 37)
      have hbx := keepBoxed hbx hal
      have htb := heap_alloc_new w4 (.cells #[.string x, .string y] 37)
      have hbt : Boxed w w4.heap.size w4.heap.size x y x y (w4.alloc (.cells #[.string x, .string y] 37)) := ⟨⟨htb, htb⟩, hbx.2⟩
      generalize w4.alloc (.cells #[.string x, .string y] 37) = w5 at hbx hbt ⊢
      generalize w4.heap.size = T at hbt ⊢
      clear d0 d1 d2 d3 e0 e1 e2 e3 hal htb hb3 hb4
      obtain ⟨⟨d0, d1, d2, d3⟩, e0, e1, e2, e3⟩ := hbx.all
      obtain ⟨t0, t1, _, _⟩ := hbt.1.cells
      by_cases hxu : x = u ∧ y = v
      · obtain ⟨rfl, rfl⟩ := hxu
        go_region_held3 (fun w' => w'.cell? ⟨w.heap.size, 0, none⟩ = some (.string x) ∧ w'.cell? ⟨w.heap.size, 1, none⟩ = some (.string y) ∧ w'.cell? ⟨w.heap.size + 1, 0, none⟩ = some (.string x) ∧ w'.cell? ⟨w.heap.size + 1, 1, none⟩ = some (.string y) ∧ w'.cell? ⟨T, 0, none⟩ = some (.string x) ∧ w'.cell? ⟨T, 1, none⟩ = some (.string y))
          (first | go_keep | exact ⟨hbx.1.cells.1, hbx.1.cells.2.1, hbx.1.cells.2.2.1, hbx.1.cells.2.2.2, hbt.1.cells.1, hbt.1.cells.2.1⟩)
          (first
            | (go_at_call 19; (with_reducible refine (word_Key x y _ (by omega) (by omega)).mono ?_); rintro e w2 ⟨rfl, hb2⟩; have hbx := keepBoxed hbx hb2; have hbt := keepBoxed hbt hb2)
            | (go_at_call 16; refine (law02_lives _).mono ?_; rintro e w2 ⟨rfl, hb2⟩; have hbx := keepBoxed hbx hb2; have hbt := keepBoxed hbt hb2))
        all_goals
          go_wp2
          go_ret
          exact ⟨rfl, hbx.2⟩
      · have hk : ((keyB x y).toList == (keyB u v).toList) = false := by
          rw [Lib.toList_data, Lib.toList_data, beq_eq_false_iff_ne, keyB_list, keyB_list]
          intro h
          obtain ⟨h1, h2⟩ := keyL_inj h NX.out NU.out
          exact hxu ⟨bytes_of_list h1, bytes_of_list h2⟩
        by_cases h1 : x = u
        · have h2 : y ≠ v := fun h2 => hxu ⟨h1, h2⟩
          subst h1
          have ha : (y.toList == v.toList) = false := by
            rw [Lib.toList_data, Lib.toList_data, beq_eq_false_iff_ne]
            exact fun h => h2 (bytes_of_list h)
          clear hxu h2
          go_region_held3 (fun w' => w'.cell? ⟨w.heap.size, 0, none⟩ = some (.string x) ∧ w'.cell? ⟨w.heap.size, 1, none⟩ = some (.string y) ∧ w'.cell? ⟨w.heap.size + 1, 0, none⟩ = some (.string x) ∧ w'.cell? ⟨w.heap.size + 1, 1, none⟩ = some (.string v) ∧ w'.cell? ⟨T, 0, none⟩ = some (.string x) ∧ w'.cell? ⟨T, 1, none⟩ = some (.string y))
            (first | go_keep | exact ⟨hbx.1.cells.1, hbx.1.cells.2.1, hbx.1.cells.2.2.1, hbx.1.cells.2.2.2, hbt.1.cells.1, hbt.1.cells.2.1⟩)
            (first
              | (go_at_call 19; (with_reducible refine (word_Key x y _ (by omega) (by omega)).mono ?_); rintro e w2 ⟨rfl, hb2⟩; have hbx := keepBoxed hbx hb2; have hbt := keepBoxed hbt hb2)
              | (go_at_call 19; (with_reducible refine (word_Key x v _ (by omega) (by omega)).mono ?_); rintro e w2 ⟨rfl, hb2⟩; have hbx := keepBoxed hbx hb2; have hbt := keepBoxed hbt hb2)
              | (go_at_call 16; refine (law02_lives _).mono ?_; rintro e w2 ⟨rfl, hb2⟩; have hbx := keepBoxed hbx hb2; have hbt := keepBoxed hbt hb2))
          all_goals
            go_wp2
            go_ret
            exact ⟨rfl, hbx.2⟩
        · have ha : (x.toList == u.toList) = false := by
            rw [Lib.toList_data, Lib.toList_data, beq_eq_false_iff_ne]
            exact fun h => h1 (bytes_of_list h)
          clear hxu h1
          go_region_held3 (fun w' => w'.cell? ⟨w.heap.size, 0, none⟩ = some (.string x) ∧ w'.cell? ⟨w.heap.size, 1, none⟩ = some (.string y) ∧ w'.cell? ⟨w.heap.size + 1, 0, none⟩ = some (.string u) ∧ w'.cell? ⟨w.heap.size + 1, 1, none⟩ = some (.string v) ∧ w'.cell? ⟨T, 0, none⟩ = some (.string x) ∧ w'.cell? ⟨T, 1, none⟩ = some (.string y))
            (first | go_keep | exact ⟨hbx.1.cells.1, hbx.1.cells.2.1, hbx.1.cells.2.2.1, hbx.1.cells.2.2.2, hbt.1.cells.1, hbt.1.cells.2.1⟩)
            (first
              | (go_at_call 19; (with_reducible refine (word_Key x y _ (by omega) (by omega)).mono ?_); rintro e w2 ⟨rfl, hb2⟩; have hbx := keepBoxed hbx hb2; have hbt := keepBoxed hbt hb2)
              | (go_at_call 19; (with_reducible refine (word_Key u v _ (by omega) (by omega)).mono ?_); rintro e w2 ⟨rfl, hb2⟩; have hbx := keepBoxed hbx hb2; have hbt := keepBoxed hbt hb2)
              | (go_at_call 16; refine (law02_lives _).mono ?_; rintro e w2 ⟨rfl, hb2⟩; have hbx := keepBoxed hbx hb2; have hbt := keepBoxed hbt hb2))
          all_goals
            go_wp2
            go_ret
            exact ⟨rfl, hbx.2⟩
end Go.Proofs.Ytagcaebmboikbaa
