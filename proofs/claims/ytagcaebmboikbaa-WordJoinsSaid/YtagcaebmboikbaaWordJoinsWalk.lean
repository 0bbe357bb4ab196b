/- The walk of WordJoins: it returns true for every input, and nothing that was there turns. -/
import Derived.Test.YtagcaebmboikbaaLives02
namespace Go.Proofs.Ytagcaebmboikbaa
open Go Go.RowKit
set_option linter.unusedVariables false

theorem strs_oneCell (l : List (List UInt8)) : ∀ u ∈ strs l, u.oneCell' = true := by
  intro u hu
  obtain ⟨x, _, rfl⟩ := List.mem_map.1 hu
  rfl

set_option maxHeartbeats 2000000 in
set_option maxRecDepth 100000 in
theorem walk_WordJoins (a0 a1 : ByteArray) (w : World) (w0 : a0.size ≤ maxLen) (w1 : a1.size ≤ maxLen) :
    Calls Try.prog 8 #[.string a0, .string a1] w fun e w' => e = .returned (.bool true) ∧ Below w.heap.size w w' := by
  obtain ⟨i1, hi1, hy0, hy1, hy2⟩ := info_parts info_string
  have HW0 := Lib.hid w0
  have HW1 := Lib.hid w1
  clear w0 w1
  go_enter Try.func8, Try.ntmps8
  go_wp2_with (go_at_call 10; refine (law02_few a0 80 _ HW0.out (by omega)).mono ?_)
  rintro e w' ⟨s, rfl, hs, rfl⟩
  go_wp2_with (go_at_call 10; refine (law02_few a1 80 _ HW1.out (by omega)).mono ?_)
  rintro e w' ⟨t, rfl, ht, rfl⟩
  have hsz : s.data.toList.length = s.size := Array.length_toList
  have htz : t.data.toList.length = t.size := Array.length_toList
  have hwl := words_length s.data.toList
  have hvl := words_length t.data.toList
  rw [hsz] at hwl
  rw [htz] at hvl
  have hjoin := words_join s.data.toList t.data.toList
  have c1 := fun w => word_Words s w (by omega)
  have c2 := fun w => word_Words t w (by omega)
  have c3 : ∀ (u : ByteArray), u.data.toList = s.data.toList ++ 32 :: t.data.toList → ∀ w, Calls Try.prog 14 #[.string u] w (GaveStrs (words s.data.toList ++ words t.data.toList) w) := by
    intro u hu w
    have := word_Words u w (by rw [← size_list, hu, List.length_append, List.length_cons]; omega)
    rw [hu, hjoin] at this
    exact this
  generalize words s.data.toList = ws at c1 c3 hwl
  generalize words t.data.toList = vs at c2 c3 hvl
  have C1 := Lib.hid c1
  have C2 := Lib.hid c2
  have C3 := Lib.hid c3
  clear c1 c2 c3 hsz htz hjoin
  go_wp2_with (go_at_call 14; refine (C1.out _).mono ?_)
  rintro e w3 ⟨v3, rfl, hown3, hb3⟩
  obtain ⟨A3, k3, rfl, _, hrow3⟩ := owned_row hown3
  have HR3 := Lib.hid hrow3
  clear hrow3 hown3
  go_wp2_with (at_builtin; refine wpList_append_row _ rfl (.tmp 10) (.tmp 12) 30 rfl w3.heap.size 9 i1 _ 1 16 Try.underlying30 hi1 hy0 hy1 hy2 rfl (by omega) _ 0 [] rfl (World.ownsRow_nil _ _ _ _) w3.heap.size A3 ws.length k3 (strs ws) rfl (by rw [strs_length]; omega) HR3.out (strs_oneCell _) (by unfold maxLen; omega) (by omega) (Nat.le_refl _) ?_)
  intro v4 w4 hown4 hgrow4
  have hb4 : Below w3.heap.size w3 w4 := (Below.refl _ _).grown hgrow4 (Nat.le_refl _) (fun j hj => by cases hj)
  have HO4 := Lib.hid hown4
  clear hgrow4 hown4
  go_wp2_with (go_at_call 14; refine (C2.out _).mono ?_)
  rintro e w5 ⟨v5, rfl, hown5, hb5⟩
  obtain ⟨A5, k5, rfl, _, hrow5⟩ := owned_row hown5
  have HR5 := Lib.hid hrow5
  have HO5 := Lib.hid (owned_below HO4.out hb5)
  have hs4 := hb4.size
  have hs5 := hb5.size
  clear hrow5 hown5
  go_wp2_with (at_builtin; refine wpList_append_row _ rfl (.tmp 14) (.tmp 16) 30 rfl w3.heap.size 9 i1 _ 1 16 Try.underlying30 hi1 hy0 hy1 hy2 rfl (by omega) _ ws.length (strs ws) rfl HO5.out w5.heap.size A5 vs.length k5 (strs vs) rfl (by rw [strs_length]; omega) HR5.out (strs_oneCell _) (by unfold maxLen; omega) (by omega) (by omega) ?_)
  intro v6 w6 hown6 hgrow6
  have hb6 : Below w3.heap.size w5 w6 := (Below.refl _ _).grown hgrow6 (by omega) (fun j hj => (HO5.out.lt j hj).1)
  have hcat : strs ws ++ strs vs = strs (ws ++ vs) := by simp [strs]
  rw [hcat] at hown6
  have HL : Hid (ws.length + vs.length = (ws ++ vs).length) := Lib.hid (by simp)
  rw [HL.out] at hown6
  obtain ⟨A6, k6, rfl, _, hrow6⟩ := owned_row hown6
  have HR6 := Lib.hid hrow6
  have hs3 := hb3.size
  have hs6 := hb6.size
  have hbz : Below w.heap.size w w6 := ((hb3.trans (hb4.mono (by omega))).trans (hb5.mono (by omega))).trans (hb6.mono (by omega))
  have HBZ := Lib.hid hbz
  have hsz6 := hbz.size
  clear hgrow6 hown6 hrow6 hcat hb3 hb4 hb5 hb6 hbz
  go_wp2_with (first
    | (go_at_call 14; refine (C3.out _ ?_ _).mono ?_))
  · simp
  rintro e w7 ⟨v7, rfl, hown7, hb7⟩
  obtain ⟨A7, k7, rfl, _, hrow7⟩ := owned_row hown7
  have HR7 := Lib.hid hrow7
  clear hrow7 hown7
  go_wp2_with (go_at_call 13; refine (ref02_Same _ _ _ _ _ _ (ws ++ vs) _ (by simp) (by simp) HR7.out ((HR6.out.below hb7).more hb7.size) (by simp; omega)).mono ?_)
  rintro e w8 ⟨rfl, hb8⟩
  have s7 := hb7.size
  have s8 := hb8.size
  have hb : Below w.heap.size w w8 := (HBZ.out.trans (hb7.mono (by omega))).trans (hb8.mono (by omega))
  clear hb7 hb8 HR7 HR6
  go_wp2_with (go_at_call 16; refine (law02_lives _).mono ?_)
  rintro e w9 ⟨rfl, hb9⟩
  go_wp2
  go_ret
  exact ⟨rfl, hb.trans (hb9.mono hb.size)⟩
end Go.Proofs.Ytagcaebmboikbaa
