/- The walk of SignJoins: it returns true for every input, and nothing that was there turns. -/
import Derived.Test.YtfgkhophgganjaaSignSignsWalk
import Derived.Test.YtfgkhophgganjaaFoldText
import Derived.Test.YtfgkhophgganjaaFew01
import Derived.Test.YtfgkhophgganjaaLives01
namespace Go.Proofs.Ytfgkhophgganjaa
open Go Go.RowKit
set_option linter.unusedVariables false

set_option maxHeartbeats 2000000 in
set_option maxRecDepth 100000 in
theorem walk_SignJoins (a0 : Option Addr) (len0 cap0 : Nat) (z0 : List Int) (a1 : Option Addr) (len1 cap1 : Nat) (z1 : List Int) (w : World) (w0 : InRow .i64 w a0 len0 cap0 z0) (w1 : InRow .i64 w a1 len1 cap1 z1) :
    Calls Try.prog 7 #[.slice a0 len0 cap0, .slice a1 len1 cap1] w fun e w' => e = .returned (.bool true) ∧ Below w.heap.size w w' := by
  obtain ⟨i0, hi0, hz0, hz1', hz2⟩ := info_parts info_int
  obtain ⟨h1, h2, hz, hrow, _⟩ := w0
  obtain ⟨g1, g2, gz, grow, _⟩ := w1
  unfold maxLen at h2 g2
  have HR0 := Lib.hid hrow
  have HR1 := Lib.hid grow
  have HZ0 := Lib.hid hz
  have HZ1 := Lib.hid gz
  clear hrow grow hz gz
  by_cases hc0 : 30 < len0 <;> by_cases hc1 : 30 < len1
  · obtain ⟨b0, off0, rfl, _, _⟩ := HR0.out.at_ (by rw [List.length_map, HZ0.out]; omega)
    have HL0 : Hid (Row w w.heap.size (some ⟨b0, off0, none⟩) (ints (z0.take 30)) ∧ (z0.take 30).length = 30) := ⟨row_take HR0.out 30, by rw [List.length_take, HZ0.out]; omega⟩
    obtain ⟨xs0, hxs0⟩ : ∃ xs, xs = z0.take 30 := ⟨_, rfl⟩
    rw [← hxs0] at HL0
    clear hxs0 HR0 HZ0
    obtain ⟨b1, off1, rfl, _, _⟩ := HR1.out.at_ (by rw [List.length_map, HZ1.out]; omega)
    have HL1 : Hid (Row w w.heap.size (some ⟨b1, off1, none⟩) (ints (z1.take 30)) ∧ (z1.take 30).length = 30) := ⟨row_take HR1.out 30, by rw [List.length_take, HZ1.out]; omega⟩
    obtain ⟨xs1, hxs1⟩ : ∃ xs, xs = z1.take 30 := ⟨_, rfl⟩
    rw [← hxs1] at HL1
    clear hxs1 HR1 HZ1
    go_enter Try.func7, Try.ntmps7
    go_wp2_with (go_at_call 13; refine (sign_Text_at _ _ _ xs0 _ HL0.out.2 HL0.out.1 (by omega)).mono ?_)
    rintro e w2 ⟨he2, hb2⟩
    obtain ⟨u0, hu0⟩ : ∃ u : ByteArray, u = ⟨(text xs0).toArray⟩ := ⟨_, rfl⟩
    rw [← hu0] at he2
    subst he2
    have HU0 := Lib.hid hu0
    clear hu0
    go_wp2_with (go_at_call 13; refine (sign_Text_at _ _ _ xs1 _ HL1.out.2 ((HL1.out.1.below hb2).more hb2.size) (by omega)).mono ?_)
    rintro e w3 ⟨he3, hb3⟩
    obtain ⟨u1, hu1⟩ : ∃ u : ByteArray, u = ⟨(text xs1).toArray⟩ := ⟨_, rfl⟩
    rw [← hu1] at he3
    subst he3
    have hl0 : u0.data.toList = text xs0 := by rw [HU0.out]
    have hl1 : u1.data.toList = text xs1 := by rw [hu1]
    have m0 : xs0.length ≤ 30 := by have := HL0.out.2; omega
    have m1 : xs1.length ≤ 30 := by have := HL1.out.2; omega
    have z0 : u0.size ≤ 120 := by rw [← size_list, hl0]; have := text_length xs0; omega
    have z1 : u1.size ≤ 120 := by rw [← size_list, hl1]; have := text_length xs1; omega
    have c0 : (signs u0.data.toList).length = xs0.length := by rw [hl0, signs_text_clamp, List.length_map]
    have c1 : (signs u1.data.toList).length = xs1.length := by rw [hl1, signs_text_clamp, List.length_map]
    have HJ : Hid (signs (u0 ++ u1).data.toList = signs u0.data.toList ++ signs u1.data.toList) := by
      have e : (u0 ++ u1).data.toList = u0.data.toList ++ u1.data.toList := by simp
      rw [Hid, e, hl0, hl1]
      exact signs_text_join xs0 xs1
    have HN0 := Lib.hid (c0.trans HL0.out.2)
    have HN1 := Lib.hid (c1.trans HL1.out.2)
    obtain ⟨l0, e0⟩ : ∃ l, l = signs u0.data.toList := ⟨_, rfl⟩
    obtain ⟨l1, e1⟩ : ∃ l, l = signs u1.data.toList := ⟨_, rfl⟩
    have HE0 := Lib.hid e0
    have HE1 := Lib.hid e1
    rw [← e0] at c0 HN0 HJ
    rw [← e1] at c1 HN1 HJ
    have k0 : l0.length ≤ 30 := by omega
    have k1 : l1.length ≤ 30 := by omega
    have hb : Below w.heap.size w w3 := hb2.trans (hb3.mono hb2.size)
    clear hb2 hb3 HU0 hu1 hl0 hl1 c0 c1 e0 e1 HL0 HL1
    go_wp2_with (go_at_call 11; refine (sign_Signs u0 _ (by omega)).mono ?_)
    rintro e w4 ⟨v4, rfl, hown4, hb4⟩
    rw [← HE0.out] at hown4
    obtain ⟨A4, q4, rfl, _, hrow4⟩ := owned_row hown4
    have hbw4 : Below w.heap.size w w4 := hb.trans (hb4.mono hb.size)
    clear hown4 hb4 hb
    have s4 := hbw4.size
    go_wp2_with (at_builtin; refine wpList_append_row _ rfl (.tmp 22) (.tmp 24) 22 rfl w.heap.size 3 i0 _ 1 8 Try.underlying22 hi0 hz0 hz1' hz2 rfl (by omega) (.slice none 0 0) 0 [] rfl (World.ownsRow_nil _ _ _ _) _ _ l0.length q4 (ints l0) rfl (by simp [ints]) hrow4 (ints_oneCell _ _) (by unfold maxLen; omega) (by omega) (by omega) ?_)
    intro v5 w5 hown5 hgrow5
    have hbw5 : Below w.heap.size w w5 := hbw4.grown hgrow5 (by omega) (fun k hk => by simp [Value.ownBlock] at hk)
    clear hgrow5 hbw4 hrow4
    obtain ⟨A5, q5, rfl, _, hrow5⟩ := owned_row hown5
    clear hrow5
    go_wp2_with (go_at_call 11; refine (sign_Signs u1 _ (by omega)).mono ?_)
    rintro e w6 ⟨v6, rfl, hown6, hb6⟩
    rw [← HE1.out] at hown6
    obtain ⟨A6, q6, rfl, _, hrow6⟩ := owned_row hown6
    have hbw6 : Below w.heap.size w w6 := hbw5.trans (hb6.mono hbw5.size)
    have hown56 := owned_below hown5 hb6
    clear hown6 hb6 hbw5 hown5
    have s6 := hbw6.size
    go_wp2_with (at_builtin; refine wpList_append_row _ rfl (.tmp 26) (.tmp 28) 22 rfl w.heap.size 3 i0 _ 1 8 Try.underlying22 hi0 hz0 hz1' hz2 rfl (by omega) (.slice A5 l0.length q5) l0.length (ints l0) rfl hown56 _ _ l1.length q6 (ints l1) rfl (by simp [ints]) hrow6 (ints_oneCell _ _) (by unfold maxLen; omega) (by omega) (by omega) ?_)
    intro v7 w7 hown7 hgrow7
    have hbw7 : Below w.heap.size w w7 := hbw6.grown hgrow7 (by omega) (fun k hk => (hown56.lt k hk).1)
    clear hgrow7 hbw6 hrow6 hown56
    have eints : ints l0 ++ ints l1 = ints (l0 ++ l1) := by simp [ints]
    try rw [eints] at hown7
    clear eints
    obtain ⟨A7, q7, rfl, _, hrow7⟩ := owned_row hown7
    clear hown7
    have HR7 := Lib.hid hrow7
    clear hrow7
    have z2 : (u0 ++ u1).size ≤ 240 := by rw [ByteArray.size_append]; omega
    go_wp2_with (go_at_call 11; refine (sign_Signs (u0 ++ u1) _ (by omega)).mono ?_)
    rintro e w8 ⟨v8, rfl, hown8, hb8⟩
    rw [HJ.out, List.length_append] at hown8
    obtain ⟨A8, q8, rfl, _, hrow8⟩ := owned_row hown8
    have hbw8 : Below w.heap.size w w8 := hbw7.trans (hb8.mono hbw7.size)
    have HR78 := Lib.hid ((HR7.out.below hb8).more hb8.size)
    have HR8 := Lib.hid hrow8
    clear hrow8 hown8 hb8 hbw7 HR7
    go_wp2_with (go_at_call 10; refine (ref_Same_at _ _ _ _ _ _ (l0 ++ l1) _ (by rw [List.length_append]) (by rw [List.length_append]) HR8.out HR78.out (by omega)).mono ?_)
    rintro e w9 ⟨rfl, hb9⟩
    have hbw9 : Below w.heap.size w w9 := hbw8.trans (hb9.mono hbw8.size)
    clear hbw8 hb9
    have hee : (((l0.length : Int) + (l1.length : Int)) == (60)) = true := by have a := HN0.out; have b := HN1.out; simp; omega
    go_wp2_with (go_at_call 15; refine (law01_lives _).mono ?_)
    rintro e w10 ⟨rfl, hb10⟩
    go_wp2
    go_ret
    exact ⟨rfl, hbw9.trans (hb10.mono hbw9.size)⟩
  · obtain ⟨b0, off0, rfl, _, _⟩ := HR0.out.at_ (by rw [List.length_map, HZ0.out]; omega)
    have HL0 : Hid (Row w w.heap.size (some ⟨b0, off0, none⟩) (ints (z0.take 30)) ∧ (z0.take 30).length = 30) := ⟨row_take HR0.out 30, by rw [List.length_take, HZ0.out]; omega⟩
    obtain ⟨xs0, hxs0⟩ : ∃ xs, xs = z0.take 30 := ⟨_, rfl⟩
    rw [← hxs0] at HL0
    clear hxs0 HR0 HZ0
    have HL1 : Hid (Row w w.heap.size a1 (ints z1) ∧ z1.length = len1) := ⟨HR1.out, HZ1.out⟩
    obtain ⟨xs1, hxs1⟩ : ∃ xs, xs = z1 := ⟨_, rfl⟩
    rw [← hxs1] at HL1
    clear hxs1 HR1 HZ1
    go_enter Try.func7, Try.ntmps7
    go_wp2_with (go_at_call 13; refine (sign_Text_at _ _ _ xs0 _ HL0.out.2 HL0.out.1 (by omega)).mono ?_)
    rintro e w2 ⟨he2, hb2⟩
    obtain ⟨u0, hu0⟩ : ∃ u : ByteArray, u = ⟨(text xs0).toArray⟩ := ⟨_, rfl⟩
    rw [← hu0] at he2
    subst he2
    have HU0 := Lib.hid hu0
    clear hu0
    go_wp2_with (go_at_call 13; refine (sign_Text_at _ _ _ xs1 _ HL1.out.2 ((HL1.out.1.below hb2).more hb2.size) (by omega)).mono ?_)
    rintro e w3 ⟨he3, hb3⟩
    obtain ⟨u1, hu1⟩ : ∃ u : ByteArray, u = ⟨(text xs1).toArray⟩ := ⟨_, rfl⟩
    rw [← hu1] at he3
    subst he3
    have hl0 : u0.data.toList = text xs0 := by rw [HU0.out]
    have hl1 : u1.data.toList = text xs1 := by rw [hu1]
    have m0 : xs0.length ≤ 30 := by have := HL0.out.2; omega
    have m1 : xs1.length ≤ 30 := by have := HL1.out.2; omega
    have z0 : u0.size ≤ 120 := by rw [← size_list, hl0]; have := text_length xs0; omega
    have z1 : u1.size ≤ 120 := by rw [← size_list, hl1]; have := text_length xs1; omega
    have c0 : (signs u0.data.toList).length = xs0.length := by rw [hl0, signs_text_clamp, List.length_map]
    have c1 : (signs u1.data.toList).length = xs1.length := by rw [hl1, signs_text_clamp, List.length_map]
    have HJ : Hid (signs (u0 ++ u1).data.toList = signs u0.data.toList ++ signs u1.data.toList) := by
      have e : (u0 ++ u1).data.toList = u0.data.toList ++ u1.data.toList := by simp
      rw [Hid, e, hl0, hl1]
      exact signs_text_join xs0 xs1
    have HN0 := Lib.hid (c0.trans HL0.out.2)
    have HN1 := Lib.hid (c1.trans HL1.out.2)
    obtain ⟨l0, e0⟩ : ∃ l, l = signs u0.data.toList := ⟨_, rfl⟩
    obtain ⟨l1, e1⟩ : ∃ l, l = signs u1.data.toList := ⟨_, rfl⟩
    have HE0 := Lib.hid e0
    have HE1 := Lib.hid e1
    rw [← e0] at c0 HN0 HJ
    rw [← e1] at c1 HN1 HJ
    have k0 : l0.length ≤ 30 := by omega
    have k1 : l1.length ≤ 30 := by omega
    have hb : Below w.heap.size w w3 := hb2.trans (hb3.mono hb2.size)
    clear hb2 hb3 HU0 hu1 hl0 hl1 c0 c1 e0 e1 HL0 HL1
    go_wp2_with (go_at_call 11; refine (sign_Signs u0 _ (by omega)).mono ?_)
    rintro e w4 ⟨v4, rfl, hown4, hb4⟩
    rw [← HE0.out] at hown4
    obtain ⟨A4, q4, rfl, _, hrow4⟩ := owned_row hown4
    have hbw4 : Below w.heap.size w w4 := hb.trans (hb4.mono hb.size)
    clear hown4 hb4 hb
    have s4 := hbw4.size
    go_wp2_with (at_builtin; refine wpList_append_row _ rfl (.tmp 22) (.tmp 24) 22 rfl w.heap.size 3 i0 _ 1 8 Try.underlying22 hi0 hz0 hz1' hz2 rfl (by omega) (.slice none 0 0) 0 [] rfl (World.ownsRow_nil _ _ _ _) _ _ l0.length q4 (ints l0) rfl (by simp [ints]) hrow4 (ints_oneCell _ _) (by unfold maxLen; omega) (by omega) (by omega) ?_)
    intro v5 w5 hown5 hgrow5
    have hbw5 : Below w.heap.size w w5 := hbw4.grown hgrow5 (by omega) (fun k hk => by simp [Value.ownBlock] at hk)
    clear hgrow5 hbw4 hrow4
    obtain ⟨A5, q5, rfl, _, hrow5⟩ := owned_row hown5
    clear hrow5
    go_wp2_with (go_at_call 11; refine (sign_Signs u1 _ (by omega)).mono ?_)
    rintro e w6 ⟨v6, rfl, hown6, hb6⟩
    rw [← HE1.out] at hown6
    obtain ⟨A6, q6, rfl, _, hrow6⟩ := owned_row hown6
    have hbw6 : Below w.heap.size w w6 := hbw5.trans (hb6.mono hbw5.size)
    have hown56 := owned_below hown5 hb6
    clear hown6 hb6 hbw5 hown5
    have s6 := hbw6.size
    go_wp2_with (at_builtin; refine wpList_append_row _ rfl (.tmp 26) (.tmp 28) 22 rfl w.heap.size 3 i0 _ 1 8 Try.underlying22 hi0 hz0 hz1' hz2 rfl (by omega) (.slice A5 l0.length q5) l0.length (ints l0) rfl hown56 _ _ l1.length q6 (ints l1) rfl (by simp [ints]) hrow6 (ints_oneCell _ _) (by unfold maxLen; omega) (by omega) (by omega) ?_)
    intro v7 w7 hown7 hgrow7
    have hbw7 : Below w.heap.size w w7 := hbw6.grown hgrow7 (by omega) (fun k hk => (hown56.lt k hk).1)
    clear hgrow7 hbw6 hrow6 hown56
    have eints : ints l0 ++ ints l1 = ints (l0 ++ l1) := by simp [ints]
    try rw [eints] at hown7
    clear eints
    obtain ⟨A7, q7, rfl, _, hrow7⟩ := owned_row hown7
    clear hown7
    have HR7 := Lib.hid hrow7
    clear hrow7
    have z2 : (u0 ++ u1).size ≤ 240 := by rw [ByteArray.size_append]; omega
    go_wp2_with (go_at_call 11; refine (sign_Signs (u0 ++ u1) _ (by omega)).mono ?_)
    rintro e w8 ⟨v8, rfl, hown8, hb8⟩
    rw [HJ.out, List.length_append] at hown8
    obtain ⟨A8, q8, rfl, _, hrow8⟩ := owned_row hown8
    have hbw8 : Below w.heap.size w w8 := hbw7.trans (hb8.mono hbw7.size)
    have HR78 := Lib.hid ((HR7.out.below hb8).more hb8.size)
    have HR8 := Lib.hid hrow8
    clear hrow8 hown8 hb8 hbw7 HR7
    go_wp2_with (go_at_call 10; refine (ref_Same_at _ _ _ _ _ _ (l0 ++ l1) _ (by rw [List.length_append]) (by rw [List.length_append]) HR8.out HR78.out (by omega)).mono ?_)
    rintro e w9 ⟨rfl, hb9⟩
    have hbw9 : Below w.heap.size w w9 := hbw8.trans (hb9.mono hbw8.size)
    clear hbw8 hb9
    have hee : (((l0.length : Int) + (l1.length : Int)) == (30 + (len1 : Int))) = true := by have a := HN0.out; have b := HN1.out; simp; omega
    go_wp2_with (go_at_call 15; refine (law01_lives _).mono ?_)
    rintro e w10 ⟨rfl, hb10⟩
    go_wp2
    go_ret
    exact ⟨rfl, hbw9.trans (hb10.mono hbw9.size)⟩
  · have HL0 : Hid (Row w w.heap.size a0 (ints z0) ∧ z0.length = len0) := ⟨HR0.out, HZ0.out⟩
    obtain ⟨xs0, hxs0⟩ : ∃ xs, xs = z0 := ⟨_, rfl⟩
    rw [← hxs0] at HL0
    clear hxs0 HR0 HZ0
    obtain ⟨b1, off1, rfl, _, _⟩ := HR1.out.at_ (by rw [List.length_map, HZ1.out]; omega)
    have HL1 : Hid (Row w w.heap.size (some ⟨b1, off1, none⟩) (ints (z1.take 30)) ∧ (z1.take 30).length = 30) := ⟨row_take HR1.out 30, by rw [List.length_take, HZ1.out]; omega⟩
    obtain ⟨xs1, hxs1⟩ : ∃ xs, xs = z1.take 30 := ⟨_, rfl⟩
    rw [← hxs1] at HL1
    clear hxs1 HR1 HZ1
    go_enter Try.func7, Try.ntmps7
    go_wp2_with (go_at_call 13; refine (sign_Text_at _ _ _ xs0 _ HL0.out.2 HL0.out.1 (by omega)).mono ?_)
    rintro e w2 ⟨he2, hb2⟩
    obtain ⟨u0, hu0⟩ : ∃ u : ByteArray, u = ⟨(text xs0).toArray⟩ := ⟨_, rfl⟩
    rw [← hu0] at he2
    subst he2
    have HU0 := Lib.hid hu0
    clear hu0
    go_wp2_with (go_at_call 13; refine (sign_Text_at _ _ _ xs1 _ HL1.out.2 ((HL1.out.1.below hb2).more hb2.size) (by omega)).mono ?_)
    rintro e w3 ⟨he3, hb3⟩
    obtain ⟨u1, hu1⟩ : ∃ u : ByteArray, u = ⟨(text xs1).toArray⟩ := ⟨_, rfl⟩
    rw [← hu1] at he3
    subst he3
    have hl0 : u0.data.toList = text xs0 := by rw [HU0.out]
    have hl1 : u1.data.toList = text xs1 := by rw [hu1]
    have m0 : xs0.length ≤ 30 := by have := HL0.out.2; omega
    have m1 : xs1.length ≤ 30 := by have := HL1.out.2; omega
    have z0 : u0.size ≤ 120 := by rw [← size_list, hl0]; have := text_length xs0; omega
    have z1 : u1.size ≤ 120 := by rw [← size_list, hl1]; have := text_length xs1; omega
    have c0 : (signs u0.data.toList).length = xs0.length := by rw [hl0, signs_text_clamp, List.length_map]
    have c1 : (signs u1.data.toList).length = xs1.length := by rw [hl1, signs_text_clamp, List.length_map]
    have HJ : Hid (signs (u0 ++ u1).data.toList = signs u0.data.toList ++ signs u1.data.toList) := by
      have e : (u0 ++ u1).data.toList = u0.data.toList ++ u1.data.toList := by simp
      rw [Hid, e, hl0, hl1]
      exact signs_text_join xs0 xs1
    have HN0 := Lib.hid (c0.trans HL0.out.2)
    have HN1 := Lib.hid (c1.trans HL1.out.2)
    obtain ⟨l0, e0⟩ : ∃ l, l = signs u0.data.toList := ⟨_, rfl⟩
    obtain ⟨l1, e1⟩ : ∃ l, l = signs u1.data.toList := ⟨_, rfl⟩
    have HE0 := Lib.hid e0
    have HE1 := Lib.hid e1
    rw [← e0] at c0 HN0 HJ
    rw [← e1] at c1 HN1 HJ
    have k0 : l0.length ≤ 30 := by omega
    have k1 : l1.length ≤ 30 := by omega
    have hb : Below w.heap.size w w3 := hb2.trans (hb3.mono hb2.size)
    clear hb2 hb3 HU0 hu1 hl0 hl1 c0 c1 e0 e1 HL0 HL1
    go_wp2_with (go_at_call 11; refine (sign_Signs u0 _ (by omega)).mono ?_)
    rintro e w4 ⟨v4, rfl, hown4, hb4⟩
    rw [← HE0.out] at hown4
    obtain ⟨A4, q4, rfl, _, hrow4⟩ := owned_row hown4
    have hbw4 : Below w.heap.size w w4 := hb.trans (hb4.mono hb.size)
    clear hown4 hb4 hb
    have s4 := hbw4.size
    go_wp2_with (at_builtin; refine wpList_append_row _ rfl (.tmp 22) (.tmp 24) 22 rfl w.heap.size 3 i0 _ 1 8 Try.underlying22 hi0 hz0 hz1' hz2 rfl (by omega) (.slice none 0 0) 0 [] rfl (World.ownsRow_nil _ _ _ _) _ _ l0.length q4 (ints l0) rfl (by simp [ints]) hrow4 (ints_oneCell _ _) (by unfold maxLen; omega) (by omega) (by omega) ?_)
    intro v5 w5 hown5 hgrow5
    have hbw5 : Below w.heap.size w w5 := hbw4.grown hgrow5 (by omega) (fun k hk => by simp [Value.ownBlock] at hk)
    clear hgrow5 hbw4 hrow4
    obtain ⟨A5, q5, rfl, _, hrow5⟩ := owned_row hown5
    clear hrow5
    go_wp2_with (go_at_call 11; refine (sign_Signs u1 _ (by omega)).mono ?_)
    rintro e w6 ⟨v6, rfl, hown6, hb6⟩
    rw [← HE1.out] at hown6
    obtain ⟨A6, q6, rfl, _, hrow6⟩ := owned_row hown6
    have hbw6 : Below w.heap.size w w6 := hbw5.trans (hb6.mono hbw5.size)
    have hown56 := owned_below hown5 hb6
    clear hown6 hb6 hbw5 hown5
    have s6 := hbw6.size
    go_wp2_with (at_builtin; refine wpList_append_row _ rfl (.tmp 26) (.tmp 28) 22 rfl w.heap.size 3 i0 _ 1 8 Try.underlying22 hi0 hz0 hz1' hz2 rfl (by omega) (.slice A5 l0.length q5) l0.length (ints l0) rfl hown56 _ _ l1.length q6 (ints l1) rfl (by simp [ints]) hrow6 (ints_oneCell _ _) (by unfold maxLen; omega) (by omega) (by omega) ?_)
    intro v7 w7 hown7 hgrow7
    have hbw7 : Below w.heap.size w w7 := hbw6.grown hgrow7 (by omega) (fun k hk => (hown56.lt k hk).1)
    clear hgrow7 hbw6 hrow6 hown56
    have eints : ints l0 ++ ints l1 = ints (l0 ++ l1) := by simp [ints]
    try rw [eints] at hown7
    clear eints
    obtain ⟨A7, q7, rfl, _, hrow7⟩ := owned_row hown7
    clear hown7
    have HR7 := Lib.hid hrow7
    clear hrow7
    have z2 : (u0 ++ u1).size ≤ 240 := by rw [ByteArray.size_append]; omega
    go_wp2_with (go_at_call 11; refine (sign_Signs (u0 ++ u1) _ (by omega)).mono ?_)
    rintro e w8 ⟨v8, rfl, hown8, hb8⟩
    rw [HJ.out, List.length_append] at hown8
    obtain ⟨A8, q8, rfl, _, hrow8⟩ := owned_row hown8
    have hbw8 : Below w.heap.size w w8 := hbw7.trans (hb8.mono hbw7.size)
    have HR78 := Lib.hid ((HR7.out.below hb8).more hb8.size)
    have HR8 := Lib.hid hrow8
    clear hrow8 hown8 hb8 hbw7 HR7
    go_wp2_with (go_at_call 10; refine (ref_Same_at _ _ _ _ _ _ (l0 ++ l1) _ (by rw [List.length_append]) (by rw [List.length_append]) HR8.out HR78.out (by omega)).mono ?_)
    rintro e w9 ⟨rfl, hb9⟩
    have hbw9 : Below w.heap.size w w9 := hbw8.trans (hb9.mono hbw8.size)
    clear hbw8 hb9
    have hee : (((l0.length : Int) + (l1.length : Int)) == ((len0 : Int) + 30)) = true := by have a := HN0.out; have b := HN1.out; simp; omega
    go_wp2_with (go_at_call 15; refine (law01_lives _).mono ?_)
    rintro e w10 ⟨rfl, hb10⟩
    go_wp2
    go_ret
    exact ⟨rfl, hbw9.trans (hb10.mono hbw9.size)⟩
  · have HL0 : Hid (Row w w.heap.size a0 (ints z0) ∧ z0.length = len0) := ⟨HR0.out, HZ0.out⟩
    obtain ⟨xs0, hxs0⟩ : ∃ xs, xs = z0 := ⟨_, rfl⟩
    rw [← hxs0] at HL0
    clear hxs0 HR0 HZ0
    have HL1 : Hid (Row w w.heap.size a1 (ints z1) ∧ z1.length = len1) := ⟨HR1.out, HZ1.out⟩
    obtain ⟨xs1, hxs1⟩ : ∃ xs, xs = z1 := ⟨_, rfl⟩
    rw [← hxs1] at HL1
    clear hxs1 HR1 HZ1
    go_enter Try.func7, Try.ntmps7
    go_wp2_with (go_at_call 13; refine (sign_Text_at _ _ _ xs0 _ HL0.out.2 HL0.out.1 (by omega)).mono ?_)
    rintro e w2 ⟨he2, hb2⟩
    obtain ⟨u0, hu0⟩ : ∃ u : ByteArray, u = ⟨(text xs0).toArray⟩ := ⟨_, rfl⟩
    rw [← hu0] at he2
    subst he2
    have HU0 := Lib.hid hu0
    clear hu0
    go_wp2_with (go_at_call 13; refine (sign_Text_at _ _ _ xs1 _ HL1.out.2 ((HL1.out.1.below hb2).more hb2.size) (by omega)).mono ?_)
    rintro e w3 ⟨he3, hb3⟩
    obtain ⟨u1, hu1⟩ : ∃ u : ByteArray, u = ⟨(text xs1).toArray⟩ := ⟨_, rfl⟩
    rw [← hu1] at he3
    subst he3
    have hl0 : u0.data.toList = text xs0 := by rw [HU0.out]
    have hl1 : u1.data.toList = text xs1 := by rw [hu1]
    have m0 : xs0.length ≤ 30 := by have := HL0.out.2; omega
    have m1 : xs1.length ≤ 30 := by have := HL1.out.2; omega
    have z0 : u0.size ≤ 120 := by rw [← size_list, hl0]; have := text_length xs0; omega
    have z1 : u1.size ≤ 120 := by rw [← size_list, hl1]; have := text_length xs1; omega
    have c0 : (signs u0.data.toList).length = xs0.length := by rw [hl0, signs_text_clamp, List.length_map]
    have c1 : (signs u1.data.toList).length = xs1.length := by rw [hl1, signs_text_clamp, List.length_map]
    have HJ : Hid (signs (u0 ++ u1).data.toList = signs u0.data.toList ++ signs u1.data.toList) := by
      have e : (u0 ++ u1).data.toList = u0.data.toList ++ u1.data.toList := by simp
      rw [Hid, e, hl0, hl1]
      exact signs_text_join xs0 xs1
    have HN0 := Lib.hid (c0.trans HL0.out.2)
    have HN1 := Lib.hid (c1.trans HL1.out.2)
    obtain ⟨l0, e0⟩ : ∃ l, l = signs u0.data.toList := ⟨_, rfl⟩
    obtain ⟨l1, e1⟩ : ∃ l, l = signs u1.data.toList := ⟨_, rfl⟩
    have HE0 := Lib.hid e0
    have HE1 := Lib.hid e1
    rw [← e0] at c0 HN0 HJ
    rw [← e1] at c1 HN1 HJ
    have k0 : l0.length ≤ 30 := by omega
    have k1 : l1.length ≤ 30 := by omega
    have hb : Below w.heap.size w w3 := hb2.trans (hb3.mono hb2.size)
    clear hb2 hb3 HU0 hu1 hl0 hl1 c0 c1 e0 e1 HL0 HL1
    go_wp2_with (go_at_call 11; refine (sign_Signs u0 _ (by omega)).mono ?_)
    rintro e w4 ⟨v4, rfl, hown4, hb4⟩
    rw [← HE0.out] at hown4
    obtain ⟨A4, q4, rfl, _, hrow4⟩ := owned_row hown4
    have hbw4 : Below w.heap.size w w4 := hb.trans (hb4.mono hb.size)
    clear hown4 hb4 hb
    have s4 := hbw4.size
    go_wp2_with (at_builtin; refine wpList_append_row _ rfl (.tmp 22) (.tmp 24) 22 rfl w.heap.size 3 i0 _ 1 8 Try.underlying22 hi0 hz0 hz1' hz2 rfl (by omega) (.slice none 0 0) 0 [] rfl (World.ownsRow_nil _ _ _ _) _ _ l0.length q4 (ints l0) rfl (by simp [ints]) hrow4 (ints_oneCell _ _) (by unfold maxLen; omega) (by omega) (by omega) ?_)
    intro v5 w5 hown5 hgrow5
    have hbw5 : Below w.heap.size w w5 := hbw4.grown hgrow5 (by omega) (fun k hk => by simp [Value.ownBlock] at hk)
    clear hgrow5 hbw4 hrow4
    obtain ⟨A5, q5, rfl, _, hrow5⟩ := owned_row hown5
    clear hrow5
    go_wp2_with (go_at_call 11; refine (sign_Signs u1 _ (by omega)).mono ?_)
    rintro e w6 ⟨v6, rfl, hown6, hb6⟩
    rw [← HE1.out] at hown6
    obtain ⟨A6, q6, rfl, _, hrow6⟩ := owned_row hown6
    have hbw6 : Below w.heap.size w w6 := hbw5.trans (hb6.mono hbw5.size)
    have hown56 := owned_below hown5 hb6
    clear hown6 hb6 hbw5 hown5
    have s6 := hbw6.size
    go_wp2_with (at_builtin; refine wpList_append_row _ rfl (.tmp 26) (.tmp 28) 22 rfl w.heap.size 3 i0 _ 1 8 Try.underlying22 hi0 hz0 hz1' hz2 rfl (by omega) (.slice A5 l0.length q5) l0.length (ints l0) rfl hown56 _ _ l1.length q6 (ints l1) rfl (by simp [ints]) hrow6 (ints_oneCell _ _) (by unfold maxLen; omega) (by omega) (by omega) ?_)
    intro v7 w7 hown7 hgrow7
    have hbw7 : Below w.heap.size w w7 := hbw6.grown hgrow7 (by omega) (fun k hk => (hown56.lt k hk).1)
    clear hgrow7 hbw6 hrow6 hown56
    have eints : ints l0 ++ ints l1 = ints (l0 ++ l1) := by simp [ints]
    try rw [eints] at hown7
    clear eints
    obtain ⟨A7, q7, rfl, _, hrow7⟩ := owned_row hown7
    clear hown7
    have HR7 := Lib.hid hrow7
    clear hrow7
    have z2 : (u0 ++ u1).size ≤ 240 := by rw [ByteArray.size_append]; omega
    go_wp2_with (go_at_call 11; refine (sign_Signs (u0 ++ u1) _ (by omega)).mono ?_)
    rintro e w8 ⟨v8, rfl, hown8, hb8⟩
    rw [HJ.out, List.length_append] at hown8
    obtain ⟨A8, q8, rfl, _, hrow8⟩ := owned_row hown8
    have hbw8 : Below w.heap.size w w8 := hbw7.trans (hb8.mono hbw7.size)
    have HR78 := Lib.hid ((HR7.out.below hb8).more hb8.size)
    have HR8 := Lib.hid hrow8
    clear hrow8 hown8 hb8 hbw7 HR7
    go_wp2_with (go_at_call 10; refine (ref_Same_at _ _ _ _ _ _ (l0 ++ l1) _ (by rw [List.length_append]) (by rw [List.length_append]) HR8.out HR78.out (by omega)).mono ?_)
    rintro e w9 ⟨rfl, hb9⟩
    have hbw9 : Below w.heap.size w w9 := hbw8.trans (hb9.mono hbw8.size)
    clear hbw8 hb9
    have hee : (((l0.length : Int) + (l1.length : Int)) == ((len0 : Int) + (len1 : Int))) = true := by have a := HN0.out; have b := HN1.out; simp; omega
    go_wp2_with (go_at_call 15; refine (law01_lives _).mono ?_)
    rintro e w10 ⟨rfl, hb10⟩
    go_wp2
    go_ret
    exact ⟨rfl, hbw9.trans (hb10.mono hbw9.size)⟩
end Go.Proofs.Ytfgkhophgganjaa
