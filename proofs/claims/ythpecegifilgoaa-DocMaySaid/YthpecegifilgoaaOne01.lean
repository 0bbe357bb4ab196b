/- What the document's 'one' answers, walked: at every text that is not empty, of at most 2^30 bytes. -/
import Derived.Test.YthpecegifilgoaaOnePlain
namespace Go.Proofs.Ythpecegifilgoaa
open Go Go.RowKit
set_option linter.unusedVariables false

/-- What holds at the head of each round: k bytes more are read, and all carry on. -/
def OneRel (l : List UInt8) (n : Nat) (v0 : Int) (v i : Value) : Prop := ∃ (k : Nat) (V : Int), k + 1 ≤ n ∧ i = .int .i64 ((k : Int) + 1) ∧ v = .int .i64 V ∧ Small k V ∧ Hid (V = vals l v0 k) ∧ Hid (Conts l k)
theorem not_cont {s : ByteArray} {j x : Nat} (h : j < s.size) (hx : (s[j]'h).toNat = x) (hn : ¬ (128 ≤ x ∧ x < 192)) : ¬ ContAt s.data.toList j := by
  rintro ⟨_, h2⟩
  rw [get_byte h, hx] at h2
  omega
theorem is_cont {s : ByteArray} {j x : Nat} (h : j < s.size) (hx : (s[j]'h).toNat = x) (hn : 128 ≤ x ∧ x < 192) : ContAt s.data.toList j := by
  refine ⟨by rw [size_list]; exact h, ?_⟩
  rw [get_byte h, hx]
  omega
theorem no_cont {s : ByteArray} {j : Nat} (h : s.size ≤ j) : ¬ ContAt s.data.toList j := by
  rintro ⟨h1, _⟩
  rw [size_list] at h1
  omega

set_option maxHeartbeats 2000000 in
set_option maxRecDepth 100000 in
theorem ref_one_1 (s : ByteArray) (w : World) (h0 : 0 < s.size) (hs : s.size ≤ 1073741824) (b0 : Nat) (hb0 : (s[0]'h0).toNat = b0) (hb : b0 < 128) :
    Calls Try.prog 71 #[.string s] w fun e w' => Told s.data.toList e ∧ w = w' := by
  have hd : dec s.data.toList = (b0, 1) := by rw [dec_low _ (by rw [get_byte h0, hb0]; exact hb), get_byte h0, hb0]
  have HD := Lib.hid hd
  clear hd
  go_enter Try.func71, Try.ntmps71
  go_wp2
  go_ret2
  exact ⟨told_of HD.out rfl rfl, rfl⟩

set_option maxHeartbeats 2000000 in
set_option maxRecDepth 100000 in
theorem ref_one_0 (s : ByteArray) (w : World) (h0 : 0 < s.size) (hs : s.size ≤ 1073741824) (b0 : Nat) (hb0 : (s[0]'h0).toNat = b0) (hb : (128 ≤ b0 ∧ b0 < 194) ∨ (245 ≤ b0 ∧ b0 < 256)) :
    Calls Try.prog 71 #[.string s] w fun e w' => Told s.data.toList e ∧ w = w' := by
  have hd : dec s.data.toList = (65533, 1) := dec_bad _ (by rw [get_byte h0, hb0]; omega) (by rw [get_byte h0, hb0]; omega)
  have HD := Lib.hid hd
  clear hd
  rcases hb with ⟨hb1, hb2⟩ | ⟨hb1, hb2⟩
  all_goals
    go_enter Try.func71, Try.ntmps71
    go_wp2
    go_ret2
    exact ⟨told_of HD.out rfl rfl, rfl⟩

theorem short_2 {s : ByteArray} (h0 : 0 < s.size) {b0 : Nat} (hb0 : (s[0]'h0).toNat = b0) (hlo : 194 ≤ b0) (hhi : b0 < 224) {j : Nat} (hj : 1 ≤ j) (hjn : j < 2) (hn : ¬ ContAt s.data.toList j) : dec s.data.toList = (65533, 1) := by
  apply dec_short2 _ (by rw [get_byte h0, hb0]; omega)
  intro h
  obtain rfl : j = 1 := by omega
  exact hn h

set_option maxHeartbeats 4000000 in
set_option maxRecDepth 100000 in
theorem ref_one_2 (s : ByteArray) (w : World) (h0 : 0 < s.size) (hs : s.size ≤ 1073741824) (b0 : Nat) (hb0 : (s[0]'h0).toNat = b0) (hlo : 194 ≤ b0) (hhi : b0 < 224) :
    Calls Try.prog 71 #[.string s] w fun e w' => Told s.data.toList e ∧ w = w' := by
  have d1 : decide ((b0 : Int) < 128) = false := by simp; omega
  have d2 : decide ((b0 : Int) < 224) = true := by simp; omega
  have d3 : decide ((b0 : Int) < 240) = true := by simp; omega
  have d4 : decide ((b0 : Int) < 245) = true := by simp; omega
  by_cases hsz : 2 ≤ s.size
  · have d5 : decide ((s.size : Int) < 2) = false := by simp; omega
    go_enter Try.func71, Try.ntmps71
    go_wp2
    go_loop [2, 3, 7, 8] (fun a b v i => a = .int .i64 0 ∧ b = .int .i64 0 ∧ OneRel s.data.toList 2 ((b0 : Int) - 192) v i) (fun _ _ _ i => 2 - (intOf i).toNat)
    case atStart => exact ⟨rfl, rfl, 0, _, by omega, rfl, rfl, ⟨by omega, .inl ⟨rfl, by omega⟩⟩, Lib.hid rfl, Lib.hid (conts_zero _)⟩
    case round =>
      obtain ⟨rfl, rfl, k, V, hk, rfl, rfl, ⟨hV0, hV⟩, HV, HC⟩ := hrel
      by_cases hlt : k + 1 < 2
      · have hk1 : k + 1 < s.size := by omega
        obtain ⟨x, hx⟩ : ∃ x : Nat, (s[k + 1]'hk1).toNat = x := ⟨_, rfl⟩
        have hx256 : x < 256 := by rw [← hx]; exact (s[k + 1]'hk1).toNat_lt
        have hVb : V ≤ 131071 := by omega
        by_cases hcont : 128 ≤ x ∧ x < 192
        · have HC2 := Lib.hid (conts_succ HC.out (is_cont hk1 hx hcont))
          have hVn : 64 * V + (x : Int) - 128 = vals s.data.toList ((b0 : Int) - 192) (k + 1) := by
            rw [vals, ← HV.out, get_byte hk1, hx]
          have HVN := Lib.hid hVn
          have HSM : Hid (Small (k + 1) (64 * V + (x : Int) - 128)) := ⟨by omega, by omega⟩
          clear hVn
          obtain ⟨hc1, hc2⟩ := hcont
          clear hV
          go_wp2
          go_round
          case rel => exact ⟨rfl, rfl, k + 1, _, by omega, by go_num, rfl, HSM.out, HVN, HC2⟩
          case measure => simp [intOf]; omega
        · have HD := Lib.hid (short_2 h0 hb0 hlo hhi (j := k + 1) (by omega) hlt (not_cont hk1 hx hcont))
          clear hV
          by_cases hc1 : 128 ≤ x
          · have hc2 : 192 ≤ x := by omega
            clear hcont
            go_wp2
            go_ret2
            exact ⟨told_of HD.out rfl rfl, rfl⟩
          · clear hcont
            go_wp2
            go_ret2
            exact ⟨told_of HD.out rfl rfl, rfl⟩
      · skip
        have hk1 : k = 1 := by omega
        subst hk1
        have hend := told_end2 (V := V) (by rw [get_byte h0, hb0]; omega) (by rw [get_byte h0, hb0]; omega) HC.out (by rw [get_byte h0, hb0]; exact HV.out)
        have hl := hend.2.1
        have hh := hend.2.2
        have HE := Lib.hid hend.1
        clear hend
        go_wp2
        go_ret2
        exact ⟨told_of HE.out (by omega) rfl, rfl⟩
  · have HD := Lib.hid (short_2 h0 hb0 hlo hhi (j := 1) (by omega) (by omega) (no_cont (by omega)))
    go_enter Try.func71, Try.ntmps71
    go_wp2
    go_ret2
    exact ⟨told_of HD.out rfl rfl, rfl⟩

theorem short_3 {s : ByteArray} (h0 : 0 < s.size) {b0 : Nat} (hb0 : (s[0]'h0).toNat = b0) (hlo : 224 ≤ b0) (hhi : b0 < 240) {j : Nat} (hj : 1 ≤ j) (hjn : j < 3) (hn : ¬ ContAt s.data.toList j) : dec s.data.toList = (65533, 1) := by
  apply dec_short3 _ (by rw [get_byte h0, hb0]; omega)
  intro h
  obtain rfl | rfl : j = 1 ∨ j = 2 := by omega
  · exact hn h.1
  · exact hn h.2

set_option maxHeartbeats 4000000 in
set_option maxRecDepth 100000 in
theorem ref_one_3 (s : ByteArray) (w : World) (h0 : 0 < s.size) (hs : s.size ≤ 1073741824) (b0 : Nat) (hb0 : (s[0]'h0).toNat = b0) (hlo : 224 ≤ b0) (hhi : b0 < 240) :
    Calls Try.prog 71 #[.string s] w fun e w' => Told s.data.toList e ∧ w = w' := by
  have d1 : decide ((b0 : Int) < 128) = false := by simp; omega
  have d2 : decide ((b0 : Int) < 224) = false := by simp; omega
  have d3 : decide ((b0 : Int) < 240) = true := by simp; omega
  have d4 : decide ((b0 : Int) < 245) = true := by simp; omega
  by_cases hsz : 3 ≤ s.size
  · have d5 : decide ((s.size : Int) < 3) = false := by simp; omega
    go_enter Try.func71, Try.ntmps71
    go_wp2
    go_loop [2, 3, 7, 8] (fun a b v i => a = .int .i64 0 ∧ b = .int .i64 0 ∧ OneRel s.data.toList 3 ((b0 : Int) - 224) v i) (fun _ _ _ i => 3 - (intOf i).toNat)
    case atStart => exact ⟨rfl, rfl, 0, _, by omega, rfl, rfl, ⟨by omega, .inl ⟨rfl, by omega⟩⟩, Lib.hid rfl, Lib.hid (conts_zero _)⟩
    case round =>
      obtain ⟨rfl, rfl, k, V, hk, rfl, rfl, ⟨hV0, hV⟩, HV, HC⟩ := hrel
      by_cases hlt : k + 1 < 3
      · have hk1 : k + 1 < s.size := by omega
        obtain ⟨x, hx⟩ : ∃ x : Nat, (s[k + 1]'hk1).toNat = x := ⟨_, rfl⟩
        have hx256 : x < 256 := by rw [← hx]; exact (s[k + 1]'hk1).toNat_lt
        have hVb : V ≤ 131071 := by omega
        by_cases hcont : 128 ≤ x ∧ x < 192
        · have HC2 := Lib.hid (conts_succ HC.out (is_cont hk1 hx hcont))
          have hVn : 64 * V + (x : Int) - 128 = vals s.data.toList ((b0 : Int) - 224) (k + 1) := by
            rw [vals, ← HV.out, get_byte hk1, hx]
          have HVN := Lib.hid hVn
          have HSM : Hid (Small (k + 1) (64 * V + (x : Int) - 128)) := ⟨by omega, by omega⟩
          clear hVn
          obtain ⟨hc1, hc2⟩ := hcont
          clear hV
          go_wp2
          go_round
          case rel => exact ⟨rfl, rfl, k + 1, _, by omega, by go_num, rfl, HSM.out, HVN, HC2⟩
          case measure => simp [intOf]; omega
        · have HD := Lib.hid (short_3 h0 hb0 hlo hhi (j := k + 1) (by omega) hlt (not_cont hk1 hx hcont))
          clear hV
          by_cases hc1 : 128 ≤ x
          · have hc2 : 192 ≤ x := by omega
            clear hcont
            go_wp2
            go_ret2
            exact ⟨told_of HD.out rfl rfl, rfl⟩
          · clear hcont
            go_wp2
            go_ret2
            exact ⟨told_of HD.out rfl rfl, rfl⟩
      · skip
        have hk1 : k = 2 := by omega
        subst hk1
        obtain ⟨hl, hh, hend⟩ := told_end3 (V := V) (by rw [get_byte h0, hb0]; omega) HC.out (by rw [get_byte h0, hb0]; exact HV.out)
        by_cases c1 : 2048 ≤ V
        · by_cases c2 : 55296 ≤ V
          · by_cases c3 : V ≤ 57343
            · rw [if_neg (by omega)] at hend
              have HE := Lib.hid hend
              clear hend
              go_wp2
              go_ret2
              exact ⟨told_of HE.out rfl rfl, rfl⟩
            · rw [if_pos (by omega)] at hend
              have HE := Lib.hid hend
              clear hend
              go_wp2
              go_ret2
              exact ⟨told_of HE.out (by omega) rfl, rfl⟩
          · rw [if_pos (by omega)] at hend
            have HE := Lib.hid hend
            clear hend
            go_wp2
            go_ret2
            exact ⟨told_of HE.out (by omega) rfl, rfl⟩
        · rw [if_neg (by omega)] at hend
          have HE := Lib.hid hend
          clear hend
          go_wp2
          go_ret2
          exact ⟨told_of HE.out rfl rfl, rfl⟩
  · have HD := Lib.hid (short_3 h0 hb0 hlo hhi (j := 2) (by omega) (by omega) (no_cont (by omega)))
    go_enter Try.func71, Try.ntmps71
    go_wp2
    go_ret2
    exact ⟨told_of HD.out rfl rfl, rfl⟩

theorem short_4 {s : ByteArray} (h0 : 0 < s.size) {b0 : Nat} (hb0 : (s[0]'h0).toNat = b0) (hlo : 240 ≤ b0) (hhi : b0 < 245) {j : Nat} (hj : 1 ≤ j) (hjn : j < 4) (hn : ¬ ContAt s.data.toList j) : dec s.data.toList = (65533, 1) := by
  apply dec_short4 _ (by rw [get_byte h0, hb0]; omega)
  intro h
  obtain rfl | rfl | rfl : j = 1 ∨ j = 2 ∨ j = 3 := by omega
  · exact hn h.1
  · exact hn h.2.1
  · exact hn h.2.2

set_option maxHeartbeats 4000000 in
set_option maxRecDepth 100000 in
theorem ref_one_4 (s : ByteArray) (w : World) (h0 : 0 < s.size) (hs : s.size ≤ 1073741824) (b0 : Nat) (hb0 : (s[0]'h0).toNat = b0) (hlo : 240 ≤ b0) (hhi : b0 < 245) :
    Calls Try.prog 71 #[.string s] w fun e w' => Told s.data.toList e ∧ w = w' := by
  have d1 : decide ((b0 : Int) < 128) = false := by simp; omega
  have d2 : decide ((b0 : Int) < 224) = false := by simp; omega
  have d3 : decide ((b0 : Int) < 240) = false := by simp; omega
  have d4 : decide ((b0 : Int) < 245) = true := by simp; omega
  by_cases hsz : 4 ≤ s.size
  · have d5 : decide ((s.size : Int) < 4) = false := by simp; omega
    go_enter Try.func71, Try.ntmps71
    go_wp2
    go_loop [2, 3, 7, 8] (fun a b v i => a = .int .i64 0 ∧ b = .int .i64 0 ∧ OneRel s.data.toList 4 ((b0 : Int) - 240) v i) (fun _ _ _ i => 4 - (intOf i).toNat)
    case atStart => exact ⟨rfl, rfl, 0, _, by omega, rfl, rfl, ⟨by omega, .inl ⟨rfl, by omega⟩⟩, Lib.hid rfl, Lib.hid (conts_zero _)⟩
    case round =>
      obtain ⟨rfl, rfl, k, V, hk, rfl, rfl, ⟨hV0, hV⟩, HV, HC⟩ := hrel
      by_cases hlt : k + 1 < 4
      · have hk1 : k + 1 < s.size := by omega
        obtain ⟨x, hx⟩ : ∃ x : Nat, (s[k + 1]'hk1).toNat = x := ⟨_, rfl⟩
        have hx256 : x < 256 := by rw [← hx]; exact (s[k + 1]'hk1).toNat_lt
        have hVb : V ≤ 131071 := by omega
        by_cases hcont : 128 ≤ x ∧ x < 192
        · have HC2 := Lib.hid (conts_succ HC.out (is_cont hk1 hx hcont))
          have hVn : 64 * V + (x : Int) - 128 = vals s.data.toList ((b0 : Int) - 240) (k + 1) := by
            rw [vals, ← HV.out, get_byte hk1, hx]
          have HVN := Lib.hid hVn
          have HSM : Hid (Small (k + 1) (64 * V + (x : Int) - 128)) := ⟨by omega, by omega⟩
          clear hVn
          obtain ⟨hc1, hc2⟩ := hcont
          clear hV
          go_wp2
          go_round
          case rel => exact ⟨rfl, rfl, k + 1, _, by omega, by go_num, rfl, HSM.out, HVN, HC2⟩
          case measure => simp [intOf]; omega
        · have HD := Lib.hid (short_4 h0 hb0 hlo hhi (j := k + 1) (by omega) hlt (not_cont hk1 hx hcont))
          clear hV
          by_cases hc1 : 128 ≤ x
          · have hc2 : 192 ≤ x := by omega
            clear hcont
            go_wp2
            go_ret2
            exact ⟨told_of HD.out rfl rfl, rfl⟩
          · clear hcont
            go_wp2
            go_ret2
            exact ⟨told_of HD.out rfl rfl, rfl⟩
      · skip
        have hk1 : k = 3 := by omega
        subst hk1
        obtain ⟨hl, hh, hend⟩ := told_end4 (V := V) (by rw [get_byte h0, hb0]; omega) HC.out (by rw [get_byte h0, hb0]; exact HV.out)
        by_cases c1 : 65536 ≤ V
        · by_cases c2 : V ≤ 1114111
          · rw [if_pos (by omega)] at hend
            have HE := Lib.hid hend
            clear hend
            go_wp2
            go_ret2
            exact ⟨told_of HE.out (by omega) rfl, rfl⟩
          · rw [if_neg (by omega)] at hend
            have HE := Lib.hid hend
            clear hend
            go_wp2
            go_ret2
            exact ⟨told_of HE.out rfl rfl, rfl⟩
        · rw [if_neg (by omega)] at hend
          have HE := Lib.hid hend
          clear hend
          go_wp2
          go_ret2
          exact ⟨told_of HE.out rfl rfl, rfl⟩
  · have HD := Lib.hid (short_4 h0 hb0 hlo hhi (j := 3) (by omega) (by omega) (no_cont (by omega)))
    go_enter Try.func71, Try.ntmps71
    go_wp2
    go_ret2
    exact ⟨told_of HD.out rfl rfl, rfl⟩

/-- 'one' of a text that is not empty: the character at its beginning, and how many bytes it has. -/
theorem ref_one (s : ByteArray) (w : World) (h0 : 0 < s.size) (hs : s.size ≤ 1073741824) :
    Calls Try.prog 71 #[.string s] w fun e w' => Told s.data.toList e ∧ w = w' := by
  obtain ⟨b0, hb0⟩ : ∃ b0 : Nat, (s[0]'h0).toNat = b0 := ⟨_, rfl⟩
  have h256 : b0 < 256 := by rw [← hb0]; exact (s[0]'h0).toNat_lt
  by_cases c1 : b0 < 128
  · exact ref_one_1 s w h0 hs b0 hb0 c1
  by_cases c2 : b0 < 194
  · exact ref_one_0 s w h0 hs b0 hb0 (.inl ⟨by omega, c2⟩)
  by_cases c3 : b0 < 224
  · exact ref_one_2 s w h0 hs b0 hb0 (by omega) c3
  by_cases c4 : b0 < 240
  · exact ref_one_3 s w h0 hs b0 hb0 (by omega) c4
  by_cases c5 : b0 < 245
  · exact ref_one_4 s w h0 hs b0 hb0 (by omega) c5
  · exact ref_one_0 s w h0 hs b0 hb0 (.inr ⟨by omega, h256⟩)
end Go.Proofs.Ythpecegifilgoaa
