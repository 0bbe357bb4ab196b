/- The walk of SignTexts: it returns true for every input, and nothing that was there turns. -/
import Derived.Test.YtfgkhophgganjaaSignSignsWalk
import Derived.Test.YtfgkhophgganjaaFoldText
import Derived.Test.YtfgkhophgganjaaFew01
import Derived.Test.YtfgkhophgganjaaLives01
namespace Go.Proofs.Ytfgkhophgganjaa
open Go Go.RowKit
set_option linter.unusedVariables false

theorem lows_take {l : List UInt8} {k : Nat} (hk : k < l.length) : lows (l.take (k + 1)) = lows (l.take k) + if l[k].toNat < 128 then 1 else 0 := by
  rw [List.take_succ_eq_append_getElem hk, lows_append]
  congr 1
  simp only [lows, List.filter_cons, List.filter_nil]
  by_cases h : l[k].toNat < 128
  · rw [if_pos h, if_pos (by simpa only [decide_eq_true_eq] using h)]; rfl
  · rw [if_neg h, if_neg (by simpa only [decide_eq_true_eq] using h)]; rfl
theorem lowSigns_take {l : List Int} {k : Nat} (hk : k < l.length) : lowSigns (l.take (k + 1)) = lowSigns (l.take k) + if l[k] < 128 then 1 else 0 := by
  rw [List.take_succ_eq_append_getElem hk]
  unfold lowSigns
  rw [List.filter_append, List.length_append]
  congr 1
  simp only [List.filter_cons, List.filter_nil]
  by_cases h : l[k] < 128
  · rw [if_pos h, if_pos (by simpa only [decide_eq_true_eq] using h)]; rfl
  · rw [if_neg h, if_neg (by simpa only [decide_eq_true_eq] using h)]; rfl
theorem lows_le (l : List UInt8) : lows l ≤ l.length := List.length_filter_le _ _
theorem lowSigns_le (l : List Int) : lowSigns l ≤ l.length := List.length_filter_le _ _

def LowRel (u : ByteArray) (n i : Value) : Prop := ∃ k : Nat, k ≤ u.size ∧ i = .int .i64 k ∧ n = .int .i64 (lows (u.data.toList.take k))
def LowSignRel (l : List Int) (n i : Value) : Prop := ∃ k : Nat, k ≤ l.length ∧ i = .int .i64 k ∧ n = .int .i64 (lowSigns (l.take k))
theorem num_eq {k : IntKind} {a b : Nat} (h : a = b) : Value.int k (a : Int) = Value.int k (b : Int) := by rw [h]

set_option maxHeartbeats 2000000 in
set_option maxRecDepth 100000 in
theorem walk_SignTexts (a1 : Option Addr) (len1 cap1 : Nat) (z1 : List Int) (w : World) (w1 : InRow .i64 w a1 len1 cap1 z1) :
    Calls Try.prog 8 #[.slice a1 len1 cap1] w fun e w' => e = .returned (.bool true) ∧ Below w.heap.size w w' := by
  obtain ⟨h1, h2, hz, hrow, _⟩ := w1
  unfold maxLen at h2
  have HR := Lib.hid hrow
  have HZ := Lib.hid hz
  have w0 : True := trivial
  by_cases hcut : 40 < len1
  · obtain ⟨b, off, rfl, _, _⟩ := HR.out.at_ (by rw [List.length_map, HZ.out]; omega)
    have HL : Hid (Row w w.heap.size (some ⟨b, off, none⟩) (ints (z1.take 40)) ∧ (z1.take 40).length = 40) := ⟨row_take HR.out 40, by rw [List.length_take, HZ.out]; omega⟩
    obtain ⟨xs, hxs⟩ : ∃ xs, xs = z1.take 40 := ⟨_, rfl⟩
    rw [← hxs] at HL
    clear hxs HR HZ hz hrow w0
    go_enter Try.func8, Try.ntmps8
    go_wp2_with (go_at_call 14; refine (ref_Text_at _ _ _ xs _ HL.out.2 HL.out.1 (by omega)).mono ?_)
    rintro e w2 ⟨he2, hb2⟩
    have HLN := HL.out.2
    have HXL := Lib.hid HLN
    have hxl : xs.length ≤ 40 := by omega
    clear HL HLN
    obtain ⟨u, hu⟩ : ∃ u : ByteArray, u = ⟨(text xs).toArray⟩ := ⟨_, rfl⟩
    rw [← hu] at he2
    subst he2
    have hul : u.data.toList = text xs := by rw [hu]
    have htl := text_length xs
    have husz : u.size ≤ 160 := by rw [← size_list, hul]; omega
    have hsl : (signs u.data.toList).length = xs.length := by rw [hul, signs_text_clamp, List.length_map]
    have HTT : Hid (text (signs u.data.toList) = text xs) := by rw [hul]; exact text_signs_text xs
    have HLL : Hid (lows u.data.toList = lowSigns (signs u.data.toList)) := by rw [hul]; exact lows_text xs
    have HSL := Lib.hid hsl
    have hsl40 : (signs u.data.toList).length ≤ 40 := by omega
    have HU := Lib.hid hu
    clear hsl hu hul htl
    go_wp2
    go_loop [4, 5] (fun n i => LowRel u n i) (fun _ i => u.size - (intOf i).toNat)
    case atStart => exact ⟨0, Nat.zero_le _, rfl, rfl⟩
    case round =>
      obtain ⟨k, hk, rfl, rfl⟩ := hrel
      have hle := lows_le (u.data.toList.take k)
      have hle2 := List.length_take_le k u.data.toList
      by_cases hlt : k < u.size
      · have hs1 := lows_take (l := u.data.toList) (k := k) (by rw [size_list]; exact hlt)
        have hget : u.data.toList[k]'(by rw [size_list]; exact hlt) = u[k] := by rw [← get_byte hlt, List.getD_eq_getElem?_getD, List.getElem?_eq_getElem (by rw [size_list]; exact hlt)]; rfl
        rw [hget] at hs1
        obtain ⟨x, hx⟩ : ∃ x : Nat, (u[k]'hlt).toNat = x := ⟨_, rfl⟩
        have hx256 : x < 256 := by rw [← hx]; exact (u[k]'hlt).toNat_lt
        rw [hx] at hs1
        obtain ⟨m, hm⟩ : ∃ m, m = lows (u.data.toList.take k) := ⟨_, rfl⟩
        rw [← hm] at hs1 hle ⊢
        have HS1 := Lib.hid hs1
        clear hs1 hget hm
        by_cases h128 : x < 128
        · go_wp2
          go_round
          case rel => exact ⟨k + 1, by omega, by go_num, by rw [HS1.out, if_pos h128]; go_num⟩
          case measure => simp [intOf]; omega
        · go_wp2
          go_round
          case rel => exact ⟨k + 1, by omega, by go_num, by rw [HS1.out, if_neg h128]; rfl⟩
          case measure => simp [intOf]; omega
      · have hall : u.data.toList.take k = u.data.toList := List.take_of_length_le (by rw [size_list]; omega)
        rw [hall] at hle ⊢
        clear hall hle2
        go_wp2_with (go_at_call 11; refine (sign_Signs u _ (by omega)).mono ?_)
        rintro e w3 ⟨v3, rfl, hown3, hb3⟩
        obtain ⟨A3, c3, rfl, _, hrow3⟩ := owned_row hown3
        have HR3 := Lib.hid hrow3
        clear hrow3 hown3
        obtain ⟨sg, hsg⟩ : ∃ sg, sg = signs u.data.toList := ⟨_, rfl⟩
        rw [← hsg] at HR3 HTT HLL HSL hsl40 ⊢
        clear hsg
        go_wp2
        go_loop [6, 8] (fun n i => LowSignRel sg n i) (fun _ i => sg.length - (intOf i).toNat)
        case atStart => exact ⟨0, Nat.zero_le _, rfl, rfl⟩
        case round =>
          obtain ⟨j, hj, rfl, rfl⟩ := hrel
          have hje := lowSigns_le (sg.take j)
          have hje2 := List.length_take_le j sg
          by_cases hlt2 : j < sg.length
          · have hs1 := lowSigns_take hlt2
            obtain ⟨b4, o4, e4, _, hc4⟩ := row_int HR3.out hlt2
            subst e4
            obtain ⟨x, hx⟩ : ∃ x, x = sg[j] := ⟨_, rfl⟩
            rw [← hx] at hs1 hc4
            obtain ⟨m, hm⟩ : ∃ m, m = lowSigns (sg.take j) := ⟨_, rfl⟩
            rw [← hm] at hs1 hje ⊢
            have HS1 := Lib.hid hs1
            clear hs1 hx hm
            by_cases h128 : x < 128
            · go_wp2
              go_round
              case rel => exact ⟨j + 1, by omega, by go_num, by rw [HS1.out, if_pos h128]; go_num⟩
              case measure => simp [intOf]; omega
            · go_wp2
              go_round
              case rel => exact ⟨j + 1, by omega, by go_num, by rw [HS1.out, if_neg h128]; rfl⟩
              case measure => simp [intOf]; omega
          · have hall : sg.take j = sg := List.take_of_length_le (by omega)
            rw [hall] at hje ⊢
            rw [← HLL.out] at hje ⊢
            clear hall hje2
            go_wp2_with (go_at_call 13; refine (sign_Text_at _ _ _ sg _ rfl HR3.out (by omega)).mono ?_)
            rintro e w5 ⟨he5, hb5⟩
            rw [HTT.out, ← HU.out] at he5
            subst he5
            have hee : ((sg.length : Int) == (40 : Int)) = true := by rw [HSL.out, HXL.out]; simp
            have hb : Below w.heap.size w w5 := (hb2.trans (hb3.mono hb2.size)).trans (hb5.mono (by have := hb2.size; have := hb3.size; omega))
            clear hb2 hb3 hb5
            go_wp2_with (go_at_call 15; refine (law01_lives _).mono ?_)
            rintro e w9 ⟨rfl, hb9⟩
            go_wp2
            go_ret
            exact ⟨rfl, hb.trans (hb9.mono hb.size)⟩
  · have HL : Hid (Row w w.heap.size a1 (ints z1) ∧ z1.length = len1) := ⟨HR.out, HZ.out⟩
    obtain ⟨xs, hxs⟩ : ∃ xs, xs = z1 := ⟨_, rfl⟩
    rw [← hxs] at HL
    clear hxs HR HZ hz hrow w0
    go_enter Try.func8, Try.ntmps8
    go_wp2_with (go_at_call 14; refine (ref_Text_at _ _ _ xs _ HL.out.2 HL.out.1 (by omega)).mono ?_)
    rintro e w2 ⟨he2, hb2⟩
    have HLN := HL.out.2
    have HXL := Lib.hid HLN
    have hxl : xs.length ≤ 40 := by omega
    clear HL HLN
    obtain ⟨u, hu⟩ : ∃ u : ByteArray, u = ⟨(text xs).toArray⟩ := ⟨_, rfl⟩
    rw [← hu] at he2
    subst he2
    have hul : u.data.toList = text xs := by rw [hu]
    have htl := text_length xs
    have husz : u.size ≤ 160 := by rw [← size_list, hul]; omega
    have hsl : (signs u.data.toList).length = xs.length := by rw [hul, signs_text_clamp, List.length_map]
    have HTT : Hid (text (signs u.data.toList) = text xs) := by rw [hul]; exact text_signs_text xs
    have HLL : Hid (lows u.data.toList = lowSigns (signs u.data.toList)) := by rw [hul]; exact lows_text xs
    have HSL := Lib.hid hsl
    have hsl40 : (signs u.data.toList).length ≤ 40 := by omega
    have HU := Lib.hid hu
    clear hsl hu hul htl
    go_wp2
    go_loop [4, 5] (fun n i => LowRel u n i) (fun _ i => u.size - (intOf i).toNat)
    case atStart => exact ⟨0, Nat.zero_le _, rfl, rfl⟩
    case round =>
      obtain ⟨k, hk, rfl, rfl⟩ := hrel
      have hle := lows_le (u.data.toList.take k)
      have hle2 := List.length_take_le k u.data.toList
      by_cases hlt : k < u.size
      · have hs1 := lows_take (l := u.data.toList) (k := k) (by rw [size_list]; exact hlt)
        have hget : u.data.toList[k]'(by rw [size_list]; exact hlt) = u[k] := by rw [← get_byte hlt, List.getD_eq_getElem?_getD, List.getElem?_eq_getElem (by rw [size_list]; exact hlt)]; rfl
        rw [hget] at hs1
        obtain ⟨x, hx⟩ : ∃ x : Nat, (u[k]'hlt).toNat = x := ⟨_, rfl⟩
        have hx256 : x < 256 := by rw [← hx]; exact (u[k]'hlt).toNat_lt
        rw [hx] at hs1
        obtain ⟨m, hm⟩ : ∃ m, m = lows (u.data.toList.take k) := ⟨_, rfl⟩
        rw [← hm] at hs1 hle ⊢
        have HS1 := Lib.hid hs1
        clear hs1 hget hm
        by_cases h128 : x < 128
        · go_wp2
          go_round
          case rel => exact ⟨k + 1, by omega, by go_num, by rw [HS1.out, if_pos h128]; go_num⟩
          case measure => simp [intOf]; omega
        · go_wp2
          go_round
          case rel => exact ⟨k + 1, by omega, by go_num, by rw [HS1.out, if_neg h128]; rfl⟩
          case measure => simp [intOf]; omega
      · have hall : u.data.toList.take k = u.data.toList := List.take_of_length_le (by rw [size_list]; omega)
        rw [hall] at hle ⊢
        clear hall hle2
        go_wp2_with (go_at_call 11; refine (sign_Signs u _ (by omega)).mono ?_)
        rintro e w3 ⟨v3, rfl, hown3, hb3⟩
        obtain ⟨A3, c3, rfl, _, hrow3⟩ := owned_row hown3
        have HR3 := Lib.hid hrow3
        clear hrow3 hown3
        obtain ⟨sg, hsg⟩ : ∃ sg, sg = signs u.data.toList := ⟨_, rfl⟩
        rw [← hsg] at HR3 HTT HLL HSL hsl40 ⊢
        clear hsg
        go_wp2
        go_loop [6, 8] (fun n i => LowSignRel sg n i) (fun _ i => sg.length - (intOf i).toNat)
        case atStart => exact ⟨0, Nat.zero_le _, rfl, rfl⟩
        case round =>
          obtain ⟨j, hj, rfl, rfl⟩ := hrel
          have hje := lowSigns_le (sg.take j)
          have hje2 := List.length_take_le j sg
          by_cases hlt2 : j < sg.length
          · have hs1 := lowSigns_take hlt2
            obtain ⟨b4, o4, e4, _, hc4⟩ := row_int HR3.out hlt2
            subst e4
            obtain ⟨x, hx⟩ : ∃ x, x = sg[j] := ⟨_, rfl⟩
            rw [← hx] at hs1 hc4
            obtain ⟨m, hm⟩ : ∃ m, m = lowSigns (sg.take j) := ⟨_, rfl⟩
            rw [← hm] at hs1 hje ⊢
            have HS1 := Lib.hid hs1
            clear hs1 hx hm
            by_cases h128 : x < 128
            · go_wp2
              go_round
              case rel => exact ⟨j + 1, by omega, by go_num, by rw [HS1.out, if_pos h128]; go_num⟩
              case measure => simp [intOf]; omega
            · go_wp2
              go_round
              case rel => exact ⟨j + 1, by omega, by go_num, by rw [HS1.out, if_neg h128]; rfl⟩
              case measure => simp [intOf]; omega
          · have hall : sg.take j = sg := List.take_of_length_le (by omega)
            rw [hall] at hje ⊢
            rw [← HLL.out] at hje ⊢
            clear hall hje2
            go_wp2_with (go_at_call 13; refine (sign_Text_at _ _ _ sg _ rfl HR3.out (by omega)).mono ?_)
            rintro e w5 ⟨he5, hb5⟩
            rw [HTT.out, ← HU.out] at he5
            subst he5
            have hee : ((sg.length : Int) == (len1 : Int)) = true := by rw [HSL.out, HXL.out]; simp
            have hb : Below w.heap.size w w5 := (hb2.trans (hb3.mono hb2.size)).trans (hb5.mono (by have := hb2.size; have := hb3.size; omega))
            clear hb2 hb3 hb5
            go_wp2_with (go_at_call 15; refine (law01_lives _).mono ?_)
            rintro e w9 ⟨rfl, hb9⟩
            go_wp2
            go_ret
            exact ⟨rfl, hb.trans (hb9.mono hb.size)⟩
end Go.Proofs.Ytfgkhophgganjaa
