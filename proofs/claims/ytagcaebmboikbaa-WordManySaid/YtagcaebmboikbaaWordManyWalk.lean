/- The walk of WordMany: it returns true for every input, and nothing that was there turns. -/
import Derived.Test.YtagcaebmboikbaaWordWordsWalk
import Derived.Deep.DeepCutAuto
namespace Go.Proofs.Ytagcaebmboikbaa
open Go Go.RowKit
set_option linter.unusedVariables false

/-- So many words of one letter, each with a blank behind it. -/
def rep : Nat → List UInt8
  | 0 => []
  | k + 1 => rep k ++ [97, 32]
theorem rep_length : ∀ k, (rep k).length = 2 * k
  | 0 => rfl
  | k + 1 => by rw [rep, List.length_append, rep_length k]; rfl
theorem words_rep (t : List UInt8) : ∀ k, words (rep k ++ t) = List.replicate k [97] ++ words t
  | 0 => rfl
  | k + 1 => by
    rw [rep, List.append_assoc, words_rep ([97, 32] ++ t) k, show [97, 32] ++ t = [97] ++ 32 :: t from rfl, words_join, List.replicate_succ', List.append_assoc]
    rfl
theorem text_rep : ∀ k, text (List.replicate k 98) = List.replicate k 98
  | 0 => rfl
  | k + 1 => by
    rw [List.replicate_succ, List.replicate_succ, ← text_rep k]
    rfl
theorem words_long {k : Nat} (hk : 0 < k) : words (List.replicate k 98) = [List.replicate k 98] := by
  rw [← text_rep k]
  refine words_one ⟨fun h => by rw [List.replicate_eq_nil_iff] at h; omega, fun c hc => ?_⟩
  rw [(List.mem_replicate.1 hc).2]
  decide
theorem errFrom_rep (b : List UInt8) : ∀ k i, i ≤ 500 → errFrom i (List.replicate k [97] ++ [b]) = if 500 < i + k then 7 else errFrom (i + k) [b]
  | 0, i, hi => by rw [if_neg (by omega)]; rfl
  | k + 1, i, hi => by
    rw [List.replicate_succ, List.cons_append, errFrom, if_neg (by decide)]
    by_cases h : 500 ≤ i
    · rw [if_pos h, if_pos (by omega)]
    · rw [if_neg h, errFrom_rep b k (i + 1) (by omega), show i + 1 + k = i + (k + 1) by omega]
/-- The words of WordMany's text. -/
def manyWords (N L : Nat) : List (List UInt8) := List.replicate (N - 1) [97] ++ [List.replicate L 98]
theorem manyWords_of {N L : Nat} (hL : 0 < L) : words (rep (N - 1) ++ List.replicate L 98) = manyWords N L := by rw [words_rep, words_long hL]; rfl
theorem manyWords_length {N L : Nat} (hN : 0 < N) : (manyWords N L).length = N := by simp [manyWords]; omega
theorem manyWords_err {N L : Nat} (hN : 0 < N) : errFrom 0 (manyWords N L) = if 501 < N then 7 else if 30 < L then 3 else if N = 501 then 7 else 0 := by
  unfold manyWords
  rw [errFrom_rep _ _ _ (by omega), Nat.zero_add]
  by_cases h : 501 < N
  · rw [if_pos (by omega), if_pos h]
  · rw [if_neg (by omega), if_neg h, errFrom, List.length_replicate]
    by_cases h2 : 30 < L
    · rw [if_pos h2, if_pos h2]
    · rw [if_neg h2, if_neg h2]
      by_cases h3 : N = 501
      · rw [if_pos (by omega), if_pos h3]
      · rw [if_neg (by omega), if_neg h3]; rfl
theorem manyWords_last {N L : Nat} (hN : 0 < N) : (manyWords N L)[N - 1]? = some (List.replicate L 98) := by
  unfold manyWords
  rw [List.getElem?_append_right (by simp), List.length_replicate, Nat.sub_self]
  rfl

def Rep1 (N : Nat) (w : World) (o i : Value) (wr : World) : Prop :=
  ∃ (k : Nat) (vo : Value), vo = o ∧ k + 1 ≤ N ∧ i = .int .i64 ((k : Int) + 1) ∧ wr.ownsRow w.heap.size 5 1 o (2 * k) (Lib.byteCells (rep k)) ∧ Below w.heap.size w wr
def Rep2 (M L : Nat) (w : World) (o i : Value) (wr : World) : Prop :=
  ∃ (k : Nat) (vo : Value), vo = o ∧ k ≤ L ∧ i = .int .i64 k ∧ wr.ownsRow w.heap.size 5 1 o (2 * M + k) (Lib.byteCells (rep M ++ List.replicate k 98)) ∧ Below w.heap.size w wr

theorem many_neg {a c : Int} (hc : 0 ≤ c) (hc2 : c ≤ 1000) (h : a < 0) : ∃ N : Nat, wrap64 (c + -(a + 1).tmod 21) = (N : Int) ∧ c ≤ N ∧ (N : Int) ≤ c + 20 := by
  have e : -(a + 1).tmod 21 = (-(a + 1)) % 21 := by rw [← Int.neg_tmod, Int.tmod_eq_emod_of_nonneg (by omega)]
  rw [e]
  refine ⟨(c + (-(a + 1)) % 21).toNat, ?_, by omega, by omega⟩
  unfold wrap64
  omega
theorem many_pos {a c : Int} (hc : 0 ≤ c) (h : 0 ≤ a) : ∃ N : Nat, c + a % 21 = (N : Int) ∧ c ≤ N ∧ (N : Int) ≤ c + 20 := ⟨(c + a % 21).toNat, by omega, by omega, by omega⟩
theorem many_either {a c : Int} (hc : 0 ≤ c) (hc2 : c ≤ 1000) : ∃ N : Nat, ((a < 0 ∧ wrap64 (c + -(a + 1).tmod 21) = (N : Int)) ∨ (0 ≤ a ∧ c + a % 21 = (N : Int))) ∧ c ≤ N ∧ (N : Int) ≤ c + 20 := by
  by_cases h : a < 0
  · obtain ⟨N, h1, h2⟩ := many_neg hc hc2 h; exact ⟨N, .inl ⟨h, h1⟩, h2⟩
  · obtain ⟨N, h1, h2⟩ := many_pos hc (by omega : 0 ≤ a); exact ⟨N, .inr ⟨by omega, h1⟩, h2⟩

set_option maxHeartbeats 4000000 in
set_option maxRecDepth 100000 in
theorem walk_WordMany (a0 a1 : Int) (w : World) (w0 : (Lit.int .i64 a0).wf = true) (w1 : (Lit.int .i64 a1).wf = true) :
    Calls Try.prog 4 #[.int .i64 a0, .int .i64 a1] w fun e w' => e = .returned (.bool true) ∧ Below w.heap.size w w' := by
  obtain ⟨i0, hi0, hz0, hz1, hz2⟩ := info_parts info_byte
  have ha0 : -9223372036854775808 ≤ a0 ∧ a0 ≤ 9223372036854775807 := by simpa [Lit.wf, IntKind.min, IntKind.max, IntKind.signed, IntKind.bits] using w0
  have ha1 : -9223372036854775808 ≤ a1 ∧ a1 ≤ 9223372036854775807 := by simpa [Lit.wf, IntKind.min, IntKind.max, IntKind.signed, IntKind.bits] using w1
  obtain ⟨p0, q0⟩ := ha0
  obtain ⟨p1, q1⟩ := ha1
  clear w0 w1
  obtain ⟨N, hN, n1, n2⟩ := many_either (a := a0) (c := 490) (by omega) (by omega)
  obtain ⟨L, hL, l1, l2⟩ := many_either (a := a1) (c := 20) (by omega) (by omega)
  have n3 : 490 ≤ N := by omega
  have n4 : N ≤ 510 := by omega
  have l3 : 20 ≤ L := by omega
  have l4 : L ≤ 40 := by omega
  clear n1 n2 l1 l2
  rcases hN with ⟨c0, hN⟩ | ⟨c0, hN⟩ <;> rcases hL with ⟨c1, hL⟩ | ⟨c1, hL⟩
  all_goals
    go_enter Try.func4, Try.ntmps4
    go_wp2
    (try simp only [hN, hL])
    clear hN hL c0 c1 p0 q0 p1 q1
    have HRL := Lib.hid rep_length
    go_loopw [5, 6] (fun o i wr => Rep1 N w o i wr) (fun _ i _ => N - (intOf i).toNat)
    case atStart => exact ⟨0, _, rfl, by omega, rfl, World.ownsRow_nil _ _ _ _, Below.refl _ _⟩
    case round =>
      obtain ⟨k, vo, rfl, hk, rfl, hown, hbw⟩ := hrel
      by_cases hlt : k + 1 < N
      · have hszj := hbw.size
        go_wp2_with (at_builtin; refine wpList_append_own _ rfl (.tmp 32) (.tmp 33) 34 rfl w.heap.size 5 i0 _ 1 1 Try.underlying34 hi0 hz0 hz1 hz2 rfl (by omega) _ (2 * k) (Lib.byteCells (rep k)) rfl (hown.alloc _) ⟨wr.heap.size, 0, none⟩ 2 2 [.int .u8 97, .int .u8 32] rfl rfl (news_at wr [.int .u8 97, .int .u8 32] 5) (by intro u hu; simp at hu; rcases hu with hu | hu <;> (subst hu; rfl)) (by unfold maxLen; omega) (by omega) (by simp; omega) ?_)
        intro v' w5 hown5 hgrow5 _
        have hbw5 := (hbw.alloc (by omega) _).grown hgrow5 (by simp; omega) (fun j hj => (hown.lt j hj).1)
        have hown6 : w5.ownsRow w.heap.size 5 1 v' (2 * (k + 1)) (Lib.byteCells (rep (k + 1))) := by
          rw [rep, Lib.byteCells_append]; exact hown5
        clear hgrow5 hown5
        go_wp2
        go_roundw
        case rel => exact ⟨k + 1, _, rfl, by omega, by go_num, hown6, hbw5⟩
        case measure => simp [intOf]; omega
      · have HKN := Lib.hid (show N = k + 1 by omega)
        have d1 : decide ((k : Int) + 1 < (N : Int)) = false := by simp; omega
        have hown0 : wr.ownsRow w.heap.size 5 1 vo (2 * k + 0) (Lib.byteCells (rep k ++ List.replicate 0 98)) := by simpa using hown
        have k1 : k ≤ 509 := by omega
        clear hown hk hlt
        go_wp2
        clear d1
        go_loopw [5, 7] (fun o i wr => Rep2 k L w o i wr) (fun _ i _ => L - (intOf i).toNat)
        case atStart => exact ⟨0, _, rfl, by omega, rfl, hown0, hbw⟩
        case round =>
          obtain ⟨j, vp, rfl, hj, rfl, hown, hbw2⟩ := hrel
          by_cases hlt : j < L
          · have hszj := hbw2.size
            go_wp2_with (at_builtin; refine wpList_append_own _ rfl (.tmp 40) (.tmp 41) 34 rfl w.heap.size 5 i0 _ 1 1 Try.underlying34 hi0 hz0 hz1 hz2 rfl (by omega) _ (2 * k + j) (Lib.byteCells (rep k ++ List.replicate j 98)) rfl (hown.alloc _) ⟨_, 0, none⟩ 1 1 [.int .u8 98] rfl rfl (news_at _ [.int .u8 98] 5) (by intro u hu; simp at hu; subst hu; rfl) (by unfold maxLen; omega) (by omega) (by simp; omega) ?_)
            intro v' w5 hown5 hgrow5 _
            have hbw5 := (hbw2.alloc (by omega) _).grown hgrow5 (by simp; omega) (fun j hj => (hown.lt j hj).1)
            have hown6 : w5.ownsRow w.heap.size 5 1 v' (2 * k + (j + 1)) (Lib.byteCells (rep k ++ List.replicate (j + 1) 98)) := by
              rw [List.replicate_succ', ← List.append_assoc, Lib.byteCells_append]; exact hown5
            clear hgrow5 hown5 hown0 hbw
            go_wp2
            go_roundw
            case rel => exact ⟨j + 1, _, rfl, by omega, by go_num, hown6, hbw5⟩
            case measure => simp [intOf]; omega
          · have hjL : j = L := by omega
            subst hjL
            have d2 : decide ((j : Int) < (j : Int)) = false := by simp
            have hrl := HRL.out k
            have hlen : (rep k ++ List.replicate j 98).length = 2 * k + j := by rw [List.length_append, hrl, List.length_replicate]
            obtain ⟨A, c, rfl, _, hrow⟩ := owned_row hown
            have hcv := run_string_of (P := Try.prog) hrow 34 9 5 c Try.underlying34 Try.underlying5 Try.underlying9
            rw [hlen] at hcv
            obtain ⟨u, hu⟩ : ∃ u : ByteArray, u = ⟨(rep k ++ List.replicate j 98).toArray⟩ := ⟨_, rfl⟩
            rw [← hu] at hcv
            have hul : u.data.toList = rep (N - 1) ++ List.replicate j 98 := by rw [hu, HKN.out]; simp
            have husz : u.size ≤ 2000 := by rw [← size_list, hu]; simp only [hlen]; omega
            have t1 := fun w => word_Tokens u w (by omega)
            rw [hul, manyWords_of (by omega)] at t1
            have HE := Lib.hid (manyWords_err (N := N) (L := j) (by omega))
            have hlast := manyWords_last (N := N) (L := j) (by omega)
            have hml := manyWords_length (N := N) (L := j) (by omega)
            generalize manyWords N j = ws at t1 HE hlast hml
            have T1 := Lib.hid t1
            have HLA := Lib.hid hlast
            have HML := Lib.hid hml
            clear t1 hu hul husz hlen hrow hown hown0 hrl hlast hml HRL hbw
            go_wp2_with (go_at_call 11; refine (T1.out _).mono ?_)
            rintro e w3 ⟨v3, rfl, ho3, hn3, hb3⟩
            have HB3 := Lib.hid (hbw2.trans (hb3.mono hbw2.size))
            clear hbw2 hb3 hcv
            by_cases h501 : 501 < N
            · have he : errFrom 0 ws = 7 := by rw [HE.out, if_pos h501]
              obtain rfl := hn3 (by rw [he]; decide)
              rw [he]
              clear he ho3 hn3
              go_wp2_with (go_at_call 16; refine (law02_lives _).mono ?_)
              rintro e w9 ⟨rfl, hb9⟩
              go_wp2
              go_ret
              exact ⟨rfl, HB3.out.trans (hb9.mono HB3.out.size)⟩
            · by_cases h30 : 30 < j
              · have he : errFrom 0 ws = 3 := by rw [HE.out, if_neg h501, if_pos h30]
                obtain rfl := hn3 (by rw [he]; decide)
                rw [he]
                clear he ho3 hn3
                go_wp2_with (go_at_call 16; refine (law02_lives _).mono ?_)
                rintro e w9 ⟨rfl, hb9⟩
                go_wp2
                go_ret
                exact ⟨rfl, HB3.out.trans (hb9.mono HB3.out.size)⟩
              · by_cases heq : N = 501
                · have he : errFrom 0 ws = 7 := by rw [HE.out, if_neg h501, if_neg h30, if_pos heq]
                  obtain rfl := hn3 (by rw [he]; decide)
                  rw [he]
                  have hbq : ((N : Int) == 501) = true := by rw [heq]; rfl
                  clear he ho3 hn3 heq
                  go_wp2_with (go_at_call 16; refine (law02_lives _).mono ?_)
                  rintro e w9 ⟨rfl, hb9⟩
                  go_wp2
                  go_ret
                  exact ⟨rfl, HB3.out.trans (hb9.mono HB3.out.size)⟩
                · have he : errFrom 0 ws = 0 := by rw [HE.out, if_neg h501, if_neg h30, if_neg heq]
                  have hown3 := ho3 he
                  rw [he]
                  obtain ⟨A3, c3, rfl, _, hrow3⟩ := owned_row hown3
                  have hml := HML.out
                  have hla := HLA.out
                  obtain rfl := HKN.out
                  obtain ⟨b1, o1, e1, _, hc1, hd1⟩ := row_tok hrow3 (k := k) (by rw [hml]; omega)
                  subst e1
                  have hx : ws[k]'(by rw [hml]; omega) = List.replicate j 98 := by
                    rw [show k + 1 - 1 = k by omega, List.getElem?_eq_getElem (by rw [hml]; omega)] at hla
                    exact Option.some.inj hla
                  rw [hx] at hc1
                  obtain ⟨x, hxe⟩ : ∃ x : ByteArray, x = ⟨(List.replicate j 98).toArray⟩ := ⟨_, rfl⟩
                  have hxs : x.size = j := by rw [hxe]; simp [ByteArray.size]
                  rw [← hxe] at hc1
                  rw [hml]
                  clear he ho3 hn3 hown3 hrow3 hml hla hx hxe HE HLA HML HKN d2
                  have hbq : ((k : Int) + 1 == 501) = false := by rw [beq_eq_false_iff_ne]; omega
                  clear heq
                  go_wp2_with (go_at_call 16; refine (law02_lives _).mono ?_)
                  rintro e w9 ⟨rfl, hb9⟩
                  go_wp2
                  go_ret
                  exact ⟨rfl, HB3.out.trans (hb9.mono HB3.out.size)⟩
end Go.Proofs.Ytagcaebmboikbaa
