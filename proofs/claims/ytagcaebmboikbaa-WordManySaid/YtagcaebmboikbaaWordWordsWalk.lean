/- The walk of WordWords: it returns true for every input, and nothing that was there turns. -/
import Derived.Test.YtagcaebmboikbaaLives02
namespace Go.Proofs.Ytagcaebmboikbaa
open Go Go.RowKit
set_option linter.unusedVariables false

theorem tokCells_get {ws : List (List UInt8)} {k : Nat} (hk : k < ws.length) : (tokCells 0 ws)[k * 2]? = some (.string ⟨ws[k].toArray⟩) ∧ (tokCells 0 ws)[k * 2 + 1]? = some (.int .i64 k) := by
  have e : ws = ws.take k ++ ws[k] :: ws.drop (k + 1) := by rw [← List.drop_eq_getElem_cons hk, List.take_append_drop]
  have h1 : tokCells 0 ws = tokCells 0 (ws.take k) ++ (.string ⟨ws[k].toArray⟩ :: .int .i64 k :: tokCells (k + 1) (ws.drop (k + 1))) := by
    conv => lhs; rw [e]
    rw [tokCells_append, List.length_take, Nat.zero_add, Nat.min_eq_left (by omega)]
    rfl
  have hl : (tokCells 0 (ws.take k)).length = k * 2 := by rw [tokCells_length, List.length_take, Nat.min_eq_left (by omega)]
  rw [h1, List.getElem?_append_right (by omega), List.getElem?_append_right (by omega), hl, Nat.sub_self, show k * 2 + 1 - k * 2 = 1 by omega]
  exact ⟨rfl, rfl⟩
theorem row_tok {w : World} {B : Nat} {A : Option Addr} {ws : List (List UInt8)} (h : Row w B A (tokCells 0 ws)) {k : Nat} (hk : k < ws.length) :
    ∃ b off, A = some ⟨b, off, none⟩ ∧ b < B ∧ w.cell? ⟨b, off + k * 2, none⟩ = some (.string ⟨ws[k].toArray⟩) ∧ w.cell? ⟨b, off + k * 2 + 1, none⟩ = some (.int .i64 k) := by
  obtain ⟨b, off, rfl, hb, hc⟩ := h.at_ (by rw [tokCells_length]; omega)
  obtain ⟨h1, h2⟩ := tokCells_get hk
  exact ⟨b, off, rfl, hb, hc _ _ h1, by rw [Nat.add_assoc]; exact hc _ _ h2⟩

def Plain2 (n : Nat) (w1 : World) (a i : Value) (wr : World) : Prop := ∃ k : Nat, k ≤ n ∧ a = .bool false ∧ i = .int .i64 k ∧ Below w1.heap.size w1 wr

set_option maxHeartbeats 2000000 in
set_option maxRecDepth 100000 in
theorem walk_WordWords (a0 : ByteArray) (w : World) (w0 : a0.size ≤ maxLen) :
    Calls Try.prog 3 #[.string a0] w fun e w' => e = .returned (.bool true) ∧ Below w.heap.size w w' := by
  have HW0 := Lib.hid w0
  clear w0
  go_enter Try.func3, Try.ntmps3
  go_wp2_with (go_at_call 10; refine (law02_few a0 200 _ HW0.out (by omega)).mono ?_)
  rintro e w' ⟨s, rfl, hs, rfl⟩
  have hsz : s.data.toList.length = s.size := Array.length_toList
  have hwl := words_length s.data.toList
  rw [hsz] at hwl
  have c1 := fun w => word_Words s w (by omega)
  have c2 := fun w => ref_Words s w (by omega)
  have t1 := fun w => word_Tokens s w (by omega)
  have t2 := fun w => ref_Tokens s w (by omega)
  generalize words s.data.toList = ws at c1 c2 t1 t2 hwl
  have C1 := Lib.hid c1
  have C2 := Lib.hid c2
  have T1 := Lib.hid t1
  have T2 := Lib.hid t2
  clear c1 c2 t1 t2 hsz
  go_wp2_with (go_at_call 11; refine (T1.out _).mono ?_)
  rintro e w1 ⟨v1, rfl, ho1, hn1, hb1⟩
  have HO1 := Lib.hid ho1
  have HN1 := Lib.hid hn1
  clear ho1 hn1
  go_wp2_with (go_at_call 12; refine (T2.out _).mono ?_)
  rintro e w2 ⟨v2, rfl, ho2, hn2, hb2⟩
  have s1 := hb1.size
  have s2 := hb2.size
  have HB := Lib.hid (hb1.trans (hb2.mono s1))
  have sz := HB.out.size
  by_cases h0 : errFrom 0 ws = 0
  · obtain ⟨A1, k1, rfl, _, hr1⟩ := owned_row (HO1.out h0)
    obtain ⟨A2, k2, rfl, _, hr2⟩ := owned_row (ho2 h0)
    have HR1 := Lib.hid ((hr1.below hb2).more hb2.size)
    have HR2 := Lib.hid hr2
    rw [h0]
    clear hr1 hr2 hb1 hb2 ho2 hn2 HO1 HN1 h0
    go_wp2
    go_loopw [2, 7] (fun a i wr => Plain2 ws.length w2 a i wr) (fun _ i _ => ws.length - (intOf i).toNat)
    case atStart => exact ⟨0, Nat.zero_le _, rfl, rfl, Below.refl _ _⟩
    case round =>
      obtain ⟨k, hk, rfl, rfl, hbw⟩ := hrel
      by_cases hlt : k < ws.length
      · obtain ⟨b1, o1, e1, _, hc1, hd1⟩ := row_tok (HR1.out.below hbw) hlt
        obtain ⟨b2, o2, e2, _, hc2, hd2⟩ := row_tok (HR2.out.below hbw) hlt
        subst e1 e2
        obtain ⟨x, hx⟩ : ∃ x : ByteArray, x = ⟨ws[k].toArray⟩ := ⟨_, rfl⟩
        rw [← hx] at hc1 hc2
        clear hx
        have hi0 : (0 : Int) ≤ k := by omega
        have hi1 : (k : Int) < ws.length := by omega
        go_wp2
        go_quiet (fail)
        go_wp2
        go_roundw
        case rel => exact ⟨k + 1, by omega, rfl, by go_num, hbw.trans ⟨rfl, rfl, rfl, Nat.le_refl _, fun _ _ => rfl⟩⟩
        case measure => simp [intOf]; omega
      · have HB2 := Lib.hid (HB.out.trans (hbw.mono sz))
        clear hbw
        go_wp2_with (go_at_call 14; refine (C1.out _).mono ?_)
        rintro e w3 ⟨v3, rfl, hown3, hb3⟩
        obtain ⟨A3, k3, rfl, _, hrow3⟩ := owned_row hown3
        have HR3 := Lib.hid hrow3
        clear hrow3 hown3
        go_wp2_with (go_at_call 15; refine (C2.out _).mono ?_)
        rintro e w4 ⟨v4, rfl, hown4, hb4⟩
        obtain ⟨A4, k4, rfl, _, hrow4⟩ := owned_row hown4
        have HR4 := Lib.hid hrow4
        have HR5 := Lib.hid ((HR3.out.below hb4).more hb4.size)
        have s3 := hb3.size
        have s4 := hb4.size
        have hby : Below w.heap.size w w4 := (HB2.out.trans (hb3.mono HB2.out.size)).trans (hb4.mono (by have := HB2.out.size; omega))
        clear hrow4 hown4 hb3 hb4 HR3 HB2
        go_wp2_with (go_at_call 13; refine (ref02_Same _ _ _ _ _ _ ws _ rfl rfl HR5.out HR4.out (by omega)).mono ?_)
        rintro e w5 ⟨rfl, hb5⟩
        have hbz : Below w.heap.size w w5 := hby.trans (hb5.mono hby.size)
        clear hby hb5 HR4 HR5
        go_wp2_with (go_at_call 16; refine (law02_lives _).mono ?_)
        rintro e w9 ⟨rfl, hb9⟩
        go_wp2
        go_ret
        exact ⟨rfl, hbz.trans (hb9.mono hbz.size)⟩
  · obtain rfl := HN1.out h0
    obtain rfl := hn2 h0
    have HB2 := HB
    clear hb1 hb2 ho2 hn2 HO1 HN1 HB
    generalize errFrom 0 ws = er at h0
    have hee : (er == er) = true := by simp
    clear h0
    go_wp2
    refine wp_loop_rounds 1 ?_
    rw [rounds_succ]
    go_wp2_with (go_at_call 14; refine (C1.out _).mono ?_)
    rintro e w3 ⟨v3, rfl, hown3, hb3⟩
    obtain ⟨A3, k3, rfl, _, hrow3⟩ := owned_row hown3
    have HR3 := Lib.hid hrow3
    clear hrow3 hown3
    go_wp2_with (go_at_call 15; refine (C2.out _).mono ?_)
    rintro e w4 ⟨v4, rfl, hown4, hb4⟩
    obtain ⟨A4, k4, rfl, _, hrow4⟩ := owned_row hown4
    have HR4 := Lib.hid hrow4
    have HR5 := Lib.hid ((HR3.out.below hb4).more hb4.size)
    have s3 := hb3.size
    have s4 := hb4.size
    have hby : Below w.heap.size w w4 := (HB2.out.trans (hb3.mono HB2.out.size)).trans (hb4.mono (by have := HB2.out.size; omega))
    clear hrow4 hown4 hb3 hb4 HR3 HB2
    go_wp2_with (go_at_call 13; refine (ref02_Same _ _ _ _ _ _ ws _ rfl rfl HR5.out HR4.out (by omega)).mono ?_)
    rintro e w5 ⟨rfl, hb5⟩
    have hbz : Below w.heap.size w w5 := hby.trans (hb5.mono hby.size)
    clear hby hb5 HR4 HR5
    go_wp2_with (go_at_call 16; refine (law02_lives _).mono ?_)
    rintro e w9 ⟨rfl, hb9⟩
    go_wp2
    go_ret
    exact ⟨rfl, hbz.trans (hb9.mono hbz.size)⟩
end Go.Proofs.Ytagcaebmboikbaa
