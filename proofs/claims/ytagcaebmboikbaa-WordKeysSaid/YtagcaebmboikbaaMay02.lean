/- What May answers, package word's and the document's own: whether the word may be; nothing that was there turns. -/
import Derived.Test.YtagcaebmboikbaaSame02
namespace Go.Proofs.Ytagcaebmboikbaa
open Go Go.RowKit
set_option linter.unusedVariables false

def goodSign (c : Int) : Prop := inWord c = true ∧ fold c = c
theorem mayWord_iff (w : List UInt8) : mayWord w = true ↔ w ≠ [] ∧ w.length ≤ 30 ∧ ∀ c ∈ signs w, goodSign c := by simp [mayWord, goodSign]
theorem mayWord_bad {w : List UInt8} {k : Nat} (hk : k < (signs w).length) (h : ¬ goodSign (signs w)[k]) : mayWord w = false := by
  rw [← Bool.not_eq_true, mayWord_iff]
  exact fun hh => h (hh.2.2 _ (List.getElem_mem hk))
theorem good_all {l : List Int} (h : ∀ j (hj : j < l.length), goodSign l[j]) : ∀ c ∈ l, goodSign c := by
  intro c hc
  obtain ⟨j, hj, rfl⟩ := List.getElem_of_mem hc
  exact h j hj

def MayRel (l : List Int) (w1 : World) (a i : Value) (wr : World) : Prop := ∃ k : Nat, k ≤ l.length ∧ a = .bool false ∧ i = .int .i64 k ∧ Below w1.heap.size w1 wr ∧ ∀ j (hj : j < l.length), j < k → goodSign l[j]

set_option maxHeartbeats 2000000 in
set_option maxRecDepth 100000 in
theorem word_May (s : ByteArray) (w : World) (hs : s.size ≤ 1073741824) :
    Calls Try.prog 17 #[.string s] w fun e w' => e = .returned (.bool (mayWord s.data.toList)) ∧ Below w.heap.size w w' := by
  have hsz : s.data.toList.length = s.size := Array.length_toList
  have hsl := signs_length s.data.toList
  rw [hsz] at hsl
  by_cases h0 : s.size = 0
  · have he : s = ByteArray.empty := by
      have : s.data.toList = [] := List.eq_nil_of_length_eq_zero (by omega)
      cases s with | mk d => cases d with | mk l => simp at this; subst this; rfl
    have hm : mayWord s.data.toList = false := by rw [he]; rfl
    rw [hm]
    subst he
    clear hm hsz hsl h0
    go_enter Try.func17, Try.ntmps17
    go_wp2
    go_ret
    exact ⟨rfl, Below.refl _ _⟩
  · have hne : s.data.toList ≠ [] := fun h => h0 (by rw [← hsz, h]; rfl)
    have HM := Lib.hid (mayWord_iff s.data.toList)
    have HBAD : Hid (∀ k (hk : k < (signs s.data.toList).length), ¬ goodSign (signs s.data.toList)[k] → mayWord s.data.toList = false) := Lib.hid (fun k hk h => mayWord_bad hk h)
    have hs0 : (s.toList == []) = false := by
      rw [Lib.toList_data]
      simpa using hne
    by_cases h30 : 30 < s.size
    · have hm : mayWord s.data.toList = false := by rw [← Bool.not_eq_true, HM.out]; intro h; omega
      have HF := Lib.hid hm
      have HSZ := Lib.hid hsz
      clear hm hsz
      go_enter Try.func17, Try.ntmps17
      go_wp2
      go_ret
      exact ⟨ret_bool HF.out.symm, Below.refl _ _⟩
    · have HALL : Hid ((∀ c ∈ signs s.data.toList, goodSign c) → mayWord s.data.toList = true) := Lib.hid (fun h => HM.out.2 ⟨hne, by omega, h⟩)
      clear hsz
      go_enter Try.func17, Try.ntmps17
      go_wp2_with (go_at_call 27; refine (sign_Signs s _ (by omega)).mono ?_)
      rintro e w1 ⟨v, rfl, hown, hb⟩
      obtain ⟨A, c, rfl, _, hrow⟩ := owned_row hown
      obtain ⟨l, hl⟩ : ∃ l, l = signs s.data.toList := ⟨_, rfl⟩
      rw [← hl] at hrow hsl
      rw [← hl]
      have HBAD2 : Hid (∀ k (hk : k < l.length), ¬ goodSign l[k] → mayWord s.data.toList = false) := by subst hl; exact HBAD
      have HALL2 : Hid ((∀ c ∈ l, goodSign c) → mayWord s.data.toList = true) := by subst hl; exact HALL
      have HB := Lib.hid hb
      have HR := Lib.hid hrow
      clear hl hb hown hrow HBAD HALL hne
      go_wp2
      go_loopw [2, 15] (fun a i wr => MayRel l w1 a i wr) (fun _ i _ => l.length - (intOf i).toNat)
      case atStart => exact ⟨0, Nat.zero_le _, rfl, rfl, Below.refl _ _, fun j _ hj => absurd hj (by omega)⟩
      case round =>
        obtain ⟨k, hk, rfl, rfl, hbw, hall⟩ := hrel
        have HA := Lib.hid hall
        clear hall
        by_cases hlt : k < l.length
        · obtain ⟨b1, o1, e1, _, hc1⟩ := row_int (HR.out.below hbw) hlt
          subst e1
          have hbad := HBAD2.out k hlt
          have HG : Hid (goodSign l[k] → ∀ j (hj : j < l.length), j < k + 1 → goodSign l[j]) := Lib.hid (fun h j hj hjk => by
            by_cases e : j = k
            · subst e; exact h
            · exact HA.out j hj (by omega))
          obtain ⟨x, hx⟩ : ∃ x, x = l[k] := ⟨_, rfl⟩
          rw [← hx] at hc1 hbad HG
          clear hx
          by_cases hin : inWord x = true
          · have r1 := fun w => word_within x w
            rw [hin] at r1
            have f1 := fun w => sign_Fold x w
            by_cases hf : fold x = x
            · have HG2 := Lib.hid (HG.out ⟨hin, hf⟩)
              rw [hf] at f1
              have R1 := Lib.hid r1
              have F1 := Lib.hid f1
              clear r1 f1 hin hf hbad HG
              go_wp2_with (first
                | (go_at_call 32; refine (R1.out _).mono ?_; rintro e w' ⟨rfl, rfl⟩)
                | (go_at_call 33; refine (F1.out _).mono ?_; rintro e w' ⟨rfl, rfl⟩))
              go_roundw
              case rel => exact ⟨k + 1, by omega, rfl, by go_num, hbw, HG2.out⟩
              case measure => simp [intOf]; omega
            · have HM := Lib.hid (hbad (fun h => hf h.2))
              obtain ⟨y, hy⟩ : ∃ y, y = fold x := ⟨_, rfl⟩
              rw [← hy] at f1 hf
              have hf2 : (y == x) = false := by simpa using hf
              have R1 := Lib.hid r1
              have F1 := Lib.hid f1
              clear r1 f1 hin hf hbad HG hy
              go_wp2_with (first
                | (go_at_call 32; refine (R1.out _).mono ?_; rintro e w' ⟨rfl, rfl⟩)
                | (go_at_call 33; refine (F1.out _).mono ?_; rintro e w' ⟨rfl, rfl⟩))
              go_ret
              exact ⟨ret_bool HM.out.symm, HB.out.trans (hbw.mono HB.out.size)⟩
          · have hin' : inWord x = false := by simpa using hin
            have r1 := fun w => word_within x w
            rw [hin'] at r1
            have R1 := Lib.hid r1
            have HM := Lib.hid (hbad (fun h => hin h.1))
            clear r1 hin hin' hbad HG
            go_wp2_with (go_at_call 32; refine (R1.out _).mono ?_; rintro e w' ⟨rfl, rfl⟩)
            go_ret
            exact ⟨ret_bool HM.out.symm, HB.out.trans (hbw.mono HB.out.size)⟩
        · have HM := Lib.hid (HALL2.out (good_all fun j hj => HA.out j hj (by omega)))
          go_wp2
          go_ret
          exact ⟨ret_bool HM.out.symm, HB.out.trans (hbw.mono HB.out.size)⟩
theorem signs_none {l : List UInt8} (h : signs l = []) : l = [] := by
  by_cases e : l = []
  · exact e
  · rw [signs_step l e] at h; cases h
theorem mayWord_folds {w : List UInt8} (h : mayWord w = true) : foldText w = w := by
  have := ((mayWord_iff w).1 h).2.2
  exact (foldText_same (fun c hc => (this c hc).1)).2 (fun c hc => (this c hc).2)
theorem mayWord_of_fold {w : List UInt8} (h0 : w ≠ []) (h1 : w.length ≤ 30) (h2 : foldText w = w) (h3 : ∀ c ∈ signs w, inWord c = true) : mayWord w = true :=
  (mayWord_iff w).2 ⟨h0, h1, fun c hc => ⟨h3 c hc, (foldText_same h3).1 h2 c hc⟩⟩
theorem bytes_of_list {s t : ByteArray} (h : s.data.toList = t.data.toList) : s = t := by
  cases s with | mk a => cases t with | mk b => cases a with | mk a => cases b with | mk b => simp at h; rw [h]

def RefMayRel (l : List Int) (w1 : World) (a i : Value) (wr : World) : Prop := ∃ k : Nat, k ≤ l.length ∧ a = .bool false ∧ i = .int .i64 k ∧ Below w1.heap.size w1 wr ∧ ∀ j (hj : j < l.length), j < k → inWord l[j] = true

set_option maxHeartbeats 2000000 in
set_option maxRecDepth 100000 in
theorem ref_May (s : ByteArray) (w : World) (hs : s.size ≤ 268435456) :
    Calls Try.prog 18 #[.string s] w fun e w' => e = .returned (.bool (mayWord s.data.toList)) ∧ Below w.heap.size w w' := by
  have hsz : s.data.toList.length = s.size := Array.length_toList
  have hsl := signs_length s.data.toList
  rw [hsz] at hsl
  have HM := Lib.hid (mayWord_iff s.data.toList)
  have HNO := Lib.hid (@signs_none s.data.toList)
  have HFO := Lib.hid (@mayWord_folds s.data.toList)
  have HOF := Lib.hid (@mayWord_of_fold s.data.toList)
  have HBAD : Hid (∀ k (hk : k < (signs s.data.toList).length), ¬ goodSign (signs s.data.toList)[k] → mayWord s.data.toList = false) := Lib.hid (fun k hk h => mayWord_bad hk h)
  have HSZ := Lib.hid hsz
  clear hsz
  go_enter Try.func18, Try.ntmps18
  go_wp2_with (go_at_call 28; refine (ref_Signs s _ (by omega)).mono ?_)
  rintro e w1 ⟨v, rfl, hown, hb⟩
  obtain ⟨A, c, rfl, _, hrow⟩ := owned_row hown
  obtain ⟨l, hl⟩ : ∃ l, l = signs s.data.toList := ⟨_, rfl⟩
  rw [← hl] at hrow hsl
  rw [← hl]
  have HBAD2 : Hid (∀ k (hk : k < l.length), ¬ goodSign l[k] → mayWord s.data.toList = false) := by subst hl; exact HBAD
  have HNO2 : Hid (l = [] → s.data.toList = []) := by subst hl; exact HNO
  have HOF2 : Hid (s.data.toList ≠ [] → s.data.toList.length ≤ 30 → foldText s.data.toList = s.data.toList → (∀ c ∈ l, inWord c = true) → mayWord s.data.toList = true) := by subst hl; exact HOF
  have HB := Lib.hid hb
  have HR := Lib.hid hrow
  have hszb := hb.size
  clear hl hb hown hrow HBAD HNO HOF
  by_cases h0 : l.length = 0
  · have hm : mayWord s.data.toList = false := by
      rw [← Bool.not_eq_true, HM.out]
      exact fun h => h.1 (HNO2.out (List.eq_nil_of_length_eq_zero h0))
    have HF := Lib.hid hm
    obtain rfl : l = [] := List.eq_nil_of_length_eq_zero h0
    clear hm h0
    go_wp2
    go_ret
    exact ⟨ret_bool HF.out.symm, HB.out⟩
  · have hl0 : 0 < l.length := by omega
    by_cases h30 : 30 < s.size
    · have hm : mayWord s.data.toList = false := by
        have := HSZ.out
        rw [← Bool.not_eq_true, HM.out]; intro h; omega
      have HF := Lib.hid hm
      clear hm
      go_wp2
      go_ret
      exact ⟨ret_bool HF.out.symm, HB.out⟩
    · have d30 : decide ((30 : Int) < (s.size : Int)) = false := by simp; omega
      have d0 : ((l.length : Int) == 0) = false := by rw [beq_eq_false_iff_ne]; omega
      obtain ⟨u, hu⟩ : ∃ u : ByteArray, u = ⟨(foldText s.data.toList).toArray⟩ := ⟨_, rfl⟩
      have hul : u.data.toList = foldText s.data.toList := by rw [hu]
      have f1 : ∀ w, Calls Try.prog 24 #[.string s] w fun e w' => e = .returned (.string u) ∧ Below w.heap.size w w' := by
        intro w; rw [hu]; exact ref_FoldText s w (by omega)
      have HU := Lib.hid hul
      clear hu hul
      by_cases hf : u = s
      · have hfo : foldText s.data.toList = s.data.toList := by rw [← HU.out, hf]
        rw [hf] at f1
        have HFS := Lib.hid hfo
        have F1 := Lib.hid f1
        clear HU hf hfo f1
        go_wp2_with (go_at_call 24; refine (F1.out _).mono ?_; rintro e w2 ⟨rfl, hb2⟩)
        have HB2 := Lib.hid (HB.out.trans (hb2.mono hszb))
        have HR2 := Lib.hid ((HR.out.below hb2).more hb2.size)
        clear hb2 HB HR hszb
        go_wp2
        go_loopw [2, 4] (fun a i wr => RefMayRel l w2 a i wr) (fun _ i _ => l.length - (intOf i).toNat)
        case atStart => exact ⟨0, Nat.zero_le _, rfl, rfl, Below.refl _ _, fun j _ hj => absurd hj (by omega)⟩
        case round =>
          obtain ⟨k, hk, rfl, rfl, hbw, hall⟩ := hrel
          have HA := Lib.hid hall
          clear hall
          by_cases hlt : k < l.length
          · obtain ⟨b1, o1, e1, _, hc1⟩ := row_int (HR2.out.below hbw) hlt
            subst e1
            have hbad := HBAD2.out k hlt
            have HG : Hid (inWord l[k] = true → ∀ j (hj : j < l.length), j < k + 1 → inWord l[j] = true) := Lib.hid (fun h j hj hjk => by
              by_cases e : j = k
              · subst e; exact h
              · exact HA.out j hj (by omega))
            obtain ⟨x, hx⟩ : ∃ x, x = l[k] := ⟨_, rfl⟩
            rw [← hx] at hc1 hbad HG
            clear hx
            by_cases hin : inWord x = true
            · have r1 := fun w => ref_in x w
              rw [hin] at r1
              have HG2 := Lib.hid (HG.out hin)
              have R1 := Lib.hid r1
              clear r1 hin hbad HG
              go_wp2_with (go_at_call 29; refine (R1.out _).mono ?_; rintro e w' ⟨rfl, rfl⟩)
              go_roundw
              case rel => exact ⟨k + 1, by omega, rfl, by go_num, hbw, HG2.out⟩
              case measure => simp [intOf]; omega
            · have hin' : inWord x = false := by simpa using hin
              have r1 := fun w => ref_in x w
              rw [hin'] at r1
              have R1 := Lib.hid r1
              have HM := Lib.hid (hbad (fun h => hin h.1))
              clear r1 hin hin' hbad HG
              go_wp2_with (go_at_call 29; refine (R1.out _).mono ?_; rintro e w' ⟨rfl, rfl⟩)
              go_ret
              exact ⟨ret_bool HM.out.symm, HB2.out.trans (hbw.mono HB2.out.size)⟩
          · have HM := Lib.hid (HOF2.out (fun h => by have := HSZ.out; rw [h] at this; simp at this; omega) (by have := HSZ.out; omega) HFS.out (fun c hc => by
              obtain ⟨j, hj, rfl⟩ := List.getElem_of_mem hc
              exact HA.out j hj (by omega)))
            go_wp2
            go_ret
            exact ⟨ret_bool HM.out.symm, HB2.out.trans (hbw.mono HB2.out.size)⟩
      · have hm : mayWord s.data.toList = false := by
          rw [← Bool.not_eq_true]
          intro h
          exact hf (bytes_of_list (by rw [HU.out, HFO.out h]))
        have hne : (u.toList == s.toList) = false := by
          rw [Lib.toList_data, Lib.toList_data]
          simpa using fun h => hf (bytes_of_list (by rw [h]))
        have HF := Lib.hid hm
        have F1 := Lib.hid f1
        clear hm f1 hf
        go_wp2_with (go_at_call 24; refine (F1.out _).mono ?_; rintro e w2 ⟨rfl, hb2⟩)
        go_ret
        exact ⟨ret_bool HF.out.symm, HB.out.trans (hb2.mono hszb)⟩
end Go.Proofs.Ytagcaebmboikbaa
