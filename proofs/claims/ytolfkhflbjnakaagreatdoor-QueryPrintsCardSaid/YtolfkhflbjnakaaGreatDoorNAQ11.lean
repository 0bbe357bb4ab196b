/- Texts laid together: May02, MayKind12, RefOwn12. -/
import Derived.Test.YtolfkhflbjnakaaGreatDoorNAQ10
import Derived.Test.YtolfkhflbjnakaaGreatDoorNAQ08
import Derived.Test.YtolfkhflbjnakaaGreatDoorNAQ06
import Derived.BigCall

/- What May answers, package word's and the document's own: whether the word may be; nothing that was there turns. -/
namespace Go.Proofs.YtolfkhflbjnakaaGreatDoor
open Go Go.RowKit
set_option linter.unusedVariables false


def goodSign (c : Int) : Prop := inWord c = true ∧ fold c = c
theorem mayWord_iff (w : List UInt8) : mayWord w = true ↔ w ≠ [] ∧ w.length ≤ 30 ∧ ∀ c ∈ signs w, goodSign c := by simp [mayWord, goodSign]
theorem mayWord_bad {w : List UInt8} {k : Nat} (hk : k < (signs w).length) (h : ¬ goodSign (signs w)[k]) : mayWord w = false := by
  rw [← Bool.not_eq_true, mayWord_iff]
  exact fun hh => h (hh.2.2 _ (List.getElem_mem hk))
theorem good_all {l : List Int} (h : ∀ j (hj : j < l.length), goodSign l[j]) : ∀ c ∈ l, goodSign c := by
  intro c hc
  obtain ⟨j, hj, rfl⟩ := List.getElem_of_mem hc
  exact h j hj

def MayRel (l : List Int) (w1 : World) (a i : Value) (wr : World) : Prop := ∃ k : Nat, k ≤ l.length ∧ a = .bool false ∧ i = .int .i64 k ∧ Below w1.heap.size w1 wr ∧ ∀ j (hj : j < l.length), j < k → goodSign l[j]

set_option maxHeartbeats 2000000 in
set_option maxRecDepth 100000 in
theorem word_May (s : ByteArray) (w : World) (hs : s.size ≤ 1073741824) :
    Calls Tryz.prog 100 #[.string s] w fun e w' => e = .returned (.bool (mayWord s.data.toList)) ∧ Below w.heap.size w w' := by
  have hsz : s.data.toList.length = s.size := Array.length_toList
  have hsl := signs_length s.data.toList
  rw [hsz] at hsl
  by_cases h0 : s.size = 0
  · have he : s = ByteArray.empty := by
      have : s.data.toList = [] := List.eq_nil_of_length_eq_zero (by omega)
      cases s with | mk d => cases d with | mk l => simp at this; subst this; rfl
    have hm : mayWord s.data.toList = false := by rw [he]; rfl
    rw [hm]
    subst he
    clear hm hsz hsl h0
    go_enter Tryz.func100, Tryz.ntmps100
    go_wp2
    go_ret
    exact ⟨rfl, Below.refl _ _⟩
  · have hne : s.data.toList ≠ [] := fun h => h0 (by rw [← hsz, h]; rfl)
    have HM := Lib.hid (mayWord_iff s.data.toList)
    have HBAD : Hid (∀ k (hk : k < (signs s.data.toList).length), ¬ goodSign (signs s.data.toList)[k] → mayWord s.data.toList = false) := Lib.hid (fun k hk h => mayWord_bad hk h)
    have hs0 : (s.toList == []) = false := by
      rw [Lib.toList_data]
      simpa using hne
    by_cases h30 : 30 < s.size
    · have hm : mayWord s.data.toList = false := by rw [← Bool.not_eq_true, HM.out]; intro h; omega
      have HF := Lib.hid hm
      have HSZ := Lib.hid hsz
      clear hm hsz
      go_enter Tryz.func100, Tryz.ntmps100
      go_wp2
      go_ret
      exact ⟨ret_bool HF.out.symm, Below.refl _ _⟩
    · have HALL : Hid ((∀ c ∈ signs s.data.toList, goodSign c) → mayWord s.data.toList = true) := Lib.hid (fun h => HM.out.2 ⟨hne, by omega, h⟩)
      clear hsz
      go_enter Tryz.func100, Tryz.ntmps100
      go_wp2_with (go_at_call 134; refine (sign_Signs s _ (by omega)).mono ?_)
      rintro e w1 ⟨v, rfl, hown, hb⟩
      obtain ⟨A, c, rfl, _, hrow⟩ := owned_row hown
      obtain ⟨l, hl⟩ : ∃ l, l = signs s.data.toList := ⟨_, rfl⟩
      rw [← hl] at hrow hsl
      rw [← hl]
      have HBAD2 : Hid (∀ k (hk : k < l.length), ¬ goodSign l[k] → mayWord s.data.toList = false) := by subst hl; exact HBAD
      have HALL2 : Hid ((∀ c ∈ l, goodSign c) → mayWord s.data.toList = true) := by subst hl; exact HALL
      have HB := Lib.hid hb
      have HR := Lib.hid hrow
      clear hl hb hown hrow HBAD HALL hne
      go_wp2
      go_loopw [2, 15] (fun a i wr => MayRel l w1 a i wr) (fun _ i _ => l.length - (intOf i).toNat)
      case atStart => exact ⟨0, Nat.zero_le _, rfl, rfl, Below.refl _ _, fun j _ hj => absurd hj (by omega)⟩
      case round =>
        obtain ⟨k, hk, rfl, rfl, hbw, hall⟩ := hrel
        have HA := Lib.hid hall
        clear hall
        by_cases hlt : k < l.length
        · obtain ⟨b1, o1, e1, _, hc1⟩ := row_int (HR.out.below hbw) hlt
          subst e1
          have hbad := HBAD2.out k hlt
          have HG : Hid (goodSign l[k] → ∀ j (hj : j < l.length), j < k + 1 → goodSign l[j]) := Lib.hid (fun h j hj hjk => by
            by_cases e : j = k
            · subst e; exact h
            · exact HA.out j hj (by omega))
          obtain ⟨x, hx⟩ : ∃ x, x = l[k] := ⟨_, rfl⟩
          rw [← hx] at hc1 hbad HG
          clear hx
          by_cases hin : inWord x = true
          · have r1 := fun w => word_within x w
            rw [hin] at r1
            have f1 := fun w => sign_Fold x w
            by_cases hf : fold x = x
            · have HG2 := Lib.hid (HG.out ⟨hin, hf⟩)
              rw [hf] at f1
              have R1 := Lib.hid r1
              have F1 := Lib.hid f1
              clear r1 f1 hin hf hbad HG
              go_wp2_with (first
                | (go_at_call 135; refine (R1.out _).mono ?_; rintro e w' ⟨rfl, rfl⟩)
                | (go_at_call 136; refine (F1.out _).mono ?_; rintro e w' ⟨rfl, rfl⟩))
              go_roundw
              case rel => exact ⟨k + 1, by omega, rfl, by go_num, hbw, HG2.out⟩
              case measure => simp [intOf]; omega
            · have HM := Lib.hid (hbad (fun h => hf h.2))
              obtain ⟨y, hy⟩ : ∃ y, y = fold x := ⟨_, rfl⟩
              rw [← hy] at f1 hf
              have hf2 : (y == x) = false := by simpa using hf
              have R1 := Lib.hid r1
              have F1 := Lib.hid f1
              clear r1 f1 hin hf hbad HG hy
              go_wp2_with (first
                | (go_at_call 135; refine (R1.out _).mono ?_; rintro e w' ⟨rfl, rfl⟩)
                | (go_at_call 136; refine (F1.out _).mono ?_; rintro e w' ⟨rfl, rfl⟩))
              go_ret
              exact ⟨ret_bool HM.out.symm, HB.out.trans (hbw.mono HB.out.size)⟩
          · have hin' : inWord x = false := by simpa using hin
            have r1 := fun w => word_within x w
            rw [hin'] at r1
            have R1 := Lib.hid r1
            have HM := Lib.hid (hbad (fun h => hin h.1))
            clear r1 hin hin' hbad HG
            go_wp2_with (go_at_call 135; refine (R1.out _).mono ?_; rintro e w' ⟨rfl, rfl⟩)
            go_ret
            exact ⟨ret_bool HM.out.symm, HB.out.trans (hbw.mono HB.out.size)⟩
        · have HM := Lib.hid (HALL2.out (good_all fun j hj => HA.out j hj (by omega)))
          go_wp2
          go_ret
          exact ⟨ret_bool HM.out.symm, HB.out.trans (hbw.mono HB.out.size)⟩
theorem signs_none {l : List UInt8} (h : signs l = []) : l = [] := by
  by_cases e : l = []
  · exact e
  · rw [signs_step l e] at h; cases h
theorem mayWord_folds {w : List UInt8} (h : mayWord w = true) : foldText w = w := by
  have := ((mayWord_iff w).1 h).2.2
  exact (foldText_same (fun c hc => (this c hc).1)).2 (fun c hc => (this c hc).2)
theorem mayWord_of_fold {w : List UInt8} (h0 : w ≠ []) (h1 : w.length ≤ 30) (h2 : foldText w = w) (h3 : ∀ c ∈ signs w, inWord c = true) : mayWord w = true :=
  (mayWord_iff w).2 ⟨h0, h1, fun c hc => ⟨h3 c hc, (foldText_same h3).1 h2 c hc⟩⟩
theorem bytes_of_list {s t : ByteArray} (h : s.data.toList = t.data.toList) : s = t := by
  cases s with | mk a => cases t with | mk b => cases a with | mk a => cases b with | mk b => simp at h; rw [h]

def RefMayRel (l : List Int) (w1 : World) (a i : Value) (wr : World) : Prop := ∃ k : Nat, k ≤ l.length ∧ a = .bool false ∧ i = .int .i64 k ∧ Below w1.heap.size w1 wr ∧ ∀ j (hj : j < l.length), j < k → inWord l[j] = true

set_option maxHeartbeats 2000000 in
set_option maxRecDepth 100000 in
theorem ref_May (s : ByteArray) (w : World) (hs : s.size ≤ 268435456) :
    Calls Tryz.prog 32 #[.string s] w fun e w' => e = .returned (.bool (mayWord s.data.toList)) ∧ Below w.heap.size w w' := by
  have hsz : s.data.toList.length = s.size := Array.length_toList
  have hsl := signs_length s.data.toList
  rw [hsz] at hsl
  have HM := Lib.hid (mayWord_iff s.data.toList)
  have HNO := Lib.hid (@signs_none s.data.toList)
  have HFO := Lib.hid (@mayWord_folds s.data.toList)
  have HOF := Lib.hid (@mayWord_of_fold s.data.toList)
  have HBAD : Hid (∀ k (hk : k < (signs s.data.toList).length), ¬ goodSign (signs s.data.toList)[k] → mayWord s.data.toList = false) := Lib.hid (fun k hk h => mayWord_bad hk h)
  have HSZ := Lib.hid hsz
  clear hsz
  go_enter Tryz.func32, Tryz.ntmps32
  go_wp2_with (go_at_call 54; refine (ref_Signs s _ (by omega)).mono ?_)
  rintro e w1 ⟨v, rfl, hown, hb⟩
  obtain ⟨A, c, rfl, _, hrow⟩ := owned_row hown
  obtain ⟨l, hl⟩ : ∃ l, l = signs s.data.toList := ⟨_, rfl⟩
  rw [← hl] at hrow hsl
  rw [← hl]
  have HBAD2 : Hid (∀ k (hk : k < l.length), ¬ goodSign l[k] → mayWord s.data.toList = false) := by subst hl; exact HBAD
  have HNO2 : Hid (l = [] → s.data.toList = []) := by subst hl; exact HNO
  have HOF2 : Hid (s.data.toList ≠ [] → s.data.toList.length ≤ 30 → foldText s.data.toList = s.data.toList → (∀ c ∈ l, inWord c = true) → mayWord s.data.toList = true) := by subst hl; exact HOF
  have HB := Lib.hid hb
  have HR := Lib.hid hrow
  have hszb := hb.size
  clear hl hb hown hrow HBAD HNO HOF
  by_cases h0 : l.length = 0
  · have hm : mayWord s.data.toList = false := by
      rw [← Bool.not_eq_true, HM.out]
      exact fun h => h.1 (HNO2.out (List.eq_nil_of_length_eq_zero h0))
    have HF := Lib.hid hm
    obtain rfl : l = [] := List.eq_nil_of_length_eq_zero h0
    clear hm h0
    go_wp2
    go_ret
    exact ⟨ret_bool HF.out.symm, HB.out⟩
  · have hl0 : 0 < l.length := by omega
    by_cases h30 : 30 < s.size
    · have hm : mayWord s.data.toList = false := by
        have := HSZ.out
        rw [← Bool.not_eq_true, HM.out]; intro h; omega
      have HF := Lib.hid hm
      clear hm
      go_wp2
      go_ret
      exact ⟨ret_bool HF.out.symm, HB.out⟩
    · have d30 : decide ((30 : Int) < (s.size : Int)) = false := by simp; omega
      have d0 : ((l.length : Int) == 0) = false := by rw [beq_eq_false_iff_ne]; omega
      obtain ⟨u, hu⟩ : ∃ u : ByteArray, u = ⟨(foldText s.data.toList).toArray⟩ := ⟨_, rfl⟩
      have hul : u.data.toList = foldText s.data.toList := by rw [hu]
      have f1 : ∀ w, Calls Tryz.prog 55 #[.string s] w fun e w' => e = .returned (.string u) ∧ Below w.heap.size w w' := by
        intro w; rw [hu]; exact ref_FoldText s w (by omega)
      have HU := Lib.hid hul
      clear hu hul
      by_cases hf : u = s
      · have hfo : foldText s.data.toList = s.data.toList := by rw [← HU.out, hf]
        rw [hf] at f1
        have HFS := Lib.hid hfo
        have F1 := Lib.hid f1
        clear HU hf hfo f1
        go_wp2_with (go_at_call 55; refine (F1.out _).mono ?_; rintro e w2 ⟨rfl, hb2⟩)
        have HB2 := Lib.hid (HB.out.trans (hb2.mono hszb))
        have HR2 := Lib.hid ((HR.out.below hb2).more hb2.size)
        clear hb2 HB HR hszb
        go_wp2
        go_loopw [2, 4] (fun a i wr => RefMayRel l w2 a i wr) (fun _ i _ => l.length - (intOf i).toNat)
        case atStart => exact ⟨0, Nat.zero_le _, rfl, rfl, Below.refl _ _, fun j _ hj => absurd hj (by omega)⟩
        case round =>
          obtain ⟨k, hk, rfl, rfl, hbw, hall⟩ := hrel
          have HA := Lib.hid hall
          clear hall
          by_cases hlt : k < l.length
          · obtain ⟨b1, o1, e1, _, hc1⟩ := row_int (HR2.out.below hbw) hlt
            subst e1
            have hbad := HBAD2.out k hlt
            have HG : Hid (inWord l[k] = true → ∀ j (hj : j < l.length), j < k + 1 → inWord l[j] = true) := Lib.hid (fun h j hj hjk => by
              by_cases e : j = k
              · subst e; exact h
              · exact HA.out j hj (by omega))
            obtain ⟨x, hx⟩ : ∃ x, x = l[k] := ⟨_, rfl⟩
            rw [← hx] at hc1 hbad HG
            clear hx
            by_cases hin : inWord x = true
            · have r1 := fun w => ref_in x w
              rw [hin] at r1
              have HG2 := Lib.hid (HG.out hin)
              have R1 := Lib.hid r1
              clear r1 hin hbad HG
              go_wp2_with (go_at_call 56; refine (R1.out _).mono ?_; rintro e w' ⟨rfl, rfl⟩)
              go_roundw
              case rel => exact ⟨k + 1, by omega, rfl, by go_num, hbw, HG2.out⟩
              case measure => simp [intOf]; omega
            · have hin' : inWord x = false := by simpa using hin
              have r1 := fun w => ref_in x w
              rw [hin'] at r1
              have R1 := Lib.hid r1
              have HM := Lib.hid (hbad (fun h => hin h.1))
              clear r1 hin hin' hbad HG
              go_wp2_with (go_at_call 56; refine (R1.out _).mono ?_; rintro e w' ⟨rfl, rfl⟩)
              go_ret
              exact ⟨ret_bool HM.out.symm, HB2.out.trans (hbw.mono HB2.out.size)⟩
          · have HM := Lib.hid (HOF2.out (fun h => by have := HSZ.out; rw [h] at this; simp at this; omega) (by have := HSZ.out; omega) HFS.out (fun c hc => by
              obtain ⟨j, hj, rfl⟩ := List.getElem_of_mem hc
              exact HA.out j hj (by omega)))
            go_wp2
            go_ret
            exact ⟨ret_bool HM.out.symm, HB2.out.trans (hbw.mono HB2.out.size)⟩
      · have hm : mayWord s.data.toList = false := by
          rw [← Bool.not_eq_true]
          intro h
          exact hf (bytes_of_list (by rw [HU.out, HFO.out h]))
        have hne : (u.toList == s.toList) = false := by
          rw [Lib.toList_data, Lib.toList_data]
          simpa using fun h => hf (bytes_of_list (by rw [h]))
        have HF := Lib.hid hm
        have F1 := Lib.hid f1
        clear hm f1 hf
        go_wp2_with (go_at_call 55; refine (F1.out _).mono ?_; rintro e w2 ⟨rfl, hb2⟩)
        go_ret
        exact ⟨ret_bool HF.out.symm, HB.out.trans (hb2.mono hszb)⟩
end Go.Proofs.YtolfkhflbjnakaaGreatDoor

/- Whether the fields that a kind of queries has may be. -/
namespace Go.Proofs.YtolfkhflbjnakaaGreatDoor
open Go Go.RowKit
set_option linter.unusedVariables false

def mayTv (t : Tm) : Int := if nameB t.1 = false then 4 else if mayWord t.2 = true then 0 else 9
def mayPv (t : Tm) (ws : List Nm) : Int := if nameB t.1 = false then 4 else if ws = [] ∨ badW ws = true then 9 else if 6 < ws.length then 7 else 0
def mayKv (most m : Nat) : Int := if m = 0 then 9 else if most < m then 7 else 0

set_option maxRecDepth 100000 in
theorem mayPhrase_not (x : ByteArray) (w : World) (hx : x.size ≤ 1073741824) : Calls Tryz.prog 103 #[.string x] w fun e w' => e = .returned (.bool (!mayWord x.data.toList)) ∧ Below w.heap.size w w' := by
  have H := Lib.hid (word_May x w hx)
  go_enter Tryz.func103, Tryz.ntmps103
  go_wp2_with (go_at_call 100; (with_reducible refine H.out.mono ?_); rintro e w2 ⟨rfl, hb2⟩)
  go_ret
  exact ⟨rfl, hb2⟩
def IdxRel (ws : List Nm) (B : Bool) (w : World) (i j : Value) (wr : World) : Prop := ∃ k : Nat, k ≤ ws.length ∧ j = .int .i64 (k : Int) ∧ Below w.heap.size w wr ∧ badW (ws.drop k) = B
def GaveIdx (B : Bool) (w : World) (e : Ending) (w' : World) : Prop := ∃ r : Int, e = .returned (.int .i64 r) ∧ decide (0 ≤ r) = B ∧ Below w.heap.size w w'
set_option maxHeartbeats 1000000 in
set_option maxRecDepth 100000 in
theorem index_bad (A : Option Addr) (ws : List Nm) (n c : Nat) (w : World) (hn : ws.length = n) (hA : Row w w.heap.size A (strs ws)) (hws : ws.length ≤ 9 ∧ ∀ w ∈ ws, w.length ≤ 100000000) :
    Calls Tryz.prog 138 #[.slice A n c, .func (.func 103) #[] #[]] w (GaveIdx (badW ws) w) := by
  subst hn
  have HA := Lib.hid hA
  have HWS := Lib.hid hws
  have h9 := hws.1
  obtain ⟨B, hB⟩ : ∃ B, B = badW ws := ⟨_, rfl⟩
  rw [← hB]
  have HB0 : Hid (badW (ws.drop 0) = B) := Lib.hid (by rw [List.drop_zero, hB])
  clear hA hws hB
  go_enter Tryz.func138, Tryz.ntmps138
  go_wp2
  go_loopw [5, 8] (fun i j wr => IdxRel ws B w i j wr) (fun _ j _ => ws.length - (intOf j).toNat)
  case atStart => exact ⟨0, by omega, rfl, Below.refl _ _, HB0.out⟩
  case round =>
    obtain ⟨k, hk, rfl, hbw, hgo⟩ := hrel
    by_cases hlt : k < ws.length
    · obtain ⟨b1, o1, e1, hb1, hc1⟩ := row_str (HA.out.below hbw) hlt
      subst e1
      rw [badW_at hlt] at hgo
      obtain ⟨u, hu, hu2⟩ := as_text ws[k]
      rw [← hu] at hc1
      have hul := HWS.out.2 _ (List.getElem_mem hlt)
      have HT3 : Hid (∀ w', Calls Tryz.prog 103 #[.string u] w' fun e w'' => e = .returned (.bool (!mayWord ws[k])) ∧ Below w'.heap.size w' w'') := Lib.hid fun w' => by rw [← hu2]; exact mayPhrase_not u w' (by rw [hu, size_nm]; omega)
      have HBW := Lib.hid hbw
      clear hu hu2 hul hbw
      have i0 : (0 : Int) ≤ k := by omega
      have i1 : (k : Int) < ws.length := by omega
      cases hmw : mayWord ws[k] with
      | false =>
        rw [hmw] at HT3 hgo
        have H : Hid (true = B) := Lib.hid (by rw [← hgo]; rfl)
        have H2 : Hid (decide ((0 : Int) ≤ (k : Int)) = true) := Lib.hid (by simp)
        clear hgo hmw
        go_wp2_with (go_at_call 103; (with_reducible refine (HT3.out _).mono ?_); rintro e w4 ⟨rfl, hb4⟩; have HB4 := Lib.hid (HBW.out.trans (hb4.mono HBW.out.size)); clear hb4)
        go_ret
        exact ⟨_, rfl, H2.out.trans H.out, HB4.out⟩
      | true =>
        rw [hmw] at HT3 hgo
        have HG : Hid (badW (ws.drop (k + 1)) = B) := Lib.hid (by rw [← hgo]; rfl)
        clear hgo hmw
        go_wp2_with (go_at_call 103; (with_reducible refine (HT3.out _).mono ?_); rintro e w4 ⟨rfl, hb4⟩; have HB4 := Lib.hid (HBW.out.trans (hb4.mono HBW.out.size)); clear hb4)
        go_roundw
        case rel => exact ⟨k + 1, by omega, by go_num, HB4.out, HG.out⟩
        case measure => simp [intOf]; omega
    · have : k = ws.length := by omega
      subst this
      rw [List.drop_length, badW] at hgo
      have H := Lib.hid hgo
      clear hgo
      have HBW := Lib.hid hbw
      clear hbw
      go_wp2
      go_ret
      exact ⟨_, rfl, H.out, HBW.out⟩
set_option maxRecDepth 100000 in
theorem contains_bad (A : Option Addr) (ws : List Nm) (n c : Nat) (w : World) (hn : ws.length = n) (hA : Row w w.heap.size A (strs ws)) (hws : ws.length ≤ 9 ∧ ∀ w ∈ ws, w.length ≤ 100000000) :
    Calls Tryz.prog 102 #[.slice A n c, .func (.func 103) #[] #[]] w fun e w' => e = .returned (.bool (badW ws)) ∧ Below w.heap.size w w' := by
  have H := Lib.hid (index_bad A ws n c w hn hA hws)
  clear hn hA hws
  go_enter Tryz.func102, Tryz.ntmps102
  go_wp2_with (go_at_call 138; (with_reducible refine H.out.mono ?_); rintro e w2 ⟨r, rfl, hr, hb2⟩; have HR := Lib.hid hr; clear hr)
  go_ret
  exact ⟨ret_bool HR.out, hb2⟩

section
variable (k : Int) (t : Tm) (f x : ByteArray) (A : Option Addr) (n c : Nat) (K : Option Addr) (m d : Nat) (w : World)
set_option maxHeartbeats 1000000 in
set_option maxRecDepth 100000 in
theorem query_mayTerm (hf : f.data.toList = t.1) (hx : x.data.toList = t.2) (hs : f.size ≤ 100000000 ∧ x.size ≤ 100000000) : Calls Tryz.prog 58 #[qV k f x A n c K m d] w fun e w' => e = .returned (.int .i64 (mayTv t)) ∧ Below w.heap.size w w' := by
  obtain ⟨w1, hw1⟩ : ∃ w1, w1 = boxQ w k f x A n c K m d := ⟨_, rfl⟩
  have HW1 := Lib.hid hw1
  have HB : Hid (∀ wr, Below w1.heap.size w1 wr → Below w.heap.size w wr ∧ wr.cell? ⟨w.heap.size, 1, none⟩ = some (.string f) ∧ wr.cell? ⟨w.heap.size, 2, none⟩ = some (.string x)) := Lib.hid fun wr h => by
    rw [hw1] at h
    have := boxQ_of h
    exact ⟨this.1, this.2.2.1, this.2.2.2.1⟩
  have HT1 : Hid (∀ w', Calls Tryz.prog 99 #[.string f] w' fun e w'' => e = .returned (.bool (nameB t.1)) ∧ Below w'.heap.size w' w'') := Lib.hid fun w' => by rw [← hf]; exact doc_Name f w' (by omega)
  have HT2 : Hid (∀ w', Calls Tryz.prog 100 #[.string x] w' fun e w'' => e = .returned (.bool (mayWord t.2)) ∧ Below w'.heap.size w' w'') := Lib.hid fun w' => by rw [← hx]; exact word_May x w' (by omega)
  obtain ⟨R, hR⟩ : ∃ R, R = mayTv t := ⟨_, rfl⟩
  rw [← hR]
  unfold mayTv at hR
  obtain ⟨y, hy⟩ : ∃ y, y = nameB t.1 := ⟨_, rfl⟩
  obtain ⟨z, hz⟩ : ∃ z, z = mayWord t.2 := ⟨_, rfl⟩
  rw [← hy] at HT1 hR
  rw [← hz] at HT2 hR
  have HR := Lib.hid hR
  obtain ⟨hb0, a1, a2⟩ := HB.out _ (Below.refl _ _)
  clear hf hx hs hw1 hR hy hz hb0
  cases y with
  | false =>
    have H : Hid (4 = R) := Lib.hid (by rw [HR.out, if_pos rfl])
    go_enter Tryz.func58, Tryz.ntmps58
    go_wp2_with fail
    rw [show w.alloc _ = w1 from HW1.out.symm]
    go_wp2_with (go_at_call 99; (with_reducible refine (HT1.out _).mono ?_); rintro e w2 ⟨rfl, hb2⟩; clear a1 a2; obtain ⟨hb0, a1, a2⟩ := HB.out _ hb2; have HB2 := Lib.hid hb2; have HB0 := Lib.hid hb0; clear hb2 hb0)
    go_ret
    exact ⟨ret_int H.out, HB0.out⟩
  | true =>
    cases z with
    | false =>
      have H : Hid (9 = R) := Lib.hid (by rw [HR.out, if_neg (by decide), if_neg (by decide)])
      go_enter Tryz.func58, Tryz.ntmps58
      go_wp2_with fail
      rw [show w.alloc _ = w1 from HW1.out.symm]
      go_wp2_with (go_at_call 99; (with_reducible refine (HT1.out _).mono ?_); rintro e w2 ⟨rfl, hb2⟩; clear a1 a2; obtain ⟨hb0, a1, a2⟩ := HB.out _ hb2; have HB2 := Lib.hid hb2; have HB0 := Lib.hid hb0; clear hb2 hb0)
      go_wp2_with (go_at_call 100; (with_reducible refine (HT2.out _).mono ?_); rintro e w3 ⟨rfl, hb3⟩; have HB3 := Lib.hid (HB0.out.trans (hb3.mono HB0.out.size)); clear hb3)
      go_ret
      exact ⟨ret_int H.out, HB3.out⟩
    | true =>
      have H : Hid (0 = R) := Lib.hid (by rw [HR.out, if_neg (by decide), if_pos rfl])
      go_enter Tryz.func58, Tryz.ntmps58
      go_wp2_with fail
      rw [show w.alloc _ = w1 from HW1.out.symm]
      go_wp2_with (go_at_call 99; (with_reducible refine (HT1.out _).mono ?_); rintro e w2 ⟨rfl, hb2⟩; clear a1 a2; obtain ⟨hb0, a1, a2⟩ := HB.out _ hb2; have HB2 := Lib.hid hb2; have HB0 := Lib.hid hb0; clear hb2 hb0)
      go_wp2_with (go_at_call 100; (with_reducible refine (HT2.out _).mono ?_); rintro e w3 ⟨rfl, hb3⟩; have HB3 := Lib.hid (HB0.out.trans (hb3.mono HB0.out.size)); clear hb3)
      go_ret
      exact ⟨ret_int H.out, HB3.out⟩
set_option maxHeartbeats 2000000 in
set_option maxRecDepth 100000 in
theorem query_mayPhrase (ws : List Nm) (hf : f.data.toList = t.1) (hs : f.size ≤ 100000000) (hn : ws.length = n) (hA : Row w w.heap.size A (strs ws)) (hws : ws.length ≤ 9 ∧ ∀ w ∈ ws, w.length ≤ 100000000) :
    Calls Tryz.prog 63 #[qV k f x A n c K m d] w fun e w' => e = .returned (.int .i64 (mayPv t ws)) ∧ Below w.heap.size w w' := by
  obtain ⟨w1, hw1⟩ : ∃ w1, w1 = boxQ w k f x A n c K m d := ⟨_, rfl⟩
  have HW1 := Lib.hid hw1
  have HB : Hid (∀ wr, Below w1.heap.size w1 wr → Below w.heap.size w wr ∧ wr.cell? ⟨w.heap.size, 1, none⟩ = some (.string f) ∧ wr.cell? ⟨w.heap.size, 3, none⟩ = some (.slice A n c)) := Lib.hid fun wr h => by
    rw [hw1] at h
    have := boxQ_of h
    exact ⟨this.1, this.2.2.1, this.2.2.2.2.1⟩
  have HT1 : Hid (∀ w', Calls Tryz.prog 99 #[.string f] w' fun e w'' => e = .returned (.bool (nameB t.1)) ∧ Below w'.heap.size w' w'') := Lib.hid fun w' => by rw [← hf]; exact doc_Name f w' (by omega)
  have HT2 : Hid (∀ w', Below w.heap.size w w' → Calls Tryz.prog 102 #[.slice A n c, .func (.func 103) #[] #[]] w' fun e w'' => e = .returned (.bool (badW ws)) ∧ Below w'.heap.size w' w'') :=
    Lib.hid fun w' h => contains_bad A ws n c w' hn ((hA.below h).more h.size) hws
  obtain ⟨R, hR⟩ : ∃ R, R = mayPv t ws := ⟨_, rfl⟩
  rw [← hR]
  unfold mayPv at hR
  obtain ⟨y, hy⟩ : ∃ y, y = nameB t.1 := ⟨_, rfl⟩
  obtain ⟨z, hz⟩ : ∃ z, z = badW ws := ⟨_, rfl⟩
  rw [← hy] at HT1 hR
  rw [← hz] at HT2 hR
  have hw0 : ws = [] ↔ n = 0 := by rw [← hn]; exact List.length_eq_zero_iff.symm
  simp only [hn, hw0] at hR
  have HR := Lib.hid hR
  have hn9 : n ≤ 9 := by omega
  obtain ⟨hb0, a1, a3⟩ := HB.out _ (Below.refl _ _)
  clear hf hs hw1 hR hy hz hb0 hA hws hn hw0
  cases y with
  | false =>
    have H : Hid (4 = R) := Lib.hid (by rw [HR.out, if_pos rfl])
    go_enter Tryz.func63, Tryz.ntmps63
    go_wp2_with fail
    rw [show w.alloc _ = w1 from HW1.out.symm]
    go_wp2_with (go_at_call 99; (with_reducible refine (HT1.out _).mono ?_); rintro e w2 ⟨rfl, hb2⟩; clear a1 a3; obtain ⟨hb0, a1, a3⟩ := HB.out _ hb2; have HB2 := Lib.hid hb2; have HB0 := Lib.hid hb0; clear hb2 hb0)
    go_ret
    exact ⟨ret_int H.out, HB0.out⟩
  | true =>
    by_cases hn0 : n = 0
    · have H : Hid (9 = R) := Lib.hid (by rw [HR.out, if_neg (by decide), if_pos (.inl hn0)])
      subst hn0
      go_enter Tryz.func63, Tryz.ntmps63
      go_wp2_with fail
      rw [show w.alloc _ = w1 from HW1.out.symm]
      go_wp2_with (go_at_call 99; (with_reducible refine (HT1.out _).mono ?_); rintro e w2 ⟨rfl, hb2⟩; clear a1 a3; obtain ⟨hb0, a1, a3⟩ := HB.out _ hb2; have HB2 := Lib.hid hb2; have HB0 := Lib.hid hb0; clear hb2 hb0)
      go_ret
      exact ⟨ret_int H.out, HB0.out⟩
    · have e0 : ((n : Int) == 0) = false := by rw [beq_eq_false_iff_ne]; omega
      cases z with
      | true =>
        have H : Hid (9 = R) := Lib.hid (by rw [HR.out, if_neg (by decide), if_pos (.inr rfl)])
        clear hn0
        go_enter Tryz.func63, Tryz.ntmps63
        go_wp2_with fail
        rw [show w.alloc _ = w1 from HW1.out.symm]
        go_wp2_with (go_at_call 99; (with_reducible refine (HT1.out _).mono ?_); rintro e w2 ⟨rfl, hb2⟩; clear a1 a3; obtain ⟨hb0, a1, a3⟩ := HB.out _ hb2; have HB2 := Lib.hid hb2; have HB0 := Lib.hid hb0; clear hb2 hb0)
        go_wp2_with (go_at_call 102; (with_reducible refine (HT2.out _ HB0.out).mono ?_); rintro e w3 ⟨rfl, hb3⟩; have HB3 := Lib.hid (HB2.out.trans (hb3.mono HB2.out.size)); clear hb3 a1 a3; obtain ⟨hb0, a1, a3⟩ := HB.out _ HB3.out; have HB4 := Lib.hid hb0; clear hb0)
        go_ret
        exact ⟨ret_int H.out, HB4.out⟩
      | false =>
        have HR2 : Hid (R = if 6 < n then 7 else 0) := Lib.hid (by rw [HR.out, if_neg (by decide), if_neg (fun h => h.elim hn0 (fun h => by cases h))])
        clear hn0
        by_cases h6 : 6 < n
        · have H : Hid (7 = R) := Lib.hid (by rw [HR2.out, if_pos h6])
          have e6 : decide ((6 : Int) < (n : Int)) = true := by simp; omega
          clear h6
          go_enter Tryz.func63, Tryz.ntmps63
          go_wp2_with fail
          rw [show w.alloc _ = w1 from HW1.out.symm]
          go_wp2_with (go_at_call 99; (with_reducible refine (HT1.out _).mono ?_); rintro e w2 ⟨rfl, hb2⟩; clear a1 a3; obtain ⟨hb0, a1, a3⟩ := HB.out _ hb2; have HB2 := Lib.hid hb2; have HB0 := Lib.hid hb0; clear hb2 hb0)
          go_wp2_with (go_at_call 102; (with_reducible refine (HT2.out _ HB0.out).mono ?_); rintro e w3 ⟨rfl, hb3⟩; have HB3 := Lib.hid (HB2.out.trans (hb3.mono HB2.out.size)); clear hb3 a1 a3; obtain ⟨hb0, a1, a3⟩ := HB.out _ HB3.out; have HB4 := Lib.hid hb0; clear hb0)
          go_ret
          exact ⟨ret_int H.out, HB4.out⟩
        · have H : Hid (0 = R) := Lib.hid (by rw [HR2.out, if_neg h6])
          have e6 : decide ((6 : Int) < (n : Int)) = false := by simp; omega
          clear h6
          go_enter Tryz.func63, Tryz.ntmps63
          go_wp2_with fail
          rw [show w.alloc _ = w1 from HW1.out.symm]
          go_wp2_with (go_at_call 99; (with_reducible refine (HT1.out _).mono ?_); rintro e w2 ⟨rfl, hb2⟩; clear a1 a3; obtain ⟨hb0, a1, a3⟩ := HB.out _ hb2; have HB2 := Lib.hid hb2; have HB0 := Lib.hid hb0; clear hb2 hb0)
          go_wp2_with (go_at_call 102; (with_reducible refine (HT2.out _ HB0.out).mono ?_); rintro e w3 ⟨rfl, hb3⟩; have HB3 := Lib.hid (HB2.out.trans (hb3.mono HB2.out.size)); clear hb3 a1 a3; obtain ⟨hb0, a1, a3⟩ := HB.out _ HB3.out; have HB4 := Lib.hid hb0; clear hb0)
          go_ret
          exact ⟨ret_int H.out, HB4.out⟩
set_option maxHeartbeats 1000000 in
set_option maxRecDepth 100000 in
theorem query_mayKids1 (most b : Nat) (h9 : m ≤ 9) (hm9 : most ≤ 9) (hb : w.heap[b]? = some (.cells #[.int .i64 (most : Int)] 3 (0, 0))) : Calls Tryz.prog 106 #[qV k f x A n c K m d, .pointer (some ⟨b, 0, none⟩)] w fun e w' => e = .returned (.int .i64 (mayKv most m)) ∧ Below w.heap.size w w' := by
  have hbl : b < w.heap.size := (Array.getElem?_eq_some_iff.1 hb).1
  have hc : w.cell? ⟨b, 0, none⟩ = some (.int .i64 (most : Int)) := by simp [World.cell?, hb]
  obtain ⟨R, hR⟩ : ∃ R, R = mayKv most m := ⟨_, rfl⟩
  rw [← hR]
  unfold mayKv at hR
  have HB : Hid (Below w.heap.size w (boxQ w k f x A n c K m d)) := Lib.hid boxQ_below
  clear hb
  by_cases h0 : m = 0
  · rw [if_pos h0] at hR
    subst h0 hR
    go_enter Tryz.func106, Tryz.ntmps106
    go_wp2
    go_ret
    exact ⟨rfl, HB.out⟩
  · rw [if_neg h0] at hR
    have e0 : ((m : Int) == 0) = false := by rw [beq_eq_false_iff_ne]; omega
    clear h0
    by_cases hm : most < m
    · rw [if_pos hm] at hR
      subst hR
      have e1 : decide ((most : Int) < (m : Int)) = true := by simp; omega
      go_enter Tryz.func106, Tryz.ntmps106
      go_wp2
      go_ret
      exact ⟨rfl, HB.out⟩
    · rw [if_neg hm] at hR
      subst hR
      have e1 : decide (most < m) = false := by simp; omega
      have e2 : m ≤ most := by omega
      clear hm
      go_enter Tryz.func106, Tryz.ntmps106
      go_wp2
      go_ret
      exact ⟨rfl, HB.out⟩
end
end Go.Proofs.YtolfkhflbjnakaaGreatDoor

/- What the document's noTerm answers, and what own does: may a query be, but for its kids? -/
namespace Go.Proofs.YtolfkhflbjnakaaGreatDoor
open Go Go.RowKit
set_option linter.unusedVariables false

def isNone (f x : ByteArray) : Bool := decide (f.data.toList = [] ∧ x.data.toList = [])
set_option maxHeartbeats 1000000 in
set_option maxRecDepth 100000 in
theorem ref12_noTerm (f x : ByteArray) (w : World) :
    Calls Tryz.prog 108 #[.agg #[.string f, .string x]] w fun e w' => e = .returned (.bool (isNone f x)) ∧ Below w.heap.size w w' := by
  obtain ⟨z, hz⟩ : ∃ z, z = isNone f x := ⟨_, rfl⟩
  rw [← hz]
  have HZ := Lib.hid hz
  clear hz
  by_cases hf : f.data.toList = []
  · have hf' := toList_nil hf
    have H : Hid (x.toList.isEmpty = z) := Lib.hid (by rw [HZ.out, ByteArray.toList_eq, Bool.eq_iff_iff]; simp [isNone, hf])
    clear hf
    go_enter Tryz.func108, Tryz.ntmps108
    go_wp2
    go_ret
    exact ⟨ret_bool H.out, (Below.refl _ _).alloc (Nat.le_refl _) _⟩
  · have hf' := toList_some hf
    have H : Hid (false = z) := Lib.hid (by rw [HZ.out]; simp [isNone, hf])
    clear hf
    go_enter Tryz.func108, Tryz.ntmps108
    go_wp2
    go_ret
    exact ⟨ret_bool H.out, (Below.refl _ _).alloc (Nat.le_refl _) _⟩

set_option maxHeartbeats 4000000 in
set_option maxRecDepth 100000 in
theorem ref12_own_kids (k : Int) (hk : k = 2 ∨ k = 3 ∨ k = 4) (t : Tm) (f x : ByteArray) (A : Option Addr) (ws : List Nm) (n c : Nat) (K : Option Addr) (m d : Nat) (w : World) (hf : f.data.toList = t.1) (hx : x.data.toList = t.2) (hn : ws.length = n) (hA : Row w w.heap.size A (strs ws))
    (hs : f.size ≤ 100000000 ∧ x.size ≤ 100000000) (hws : ws.length ≤ 9 ∧ ∀ w ∈ ws, w.length ≤ 100000000) (hm : m ≤ 9) :
    Calls Tryz.prog 75 #[qV k f x A n c K m d] w fun e w' => e = .returned (.int .i64 (ownQ k t ws m)) ∧ Below w.heap.size w w' := by
  obtain ⟨R, hR⟩ : ∃ R, R = ownQ k t ws m := ⟨_, rfl⟩
  rw [← hR]
  have HR := Lib.hid hR
  have HA := Lib.hid hA
  have HWS := Lib.hid hws
  have hn9 : n ≤ 9 := by omega
  clear hR hA hws
  obtain ⟨w1, hw1⟩ : ∃ w1, w1 = boxQ w k f x A n c K m d := ⟨_, rfl⟩
  have HB : Hid (∀ wr, Below w1.heap.size w1 wr → Below w.heap.size w wr ∧ wr.cell? ⟨w.heap.size, 0, none⟩ = some (.int .i64 k) ∧ wr.cell? ⟨w.heap.size, 1, none⟩ = some (.string f) ∧ wr.cell? ⟨w.heap.size, 2, none⟩ = some (.string x) ∧ wr.cell? ⟨w.heap.size, 3, none⟩ = some (.slice A n c) ∧ wr.cell? ⟨w.heap.size, 4, none⟩ = some (.slice K m d)) := Lib.hid fun wr h => by
    rw [hw1] at h
    exact boxQ_of h
  have HW1 := Lib.hid hw1
  have HT1 : Hid (∀ w', Calls Tryz.prog 108 #[.agg #[.string f, .string x]] w' fun e w'' => e = .returned (.bool (isNone f x)) ∧ Below w'.heap.size w' w'') := Lib.hid fun w' => ref12_noTerm f x w'
  have HT2 : Hid (∀ w', Calls Tryz.prog 31 #[.string f] w' fun e w'' => e = .returned (.bool (nameB t.1)) ∧ Below w'.heap.size w' w'') := Lib.hid fun w' => by rw [← hf]; exact ref08_Name f w' (by omega)
  have hNone : isNone f x = decide (t = ([], [])) := by
    obtain ⟨t1, t2⟩ := t
    rw [isNone, hf, hx, decide_eq_decide, Prod.mk.injEq]
  obtain ⟨z, hz⟩ : ∃ z, z = isNone f x := ⟨_, rfl⟩
  rw [← hz] at HT1 hNone
  obtain ⟨y, hy⟩ : ∃ y, y = nameB t.1 := ⟨_, rfl⟩
  rw [← hy] at HT2
  have HZ := Lib.hid hNone
  have HY := Lib.hid hy
  have HF := Lib.hid (And.intro hf (And.intro hx hn))
  clear hz hNone hy hw1 hf hx hn
  have HKD : Hid (∀ k : Int, 2 ≤ k → k ≤ 4 → ownQ k t ws m = if t ≠ ([], []) ∨ ws ≠ [] ∨ m = 0 then 9 else if 8 < m ∨ (k = 4 ∧ 1 < m) then 7 else 0) := Lib.hid fun k h1 h2 => by rw [ownQ, if_neg (by omega), if_pos ⟨h1, h2⟩]
  rcases hk with h | h | h
  · subst h
    rw [HKD.out 2 (by omega) (by omega)] at HR
    cases z with
    | false =>
      have H : Hid (9 = R) := Lib.hid (by rw [HR.out, if_pos (.inl (by have := HZ.out; simpa using this.symm))])
      go_enter Tryz.func75, Tryz.ntmps75
      go_wp2_with fail
      rw [show w.alloc _ = w1 from HW1.out.symm]
      go_wp2_with (go_at_call 108; (with_reducible refine (HT1.out _).mono ?_); rintro e w2 ⟨rfl, hb2⟩; obtain ⟨hb0, a0, a1, a2, a3, a4⟩ := HB.out _ hb2; have HB2 := Lib.hid hb2; clear hb2)
      go_wp2_with (go_at_call 31; (with_reducible refine (HT2.out _).mono ?_); rintro e w3 ⟨rfl, hb3⟩; have HB3 := Lib.hid (HB2.out.trans (hb3.mono HB2.out.size)); clear hb0 a0 a1 a2 a3 a4 hb3; obtain ⟨hb0, a0, a1, a2, a3, a4⟩ := HB.out _ HB3.out; have HB0 := Lib.hid hb0; clear hb0)
      go_ret
      exact ⟨ret_int H.out, HB0.out⟩
    | true =>
      have ht : t = ([], []) := by have := HZ.out; simpa using this.symm
      by_cases hn0 : n = 0
      · have hw0 : ws = [] := List.eq_nil_of_length_eq_zero (by have := HF.out.2.2; omega)
        by_cases hm0 : m = 0
        · have H : Hid (9 = R) := Lib.hid (by rw [HR.out, if_pos (.inr (.inr hm0))])
          subst hn0 hm0
          clear ht hw0
          go_enter Tryz.func75, Tryz.ntmps75
          go_wp2_with fail
          rw [show w.alloc _ = w1 from HW1.out.symm]
          go_wp2_with (go_at_call 108; (with_reducible refine (HT1.out _).mono ?_); rintro e w2 ⟨rfl, hb2⟩; obtain ⟨hb0, a0, a1, a2, a3, a4⟩ := HB.out _ hb2; have HB2 := Lib.hid hb2; clear hb2)
          go_wp2_with (go_at_call 31; (with_reducible refine (HT2.out _).mono ?_); rintro e w3 ⟨rfl, hb3⟩; have HB3 := Lib.hid (HB2.out.trans (hb3.mono HB2.out.size)); clear hb0 a0 a1 a2 a3 a4 hb3; obtain ⟨hb0, a0, a1, a2, a3, a4⟩ := HB.out _ HB3.out; have HB0 := Lib.hid hb0; clear hb0)
          go_ret
          exact ⟨ret_int H.out, HB0.out⟩
        · have e0 : ((m : Int) == 0) = false := by rw [beq_eq_false_iff_ne]; omega
          by_cases hm8 : 8 < m
          · have H : Hid (7 = R) := Lib.hid (by rw [HR.out, if_neg (fun hh => hh.elim (fun h => h ht) fun hh => hh.elim (fun h => h hw0) hm0), if_pos (.inl hm8)])
            have e8 : decide ((8 : Int) < (m : Int)) = true := by simp; omega
            subst hn0
            clear ht hw0 hm0
            go_enter Tryz.func75, Tryz.ntmps75
            go_wp2_with fail
            rw [show w.alloc _ = w1 from HW1.out.symm]
            go_wp2_with (go_at_call 108; (with_reducible refine (HT1.out _).mono ?_); rintro e w2 ⟨rfl, hb2⟩; obtain ⟨hb0, a0, a1, a2, a3, a4⟩ := HB.out _ hb2; have HB2 := Lib.hid hb2; clear hb2)
            go_wp2_with (go_at_call 31; (with_reducible refine (HT2.out _).mono ?_); rintro e w3 ⟨rfl, hb3⟩; have HB3 := Lib.hid (HB2.out.trans (hb3.mono HB2.out.size)); clear hb0 a0 a1 a2 a3 a4 hb3; obtain ⟨hb0, a0, a1, a2, a3, a4⟩ := HB.out _ HB3.out; have HB0 := Lib.hid hb0; clear hb0)
            go_ret
            exact ⟨ret_int H.out, HB0.out⟩
          · have H : Hid (0 = R) := Lib.hid (by rw [HR.out, if_neg (fun hh => hh.elim (fun h => h ht) fun hh => hh.elim (fun h => h hw0) hm0), if_neg (fun hh => hh.elim hm8 fun h => absurd h.1 (by decide))])
            have e8 : decide ((8 : Int) < (m : Int)) = false := by simp; omega
            subst hn0
            clear ht hw0 hm0 hm8
            go_enter Tryz.func75, Tryz.ntmps75
            go_wp2_with fail
            rw [show w.alloc _ = w1 from HW1.out.symm]
            go_wp2_with (go_at_call 108; (with_reducible refine (HT1.out _).mono ?_); rintro e w2 ⟨rfl, hb2⟩; obtain ⟨hb0, a0, a1, a2, a3, a4⟩ := HB.out _ hb2; have HB2 := Lib.hid hb2; clear hb2)
            go_wp2_with (go_at_call 31; (with_reducible refine (HT2.out _).mono ?_); rintro e w3 ⟨rfl, hb3⟩; have HB3 := Lib.hid (HB2.out.trans (hb3.mono HB2.out.size)); clear hb0 a0 a1 a2 a3 a4 hb3; obtain ⟨hb0, a0, a1, a2, a3, a4⟩ := HB.out _ HB3.out; have HB0 := Lib.hid hb0; clear hb0)
            go_ret
            exact ⟨ret_int H.out, HB0.out⟩
      · have H : Hid (9 = R) := Lib.hid (by rw [HR.out, if_pos (.inr (.inl fun h => hn0 (by rw [← HF.out.2.2, h]; rfl)))])
        have e0 : 0 < n := by omega
        clear ht hn0
        go_enter Tryz.func75, Tryz.ntmps75
        go_wp2_with fail
        rw [show w.alloc _ = w1 from HW1.out.symm]
        go_wp2_with (go_at_call 108; (with_reducible refine (HT1.out _).mono ?_); rintro e w2 ⟨rfl, hb2⟩; obtain ⟨hb0, a0, a1, a2, a3, a4⟩ := HB.out _ hb2; have HB2 := Lib.hid hb2; clear hb2)
        go_wp2_with (go_at_call 31; (with_reducible refine (HT2.out _).mono ?_); rintro e w3 ⟨rfl, hb3⟩; have HB3 := Lib.hid (HB2.out.trans (hb3.mono HB2.out.size)); clear hb0 a0 a1 a2 a3 a4 hb3; obtain ⟨hb0, a0, a1, a2, a3, a4⟩ := HB.out _ HB3.out; have HB0 := Lib.hid hb0; clear hb0)
        go_ret
        exact ⟨ret_int H.out, HB0.out⟩
  · subst h
    rw [HKD.out 3 (by omega) (by omega)] at HR
    cases z with
    | false =>
      have H : Hid (9 = R) := Lib.hid (by rw [HR.out, if_pos (.inl (by have := HZ.out; simpa using this.symm))])
      go_enter Tryz.func75, Tryz.ntmps75
      go_wp2_with fail
      rw [show w.alloc _ = w1 from HW1.out.symm]
      go_wp2_with (go_at_call 108; (with_reducible refine (HT1.out _).mono ?_); rintro e w2 ⟨rfl, hb2⟩; obtain ⟨hb0, a0, a1, a2, a3, a4⟩ := HB.out _ hb2; have HB2 := Lib.hid hb2; clear hb2)
      go_wp2_with (go_at_call 31; (with_reducible refine (HT2.out _).mono ?_); rintro e w3 ⟨rfl, hb3⟩; have HB3 := Lib.hid (HB2.out.trans (hb3.mono HB2.out.size)); clear hb0 a0 a1 a2 a3 a4 hb3; obtain ⟨hb0, a0, a1, a2, a3, a4⟩ := HB.out _ HB3.out; have HB0 := Lib.hid hb0; clear hb0)
      go_ret
      exact ⟨ret_int H.out, HB0.out⟩
    | true =>
      have ht : t = ([], []) := by have := HZ.out; simpa using this.symm
      by_cases hn0 : n = 0
      · have hw0 : ws = [] := List.eq_nil_of_length_eq_zero (by have := HF.out.2.2; omega)
        by_cases hm0 : m = 0
        · have H : Hid (9 = R) := Lib.hid (by rw [HR.out, if_pos (.inr (.inr hm0))])
          subst hn0 hm0
          clear ht hw0
          go_enter Tryz.func75, Tryz.ntmps75
          go_wp2_with fail
          rw [show w.alloc _ = w1 from HW1.out.symm]
          go_wp2_with (go_at_call 108; (with_reducible refine (HT1.out _).mono ?_); rintro e w2 ⟨rfl, hb2⟩; obtain ⟨hb0, a0, a1, a2, a3, a4⟩ := HB.out _ hb2; have HB2 := Lib.hid hb2; clear hb2)
          go_wp2_with (go_at_call 31; (with_reducible refine (HT2.out _).mono ?_); rintro e w3 ⟨rfl, hb3⟩; have HB3 := Lib.hid (HB2.out.trans (hb3.mono HB2.out.size)); clear hb0 a0 a1 a2 a3 a4 hb3; obtain ⟨hb0, a0, a1, a2, a3, a4⟩ := HB.out _ HB3.out; have HB0 := Lib.hid hb0; clear hb0)
          go_ret
          exact ⟨ret_int H.out, HB0.out⟩
        · have e0 : ((m : Int) == 0) = false := by rw [beq_eq_false_iff_ne]; omega
          by_cases hm8 : 8 < m
          · have H : Hid (7 = R) := Lib.hid (by rw [HR.out, if_neg (fun hh => hh.elim (fun h => h ht) fun hh => hh.elim (fun h => h hw0) hm0), if_pos (.inl hm8)])
            have e8 : decide ((8 : Int) < (m : Int)) = true := by simp; omega
            subst hn0
            clear ht hw0 hm0
            go_enter Tryz.func75, Tryz.ntmps75
            go_wp2_with fail
            rw [show w.alloc _ = w1 from HW1.out.symm]
            go_wp2_with (go_at_call 108; (with_reducible refine (HT1.out _).mono ?_); rintro e w2 ⟨rfl, hb2⟩; obtain ⟨hb0, a0, a1, a2, a3, a4⟩ := HB.out _ hb2; have HB2 := Lib.hid hb2; clear hb2)
            go_wp2_with (go_at_call 31; (with_reducible refine (HT2.out _).mono ?_); rintro e w3 ⟨rfl, hb3⟩; have HB3 := Lib.hid (HB2.out.trans (hb3.mono HB2.out.size)); clear hb0 a0 a1 a2 a3 a4 hb3; obtain ⟨hb0, a0, a1, a2, a3, a4⟩ := HB.out _ HB3.out; have HB0 := Lib.hid hb0; clear hb0)
            go_ret
            exact ⟨ret_int H.out, HB0.out⟩
          · have H : Hid (0 = R) := Lib.hid (by rw [HR.out, if_neg (fun hh => hh.elim (fun h => h ht) fun hh => hh.elim (fun h => h hw0) hm0), if_neg (fun hh => hh.elim hm8 fun h => absurd h.1 (by decide))])
            have e8 : decide ((8 : Int) < (m : Int)) = false := by simp; omega
            subst hn0
            clear ht hw0 hm0 hm8
            go_enter Tryz.func75, Tryz.ntmps75
            go_wp2_with fail
            rw [show w.alloc _ = w1 from HW1.out.symm]
            go_wp2_with (go_at_call 108; (with_reducible refine (HT1.out _).mono ?_); rintro e w2 ⟨rfl, hb2⟩; obtain ⟨hb0, a0, a1, a2, a3, a4⟩ := HB.out _ hb2; have HB2 := Lib.hid hb2; clear hb2)
            go_wp2_with (go_at_call 31; (with_reducible refine (HT2.out _).mono ?_); rintro e w3 ⟨rfl, hb3⟩; have HB3 := Lib.hid (HB2.out.trans (hb3.mono HB2.out.size)); clear hb0 a0 a1 a2 a3 a4 hb3; obtain ⟨hb0, a0, a1, a2, a3, a4⟩ := HB.out _ HB3.out; have HB0 := Lib.hid hb0; clear hb0)
            go_ret
            exact ⟨ret_int H.out, HB0.out⟩
      · have H : Hid (9 = R) := Lib.hid (by rw [HR.out, if_pos (.inr (.inl fun h => hn0 (by rw [← HF.out.2.2, h]; rfl)))])
        have e0 : 0 < n := by omega
        clear ht hn0
        go_enter Tryz.func75, Tryz.ntmps75
        go_wp2_with fail
        rw [show w.alloc _ = w1 from HW1.out.symm]
        go_wp2_with (go_at_call 108; (with_reducible refine (HT1.out _).mono ?_); rintro e w2 ⟨rfl, hb2⟩; obtain ⟨hb0, a0, a1, a2, a3, a4⟩ := HB.out _ hb2; have HB2 := Lib.hid hb2; clear hb2)
        go_wp2_with (go_at_call 31; (with_reducible refine (HT2.out _).mono ?_); rintro e w3 ⟨rfl, hb3⟩; have HB3 := Lib.hid (HB2.out.trans (hb3.mono HB2.out.size)); clear hb0 a0 a1 a2 a3 a4 hb3; obtain ⟨hb0, a0, a1, a2, a3, a4⟩ := HB.out _ HB3.out; have HB0 := Lib.hid hb0; clear hb0)
        go_ret
        exact ⟨ret_int H.out, HB0.out⟩
  · subst h
    rw [HKD.out 4 (by omega) (by omega)] at HR
    cases z with
    | false =>
      have H : Hid (9 = R) := Lib.hid (by rw [HR.out, if_pos (.inl (by have := HZ.out; simpa using this.symm))])
      go_enter Tryz.func75, Tryz.ntmps75
      go_wp2_with fail
      rw [show w.alloc _ = w1 from HW1.out.symm]
      go_wp2_with (go_at_call 108; (with_reducible refine (HT1.out _).mono ?_); rintro e w2 ⟨rfl, hb2⟩; obtain ⟨hb0, a0, a1, a2, a3, a4⟩ := HB.out _ hb2; have HB2 := Lib.hid hb2; clear hb2)
      go_wp2_with (go_at_call 31; (with_reducible refine (HT2.out _).mono ?_); rintro e w3 ⟨rfl, hb3⟩; have HB3 := Lib.hid (HB2.out.trans (hb3.mono HB2.out.size)); clear hb0 a0 a1 a2 a3 a4 hb3; obtain ⟨hb0, a0, a1, a2, a3, a4⟩ := HB.out _ HB3.out; have HB0 := Lib.hid hb0; clear hb0)
      go_ret
      exact ⟨ret_int H.out, HB0.out⟩
    | true =>
      have ht : t = ([], []) := by have := HZ.out; simpa using this.symm
      by_cases hn0 : n = 0
      · have hw0 : ws = [] := List.eq_nil_of_length_eq_zero (by have := HF.out.2.2; omega)
        by_cases hm0 : m = 0
        · have H : Hid (9 = R) := Lib.hid (by rw [HR.out, if_pos (.inr (.inr hm0))])
          subst hn0 hm0
          clear ht hw0
          go_enter Tryz.func75, Tryz.ntmps75
          go_wp2_with fail
          rw [show w.alloc _ = w1 from HW1.out.symm]
          go_wp2_with (go_at_call 108; (with_reducible refine (HT1.out _).mono ?_); rintro e w2 ⟨rfl, hb2⟩; obtain ⟨hb0, a0, a1, a2, a3, a4⟩ := HB.out _ hb2; have HB2 := Lib.hid hb2; clear hb2)
          go_wp2_with (go_at_call 31; (with_reducible refine (HT2.out _).mono ?_); rintro e w3 ⟨rfl, hb3⟩; have HB3 := Lib.hid (HB2.out.trans (hb3.mono HB2.out.size)); clear hb0 a0 a1 a2 a3 a4 hb3; obtain ⟨hb0, a0, a1, a2, a3, a4⟩ := HB.out _ HB3.out; have HB0 := Lib.hid hb0; clear hb0)
          go_ret
          exact ⟨ret_int H.out, HB0.out⟩
        · by_cases hm1 : 1 < m
          · have H : Hid (7 = R) := Lib.hid (by rw [HR.out, if_neg (fun hh => hh.elim (fun h => h ht) fun hh => hh.elim (fun h => h hw0) hm0), if_pos (.inr ⟨rfl, hm1⟩)])
            have e0 : ((m : Int) == 0) = false := by rw [beq_eq_false_iff_ne]; omega
            have e1 : decide ((1 : Int) < (m : Int)) = true := by simp; omega
            by_cases hm8 : 8 < m
            · have e8 : decide ((8 : Int) < (m : Int)) = true := by simp; omega
              subst hn0
              clear ht hw0 hm0
              go_enter Tryz.func75, Tryz.ntmps75
              go_wp2_with fail
              rw [show w.alloc _ = w1 from HW1.out.symm]
              go_wp2_with (go_at_call 108; (with_reducible refine (HT1.out _).mono ?_); rintro e w2 ⟨rfl, hb2⟩; obtain ⟨hb0, a0, a1, a2, a3, a4⟩ := HB.out _ hb2; have HB2 := Lib.hid hb2; clear hb2)
              go_wp2_with (go_at_call 31; (with_reducible refine (HT2.out _).mono ?_); rintro e w3 ⟨rfl, hb3⟩; have HB3 := Lib.hid (HB2.out.trans (hb3.mono HB2.out.size)); clear hb0 a0 a1 a2 a3 a4 hb3; obtain ⟨hb0, a0, a1, a2, a3, a4⟩ := HB.out _ HB3.out; have HB0 := Lib.hid hb0; clear hb0)
              go_ret
              exact ⟨ret_int H.out, HB0.out⟩
            · have e8 : decide ((8 : Int) < (m : Int)) = false := by simp; omega
              subst hn0
              clear ht hw0 hm0 hm8
              go_enter Tryz.func75, Tryz.ntmps75
              go_wp2_with fail
              rw [show w.alloc _ = w1 from HW1.out.symm]
              go_wp2_with (go_at_call 108; (with_reducible refine (HT1.out _).mono ?_); rintro e w2 ⟨rfl, hb2⟩; obtain ⟨hb0, a0, a1, a2, a3, a4⟩ := HB.out _ hb2; have HB2 := Lib.hid hb2; clear hb2)
              go_wp2_with (go_at_call 31; (with_reducible refine (HT2.out _).mono ?_); rintro e w3 ⟨rfl, hb3⟩; have HB3 := Lib.hid (HB2.out.trans (hb3.mono HB2.out.size)); clear hb0 a0 a1 a2 a3 a4 hb3; obtain ⟨hb0, a0, a1, a2, a3, a4⟩ := HB.out _ HB3.out; have HB0 := Lib.hid hb0; clear hb0)
              go_ret
              exact ⟨ret_int H.out, HB0.out⟩
          · have H : Hid (0 = R) := Lib.hid (by rw [HR.out, if_neg (fun hh => hh.elim (fun h => h ht) fun hh => hh.elim (fun h => h hw0) hm0), if_neg (fun hh => hh.elim (fun h => hm1 (by omega)) fun h => hm1 h.2)])
            have : m = 1 := by omega
            subst this hn0
            clear ht hw0 hm0
            go_enter Tryz.func75, Tryz.ntmps75
            go_wp2_with fail
            rw [show w.alloc _ = w1 from HW1.out.symm]
            go_wp2_with (go_at_call 108; (with_reducible refine (HT1.out _).mono ?_); rintro e w2 ⟨rfl, hb2⟩; obtain ⟨hb0, a0, a1, a2, a3, a4⟩ := HB.out _ hb2; have HB2 := Lib.hid hb2; clear hb2)
            go_wp2_with (go_at_call 31; (with_reducible refine (HT2.out _).mono ?_); rintro e w3 ⟨rfl, hb3⟩; have HB3 := Lib.hid (HB2.out.trans (hb3.mono HB2.out.size)); clear hb0 a0 a1 a2 a3 a4 hb3; obtain ⟨hb0, a0, a1, a2, a3, a4⟩ := HB.out _ HB3.out; have HB0 := Lib.hid hb0; clear hb0)
            go_ret
            exact ⟨ret_int H.out, HB0.out⟩
      · have H : Hid (9 = R) := Lib.hid (by rw [HR.out, if_pos (.inr (.inl fun h => hn0 (by rw [← HF.out.2.2, h]; rfl)))])
        have e0 : 0 < n := by omega
        clear ht hn0
        go_enter Tryz.func75, Tryz.ntmps75
        go_wp2_with fail
        rw [show w.alloc _ = w1 from HW1.out.symm]
        go_wp2_with (go_at_call 108; (with_reducible refine (HT1.out _).mono ?_); rintro e w2 ⟨rfl, hb2⟩; obtain ⟨hb0, a0, a1, a2, a3, a4⟩ := HB.out _ hb2; have HB2 := Lib.hid hb2; clear hb2)
        go_wp2_with (go_at_call 31; (with_reducible refine (HT2.out _).mono ?_); rintro e w3 ⟨rfl, hb3⟩; have HB3 := Lib.hid (HB2.out.trans (hb3.mono HB2.out.size)); clear hb0 a0 a1 a2 a3 a4 hb3; obtain ⟨hb0, a0, a1, a2, a3, a4⟩ := HB.out _ HB3.out; have HB0 := Lib.hid hb0; clear hb0)
        go_ret
        exact ⟨ret_int H.out, HB0.out⟩
end Go.Proofs.YtolfkhflbjnakaaGreatDoor
