/- Texts laid together: Plain02, Gather, Words, RefWords, Toks02, Key02. -/
import Derived.Test.YtolfkhflbjnakaaGreatDoorNAQ01
import Derived.Test.YtolfkhflbjnakaaGreatDoorNAQ02
import Derived.Deep.RegionHeld3
import Derived.Deep.RegionLaw
import Derived.Deep.AppendLies
import Derived.Test.YtolfkhflbjnakaaGreatDoorProg
import Derived.Lib.Hide
import Derived.BigQuiet
import Derived.Deep.QuietTactic

/- Plain lists: the words of signs, and how they go together. No program. -/
set_option linter.unusedVariables false
namespace Go.Proofs.YtolfkhflbjnakaaGreatDoor
open Go

/-- Is a sign one of a word's? -/
def inWord (c : Int) : Bool := isLetter c || isDigit c
/-- One sign more: the words that are whole, and the one at hand. -/
def step (st : List (List Int) × List Int) (c : Int) : List (List Int) × List Int :=
  if inWord c = true then (st.1, st.2 ++ [fold c]) else if st.2 = [] then st else (st.1 ++ [st.2], [])
def gather (st : List (List Int) × List Int) (l : List Int) : List (List Int) := ((l ++ [32]).foldl step st).1
def wordSigns (l : List Int) : List (List Int) := gather ([], []) l
/-- The words of bytes. -/
def words (l : List UInt8) : List (List UInt8) := (wordSigns (signs l)).map text

theorem inWord_blank : inWord 32 = false := by decide
theorem inWord_bd {c : Int} (h : inWord c = true) : 48 ≤ c ∧ c ≤ 591 := by
  simp [inWord, isLetter, isDigit] at h; omega
theorem inWord_fold (c : Int) : inWord (fold c) = inWord c := by rw [inWord, inWord, letter_fold, digit_fold]
theorem step_in {o : List (List Int)} {n : List Int} {c : Int} (h : inWord c = true) : step (o, n) c = (o, n ++ [fold c]) := by unfold step; rw [if_pos h]
theorem step_skip {o : List (List Int)} {c : Int} (h : inWord c = false) : step (o, []) c = (o, []) := by unfold step; rw [if_neg (by simp [h]), if_pos rfl]
theorem step_end {o : List (List Int)} {n : List Int} {c : Int} (h : inWord c = false) (hn : n ≠ []) : step (o, n) c = (o ++ [n], []) := by unfold step; rw [if_neg (by simp [h]), if_neg hn]
theorem step_fold (st : List (List Int) × List Int) (c : Int) : step st (fold c) = step st c := by unfold step; rw [inWord_fold, fold_fold]

theorem gather_cons (st : List (List Int) × List Int) (c : Int) (l : List Int) : gather st (c :: l) = gather (step st c) l := by simp [gather]
theorem gather_done (o : List (List Int)) : gather (o, []) [] = o := by simp [gather, step_skip inWord_blank]
theorem gather_last {o : List (List Int)} {n : List Int} (hn : n ≠ []) : gather (o, n) [] = o ++ [n] := by simp [gather, step_end inWord_blank hn]

theorem step_front (a o : List (List Int)) (n : List Int) (c : Int) : step (a ++ o, n) c = (a ++ (step (o, n) c).1, (step (o, n) c).2) := by
  unfold step
  split
  · rfl
  · split
    · rfl
    · simp
theorem fold_front (a : List (List Int)) : ∀ (l : List Int) (o : List (List Int)) (n : List Int), l.foldl step (a ++ o, n) = (a ++ (l.foldl step (o, n)).1, (l.foldl step (o, n)).2)
  | [], o, n => rfl
  | c :: l, o, n => by rw [List.foldl_cons, List.foldl_cons, step_front, fold_front a l]
theorem gather_front (o : List (List Int)) (n l : List Int) : gather (o, n) l = o ++ gather ([], n) l := by
  have := fold_front o (l ++ [32]) [] n
  rw [List.append_nil] at this
  unfold gather
  rw [this]

/-- Words of signs with a blank between. -/
theorem wordSigns_join (a b : List Int) : wordSigns (a ++ 32 :: b) = wordSigns a ++ wordSigns b := by
  have : ∀ (l : List Int) (st : List (List Int) × List Int), gather st (l ++ 32 :: b) = gather st l ++ wordSigns b := by
    intro l
    induction l with
    | nil =>
      intro ⟨o, n⟩
      rw [List.nil_append, gather_cons]
      by_cases h : n = []
      · subst h; rw [step_skip inWord_blank, gather_front, gather_done]; rfl
      · rw [step_end inWord_blank h, gather_front, gather_last h]; rfl
    | cons c l ih => intro st; rw [List.cons_append, gather_cons, gather_cons, ih]
  exact this a _
theorem gather_own : ∀ (w o : List Int), (∀ c ∈ w, inWord c = true ∧ fold c = c) → o ++ w ≠ [] → gather ([], o) w = [o ++ w]
  | [], o, h, hn => by rw [List.append_nil] at hn ⊢; rw [gather_last hn]; rfl
  | c :: w, o, h, hn => by
    have hc := h c (List.mem_cons_self ..)
    rw [gather_cons, step_in hc.1, hc.2, gather_own w (o ++ [c]) (fun x hx => h x (List.mem_cons_of_mem _ hx)) (by simp), List.append_assoc]
    rfl
theorem wordSigns_own {w : List Int} (h : ∀ c ∈ w, inWord c = true ∧ fold c = c) (hn : w ≠ []) : wordSigns w = [w] := gather_own w [] h hn
theorem wordSigns_fold (l : List Int) : wordSigns (l.map fold) = wordSigns l := by
  have : ∀ (l : List Int) (st : List (List Int) × List Int), gather st (l.map fold) = gather st l := by
    intro l
    induction l with
    | nil => intro st; rfl
    | cons c l ih => intro st; rw [List.map_cons, gather_cons, gather_cons, step_fold, ih]
  exact this l _

/-- A word of signs: some, all of them letters and digits, folded. -/
def IsWord (w : List Int) : Prop := w ≠ [] ∧ ∀ c ∈ w, inWord c = true ∧ fold c = c
theorem gather_words : ∀ (l : List Int) (o : List (List Int)) (n : List Int), (∀ w ∈ o, IsWord w) → (∀ c ∈ n, inWord c = true ∧ fold c = c) → ∀ w ∈ gather (o, n) l, IsWord w
  | [], o, n, ho, hn, w, hw => by
    by_cases h : n = []
    · subst h; rw [gather_done] at hw; exact ho w hw
    · rw [gather_last h] at hw
      rcases List.mem_append.1 hw with hw | hw
      · exact ho w hw
      · obtain rfl := List.mem_singleton.1 hw; exact ⟨h, hn⟩
  | c :: l, o, n, ho, hn, w, hw => by
    rw [gather_cons] at hw
    by_cases hc : inWord c = true
    · rw [step_in hc] at hw
      refine gather_words l o _ ho (fun x hx => ?_) w hw
      rcases List.mem_append.1 hx with hx | hx
      · exact hn x hx
      · obtain rfl := List.mem_singleton.1 hx; exact ⟨by rw [inWord_fold]; exact hc, fold_fold c⟩
    · have hc' : inWord c = false := by simpa using hc
      by_cases h : n = []
      · subst h; rw [step_skip hc'] at hw; exact gather_words l o [] ho hn w hw
      · rw [step_end hc' h] at hw
        refine gather_words l _ [] (fun x hx => ?_) (fun x hx => by cases hx) w hw
        rcases List.mem_append.1 hx with hx | hx
        · exact ho x hx
        · obtain rfl := List.mem_singleton.1 hx; exact ⟨h, hn⟩
theorem wordSigns_words (l : List Int) : ∀ w ∈ wordSigns l, IsWord w := gather_words l [] [] (fun w hw => by cases hw) (fun c hc => by cases hc)
theorem word_valid {w : List Int} (h : IsWord w) : ∀ c ∈ w, Utf8.valid c = true := fun c hc => by
  have := inWord_bd (h.2 c hc).1
  rw [valid_iff]; omega
theorem signs_word {w : List Int} (h : IsWord w) : signs (text w) = w := signs_text w (word_valid h)
theorem text_ne {w : List Int} (h : w ≠ []) : text w ≠ [] := by
  cases w with
  | nil => exact absurd rfl h
  | cons c w => rw [show text (c :: w) = Lib.encodeRune c ++ text w by simp [text]]; exact encode_ne _ _

/-- How many signs words have. -/
def total (o : List (List Int)) : Nat := (o.map List.length).sum
theorem total_append (a b : List (List Int)) : total (a ++ b) = total a + total b := by simp [total]
theorem gather_total : ∀ (l : List Int) (o : List (List Int)) (n : List Int), total (gather (o, n) l) ≤ total o + n.length + l.length
  | [], o, n => by
    by_cases h : n = []
    · subst h; rw [gather_done]; omega
    · rw [gather_last h, total_append]; simp [total]
  | c :: l, o, n => by
    rw [gather_cons]
    by_cases hc : inWord c = true
    · rw [step_in hc]; have := gather_total l o (n ++ [fold c]); simp at this ⊢; omega
    · have hc' : inWord c = false := by simpa using hc
      by_cases h : n = []
      · subst h; rw [step_skip hc']; have := gather_total l o []; simp at this ⊢; omega
      · rw [step_end hc' h]; have := gather_total l (o ++ [n]) []; rw [total_append] at this; simp [total] at this ⊢; omega
theorem wordSigns_total (l : List Int) : total (wordSigns l) ≤ l.length := by have := gather_total l [] []; simpa [total, wordSigns] using this
theorem total_mem {o : List (List Int)} {w : List Int} (h : w ∈ o) : w.length ≤ total o := by
  induction o with
  | nil => cases h
  | cons a o ih =>
    simp only [total, List.map_cons, List.sum_cons] at ih ⊢
    rcases List.mem_cons.1 h with rfl | h
    · omega
    · have := ih h; omega
theorem total_count : ∀ {o : List (List Int)}, (∀ w ∈ o, IsWord w) → o.length ≤ total o
  | [], _ => by simp
  | a :: o, h => by
    have h1 := List.length_pos_iff.2 (h a (List.mem_cons_self ..)).1
    have h2 := total_count (o := o) (fun w hw => h w (List.mem_cons_of_mem _ hw))
    simp only [total, List.map_cons, List.sum_cons, List.length_cons] at h2 ⊢; omega
theorem wordSigns_length (l : List Int) : (wordSigns l).length ≤ l.length := Nat.le_trans (total_count (wordSigns_words l)) (wordSigns_total l)
theorem words_length (l : List UInt8) : (words l).length ≤ l.length := by
  rw [words, List.length_map]; exact Nat.le_trans (wordSigns_length _) (signs_length l)
theorem words_size {l w : List UInt8} (h : w ∈ words l) : w.length ≤ 4 * l.length := by
  obtain ⟨v, hv, rfl⟩ := List.mem_map.1 h
  have h1 := text_length v
  have h2 := total_mem hv
  have h3 := wordSigns_total (signs l)
  have h4 := signs_length l
  omega

/-- A sign that is whole, its bytes are those that it was told by. -/
theorem dec_encodes (l : List UInt8) (h : l ≠ []) (hv : (dec l).1 ≠ 65533) : Lib.encodeRune ((dec l).1 : Int) = l.take (dec l).2 := by
  have hb : ∀ b : UInt8, b.toNat < 256 := fun b => b.toNat_lt
  have e1 : ∀ (b : UInt8) (x : Int), x = b.toNat → x.toNat.toUInt8 = b := fun b x hx => by subst hx; simp
  have hv1 := dec_valid l
  revert hv hv1
  obtain ⟨b0, t, rfl⟩ : ∃ b0 t, l = b0 :: t := by cases l with | nil => exact absurd rfl h | cons b t => exact ⟨b, t, rfl⟩
  unfold dec
  simp only [List.getD_cons_zero]
  have h0 := hb b0
  split
  · intro _ _
    rename_i hlt
    simp only [Lib.encodeRune, List.take_succ_cons, List.take_zero]
    rw [Lib.encodeRuneZ_one (by omega) (by omega)]
    simp
  · split
    · rename_i hc
      simp only [Bool.and_eq_true, beq_iff_eq, decide_eq_true_eq, List.length_cons] at hc
      obtain ⟨b1, t1, rfl⟩ : ∃ b1 t1, t = b1 :: t1 := by cases t with | nil => simp at hc | cons b t => exact ⟨b, t, rfl⟩
      simp only [List.getD_cons_zero, List.getD_cons_succ] at hc ⊢
      have h1 := hb b1
      split
      · intro _ _
        simp only [Lib.encodeRune, List.take_succ_cons, List.take_zero]
        rw [Lib.encodeRuneZ_two (by omega) (by omega)]
        simp only [List.map_cons, List.map_nil]
        rw [e1 b0 _ (by omega), e1 b1 _ (by omega)]
      · intro hv; exact absurd rfl hv
    · split
      · rename_i hc
        simp only [Bool.and_eq_true, beq_iff_eq, decide_eq_true_eq, List.length_cons] at hc
        obtain ⟨b1, t1, rfl⟩ : ∃ b1 t1, t = b1 :: t1 := by cases t with | nil => simp at hc | cons b t => exact ⟨b, t, rfl⟩
        obtain ⟨b2, t2, rfl⟩ : ∃ b2 t2, t1 = b2 :: t2 := by cases t1 with | nil => simp at hc | cons b t => exact ⟨b, t, rfl⟩
        simp only [List.getD_cons_zero, List.getD_cons_succ] at hc ⊢
        have h1 := hb b1
        have h2 := hb b2
        split
        · rename_i hok
          intro _ hva
          simp only [Bool.and_eq_true, decide_eq_true_eq] at hok
          simp only at hva
          rw [valid_iff] at hva
          simp only [Lib.encodeRune, List.take_succ_cons, List.take_zero]
          rw [Lib.encodeRuneZ_three (by omega)]
          simp only [List.map_cons, List.map_nil]
          rw [e1 b0 _ (by omega), e1 b1 _ (by omega), e1 b2 _ (by omega)]
        · intro hv; exact absurd rfl hv
      · split
        · rename_i hc
          simp only [Bool.and_eq_true, beq_iff_eq, decide_eq_true_eq, List.length_cons] at hc
          obtain ⟨b1, t1, rfl⟩ : ∃ b1 t1, t = b1 :: t1 := by cases t with | nil => simp at hc | cons b t => exact ⟨b, t, rfl⟩
          obtain ⟨b2, t2, rfl⟩ : ∃ b2 t2, t1 = b2 :: t2 := by cases t1 with | nil => simp at hc | cons b t => exact ⟨b, t, rfl⟩
          obtain ⟨b3, t3, rfl⟩ : ∃ b3 t3, t2 = b3 :: t3 := by cases t2 with | nil => simp at hc | cons b t => exact ⟨b, t, rfl⟩
          simp only [List.getD_cons_zero, List.getD_cons_succ] at hc ⊢
          have h1 := hb b1
          have h2 := hb b2
          have h3 := hb b3
          split
          · rename_i hok
            intro _ hva
            simp only [Bool.and_eq_true, decide_eq_true_eq] at hok
            simp only at hva
            rw [valid_iff] at hva
            simp only [Lib.encodeRune, List.take_succ_cons, List.take_zero]
            rw [Lib.encodeRuneZ_four (by omega) (by omega)]
            simp only [List.map_cons, List.map_nil]
            rw [e1 b0 _ (by omega), e1 b1 _ (by omega), e1 b2 _ (by omega), e1 b3 _ (by omega)]
          · intro hv; exact absurd rfl hv
        · intro hv; exact absurd rfl hv
/-- A text of whole characters is the text of its signs. -/
theorem text_signs (l : List UInt8) (h : ∀ c ∈ signs l, c ≠ 65533) : text (signs l) = l := by
  have : ∀ (n : Nat) (l : List UInt8), l.length ≤ n → (∀ c ∈ signs l, c ≠ 65533) → text (signs l) = l := by
    intro n
    induction n with
    | zero =>
      intro l hl h
      have : l = [] := List.eq_nil_of_length_eq_zero (by omega)
      subst this; rfl
    | succ n ih =>
      intro l hl h
      by_cases e : l = []
      · subst e; rfl
      · have hw := dec_width l e
        rw [signs_step l e] at h ⊢
        rw [show text (((dec l).1 : Int) :: signs (l.drop (dec l).2)) = Lib.encodeRune ((dec l).1 : Int) ++ text (signs (l.drop (dec l).2)) by simp [text]]
        rw [ih _ (by rw [List.length_drop]; omega) (fun c hc => h c (List.mem_cons_of_mem _ hc)), dec_encodes l e (fun hx => h _ (List.mem_cons_self ..) (by rw [hx]; rfl)), List.take_append_drop]
  exact this _ l (Nat.le_refl _) h

/-- A byte below 128 behind bytes ends what they began. -/
theorem dec_before (l t : List UInt8) (h : l ≠ []) : dec (l ++ 32 :: t) = dec l := by
  have hl : 0 < l.length := List.length_pos_iff.2 h
  have ha : ∀ k, k < l.length → (l ++ 32 :: t).getD k 0 = l.getD k 0 := by
    intro k hk
    simp only [List.getD, List.getElem?_append_left hk]
  have hc : ∀ k, k ≤ l.length → (decide (k < (l ++ 32 :: t).length) && ((l ++ 32 :: t).getD k 0).toNat / 64 == 2) = (decide (k < l.length) && (l.getD k 0).toNat / 64 == 2) := by
    intro k hk
    by_cases e : k < l.length
    · rw [ha k e]; simp [e]; intro _; omega
    · have : k = l.length := by omega
      subst this
      have h32 : (l ++ 32 :: t).getD l.length 0 = 32 := by simp [List.getD]
      rw [h32]
      simp
  generalize hm : l ++ 32 :: t = m at ha hc
  unfold dec
  simp only []
  have h0 := ha 0 hl
  have c1 := hc 1 hl
  simp only [h0, c1]
  by_cases k1 : decide (1 < l.length) && (l.getD 1 0).toNat / 64 == 2
  · have l1 : 1 < l.length := by simp at k1; exact k1.1
    have c2 := hc 2 l1
    simp only [ha 1 l1, c2]
    by_cases k2 : decide (2 < l.length) && (l.getD 2 0).toNat / 64 == 2
    · have l2 : 2 < l.length := by simp at k2; exact k2.1
      have c3 := hc 3 l2
      simp only [ha 2 l2, c3]
      by_cases k3 : decide (3 < l.length) && (l.getD 3 0).toNat / 64 == 2
      · have l3 : 3 < l.length := by simp at k3; exact k3.1
        simp only [ha 3 l3]
      · simp only [k3, Bool.and_false, Bool.false_eq_true, if_false]
    · simp only [k2, Bool.and_false, Bool.false_and, Bool.false_eq_true, if_false]
  · simp only [k1, Bool.and_false, Bool.false_and, Bool.false_eq_true, if_false]
theorem signs_before (l t : List UInt8) : signs (l ++ 32 :: t) = signs l ++ 32 :: signs t := by
  have : ∀ (n : Nat) (l : List UInt8), l.length ≤ n → signs (l ++ 32 :: t) = signs l ++ 32 :: signs t := by
    intro n
    induction n with
    | zero =>
      intro l hl
      have : l = [] := List.eq_nil_of_length_eq_zero (by omega)
      subst this
      rw [List.nil_append, signs_step _ (by simp), dec_one _ _ (by decide)]
      rfl
    | succ n ih =>
      intro l hl
      by_cases e : l = []
      · subst e; exact ih [] (by simp)
      · have hw := dec_width l e
        rw [signs_step l e, signs_step (l ++ 32 :: t) (by simp), dec_before l t e, List.drop_append_of_le_length (by omega), ih _ (by rw [List.length_drop]; omega)]
        rfl
  exact this _ l (Nat.le_refl _)
theorem words_join (a b : List UInt8) : words (a ++ 32 :: b) = words a ++ words b := by
  rw [words, signs_before, wordSigns_join, List.map_append]; rfl
theorem words_fold (l : List UInt8) : words (foldText l) = words l := by
  rw [words, signs_foldText, wordSigns_fold]; rfl
/-- A word's words are it. -/
theorem words_one {w : List Int} (h : IsWord w) : words (text w) = [text w] := by
  rw [words, signs_word h, wordSigns_own h.2 h.1]; rfl
/-- Words with a blank behind each. -/
def spaced (l : List (List UInt8)) : List UInt8 := l.flatMap fun w => w ++ [32]
theorem words_spaced_of : ∀ (o : List (List Int)), (∀ w ∈ o, IsWord w) → words (spaced (o.map text)) = o.map text
  | [], _ => rfl
  | a :: o, h => by
    have e : spaced ((a :: o).map text) = text a ++ 32 :: spaced (o.map text) := by simp [spaced]
    rw [e, words_join, words_one (h a (List.mem_cons_self ..)), words_spaced_of o (fun w hw => h w (List.mem_cons_of_mem _ hw))]
    rfl
theorem words_spaced (l : List UInt8) : words (spaced (words l)) = words l := words_spaced_of _ (wordSigns_words _)

/-- May a word be? -/
def mayWord (w : List UInt8) : Bool := decide (w ≠ [] ∧ w.length ≤ 30 ∧ ∀ c ∈ signs w, inWord c = true ∧ fold c = c)
theorem mayWord_of {l w : List UInt8} (h : w ∈ words l) : mayWord w = decide (w.length ≤ 30) := by
  obtain ⟨v, hv, rfl⟩ := List.mem_map.1 h
  have hw := wordSigns_words _ v hv
  unfold mayWord
  rw [signs_word hw, decide_eq_decide]
  exact ⟨fun h => h.2.1, fun h => ⟨text_ne hw.1, h, hw.2⟩⟩
theorem foldText_same {w : List UInt8} (h : ∀ c ∈ signs w, inWord c = true) : foldText w = w ↔ ∀ c ∈ signs w, fold c = c := by
  have ht := text_signs w (fun c hc he => by have := inWord_bd (h c hc); omega)
  constructor
  · intro hf
    have := signs_foldText w
    rw [hf] at this
    have hm : ∀ (l : List Int), l = l.map fold → ∀ c ∈ l, fold c = c := by
      intro l
      induction l with
      | nil => intro _ c hc; cases hc
      | cons a l ih =>
        intro he c hc
        rw [List.map_cons, List.cons.injEq] at he
        rcases List.mem_cons.1 hc with rfl | hc
        · exact he.1.symm
        · exact ih he.2 c hc
    exact hm _ this
  · intro hf
    rw [foldText]
    have : (signs w).map fold = signs w := by
      conv => rhs; rw [← List.map_id (signs w)]
      exact List.map_congr_left (fun c hc => hf c hc)
    rw [this, ht]
end Go.Proofs.YtolfkhflbjnakaaGreatDoor

/- Package word's gatherer: what its closure does with one sign, and what Words answers. -/
namespace Go.Proofs.YtolfkhflbjnakaaGreatDoor
open Go Go.RowKit
set_option linter.unusedVariables false

set_option maxHeartbeats 1000000 in
theorem word_within (c : Int) (w : World) :
    Calls Tryz.prog 135 #[.int .i64 c] w fun e w' => e = .returned (.bool (inWord c)) ∧ w = w' := by
  have l1 := fun w => sign_Letter c w
  have d1 := fun w => sign_Digit c w
  unfold inWord
  cases hL : isLetter c <;> cases hD : isDigit c <;> rw [hL] at l1 <;> rw [hD] at d1
  all_goals
    have L1 := Lib.hid l1
    have D1 := Lib.hid d1
    clear l1 d1 hL hD
    go_enter Tryz.func135, Tryz.ntmps135
    go_wp2_with (first
      | (go_at_call 156; refine (L1.out _).mono ?_; rintro e w' ⟨rfl, rfl⟩)
      | (go_at_call 157; refine (D1.out _).mono ?_; rintro e w' ⟨rfl, rfl⟩))
    go_ret
    exact ⟨rfl, rfl⟩

set_option maxHeartbeats 1000000 in
theorem ref_in (c : Int) (w : World) :
    Calls Tryz.prog 56 #[.int .i64 c] w fun e w' => e = .returned (.bool (inWord c)) ∧ w = w' := by
  have l1 := fun w => ref_Letter c w
  cases hL : isLetter c <;> rw [hL] at l1
  all_goals
    have L1 := Lib.hid l1
    have hin : inWord c = (isLetter c || isDigit c) := rfl
    rw [hL] at hin
    have HIN := Lib.hid hin
    clear l1 hL hin
    go_enter Tryz.func56, Tryz.ntmps56
    go_wp2_with (go_at_call 98; refine (L1.out _).mono ?_; rintro e w' ⟨rfl, rfl⟩)
    all_goals
      go_ret
      refine ⟨ret_bool ?_, rfl⟩
      rw [HIN.out, Bool.eq_iff_iff]
      simp [isDigit]
      try omega

/-- What a call of the closure that Words hands on does: one more text lies in the variable's row. -/
def Told02 (base B : Nat) (xs : List Value) (w : World) (e : Ending) (w' : World) : Prop :=
  e = .returned (.tuple #[]) ∧ RowVar 24 9 base B xs w' ∧ Touched B w w'

set_option maxHeartbeats 1000000 in
set_option maxRecDepth 100000 in
theorem words_tell (base B : Nat) (xs : List Value) (s : ByteArray) (w : World) (h : RowVar 24 9 base B xs w) (hl : xs.length ≤ 1073741824) (hbase : base ≤ w.heap.size) :
    Calls Tryz.prog 183 #[.string s, .pointer (some ⟨B, 0, none⟩)] w (Told02 base B (xs ++ [.string s]) w) := by
  obtain ⟨i0, hi0, hz0, hz1, hz2⟩ := info_parts info_string
  obtain ⟨v, hv, hown⟩ := h
  have cB := cell_of_one hv
  have fB := free_of_one hv
  go_enter Tryz.func183, Tryz.ntmps183
  go_wp2_with (at_builtin; refine wpList_append_own _ rfl (.tmp 3) (.tmp 5) 24 rfl base 9 i0 _ 1 16 Tryz.underlying24 hi0 hz0 hz1 hz2 rfl (by omega) _ xs.length xs rfl (hown.alloc _) ⟨w.heap.size, 0, none⟩ 1 1 [.string s] rfl rfl (news_at w [.string s] 9) (by intro u hu; simp at hu; subst hu; rfl) (by unfold maxLen; omega) (by omega) (by simp; omega) ?_)
  intro v' w1 hown1 hgrow1 _
  obtain ⟨g', cap', rfl, _, _⟩ := hown1.form (by omega)
  obtain ⟨cB1, fB1, hrv, htc⟩ := pushed (by decide) hv rfl hown ((Below.refl _ w).alloc (Nat.le_refl _) _) hgrow1 hown1 rfl
  go_wp2
  go_end0
  exact ⟨rfl, hrv, htc⟩

/-- What is gathered: the words that are whole lie in the variable at Bl, the signs of the one at hand in the variable at Bn; at Bt stands whom a whole one is told. -/
structure Gath (base Bl Bt Bn : Nat) (st : List (List Int) × List Int) (w : World) : Prop where
  base_le : base ≤ w.heap.size
  outs : RowVar 24 9 base Bl (strs (st.1.map text)) w
  tell : w.heap[Bt]? = some (.cells #[.func (.func 183) #[] #[.pointer (some ⟨Bl, 0, none⟩)]] 197 (0, 0))
  own : RowVar 87 3 base Bn (ints st.2) w
theorem Gath.keep {base Bl Bt Bn : Nat} {st : List (List Int) × List Int} {w w' : World} (h : Gath base Bl Bt Bn st w) (hb : Below w.heap.size w w') : Gath base Bl Bt Bn st w' :=
  ⟨Nat.le_trans h.base_le hb.size, h.outs.below hb, (hb.block Bt (lt_of_block h.tell)).trans h.tell, h.own.below hb⟩
theorem Gath.owned {base Bl Bt Bn : Nat} {st st' : List (List Int) × List Int} {w w' : World} (h : Gath base Bl Bt Bn st w) (ht : Touched Bn w w') (h1 : st'.1 = st.1) (ho : RowVar 87 3 base Bn (ints st'.2) w') : Gath base Bl Bt Bn st' w' :=
  ⟨Nat.le_trans h.base_le ht.2.2.2.1, by rw [h1]; exact h.outs.other h.own ht (by decide) (by decide) (by decide) (by decide), Touched.block h.own ht h.tell (by decide) (by decide), ho⟩
theorem Gath.told {base Bl Bt Bn : Nat} {st st' : List (List Int) × List Int} {w w' : World} (h : Gath base Bl Bt Bn st w) (ht : Touched Bl w w') (h1 : st'.2 = st.2) (ho : RowVar 24 9 base Bl (strs (st'.1.map text)) w') : Gath base Bl Bt Bn st' w' :=
  ⟨Nat.le_trans h.base_le ht.2.2.2.1, ho, Touched.block h.outs ht h.tell (by decide) (by decide), by rw [h1]; exact h.own.other h.outs ht (by decide) (by decide) (by decide) (by decide)⟩

/-- What a call of the gatherer does with a sign. -/
def TookG (base Bl Bt Bn : Nat) (st : List (List Int) × List Int) (w : World) (e : Ending) (w' : World) : Prop :=
  e = .returned (.tuple #[]) ∧ Gath base Bl Bt Bn st w' ∧ Aside base Bl Bn w w'

theorem took_in {base Bl Bt Bn : Nat} {st : List (List Int) × List Int} {c : Int} {w w' : World} (h : Gath base Bl Bt Bn st w) (hc : inWord c = true) (ht : Touched Bn w w')
    (ho : RowVar 87 3 base Bn (ints st.2 ++ [.int .i64 (fold c)]) w') : TookG base Bl Bt Bn (step st c) w (.returned (.tuple #[])) w' := by
  have e : step st c = (st.1, st.2 ++ [fold c]) := step_in hc
  rw [e]
  refine ⟨rfl, h.owned ht rfl ?_, (ht.aside h.own h.base_le).swap⟩
  simpa [ints] using ho

set_option maxHeartbeats 1000000 in
set_option maxRecDepth 100000 in
theorem take_in (base Bl Bt Bn : Nat) (st : List (List Int) × List Int) (c : Int) (w : World) (h : Gath base Bl Bt Bn st w) (hl : st.2.length ≤ 1073741824) (hc : inWord c = true) :
    Calls Tryz.prog 188 #[.int .i64 c, .pointer (some ⟨Bn, 0, none⟩), .pointer (some ⟨Bt, 0, none⟩)] w (TookG base Bl Bt Bn (step st c) w) := by
  obtain ⟨i0, hi0, hz0, hz1, hz2⟩ := info_parts info_int
  have hbase := h.base_le
  obtain ⟨v, hv, hown⟩ := h.own
  have cB := cell_of_one hv
  have fB := free_of_one hv
  have f1 := fun w => sign_Fold c w
  have w1 := fun w => word_within c w
  have tk := fun (w' : World) => took_in (w' := w') h hc
  generalize fold c = y at f1 tk
  rw [hc] at w1
  rw [ints_length] at hown
  have hal : (w.alloc (.cells #[.int .i64 y] 3)).cell? ⟨Bn, 0, none⟩ = some v := (((Below.refl _ w).alloc (Nat.le_refl _) _).cell (p := ⟨Bn, 0, none⟩) (lt_of_block hv)).trans cB
  have F1 := Lib.hid f1
  have W1 := Lib.hid w1
  have TK := Lib.hid tk
  have HC := Lib.hid hc
  clear f1 w1 tk hc
  go_enter Tryz.func188, Tryz.ntmps188
  go_wp2_with (go_at_call 135; refine (W1.out _).mono ?_; rintro e w' ⟨rfl, rfl⟩)
  go_region_law (first
      | (refine step_append_lies _ (by rfl) _ _ _ (by rfl) base 3 i0 _ 1 8 Tryz.underlying87 hi0 hz0 hz1 hz2 rfl (by omega) v st.2.length (ints st.2) (by rfl) ((hown.alloc _).drew)
          ⟨w.heap.size, 0, none⟩ 1 1 [.int .i64 y] (by rfl) (by rfl) (World.news_of_block (cs := #[.int .i64 y]) (t := 3) (fr := (0, 0)) (heap_alloc_new w _)) (by simp [Value.oneCell'])
          (by omega) (by unfold maxLen; omega) (by omega) (by simp; omega) (w.heap.size + 1) (by simp) ?_
         intro gg cap w1 hown1 hgrow hat hlt
         obtain ⟨cB1, fB1, hrv, htc⟩ := pushed (by decide) hv (ints_length _) hown (((Below.refl _ w).alloc (Nat.le_refl _) _).drew) hgrow hown1 rfl)
      | (go_simp; go_at_call 136; refine (F1.out _).mono ?_; rintro e w' ⟨rfl, rfl⟩))
  all_goals
    go_wp2
    go_end0
    exact TK.out _ htc hrv

set_option maxHeartbeats 1000000 in
set_option maxRecDepth 100000 in
theorem take_skip (base Bl Bt Bn : Nat) (out : List (List Int)) (c : Int) (w : World) (h : Gath base Bl Bt Bn (out, []) w) (hc : inWord c = false) :
    Calls Tryz.prog 188 #[.int .i64 c, .pointer (some ⟨Bn, 0, none⟩), .pointer (some ⟨Bt, 0, none⟩)] w (TookG base Bl Bt Bn (out, []) w) := by
  obtain ⟨v, hv, hown⟩ := h.own
  have cB := cell_of_one hv
  have w1 := fun w => word_within c w
  rw [hc] at w1
  have W1 := Lib.hid w1
  clear w1
  obtain ⟨A, k, rfl, _, _⟩ := owned_row hown
  go_enter Tryz.func188, Tryz.ntmps188
  go_wp2_with (go_at_call 135; refine (W1.out _).mono ?_; rintro e w' ⟨rfl, rfl⟩)
  go_end0
  exact ⟨rfl, h, Aside.refl _ _ _ _⟩

theorem took_end {base Bl Bt Bn : Nat} {out : List (List Int)} {own : List Int} {w w2 w3 : World} (h : Gath base Bl Bt Bn (out, own) w) (hb : Below w.heap.size w w2)
    (hr : RowVar 24 9 base Bl (strs (out.map text) ++ [.string ⟨(text own).toArray⟩]) w3) (ht : Touched Bl w2 w3) :
    Gath base Bl Bt Bn (out ++ [own], own) w3 ∧ Aside base Bl Bn w w3 := by
  have h2 := h.keep hb
  refine ⟨h2.told ht rfl (by simpa [strs] using hr), (Aside.of (hb.mono h.base_le)).trans (ht.aside h2.outs h2.base_le)⟩

set_option maxHeartbeats 1000000 in
set_option maxRecDepth 100000 in
theorem take_end (base Bl Bt Bn : Nat) (out : List (List Int)) (own : List Int) (c : Int) (w : World) (h : Gath base Bl Bt Bn (out, own) w) (hl : own.length ≤ 1073741824) (ho : out.length ≤ 1073741824) (hc : inWord c = false) (hn : own ≠ []) :
    Calls Tryz.prog 188 #[.int .i64 c, .pointer (some ⟨Bn, 0, none⟩), .pointer (some ⟨Bt, 0, none⟩)] w (TookG base Bl Bt Bn (out ++ [own], []) w) := by
  have hpos : 0 < own.length := List.length_pos_iff.2 hn
  obtain ⟨v, hv, hown⟩ := h.own
  rw [ints_length] at hown
  obtain ⟨g, cap, rfl, _, _⟩ := hown.form hpos
  obtain ⟨A, k, he, _, hrow⟩ := owned_row hown
  have hA : A = some ⟨g, 0, none⟩ := by injection he with h1 h2 h3; exact h1.symm
  rw [hA] at hrow
  have cN := cell_of_one hv
  have cT := cell_of_one h.tell
  have hltN := lt_of_block hv
  have hltT := lt_of_block h.tell
  have w1 := fun w => word_within c w
  rw [hc] at w1
  have W1 := Lib.hid w1
  have HR := Lib.hid hrow
  have HG := Lib.hid h
  clear w1 he hA hrow h
  go_enter Tryz.func188, Tryz.ntmps188
  go_wp2_with (go_at_call 135; refine (W1.out _).mono ?_; rintro e w' ⟨rfl, rfl⟩)
  go_region_held3 (fun w' => w'.cell? ⟨Bt, 0, none⟩ = some (.func (.func 183) #[] #[.pointer (some ⟨Bl, 0, none⟩)]) ∧ w'.cell? ⟨Bn, 0, none⟩ = some (.slice (some ⟨g, 0, none⟩) own.length cap))
    (first | go_keep | exact ⟨cT2, cN2⟩ | exact ⟨cT3, cN3⟩)
    (first
      | (go_at_call 189; refine (sign_Text _ _ own w.drew (HR.out.below (Below.refl _ w).drew) hl).mono ?_; rintro e w2 ⟨rfl, hb0⟩
         have hb2 : Below w.heap.size w w2 := (Below.refl _ w).drew.trans hb0
         have HB2 := Lib.hid hb2
         have cT2 := (hb2.cell (p := ⟨Bt, 0, none⟩) hltT).trans cT
         have cN2 := (hb2.cell (p := ⟨Bn, 0, none⟩) hltN).trans cN
         have hrv2 := (HG.out.keep hb2).outs
         clear hb2 hb0)
      | (go_at_call 183; refine (words_tell base Bl (strs (out.map text)) _ _ hrv2 (by rw [strs_length, List.length_map]; exact ho) (HG.out.keep HB2.out).base_le).mono ?_; rintro e w3 ⟨rfl, hrv3, ht3⟩
         have cT3 := cell_of_one (Touched.block hrv2 ht3 ((HB2.out.block Bt hltT).trans HG.out.tell) (by decide) (by decide))
         have hv3 := Touched.block hrv2 ht3 ((HB2.out.block Bn hltN).trans hv) (by decide) (by decide)
         have cN3 := cell_of_one hv3
         have fN3 := free_of_one hv3))
  obtain ⟨hg3, hb3⟩ := took_end HG.out HB2.out hrv3 ht3
  have hown3 : w3.ownsRow base 3 1 (.slice (some ⟨g, 0, none⟩) own.length cap) own.length (ints own) := by
    obtain ⟨v3, hv3', hown3⟩ := hg3.own
    rw [hv3] at hv3'
    simp at hv3'
    rw [← hv3', ints_length] at hown3
    exact hown3
  obtain ⟨hrN, htN⟩ := emptied (T := 87) (E := 3) (by decide) hv3 hown3
  have hfin : TookG base Bl Bt Bn (out ++ [own], []) w (.returned (.tuple #[])) (w3.setCell ⟨Bn, 0, none⟩ (.slice (some ⟨g, 0, none⟩) 0 cap)) :=
    ⟨rfl, hg3.owned htN rfl hrN, hb3.trans (htN.aside hg3.own hg3.base_le).swap⟩
  have HF := Lib.hid hfin
  clear hg3 hb3 hown3 hrN htN hfin
  go_wp2
  go_end0
  exact HF.out

/-- One sign more: whatever is gathered. -/
theorem take_any (base Bl Bt Bn : Nat) (st : List (List Int) × List Int) (c : Int) (w : World) (h : Gath base Bl Bt Bn st w) (hl : st.2.length ≤ 1073741824) (ho : st.1.length ≤ 1073741824) :
    Calls Tryz.prog 188 #[.int .i64 c, .pointer (some ⟨Bn, 0, none⟩), .pointer (some ⟨Bt, 0, none⟩)] w (TookG base Bl Bt Bn (step st c) w) := by
  by_cases hc : inWord c = true
  · exact take_in base Bl Bt Bn st c w h hl hc
  · have hc' : inWord c = false := by simpa using hc
    obtain ⟨out, own⟩ := st
    by_cases hn : own = []
    · subst hn
      rw [step_skip hc']
      exact take_skip base Bl Bt Bn out c w h hc'
    · rw [step_end hc' hn]
      exact take_end base Bl Bt Bn out own c w h hl ho hc' hn
end Go.Proofs.YtolfkhflbjnakaaGreatDoor

/- What package word's Words answers: the words of the bytes, in new memory; nothing that was there turns. For every text of at most 2^30 bytes. -/
namespace Go.Proofs.YtolfkhflbjnakaaGreatDoor
open Go Go.RowKit
set_option linter.unusedVariables false

/-- What a call gives that makes a list of texts. -/
def GaveStrs (l : List (List UInt8)) (w : World) (e : Ending) (w' : World) : Prop := ∃ v, e = .returned v ∧ w'.ownsRow w.heap.size 9 1 v l.length (strs l) ∧ Below w.heap.size w w'

/-- What is gathered of the first k signs. -/
def upto (l : List Int) (k : Nat) : List (List Int) × List Int := (l.take k).foldl step ([], [])
theorem upto_succ {l : List Int} {k : Nat} (hk : k < l.length) : upto l (k + 1) = step (upto l k) l[k] := by
  unfold upto
  rw [List.take_succ_eq_append_getElem hk, List.foldl_append]
  rfl
theorem upto_end (l : List Int) : (step (upto l l.length) 32).1 = wordSigns l := by
  unfold upto wordSigns gather
  rw [List.take_length, List.foldl_append]
  rfl
theorem step_bd (st : List (List Int) × List Int) (c : Int) : (step st c).1.length + (step st c).2.length ≤ st.1.length + st.2.length + 1 := by
  unfold step
  split
  · simp; omega
  · split
    · omega
    · simp
theorem upto_bd (l : List Int) : ∀ k, k ≤ l.length → (upto l k).1.length + (upto l k).2.length ≤ k
  | 0, _ => by simp [upto]
  | k + 1, hk => by
    have h1 := upto_bd l k (by omega)
    have h2 := step_bd (upto l k) l[k]
    rw [upto_succ (by omega)]
    omega

def WordsRel (l : List Int) (base B : Nat) (w1 : World) (i : Value) (wr : World) : Prop :=
  ∃ k : Nat, k ≤ l.length ∧ i = .int .i64 k ∧ Gath base B (B + 1) (B + 2) (upto l k) wr ∧ Aside base B (B + 2) w1 wr

/-- The memory that Words makes for its gatherer. -/
def made (w : World) : World :=
  ((w.alloc (.cells #[.slice none 0 0] 24)).alloc (.cells #[.func (.func 183) #[] #[.pointer (some ⟨w.heap.size, 0, none⟩)]] 197)).alloc (.cells #[.slice none 0 0] 87)
theorem made_size (w : World) : (made w).heap.size = w.heap.size + 3 := by simp [made]
theorem made_below (w : World) : Below w.heap.size w (made w) := (((Below.refl _ w).alloc (Nat.le_refl _) _).alloc (by simp) _).alloc (by simp; omega) _
theorem made_gath (w w1 : World) (hb : Below (made w).heap.size (made w) w1) : Gath w1.heap.size w.heap.size (w.heap.size + 1) (w.heap.size + 2) ([], []) w1 := by
  have hs := made_size w
  have h1 : (made w).heap[w.heap.size]? = some (.cells #[.slice none 0 0] 24 (0, 0)) := by
    unfold made
    rw [Below.heap_alloc _ _ _ (by simp; omega), Below.heap_alloc _ _ _ (by simp)]
    exact heap_alloc_new w _
  have h2 : (made w).heap[w.heap.size + 1]? = some (.cells #[.func (.func 183) #[] #[.pointer (some ⟨w.heap.size, 0, none⟩)]] 197 (0, 0)) := by
    unfold made
    rw [Below.heap_alloc _ _ _ (by simp)]
    have := heap_alloc_new (w.alloc (.cells #[.slice none 0 0] 24)) (.cells #[.func (.func 183) #[] #[.pointer (some ⟨w.heap.size, 0, none⟩)]] 197)
    simpa using this
  have h3 : (made w).heap[w.heap.size + 2]? = some (.cells #[.slice none 0 0] 87 (0, 0)) := by
    unfold made
    have := heap_alloc_new ((w.alloc (.cells #[.slice none 0 0] 24)).alloc (.cells #[.func (.func 183) #[] #[.pointer (some ⟨w.heap.size, 0, none⟩)]] 197)) (.cells #[.slice none 0 0] 87)
    simpa using this
  exact ⟨Nat.le_refl _, ⟨_, (hb.block _ (by omega)).trans h1, World.ownsRow_nil _ _ _ _⟩, (hb.block _ (by omega)).trans h2, ⟨_, (hb.block _ (by omega)).trans h3, World.ownsRow_nil _ _ _ _⟩⟩

set_option maxHeartbeats 1000000 in
set_option maxRecDepth 100000 in
theorem word_Words (s : ByteArray) (w : World) (hs : s.size ≤ 1073741824) :
    Calls Tryz.prog 173 #[.string s] w (GaveStrs (words s.data.toList) w) := by
  have hsl := signs_length s.data.toList
  have hsz : s.data.toList.length = s.size := Array.length_toList
  rw [hsz] at hsl
  have hwd : (step (upto (signs s.data.toList) (signs s.data.toList).length) 32).1.map text = words s.data.toList := by rw [upto_end]; rfl
  go_enter Tryz.func173, Tryz.ntmps173
  go_wp2_with (first
    | (go_at_call 182; go_in)
    | (go_at_call 134; refine (sign_Signs s _ hs).mono ?_))
  rintro e w1 ⟨v, rfl, hown, hb⟩
  have hms := made_size w
  have hg1 := made_gath w w1 hb
  have hbm : Below w.heap.size w w1 := (made_below w).trans (hb.mono (made_below w).size)
  have hown : w1.ownsRow (w.heap.size + 3) 3 1 v (signs s.data.toList).length (ints (signs s.data.toList)) := by rw [← hms]; exact hown
  have hszm : w.heap.size + 3 ≤ w1.heap.size := by rw [← hms]; exact hb.size
  obtain ⟨A, c, rfl, _, _⟩ := owned_row hown
  obtain ⟨l, hl⟩ : ∃ l, l = signs s.data.toList := ⟨_, rfl⟩
  rw [← hl] at hown hsl hwd
  rw [← hl]
  have HG1 := Lib.hid hg1
  have HBM := Lib.hid hbm
  have HO := Lib.hid hown
  have HWD := Lib.hid hwd
  clear hl hms hg1 hbm hb hown hwd
  go_wp2
  go_loopw [12] (fun i wr => WordsRel l w1.heap.size w.heap.size w1 i wr) (fun i _ => l.length - (intOf i).toNat)
  case atStart => exact ⟨0, Nat.zero_le _, rfl, HG1.out, Aside.refl _ _ _ _⟩
  case round =>
    obtain ⟨k, hk, rfl, hg, ha⟩ := hrel
    have hbd := upto_bd l k hk
    have HR := Lib.hid (owned_row_of (owned_aside HO.out (by omega) (by omega) (Nat.le_refl _) ha))
    have HA := Lib.hid ha
    have cL := hg.outs
    by_cases hlt : k < l.length
    · obtain ⟨b1, o1, e1, _, hc1⟩ := row_int HR.out hlt
      subst e1
      have HU := Lib.hid (upto_succ hlt)
      obtain ⟨x, hx⟩ : ∃ x, x = l[k] := ⟨_, rfl⟩
      rw [← hx] at hc1 HU
      clear hx ha cL
      go_wp2_with (go_at_call 188; refine (take_any w1.heap.size w.heap.size (w.heap.size + 1) (w.heap.size + 2) (upto l k) x _ hg (by omega) (by omega)).mono ?_; rintro e w2 ⟨rfl, hg2, ha2⟩)
      go_roundw
      case rel => exact ⟨k + 1, by omega, by go_num, by rw [HU.out]; exact hg2, HA.out.trans ha2⟩
      case measure => simp [intOf]; omega
    · have hkl : k = l.length := by omega
      clear cL ha
      go_wp2_with (go_at_call 188; refine (take_any w1.heap.size w.heap.size (w.heap.size + 1) (w.heap.size + 2) (upto l k) 32 _ hg (by omega) (by omega)).mono ?_; rintro e w2 ⟨rfl, hg2, ha2⟩; obtain ⟨v2, hv2, hown2⟩ := hg2.outs; have c2 := cell_of_one hv2)
      go_ret
      subst hkl
      rw [HWD.out] at hown2
      refine ⟨_, rfl, ?_, HBM.out.trans ((HA.out.trans ha2).below HBM.out.size (Nat.le_refl _) (by omega))⟩
      rw [strs_length] at hown2
      exact owned_low hown2 HBM.out.size
end Go.Proofs.YtolfkhflbjnakaaGreatDoor

/- What the document's own Words answers: the words of the bytes, in new memory; nothing that was there turns. For every text of at most 2^28 bytes. -/
namespace Go.Proofs.YtolfkhflbjnakaaGreatDoor
open Go Go.RowKit
set_option linter.unusedVariables false

theorem gather_at {o : List (List Int)} {n l : List Int} {k : Nat} (hk : k < l.length) : gather (o, n) (l.drop k) = gather (step (o, n) l[k]) (l.drop (k + 1)) := by
  rw [List.drop_eq_getElem_cons hk, gather_cons]
theorem gather_past {o : List (List Int)} {n l : List Int} {k : Nat} (hk : l.length ≤ k) (hn : n ≠ []) : gather (o, n) (l.drop k) = gather (o ++ [n], []) (l.drop (k + 1)) := by
  rw [List.drop_of_length_le hk, List.drop_of_length_le (by omega), gather_last hn, gather_done]
theorem gather_stop {o : List (List Int)} {n l : List Int} {k : Nat} (hn : n ≠ []) (h : (hk : k < l.length) → inWord l[k] = false) : gather (o, n) (l.drop k) = gather (o ++ [n], []) (l.drop (k + 1)) := by
  by_cases hk : k < l.length
  · rw [gather_at hk, step_end (h hk) hn]
  · exact gather_past (by omega) hn

def RefOut (l : List Int) (w1 : World) (o i : Value) (wr : World) : Prop :=
  ∃ (k : Nat) (out : List (List Int)) (vo : Value), vo = o ∧ k ≤ l.length + 1 ∧ i = .int .i64 k ∧ out.length ≤ k ∧ wr.ownsRow w1.heap.size 9 1 o out.length (strs (out.map text)) ∧ Below w1.heap.size w1 wr ∧ gather (out, []) (l.drop k) = wordSigns l
def RefIn (l : List Int) (w1 : World) (out : List (List Int)) (o : Value) (k0 : Nat) (i n : Value) (wr : World) : Prop :=
  ∃ (k : Nat) (own : List Int) (vn : Value), vn = n ∧ k ≤ l.length ∧ k0 ≤ k ∧ i = .int .i64 k ∧ own.length ≤ k ∧ (own = [] → k = k0) ∧ wr.ownsRow w1.heap.size 9 1 o out.length (strs (out.map text)) ∧ wr.ownsRow w1.heap.size 3 1 n own.length (ints own) ∧ Below w1.heap.size w1 wr ∧ gather (out, own) (l.drop k) = wordSigns l

set_option maxHeartbeats 2000000 in
set_option maxRecDepth 100000 in
theorem ref_Words (s : ByteArray) (w : World) (hs : s.size ≤ 268435456) :
    Calls Tryz.prog 133 #[.string s] w (GaveStrs (words s.data.toList) w) := by
  obtain ⟨i0, hi0, hz0, hz1, hz2⟩ := info_parts info_int
  obtain ⟨i1, hi1, hy0, hy1, hy2⟩ := info_parts info_string
  have hsl := signs_length s.data.toList
  have hsz : s.data.toList.length = s.size := Array.length_toList
  rw [hsz] at hsl
  have hwd : (wordSigns (signs s.data.toList)).map text = words s.data.toList := rfl
  go_enter Tryz.func133, Tryz.ntmps133
  go_wp2_with (go_at_call 54; refine (ref_Signs s _ (by omega)).mono ?_)
  rintro e w1 ⟨v, rfl, hown, hb⟩
  obtain ⟨A, c, rfl, _, hrow⟩ := owned_row hown
  obtain ⟨l, hl⟩ : ∃ l, l = signs s.data.toList := ⟨_, rfl⟩
  rw [← hl] at hrow hsl hwd
  rw [← hl]
  have HB := Lib.hid hb
  have HR := Lib.hid hrow
  have HWD := Lib.hid hwd
  clear hl hb hown hrow hwd
  go_wp2
  go_loopw [4, 5] (fun o i wr => RefOut l w1 o i wr) (fun _ i _ => l.length + 1 - (intOf i).toNat)
  case atStart => exact ⟨0, [], _, rfl, by omega, rfl, by simp, World.ownsRow_nil _ _ _ _, Below.refl _ _, rfl⟩
  case round =>
    obtain ⟨k, out, vo, rfl, hk, rfl, hok, hout, hbw, hga⟩ := hrel
    by_cases hlt : k < l.length
    · obtain ⟨b1, o1, e1, _, hc1⟩ := row_int (HR.out.below hbw) hlt
      subst e1
      by_cases hin : inWord l[k] = true
      · have r1 := fun w => ref_in l[k] w
        rw [hin] at r1
        have R1 := Lib.hid r1
        have HIN : Hid (inWord l[k] = true) := Lib.hid hin
        have HGA := Lib.hid hga
        have HOUT := Lib.hid hout
        obtain ⟨x, hx⟩ : ∃ x, x = l[k] := ⟨_, rfl⟩
        rw [← hx] at hc1 R1 HIN
        have HX := Lib.hid hx
        clear r1 hin hga hout hx
        go_wp2_with (go_at_call 56; refine (R1.out _).mono ?_; rintro e w' ⟨rfl, rfl⟩)
        go_loopw [5, 7] (fun i n wr => RefIn l w1 out vo k i n wr) (fun i _ _ => l.length - (intOf i).toNat)
        case atStart => exact ⟨k, [], _, rfl, by omega, by omega, rfl, by simp, fun _ => rfl, HOUT.out, World.ownsRow_nil _ _ _ _, hbw, HGA.out⟩
        case round =>
          obtain ⟨j, own, vn, rfl, hj, hkj, rfl, hoj, hne0, hout2, hown2, hbw2, hga2⟩ := hrel
          have hne : (k < j ∨ j = l.length ∨ (∃ h : j < l.length, inWord l[j] = false)) → own ≠ [] := by
            intro hh he
            have hjk := hne0 he
            subst hjk
            rcases hh with hh | hh | ⟨_, hh⟩
            · omega
            · omega
            · rw [← HX.out, HIN.out] at hh; cases hh
          by_cases hltj : j < l.length
          · obtain ⟨b2, o2, e2, _, hc2⟩ := row_int (HR.out.below hbw2) hltj
            simp at e2
            obtain ⟨rfl, rfl⟩ := e2
            by_cases hinj : inWord l[j] = true
            · have r2 := fun w => ref_in l[j] w
              rw [hinj] at r2
              have f2 := fun w => ref_Fold l[j] w
              have ga2 := gather_at (o := out) (n := own) hltj
              rw [hga2, step_in hinj] at ga2
              obtain ⟨y, hy⟩ : ∃ y, y = l[j] := ⟨_, rfl⟩
              rw [← hy] at hc2 r2 f2 ga2
              obtain ⟨z, hz⟩ : ∃ z, z = fold y := ⟨_, rfl⟩
              rw [← hz] at f2 ga2
              have R2 := Lib.hid r2
              have F2 := Lib.hid f2
              have GA2 := Lib.hid ga2
              have HO2 := Lib.hid hout2
              have hszj := hbw2.size
              clear r2 f2 ga2 hinj hga2 hy hz hne hne0 hout2 hc1
              go_wp2_with (first
                | (go_at_call 56; refine (R2.out _).mono ?_; rintro e w' ⟨rfl, rfl⟩)
                | (go_at_call 96; refine (F2.out _).mono ?_; rintro e w' ⟨rfl, rfl⟩)
                | (at_builtin; refine wpList_append_own _ rfl (.tmp 34) (.tmp 40) 87 rfl w1.heap.size 3 i0 _ 1 8 Tryz.underlying87 hi0 hz0 hz1 hz2 rfl (by omega) _ own.length (ints own) rfl (hown2.alloc _) ⟨_, 0, none⟩ 1 1 [.int .i64 z] rfl rfl (news_at _ [.int .i64 z] 3) (by intro u hu; simp at hu; subst hu; rfl) (by unfold maxLen; omega) (by omega) (by simp; omega) ?_))
              intro v' w5 hown5 hgrow5 _
              have hbw5 := (hbw2.alloc (by omega) _).grown hgrow5 (by simp; omega) (fun j hj => (hown2.lt j hj).1)
              have hout5 := (HO2.out.alloc _).kept hgrow5 (owned_other HO2.out hown2 (by decide))
              clear hgrow5
              go_wp2
              go_roundw
              case rel =>
                refine ⟨j + 1, own ++ [z], _, rfl, by omega, by omega, by go_num, by simp; omega, by simp, hout5, ?_, hbw5, GA2.out.symm⟩
                simpa [ints] using hown5
              case measure => simp [intOf]; omega
            · have hinj' : inWord l[j] = false := by simpa using hinj
              have r2 := fun w => ref_in l[j] w
              rw [hinj'] at r2
              have hne := hne (.inr (.inr ⟨hltj, hinj'⟩))
              have HIJ := Lib.hid hinj'
              obtain ⟨A3, c3, rfl, _, hrow3⟩ := owned_row hown2
              have HN := Lib.hid hrow3
              have R2 := Lib.hid r2
              have HG2 := Lib.hid hga2
              have HO2 := Lib.hid hout2
              have HBW2 := Lib.hid hbw2
              obtain ⟨y, hy⟩ : ∃ y, y = l[j] := ⟨_, rfl⟩
              rw [← hy] at hc2 R2
              clear r2 hinj hinj' hga2 hout2 hrow3 hown2 hne0 hc1 hy
              go_wp2_with (first
                | (go_at_call 56; refine (R2.out _).mono ?_; rintro e w' ⟨rfl, rfl⟩)
                | (go_at_call 97; refine (ref_Text_at _ _ _ own _ rfl HN.out (by omega)).mono ?_))
              rintro e w4 ⟨rfl, hb4⟩
              obtain ⟨tx, htx⟩ : ∃ tx : ByteArray, tx = ⟨(text own).toArray⟩ := ⟨_, rfl⟩
              rw [← htx]
              have hout4 := owned_below HO2.out hb4
              have hbw4 : Below w1.heap.size w1 w4 := HBW2.out.trans (hb4.mono HBW2.out.size)
              have HTX := Lib.hid htx
              clear htx hb4
              have hsz4 := hbw4.size
              go_wp2_with (at_builtin; refine wpList_append_own _ rfl (.tmp 44) (.tmp 47) 24 rfl w1.heap.size 9 i1 _ 1 16 Tryz.underlying24 hi1 hy0 hy1 hy2 rfl (by omega) _ out.length (strs (out.map text)) rfl (hout4.alloc _) ⟨w4.heap.size, 0, none⟩ 1 1 [.string tx] rfl rfl (news_at w4 [.string tx] 9) (by intro u hu; simp at hu; subst hu; rfl) (by unfold maxLen; omega) (by omega) (by simp; omega) ?_)
              intro v' w5 hown5 hgrow5 _
              have hbw5 := (hbw4.alloc (by omega) _).grown hgrow5 (by simp; omega) (fun j hj => (hout4.lt j hj).1)
              clear hgrow5 hout4 hbw4
              go_wp2
              go_roundw
              case rel =>
                refine ⟨j + 1, out ++ [own], _, rfl, by omega, by go_num, by simp; omega, ?_, hbw5, ?_⟩
                · rw [HTX.out] at hown5; simpa [strs] using hown5
                · rw [← gather_stop hne (fun _ => HIJ.out)]; exact HG2.out
              case measure => simp [intOf]; omega
          · have hne := hne (.inr (.inl (by omega)))
            obtain ⟨A3, c3, rfl, _, hrow3⟩ := owned_row hown2
            have HN := Lib.hid hrow3
            have HG2 := Lib.hid hga2
            have HO2 := Lib.hid hout2
            have HBW2 := Lib.hid hbw2
            clear hga2 hout2 hrow3 hown2 hne0 hc1
            go_wp2_with (first
              | (go_at_call 97; refine (ref_Text_at _ _ _ own _ rfl HN.out (by omega)).mono ?_))
            rintro e w4 ⟨rfl, hb4⟩
            obtain ⟨tx, htx⟩ : ∃ tx : ByteArray, tx = ⟨(text own).toArray⟩ := ⟨_, rfl⟩
            rw [← htx]
            have hout4 := owned_below HO2.out hb4
            have hbw4 : Below w1.heap.size w1 w4 := HBW2.out.trans (hb4.mono HBW2.out.size)
            have HTX := Lib.hid htx
            clear htx hb4
            have hsz4 := hbw4.size
            go_wp2_with (at_builtin; refine wpList_append_own _ rfl (.tmp 44) (.tmp 47) 24 rfl w1.heap.size 9 i1 _ 1 16 Tryz.underlying24 hi1 hy0 hy1 hy2 rfl (by omega) _ out.length (strs (out.map text)) rfl (hout4.alloc _) ⟨w4.heap.size, 0, none⟩ 1 1 [.string tx] rfl rfl (news_at w4 [.string tx] 9) (by intro u hu; simp at hu; subst hu; rfl) (by unfold maxLen; omega) (by omega) (by simp; omega) ?_)
            intro v' w5 hown5 hgrow5 _
            have hbw5 := (hbw4.alloc (by omega) _).grown hgrow5 (by simp; omega) (fun j hj => (hout4.lt j hj).1)
            clear hgrow5 hout4 hbw4
            go_wp2
            go_roundw
            case rel =>
              refine ⟨j + 1, out ++ [own], _, rfl, by omega, by go_num, by simp; omega, ?_, hbw5, ?_⟩
              · rw [HTX.out] at hown5; simpa [strs] using hown5
              · rw [← gather_stop hne (fun h => absurd h hltj)]; exact HG2.out
            case measure => simp [intOf]; omega
      · have hin' : inWord l[k] = false := by simpa using hin
        have r1 := fun w => ref_in l[k] w
        rw [hin'] at r1
        have ga := gather_at (o := out) (n := []) hlt
        rw [hga, step_skip hin'] at ga
        have R1 := Lib.hid r1
        have HOUT := Lib.hid hout
        have GA := Lib.hid ga
        obtain ⟨x, hx⟩ : ∃ x, x = l[k] := ⟨_, rfl⟩
        rw [← hx] at hc1 R1
        clear r1 hin hin' hga hout hx ga
        go_wp2_with (go_at_call 56; refine (R1.out _).mono ?_; rintro e w' ⟨rfl, rfl⟩)
        go_roundw
        case rel => exact ⟨k + 1, out, _, rfl, by omega, by go_num, by omega, HOUT.out, hbw, GA.out.symm⟩
        case measure => simp [intOf]; omega
    · rw [List.drop_of_length_le (by omega), gather_done] at hga
      have HGA := Lib.hid hga
      clear hga
      go_wp2
      go_ret
      refine ⟨_, rfl, ?_, HB.out.trans (hbw.mono HB.out.size)⟩
      have := HWD.out
      rw [← HGA.out] at this
      rw [← this, List.length_map]
      exact owned_low hout HB.out.size
end Go.Proofs.YtolfkhflbjnakaaGreatDoor

/- What a call of Tokens gives: each word with its place, or the first error; in new memory; nothing that was there turns. -/
namespace Go.Proofs.YtolfkhflbjnakaaGreatDoor
open Go Go.RowKit
set_option linter.unusedVariables false

/-- The first error of words, from place i on. -/
def errFrom : Nat → List (List UInt8) → Int
  | _, [] => 0
  | i, w :: ws => if 30 < w.length then 3 else if 500 ≤ i then 7 else errFrom (i + 1) ws
def tokCells : Nat → List (List UInt8) → List Value
  | _, [] => []
  | i, w :: ws => .string ⟨w.toArray⟩ :: .int .i64 i :: tokCells (i + 1) ws
theorem tokCells_append : ∀ (a : List (List UInt8)) (i : Nat) (b : List (List UInt8)), tokCells i (a ++ b) = tokCells i a ++ tokCells (i + a.length) b
  | [], i, b => by simp [tokCells]
  | w :: a, i, b => by
    simp only [List.cons_append, tokCells, tokCells_append a, List.length_cons]
    rw [show i + 1 + a.length = i + (a.length + 1) by omega]
theorem tokCells_length : ∀ (a : List (List UInt8)) (i : Nat), (tokCells i a).length = a.length * 2
  | [], i => rfl
  | w :: a, i => by simp only [tokCells, List.length_cons, tokCells_length a]; omega
theorem tokCells_take {ws : List (List UInt8)} {k : Nat} (hk : k < ws.length) : tokCells 0 (ws.take (k + 1)) = tokCells 0 (ws.take k) ++ [.string ⟨ws[k].toArray⟩, .int .i64 k] := by
  rw [List.take_succ_eq_append_getElem hk, tokCells_append, List.length_take, Nat.zero_add, Nat.min_eq_left (by omega)]
  rfl
theorem errFrom_at {ws : List (List UInt8)} {k : Nat} (hk : k < ws.length) : errFrom k (ws.drop k) = if 30 < ws[k].length then 3 else if 500 ≤ k then 7 else errFrom (k + 1) (ws.drop (k + 1)) := by
  rw [List.drop_eq_getElem_cons hk, errFrom]

theorem info_token : (Tryz.prog.info? 155).map (fun i => (i.zero, i.size, i.bytes)) = some (some (.agg #[.string ByteArray.empty, .int .i64 0]), 2, 24) := by kernel_rfl

/-- What a call of Tokens gives. -/
def GaveToks (ws : List (List UInt8)) (w : World) (e : Ending) (w' : World) : Prop :=
  ∃ v, e = .returned (.tuple #[v, .int .i64 (errFrom 0 ws)]) ∧ (errFrom 0 ws = 0 → w'.ownsRow w.heap.size 155 2 v ws.length (tokCells 0 ws)) ∧ (errFrom 0 ws ≠ 0 → v = .slice none 0 0) ∧ Below w.heap.size w w'

def ToksRel (ws : List (List UInt8)) (w1 : World) (a b o i : Value) (wr : World) : Prop :=
  ∃ (k : Nat) (vo : Value), vo = o ∧ a = .slice none 0 0 ∧ b = .int .i64 0 ∧ k ≤ ws.length ∧ k ≤ 500 ∧ i = .int .i64 k ∧ wr.ownsRow w1.heap.size 155 2 o k (tokCells 0 (ws.take k)) ∧ Below w1.heap.size w1 wr ∧ errFrom k (ws.drop k) = errFrom 0 ws
end Go.Proofs.YtolfkhflbjnakaaGreatDoor

/- A term's key, and what the document's own Key answers. -/
namespace Go.Proofs.YtolfkhflbjnakaaGreatDoor
open Go Go.RowKit
set_option linter.unusedVariables false

/-- A term's key. -/
def keyL (f g : List UInt8) : List UInt8 := f ++ 0 :: g
theorem keyL_inj {f g f' g' : List UInt8} (h : keyL f g = keyL f' g') (h0 : (0 : UInt8) ∉ f) (h1 : (0 : UInt8) ∉ f') : f = f' ∧ g = g' := by
  induction f generalizing f' with
  | nil =>
    cases f' with
    | nil => simp [keyL] at h; exact ⟨rfl, h⟩
    | cons b f' => simp [keyL] at h; exact absurd (by rw [← h.1]; exact List.mem_cons_self ..) h1
  | cons a f ih =>
    cases f' with
    | nil => simp [keyL] at h; exact absurd (by rw [h.1]; exact List.mem_cons_self ..) h0
    | cons b f' =>
      simp only [keyL, List.cons_append, List.cons.injEq] at h
      obtain ⟨h2, h3⟩ := ih (f' := f') h.2 (fun e => h0 (List.mem_cons_of_mem _ e)) (fun e => h1 (List.mem_cons_of_mem _ e))
      exact ⟨by rw [h.1, h2], h3⟩
def keyB (f g : ByteArray) : ByteArray := f ++ ⟨#[0]⟩ ++ g
theorem keyB_list (f g : ByteArray) : (keyB f g).data.toList = keyL f.data.toList g.data.toList := by simp [keyB, keyL]

set_option maxHeartbeats 1000000 in
theorem ref_Key (f g : ByteArray) (w : World) (hf : f.size ≤ 140737488355328) (hg : g.size ≤ 140737488355328) :
    Calls Tryz.prog 90 #[.agg #[.string f, .string g]] w fun e w' => e = .returned (.string (keyB f g)) ∧ Below w.heap.size w w' := by
  go_enter Tryz.func90, Tryz.ntmps90
  go_wp2
  go_ret
  exact ⟨rfl, (Below.refl _ _).alloc (Nat.le_refl _) _⟩
end Go.Proofs.YtolfkhflbjnakaaGreatDoor
