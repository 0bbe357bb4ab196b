/- Plain lists: the words of signs, and how they go together. No program. -/
import Derived.Test.YtgcdekaceimdnaaGreatPlain01
set_option linter.unusedVariables false
namespace Go.Proofs.YtgcdekaceimdnaaGreat
open Go

/-- Is a sign one of a word's? -/
def inWord (c : Int) : Bool := isLetter c || isDigit c
/-- One sign more: the words that are whole, and the one at hand. -/
def step (st : List (List Int) × List Int) (c : Int) : List (List Int) × List Int :=
  if inWord c = true then (st.1, st.2 ++ [fold c]) else if st.2 = [] then st else (st.1 ++ [st.2], [])
def gather (st : List (List Int) × List Int) (l : List Int) : List (List Int) := ((l ++ [32]).foldl step st).1
def wordSigns (l : List Int) : List (List Int) := gather ([], []) l
/-- The words of bytes. -/
def words (l : List UInt8) : List (List UInt8) := (wordSigns (signs l)).map text

theorem inWord_blank : inWord 32 = false := by decide
theorem inWord_bd {c : Int} (h : inWord c = true) : 48 ≤ c ∧ c ≤ 591 := by
  simp [inWord, isLetter, isDigit] at h; omega
theorem inWord_fold (c : Int) : inWord (fold c) = inWord c := by rw [inWord, inWord, letter_fold, digit_fold]
theorem step_in {o : List (List Int)} {n : List Int} {c : Int} (h : inWord c = true) : step (o, n) c = (o, n ++ [fold c]) := by unfold step; rw [if_pos h]
theorem step_skip {o : List (List Int)} {c : Int} (h : inWord c = false) : step (o, []) c = (o, []) := by unfold step; rw [if_neg (by simp [h]), if_pos rfl]
theorem step_end {o : List (List Int)} {n : List Int} {c : Int} (h : inWord c = false) (hn : n ≠ []) : step (o, n) c = (o ++ [n], []) := by unfold step; rw [if_neg (by simp [h]), if_neg hn]
theorem step_fold (st : List (List Int) × List Int) (c : Int) : step st (fold c) = step st c := by unfold step; rw [inWord_fold, fold_fold]

theorem gather_cons (st : List (List Int) × List Int) (c : Int) (l : List Int) : gather st (c :: l) = gather (step st c) l := by simp [gather]
theorem gather_done (o : List (List Int)) : gather (o, []) [] = o := by simp [gather, step_skip inWord_blank]
theorem gather_last {o : List (List Int)} {n : List Int} (hn : n ≠ []) : gather (o, n) [] = o ++ [n] := by simp [gather, step_end inWord_blank hn]

theorem step_front (a o : List (List Int)) (n : List Int) (c : Int) : step (a ++ o, n) c = (a ++ (step (o, n) c).1, (step (o, n) c).2) := by
  unfold step
  split
  · rfl
  · split
    · rfl
    · simp
theorem fold_front (a : List (List Int)) : ∀ (l : List Int) (o : List (List Int)) (n : List Int), l.foldl step (a ++ o, n) = (a ++ (l.foldl step (o, n)).1, (l.foldl step (o, n)).2)
  | [], o, n => rfl
  | c :: l, o, n => by rw [List.foldl_cons, List.foldl_cons, step_front, fold_front a l]
theorem gather_front (o : List (List Int)) (n l : List Int) : gather (o, n) l = o ++ gather ([], n) l := by
  have := fold_front o (l ++ [32]) [] n
  rw [List.append_nil] at this
  unfold gather
  rw [this]

/-- Words of signs with a blank between. -/
theorem wordSigns_join (a b : List Int) : wordSigns (a ++ 32 :: b) = wordSigns a ++ wordSigns b := by
  have : ∀ (l : List Int) (st : List (List Int) × List Int), gather st (l ++ 32 :: b) = gather st l ++ wordSigns b := by
    intro l
    induction l with
    | nil =>
      intro ⟨o, n⟩
      rw [List.nil_append, gather_cons]
      by_cases h : n = []
      · subst h; rw [step_skip inWord_blank, gather_front, gather_done]; rfl
      · rw [step_end inWord_blank h, gather_front, gather_last h]; rfl
    | cons c l ih => intro st; rw [List.cons_append, gather_cons, gather_cons, ih]
  exact this a _
theorem gather_own : ∀ (w o : List Int), (∀ c ∈ w, inWord c = true ∧ fold c = c) → o ++ w ≠ [] → gather ([], o) w = [o ++ w]
  | [], o, h, hn => by rw [List.append_nil] at hn ⊢; rw [gather_last hn]; rfl
  | c :: w, o, h, hn => by
    have hc := h c (List.mem_cons_self ..)
    rw [gather_cons, step_in hc.1, hc.2, gather_own w (o ++ [c]) (fun x hx => h x (List.mem_cons_of_mem _ hx)) (by simp), List.append_assoc]
    rfl
theorem wordSigns_own {w : List Int} (h : ∀ c ∈ w, inWord c = true ∧ fold c = c) (hn : w ≠ []) : wordSigns w = [w] := gather_own w [] h hn
theorem wordSigns_fold (l : List Int) : wordSigns (l.map fold) = wordSigns l := by
  have : ∀ (l : List Int) (st : List (List Int) × List Int), gather st (l.map fold) = gather st l := by
    intro l
    induction l with
    | nil => intro st; rfl
    | cons c l ih => intro st; rw [List.map_cons, gather_cons, gather_cons, step_fold, ih]
  exact this l _

/-- A word of signs: some, all of them letters and digits, folded. -/
def IsWord (w : List Int) : Prop := w ≠ [] ∧ ∀ c ∈ w, inWord c = true ∧ fold c = c
theorem gather_words : ∀ (l : List Int) (o : List (List Int)) (n : List Int), (∀ w ∈ o, IsWord w) → (∀ c ∈ n, inWord c = true ∧ fold c = c) → ∀ w ∈ gather (o, n) l, IsWord w
  | [], o, n, ho, hn, w, hw => by
    by_cases h : n = []
    · subst h; rw [gather_done] at hw; exact ho w hw
    · rw [gather_last h] at hw
      rcases List.mem_append.1 hw with hw | hw
      · exact ho w hw
      · obtain rfl := List.mem_singleton.1 hw; exact ⟨h, hn⟩
  | c :: l, o, n, ho, hn, w, hw => by
    rw [gather_cons] at hw
    by_cases hc : inWord c = true
    · rw [step_in hc] at hw
      refine gather_words l o _ ho (fun x hx => ?_) w hw
      rcases List.mem_append.1 hx with hx | hx
      · exact hn x hx
      · obtain rfl := List.mem_singleton.1 hx; exact ⟨by rw [inWord_fold]; exact hc, fold_fold c⟩
    · have hc' : inWord c = false := by simpa using hc
      by_cases h : n = []
      · subst h; rw [step_skip hc'] at hw; exact gather_words l o [] ho hn w hw
      · rw [step_end hc' h] at hw
        refine gather_words l _ [] (fun x hx => ?_) (fun x hx => by cases hx) w hw
        rcases List.mem_append.1 hx with hx | hx
        · exact ho x hx
        · obtain rfl := List.mem_singleton.1 hx; exact ⟨h, hn⟩
theorem wordSigns_words (l : List Int) : ∀ w ∈ wordSigns l, IsWord w := gather_words l [] [] (fun w hw => by cases hw) (fun c hc => by cases hc)
theorem word_valid {w : List Int} (h : IsWord w) : ∀ c ∈ w, Utf8.valid c = true := fun c hc => by
  have := inWord_bd (h.2 c hc).1
  rw [valid_iff]; omega
theorem signs_word {w : List Int} (h : IsWord w) : signs (text w) = w := signs_text w (word_valid h)
theorem text_ne {w : List Int} (h : w ≠ []) : text w ≠ [] := by
  cases w with
  | nil => exact absurd rfl h
  | cons c w => rw [show text (c :: w) = Lib.encodeRune c ++ text w by simp [text]]; exact encode_ne _ _

/-- How many signs words have. -/
def total (o : List (List Int)) : Nat := (o.map List.length).sum
theorem total_append (a b : List (List Int)) : total (a ++ b) = total a + total b := by simp [total]
theorem gather_total : ∀ (l : List Int) (o : List (List Int)) (n : List Int), total (gather (o, n) l) ≤ total o + n.length + l.length
  | [], o, n => by
    by_cases h : n = []
    · subst h; rw [gather_done]; omega
    · rw [gather_last h, total_append]; simp [total]
  | c :: l, o, n => by
    rw [gather_cons]
    by_cases hc : inWord c = true
    · rw [step_in hc]; have := gather_total l o (n ++ [fold c]); simp at this ⊢; omega
    · have hc' : inWord c = false := by simpa using hc
      by_cases h : n = []
      · subst h; rw [step_skip hc']; have := gather_total l o []; simp at this ⊢; omega
      · rw [step_end hc' h]; have := gather_total l (o ++ [n]) []; rw [total_append] at this; simp [total] at this ⊢; omega
theorem wordSigns_total (l : List Int) : total (wordSigns l) ≤ l.length := by have := gather_total l [] []; simpa [total, wordSigns] using this
theorem total_mem {o : List (List Int)} {w : List Int} (h : w ∈ o) : w.length ≤ total o := by
  induction o with
  | nil => cases h
  | cons a o ih =>
    simp only [total, List.map_cons, List.sum_cons] at ih ⊢
    rcases List.mem_cons.1 h with rfl | h
    · omega
    · have := ih h; omega
theorem total_count : ∀ {o : List (List Int)}, (∀ w ∈ o, IsWord w) → o.length ≤ total o
  | [], _ => by simp
  | a :: o, h => by
    have h1 := List.length_pos_iff.2 (h a (List.mem_cons_self ..)).1
    have h2 := total_count (o := o) (fun w hw => h w (List.mem_cons_of_mem _ hw))
    simp only [total, List.map_cons, List.sum_cons, List.length_cons] at h2 ⊢; omega
theorem wordSigns_length (l : List Int) : (wordSigns l).length ≤ l.length := Nat.le_trans (total_count (wordSigns_words l)) (wordSigns_total l)
theorem words_length (l : List UInt8) : (words l).length ≤ l.length := by
  rw [words, List.length_map]; exact Nat.le_trans (wordSigns_length _) (signs_length l)
theorem words_size {l w : List UInt8} (h : w ∈ words l) : w.length ≤ 4 * l.length := by
  obtain ⟨v, hv, rfl⟩ := List.mem_map.1 h
  have h1 := text_length v
  have h2 := total_mem hv
  have h3 := wordSigns_total (signs l)
  have h4 := signs_length l
  omega

/-- A sign that is whole, its bytes are those that it was told by. -/
theorem dec_encodes (l : List UInt8) (h : l ≠ []) (hv : (dec l).1 ≠ 65533) : Lib.encodeRune ((dec l).1 : Int) = l.take (dec l).2 := by
  have hb : ∀ b : UInt8, b.toNat < 256 := fun b => b.toNat_lt
  have e1 : ∀ (b : UInt8) (x : Int), x = b.toNat → x.toNat.toUInt8 = b := fun b x hx => by subst hx; simp
  have hv1 := dec_valid l
  revert hv hv1
  obtain ⟨b0, t, rfl⟩ : ∃ b0 t, l = b0 :: t := by cases l with | nil => exact absurd rfl h | cons b t => exact ⟨b, t, rfl⟩
  unfold dec
  simp only [List.getD_cons_zero]
  have h0 := hb b0
  split
  · intro _ _
    rename_i hlt
    simp only [Lib.encodeRune, List.take_succ_cons, List.take_zero]
    rw [Lib.encodeRuneZ_one (by omega) (by omega)]
    simp
  · split
    · rename_i hc
      simp only [Bool.and_eq_true, beq_iff_eq, decide_eq_true_eq, List.length_cons] at hc
      obtain ⟨b1, t1, rfl⟩ : ∃ b1 t1, t = b1 :: t1 := by cases t with | nil => simp at hc | cons b t => exact ⟨b, t, rfl⟩
      simp only [List.getD_cons_zero, List.getD_cons_succ] at hc ⊢
      have h1 := hb b1
      split
      · intro _ _
        simp only [Lib.encodeRune, List.take_succ_cons, List.take_zero]
        rw [Lib.encodeRuneZ_two (by omega) (by omega)]
        simp only [List.map_cons, List.map_nil]
        rw [e1 b0 _ (by omega), e1 b1 _ (by omega)]
      · intro hv; exact absurd rfl hv
    · split
      · rename_i hc
        simp only [Bool.and_eq_true, beq_iff_eq, decide_eq_true_eq, List.length_cons] at hc
        obtain ⟨b1, t1, rfl⟩ : ∃ b1 t1, t = b1 :: t1 := by cases t with | nil => simp at hc | cons b t => exact ⟨b, t, rfl⟩
        obtain ⟨b2, t2, rfl⟩ : ∃ b2 t2, t1 = b2 :: t2 := by cases t1 with | nil => simp at hc | cons b t => exact ⟨b, t, rfl⟩
        simp only [List.getD_cons_zero, List.getD_cons_succ] at hc ⊢
        have h1 := hb b1
        have h2 := hb b2
        split
        · rename_i hok
          intro _ hva
          simp only [Bool.and_eq_true, decide_eq_true_eq] at hok
          simp only at hva
          rw [valid_iff] at hva
          simp only [Lib.encodeRune, List.take_succ_cons, List.take_zero]
          rw [Lib.encodeRuneZ_three (by omega)]
          simp only [List.map_cons, List.map_nil]
          rw [e1 b0 _ (by omega), e1 b1 _ (by omega), e1 b2 _ (by omega)]
        · intro hv; exact absurd rfl hv
      · split
        · rename_i hc
          simp only [Bool.and_eq_true, beq_iff_eq, decide_eq_true_eq, List.length_cons] at hc
          obtain ⟨b1, t1, rfl⟩ : ∃ b1 t1, t = b1 :: t1 := by cases t with | nil => simp at hc | cons b t => exact ⟨b, t, rfl⟩
          obtain ⟨b2, t2, rfl⟩ : ∃ b2 t2, t1 = b2 :: t2 := by cases t1 with | nil => simp at hc | cons b t => exact ⟨b, t, rfl⟩
          obtain ⟨b3, t3, rfl⟩ : ∃ b3 t3, t2 = b3 :: t3 := by cases t2 with | nil => simp at hc | cons b t => exact ⟨b, t, rfl⟩
          simp only [List.getD_cons_zero, List.getD_cons_succ] at hc ⊢
          have h1 := hb b1
          have h2 := hb b2
          have h3 := hb b3
          split
          · rename_i hok
            intro _ hva
            simp only [Bool.and_eq_true, decide_eq_true_eq] at hok
            simp only at hva
            rw [valid_iff] at hva
            simp only [Lib.encodeRune, List.take_succ_cons, List.take_zero]
            rw [Lib.encodeRuneZ_four (by omega) (by omega)]
            simp only [List.map_cons, List.map_nil]
            rw [e1 b0 _ (by omega), e1 b1 _ (by omega), e1 b2 _ (by omega), e1 b3 _ (by omega)]
          · intro hv; exact absurd rfl hv
        · intro hv; exact absurd rfl hv
/-- A text of whole characters is the text of its signs. -/
theorem text_signs (l : List UInt8) (h : ∀ c ∈ signs l, c ≠ 65533) : text (signs l) = l := by
  have : ∀ (n : Nat) (l : List UInt8), l.length ≤ n → (∀ c ∈ signs l, c ≠ 65533) → text (signs l) = l := by
    intro n
    induction n with
    | zero =>
      intro l hl h
      have : l = [] := List.eq_nil_of_length_eq_zero (by omega)
      subst this; rfl
    | succ n ih =>
      intro l hl h
      by_cases e : l = []
      · subst e; rfl
      · have hw := dec_width l e
        rw [signs_step l e] at h ⊢
        rw [show text (((dec l).1 : Int) :: signs (l.drop (dec l).2)) = Lib.encodeRune ((dec l).1 : Int) ++ text (signs (l.drop (dec l).2)) by simp [text]]
        rw [ih _ (by rw [List.length_drop]; omega) (fun c hc => h c (List.mem_cons_of_mem _ hc)), dec_encodes l e (fun hx => h _ (List.mem_cons_self ..) (by rw [hx]; rfl)), List.take_append_drop]
  exact this _ l (Nat.le_refl _) h

/-- A byte below 128 behind bytes ends what they began. -/
theorem dec_before (l t : List UInt8) (h : l ≠ []) : dec (l ++ 32 :: t) = dec l := by
  have hl : 0 < l.length := List.length_pos_iff.2 h
  have ha : ∀ k, k < l.length → (l ++ 32 :: t).getD k 0 = l.getD k 0 := by
    intro k hk
    simp only [List.getD, List.getElem?_append_left hk]
  have hc : ∀ k, k ≤ l.length → (decide (k < (l ++ 32 :: t).length) && ((l ++ 32 :: t).getD k 0).toNat / 64 == 2) = (decide (k < l.length) && (l.getD k 0).toNat / 64 == 2) := by
    intro k hk
    by_cases e : k < l.length
    · rw [ha k e]; simp [e]; intro _; omega
    · have : k = l.length := by omega
      subst this
      have h32 : (l ++ 32 :: t).getD l.length 0 = 32 := by simp [List.getD]
      rw [h32]
      simp
  generalize hm : l ++ 32 :: t = m at ha hc
  unfold dec
  simp only []
  have h0 := ha 0 hl
  have c1 := hc 1 hl
  simp only [h0, c1]
  by_cases k1 : decide (1 < l.length) && (l.getD 1 0).toNat / 64 == 2
  · have l1 : 1 < l.length := by simp at k1; exact k1.1
    have c2 := hc 2 l1
    simp only [ha 1 l1, c2]
    by_cases k2 : decide (2 < l.length) && (l.getD 2 0).toNat / 64 == 2
    · have l2 : 2 < l.length := by simp at k2; exact k2.1
      have c3 := hc 3 l2
      simp only [ha 2 l2, c3]
      by_cases k3 : decide (3 < l.length) && (l.getD 3 0).toNat / 64 == 2
      · have l3 : 3 < l.length := by simp at k3; exact k3.1
        simp only [ha 3 l3]
      · simp only [k3, Bool.and_false, Bool.false_eq_true, if_false]
    · simp only [k2, Bool.and_false, Bool.false_and, Bool.false_eq_true, if_false]
  · simp only [k1, Bool.and_false, Bool.false_and, Bool.false_eq_true, if_false]
theorem signs_before (l t : List UInt8) : signs (l ++ 32 :: t) = signs l ++ 32 :: signs t := by
  have : ∀ (n : Nat) (l : List UInt8), l.length ≤ n → signs (l ++ 32 :: t) = signs l ++ 32 :: signs t := by
    intro n
    induction n with
    | zero =>
      intro l hl
      have : l = [] := List.eq_nil_of_length_eq_zero (by omega)
      subst this
      rw [List.nil_append, signs_step _ (by simp), dec_one _ _ (by decide)]
      rfl
    | succ n ih =>
      intro l hl
      by_cases e : l = []
      · subst e; exact ih [] (by simp)
      · have hw := dec_width l e
        rw [signs_step l e, signs_step (l ++ 32 :: t) (by simp), dec_before l t e, List.drop_append_of_le_length (by omega), ih _ (by rw [List.length_drop]; omega)]
        rfl
  exact this _ l (Nat.le_refl _)
theorem words_join (a b : List UInt8) : words (a ++ 32 :: b) = words a ++ words b := by
  rw [words, signs_before, wordSigns_join, List.map_append]; rfl
theorem words_fold (l : List UInt8) : words (foldText l) = words l := by
  rw [words, signs_foldText, wordSigns_fold]; rfl
/-- A word's words are it. -/
theorem words_one {w : List Int} (h : IsWord w) : words (text w) = [text w] := by
  rw [words, signs_word h, wordSigns_own h.2 h.1]; rfl
/-- Words with a blank behind each. -/
def spaced (l : List (List UInt8)) : List UInt8 := l.flatMap fun w => w ++ [32]
theorem words_spaced_of : ∀ (o : List (List Int)), (∀ w ∈ o, IsWord w) → words (spaced (o.map text)) = o.map text
  | [], _ => rfl
  | a :: o, h => by
    have e : spaced ((a :: o).map text) = text a ++ 32 :: spaced (o.map text) := by simp [spaced]
    rw [e, words_join, words_one (h a (List.mem_cons_self ..)), words_spaced_of o (fun w hw => h w (List.mem_cons_of_mem _ hw))]
    rfl
theorem words_spaced (l : List UInt8) : words (spaced (words l)) = words l := words_spaced_of _ (wordSigns_words _)

/-- May a word be? -/
def mayWord (w : List UInt8) : Bool := decide (w ≠ [] ∧ w.length ≤ 30 ∧ ∀ c ∈ signs w, inWord c = true ∧ fold c = c)
theorem mayWord_of {l w : List UInt8} (h : w ∈ words l) : mayWord w = decide (w.length ≤ 30) := by
  obtain ⟨v, hv, rfl⟩ := List.mem_map.1 h
  have hw := wordSigns_words _ v hv
  unfold mayWord
  rw [signs_word hw, decide_eq_decide]
  exact ⟨fun h => h.2.1, fun h => ⟨text_ne hw.1, h, hw.2⟩⟩
theorem foldText_same {w : List UInt8} (h : ∀ c ∈ signs w, inWord c = true) : foldText w = w ↔ ∀ c ∈ signs w, fold c = c := by
  have ht := text_signs w (fun c hc he => by have := inWord_bd (h c hc); omega)
  constructor
  · intro hf
    have := signs_foldText w
    rw [hf] at this
    have hm : ∀ (l : List Int), l = l.map fold → ∀ c ∈ l, fold c = c := by
      intro l
      induction l with
      | nil => intro _ c hc; cases hc
      | cons a l ih =>
        intro he c hc
        rw [List.map_cons, List.cons.injEq] at he
        rcases List.mem_cons.1 hc with rfl | hc
        · exact he.1.symm
        · exact ih he.2 c hc
    exact hm _ this
  · intro hf
    rw [foldText]
    have : (signs w).map fold = signs w := by
      conv => rhs; rw [← List.map_id (signs w)]
      exact List.map_congr_left (fun c hc => hf c hc)
    rw [this, ht]
end Go.Proofs.YtgcdekaceimdnaaGreat
