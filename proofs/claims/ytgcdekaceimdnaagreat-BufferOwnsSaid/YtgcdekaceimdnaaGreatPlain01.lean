/- Plain lists: the signs of bytes, the bytes of signs, and how they go together. No program. -/
import Derived.Lib.RuneBytes
import Derived.Lib.RuneCount
set_option linter.unusedVariables false
namespace Go.Proofs.YtgcdekaceimdnaaGreat
open Go

/-- The character at the beginning of a list of bytes, and how many bytes it has: as the model's own decoding has it. -/
def dec (l : List UInt8) : Nat × Nat :=
  let at' (k : Nat) : Nat := (l.getD k 0).toNat
  let cont (k : Nat) : Bool := k < l.length && at' k / 64 == 2
  let b0 := at' 0
  if b0 < 0x80 then (b0, 1)
  else if b0 / 32 == 6 && cont 1 then
    let c := (b0 % 32) * 64 + at' 1 % 64
    if c ≥ 0x80 then (c, 2) else (65533, 1)
  else if b0 / 16 == 14 && cont 1 && cont 2 then
    let c := (b0 % 16) * 4096 + (at' 1 % 64) * 64 + at' 2 % 64
    if c ≥ 0x800 && Utf8.valid c then (c, 3) else (65533, 1)
  else if b0 / 8 == 30 && cont 1 && cont 2 && cont 3 then
    let c := (b0 % 8) * 262144 + (at' 1 % 64) * 4096 + (at' 2 % 64) * 64 + at' 3 % 64
    if c ≥ 0x10000 && Utf8.valid c then (c, 4) else (65533, 1)
  else (65533, 1)

theorem get_drop (s : ByteArray) (i k : Nat) : (s.get! (i + k)) = (s.data.toList.drop i).getD k 0 := by
  cases s with
  | mk a =>
    simp only [ByteArray.get!, List.getD, List.getElem?_drop, Array.getElem?_toList]
    rw [getElem!_def]
    cases a[i + k]? <;> rfl

theorem decode_dec (s : ByteArray) (i : Nat) : Utf8.decode s i = dec (s.data.toList.drop i) := by
  unfold Utf8.decode dec
  simp only [get_drop s i]
  have hc : ∀ k, decide (i + k < s.size) = decide (k < (s.data.toList.drop i).length) := by
    intro k
    have : s.size = s.data.toList.length := (Array.length_toList (xs := s.data)).symm
    rw [decide_eq_decide, List.length_drop, this]
    omega
  simp only [hc]
  rfl

theorem dec_nil : dec [] = (0, 1) := by decide

theorem dec_width (l : List UInt8) (h : l ≠ []) : 1 ≤ (dec l).2 ∧ (dec l).2 ≤ l.length := by
  have hl : 1 ≤ l.length := by cases l <;> simp_all
  unfold dec
  simp only []
  repeat' split
  all_goals (simp_all; try omega)

theorem dec_valid (l : List UInt8) : Utf8.valid ((dec l).1 : Int) = true := by
  unfold dec
  simp only []
  have hb : ∀ k, (l.getD k 0).toNat < 256 := fun k => (l.getD k 0).toNat_lt
  repeat' split
  all_goals simp_all [Utf8.valid]
  all_goals (try omega)
  all_goals (have h0 := hb 0; have h1 := hb 1; try omega)


/-- The signs of bytes: at most 'fuel' of them. -/
def signsF : Nat → List UInt8 → List Int
  | 0, _ => []
  | f + 1, l => if l = [] then [] else ((dec l).1 : Int) :: signsF f (l.drop (dec l).2)
def signs (l : List UInt8) : List Int := signsF l.length l

theorem signsF_nil (f : Nat) : signsF f [] = [] := by cases f <;> simp [signsF]

theorem signsF_more : ∀ (f g : Nat) (l : List UInt8), l.length ≤ f → l.length ≤ g → signsF f l = signsF g l
  | 0, g, l, hf, _ => by
    have : l = [] := List.eq_nil_of_length_eq_zero (by omega)
    subst this
    rw [signsF_nil, signsF_nil]
  | f + 1, 0, l, _, hg => by
    have : l = [] := List.eq_nil_of_length_eq_zero (by omega)
    subst this
    rw [signsF_nil, signsF_nil]
  | f + 1, g + 1, l, hf, hg => by
    by_cases h : l = []
    · subst h; rw [signsF_nil, signsF_nil]
    · have hw := dec_width l h
      unfold signsF
      rw [if_neg h, if_neg h, signsF_more f g _ (by rw [List.length_drop]; omega) (by rw [List.length_drop]; omega)]

theorem signs_nil : signs [] = [] := rfl

theorem signs_step (l : List UInt8) (h : l ≠ []) : signs l = ((dec l).1 : Int) :: signs (l.drop (dec l).2) := by
  have hw := dec_width l h
  have hl : l.length = (l.length - 1) + 1 := by omega
  unfold signs
  rw [hl, signsF, if_neg h, signsF_more _ _ _ (by rw [List.length_drop]; omega) (Nat.le_refl _)]

theorem signs_length (l : List UInt8) : (signs l).length ≤ l.length := by
  have : ∀ (f : Nat) (l : List UInt8), l.length ≤ f → (signsF f l).length ≤ l.length := by
    intro f
    induction f with
    | zero => intro l h; simp [signsF]
    | succ f ih =>
      intro l h
      by_cases e : l = []
      · subst e; simp [signsF]
      · have hw := dec_width l e
        unfold signsF
        rw [if_neg e]
        have := ih (l.drop (dec l).2) (by rw [List.length_drop]; omega)
        rw [List.length_drop] at this
        simp only [List.length_cons]
        omega
  exact this _ l (Nat.le_refl _)

theorem valid_iff (r : Int) : Utf8.valid r = true ↔ (0 ≤ r ∧ r < 55296) ∨ (57344 ≤ r ∧ r ≤ 1114111) := by
  simp [Utf8.valid]

theorem signs_valid (l : List UInt8) : ∀ c ∈ signs l, Utf8.valid c = true := by
  have : ∀ (f : Nat) (l : List UInt8), ∀ c ∈ signsF f l, Utf8.valid c = true := by
    intro f
    induction f with
    | zero => intro l c h; simp [signsF] at h
    | succ f ih =>
      intro l c h
      by_cases e : l = []
      · subst e; simp [signsF] at h
      · unfold signsF at h
        rw [if_neg e] at h
        rcases List.mem_cons.1 h with h | h
        · subst h; exact dec_valid l
        · exact ih _ c h
  exact this _ l

theorem encode_byte {x : Int} (h0 : 0 ≤ x) (h1 : x < 256) : (x.toNat.toUInt8).toNat = x.toNat := by
  simp; omega

theorem dec_one (b0 : UInt8) (t : List UInt8) (h : b0.toNat < 128) : dec (b0 :: t) = (b0.toNat, 1) := by
  unfold dec; simp only [List.getD_cons_zero]; rw [if_pos h]
theorem dec_two (b0 b1 : UInt8) (t : List UInt8) (h0 : b0.toNat / 32 = 6) (h1 : b1.toNat / 64 = 2) (hc : 128 ≤ (b0.toNat % 32) * 64 + b1.toNat % 64) :
    dec (b0 :: b1 :: t) = ((b0.toNat % 32) * 64 + b1.toNat % 64, 2) := by
  unfold dec
  simp only [List.getD_cons_zero, List.getD_cons_succ]
  rw [if_neg (by omega), if_pos (by simp [h0, h1]), if_pos hc]
theorem dec_three (b0 b1 b2 : UInt8) (t : List UInt8) (h0 : b0.toNat / 16 = 14) (h1 : b1.toNat / 64 = 2) (h2 : b2.toNat / 64 = 2)
    (hc : 2048 ≤ (b0.toNat % 16) * 4096 + (b1.toNat % 64) * 64 + b2.toNat % 64) (hv : Utf8.valid (((b0.toNat % 16) * 4096 + (b1.toNat % 64) * 64 + b2.toNat % 64 : Nat) : Int) = true) :
    dec (b0 :: b1 :: b2 :: t) = ((b0.toNat % 16) * 4096 + (b1.toNat % 64) * 64 + b2.toNat % 64, 3) := by
  unfold dec
  simp only [List.getD_cons_zero, List.getD_cons_succ]
  rw [if_neg (by omega), if_neg (by simp; omega), if_pos (by simp [h0, h1, h2]), if_pos (by rw [Bool.and_eq_true]; exact ⟨by simpa using hc, hv⟩)]
theorem dec_four (b0 b1 b2 b3 : UInt8) (t : List UInt8) (h0 : b0.toNat / 8 = 30) (h1 : b1.toNat / 64 = 2) (h2 : b2.toNat / 64 = 2) (h3 : b3.toNat / 64 = 2)
    (hc : 65536 ≤ (b0.toNat % 8) * 262144 + (b1.toNat % 64) * 4096 + (b2.toNat % 64) * 64 + b3.toNat % 64) (hv : Utf8.valid (((b0.toNat % 8) * 262144 + (b1.toNat % 64) * 4096 + (b2.toNat % 64) * 64 + b3.toNat % 64 : Nat) : Int) = true) :
    dec (b0 :: b1 :: b2 :: b3 :: t) = ((b0.toNat % 8) * 262144 + (b1.toNat % 64) * 4096 + (b2.toNat % 64) * 64 + b3.toNat % 64, 4) := by
  unfold dec
  simp only [List.getD_cons_zero, List.getD_cons_succ]
  rw [if_neg (by omega), if_neg (by simp; omega), if_neg (by simp; omega), if_pos (by simp [h0, h1, h2, h3]), if_pos (by rw [Bool.and_eq_true]; exact ⟨by simpa using hc, hv⟩)]

/-- A valid character's bytes, whatever is behind them, begin with it. -/
theorem dec_encode (r : Int) (t : List UInt8) (h : Utf8.valid r = true) : dec (Lib.encodeRune r ++ t) = (r.toNat, (Lib.encodeRune r).length) := by
  have hv := (valid_iff r).1 h
  obtain ⟨n, rfl⟩ : ∃ n : Nat, r = n := ⟨r.toNat, by omega⟩
  by_cases h1 : n ≤ 127
  · have e0 := encode_byte (x := (n : Int)) (by omega) (by omega)
    simp only [Lib.encodeRune, Lib.encodeRuneZ_one (r := (n : Int)) (by omega) (by omega), List.map_cons, List.map_nil, List.cons_append, List.nil_append]
    rw [dec_one _ _ (by rw [e0]; omega), e0]
    rfl
  by_cases h2 : n ≤ 2047
  · have e0 := encode_byte (x := 192 + (n : Int) / 64) (by omega) (by omega)
    have e1 := encode_byte (x := 128 + (n : Int) % 64) (by omega) (by omega)
    simp only [Lib.encodeRune, Lib.encodeRuneZ_two (r := (n : Int)) (by omega) (by omega), List.map_cons, List.map_nil, List.cons_append, List.nil_append]
    rw [dec_two _ _ _ (by rw [e0]; omega) (by rw [e1]; omega) (by rw [e0, e1]; omega), e0, e1]
    refine Prod.ext ?_ rfl
    show _ = n
    simp only []
    omega
  by_cases h3 : n ≤ 65535
  · have e0 := encode_byte (x := 224 + (n : Int) / 4096) (by omega) (by omega)
    have e1 := encode_byte (x := 128 + (n : Int) / 64 % 64) (by omega) (by omega)
    have e2 := encode_byte (x := 128 + (n : Int) % 64) (by omega) (by omega)
    have en : ((224 + (n : Int) / 4096).toNat % 16) * 4096 + ((128 + (n : Int) / 64 % 64).toNat % 64) * 64 + (128 + (n : Int) % 64).toNat % 64 = n := by omega
    simp only [Lib.encodeRune, Lib.encodeRuneZ_three (r := (n : Int)) (by omega), List.map_cons, List.map_nil, List.cons_append, List.nil_append]
    rw [dec_three _ _ _ _ (by rw [e0]; omega) (by rw [e1]; omega) (by rw [e2]; omega) (by rw [e0, e1, e2, en]; omega) (by rw [e0, e1, e2, en]; exact h), e0, e1, e2, en]
    rfl
  · have e0 := encode_byte (x := 240 + (n : Int) / 262144) (by omega) (by omega)
    have e1 := encode_byte (x := 128 + (n : Int) / 4096 % 64) (by omega) (by omega)
    have e2 := encode_byte (x := 128 + (n : Int) / 64 % 64) (by omega) (by omega)
    have e3 := encode_byte (x := 128 + (n : Int) % 64) (by omega) (by omega)
    have en : ((240 + (n : Int) / 262144).toNat % 8) * 262144 + ((128 + (n : Int) / 4096 % 64).toNat % 64) * 4096 + ((128 + (n : Int) / 64 % 64).toNat % 64) * 64 + (128 + (n : Int) % 64).toNat % 64 = n := by omega
    simp only [Lib.encodeRune, Lib.encodeRuneZ_four (r := (n : Int)) (by omega) (by omega), List.map_cons, List.map_nil, List.cons_append, List.nil_append]
    rw [dec_four _ _ _ _ _ (by rw [e0]; omega) (by rw [e1]; omega) (by rw [e2]; omega) (by rw [e3]; omega) (by rw [e0, e1, e2, e3, en]; omega) (by rw [e0, e1, e2, e3, en]; exact h), e0, e1, e2, e3, en]
    rfl

/-- The bytes of characters. -/
def text (l : List Int) : List UInt8 := l.flatMap Lib.encodeRune

theorem encode_ne (r : Int) (t : List UInt8) : Lib.encodeRune r ++ t ≠ [] := by
  have := Lib.encodeRuneZ_length r
  intro h
  have h2 := congrArg List.length (List.append_eq_nil_iff.1 h).1
  simp only [Lib.encodeRune, List.length_map, List.length_nil] at h2
  omega

theorem signs_text_append (l : List Int) (t : List UInt8) (h : ∀ c ∈ l, Utf8.valid c = true) : signs (text l ++ t) = l ++ signs t := by
  induction l with
  | nil => rfl
  | cons r l ih =>
    have hr := h r (List.mem_cons_self ..)
    have hv := (valid_iff r).1 hr
    have e : text (r :: l) ++ t = Lib.encodeRune r ++ (text l ++ t) := by simp [text]
    rw [e, signs_step _ (encode_ne _ _), dec_encode r _ hr]
    simp only [List.drop_left, List.cons_append]
    rw [ih (fun c hc => h c (List.mem_cons_of_mem _ hc))]
    congr 1
    omega

theorem signs_text (l : List Int) (h : ∀ c ∈ l, Utf8.valid c = true) : signs (text l) = l := by
  have := signs_text_append l [] h
  simpa [signs_nil] using this

theorem text_append (a b : List Int) : text (a ++ b) = text a ++ text b := by simp [text]
theorem text_length (l : List Int) : (text l).length ≤ 4 * l.length := by
  induction l with
  | nil => simp [text]
  | cons r l ih =>
    have := Lib.encodeRuneZ_length r
    have e : text (r :: l) = Lib.encodeRune r ++ text l := by simp [text]
    rw [e, List.length_append, List.length_cons]
    simp only [Lib.encodeRune, List.length_map]
    omega
def isLetter (c : Int) : Bool := decide ((192 ≤ c ∧ c ≤ 591 ∧ c ≠ 215 ∧ c ≠ 247) ∨ (97 ≤ c ∧ c ≤ 122) ∨ (65 ≤ c ∧ c ≤ 90))
def isDigit (c : Int) : Bool := decide (48 ≤ c ∧ c ≤ 57)
def isUpper (c : Int) : Bool := decide ((65 ≤ c ∧ c ≤ 90) ∨ (192 ≤ c ∧ c ≤ 222 ∧ c ≠ 215))
def fold (c : Int) : Int := if isUpper c = true then c + 32 else c
def okSign (c : Int) : Bool := decide (0 ≤ c ∧ c ≤ 1114111 ∧ ¬ (55296 ≤ c ∧ c ≤ 57343))
def clamp (c : Int) : Int := if okSign c = true then c else 65533


theorem okSign_valid (c : Int) : okSign c = Utf8.valid c := by
  rw [Bool.eq_iff_iff, valid_iff]; simp [okSign]; omega
theorem clamp_of {c : Int} (h : Utf8.valid c = true) : clamp c = c := by rw [clamp, okSign_valid, if_pos h]
theorem clamp_valid (c : Int) : Utf8.valid (clamp c) = true := by
  unfold clamp
  split
  · rename_i h; rw [← okSign_valid]; exact h
  · decide
theorem encode_clamp (c : Int) : Lib.encodeRune (clamp c) = Lib.encodeRune c := by
  by_cases h : Utf8.valid c = true
  · rw [clamp_of h]
  · rw [clamp, okSign_valid, if_neg h]
    have hb : c < 0 ∨ (55296 ≤ c ∧ c ≤ 57343) ∨ 1114111 < c := by
      have := mt (valid_iff c).2 h
      omega
    rw [Lib.encodeRune, Lib.encodeRune, Lib.encodeRuneZ_bad hb]
    rfl
theorem text_clamp (l : List Int) : text (l.map clamp) = text l := by
  simp only [text, List.flatMap_map, encode_clamp]
theorem signs_text_clamp (l : List Int) : signs (text l) = l.map clamp := by
  rw [← text_clamp, signs_text]
  intro c hc
  obtain ⟨x, _, rfl⟩ := List.mem_map.1 hc
  exact clamp_valid x
theorem signs_text_join (a b : List Int) : signs (text a ++ text b) = signs (text a) ++ signs (text b) := by
  rw [← text_append, signs_text_clamp, signs_text_clamp, signs_text_clamp, List.map_append]
theorem text_signs_text (l : List Int) : text (signs (text l)) = text l := by rw [signs_text_clamp, text_clamp]

theorem fold_valid {c : Int} (h : Utf8.valid c = true) : Utf8.valid (fold c) = true := by
  rw [valid_iff] at h ⊢
  unfold fold
  split
  · rename_i hu; simp [isUpper] at hu; omega
  · omega
theorem fold_fold (c : Int) : fold (fold c) = fold c := by
  unfold fold
  by_cases h : isUpper c = true
  · rw [if_pos h]
    have : ¬ isUpper (c + 32) = true := by simp [isUpper] at h ⊢; omega
    rw [if_neg this]
  · rw [if_neg h, if_neg h]
theorem letter_fold (c : Int) : isLetter (fold c) = isLetter c := by
  unfold fold
  split
  · rename_i hu
    simp [isUpper] at hu
    rw [Bool.eq_iff_iff]
    simp [isLetter]
    omega
  · rfl
theorem digit_fold (c : Int) : isDigit (fold c) = isDigit c := by
  unfold fold
  split
  · rename_i hu
    simp [isUpper] at hu
    rw [Bool.eq_iff_iff]
    simp [isDigit]
    omega
  · rfl
/-- The text of a text's signs, each folded. -/
def foldText (l : List UInt8) : List UInt8 := text ((signs l).map fold)
theorem signs_foldText (l : List UInt8) : signs (foldText l) = (signs l).map fold := by
  rw [foldText, signs_text]
  intro c hc
  obtain ⟨x, hx, rfl⟩ := List.mem_map.1 hc
  exact fold_valid (signs_valid l x hx)
theorem foldText_twice (l : List UInt8) : foldText (foldText l) = foldText l := by
  rw [foldText, signs_foldText, List.map_map, foldText]
  congr 1
  apply List.map_congr_left
  intro c _
  exact fold_fold c
theorem foldText_length (l : List UInt8) : (foldText l).length ≤ 4 * l.length := by
  have h1 := text_length ((signs l).map fold)
  have h2 := signs_length l
  rw [List.length_map] at h1
  unfold foldText
  omega

/-- How many bytes are below 128. -/
def lows (l : List UInt8) : Nat := (l.filter fun b => decide (b.toNat < 128)).length
/-- How many signs are below 128. -/
def lowSigns (l : List Int) : Nat := (l.filter fun c => decide (c < 128)).length
theorem lows_append (a b : List UInt8) : lows (a ++ b) = lows a + lows b := by simp [lows]
theorem lows_encode (c : Int) (h : Utf8.valid c = true) : lows (Lib.encodeRune c) = if c < 128 then 1 else 0 := by
  have hv := (valid_iff c).1 h
  have low : ∀ x : Int, 128 ≤ x → x < 256 → ¬ (x.toNat.toUInt8).toNat < 128 := fun x h0 h1 => by rw [encode_byte (by omega) h1]; omega
  by_cases h1 : c ≤ 127
  · rw [if_pos (by omega), Lib.encodeRune, Lib.encodeRuneZ_one (by omega) h1]
    have := encode_byte (x := c) (by omega) (by omega)
    simp only [lows, List.map_cons, List.map_nil, List.filter_cons, List.filter_nil, this]
    rw [if_pos (by simp; omega)]
    rfl
  rw [if_neg (by omega)]
  by_cases h2 : c ≤ 2047
  · rw [Lib.encodeRune, Lib.encodeRuneZ_two (by omega) h2]
    simp only [lows, List.map_cons, List.map_nil, List.filter_cons, List.filter_nil]
    rw [if_neg (by simpa only [decide_eq_true_eq] using low _ (by omega) (by omega)), if_neg (by simpa only [decide_eq_true_eq] using low _ (by omega) (by omega))]
    rfl
  by_cases h3 : c ≤ 65535
  · rw [Lib.encodeRune, Lib.encodeRuneZ_three (by omega)]
    simp only [lows, List.map_cons, List.map_nil, List.filter_cons, List.filter_nil]
    rw [if_neg (by simpa only [decide_eq_true_eq] using low _ (by omega) (by omega)), if_neg (by simpa only [decide_eq_true_eq] using low _ (by omega) (by omega)), if_neg (by simpa only [decide_eq_true_eq] using low _ (by omega) (by omega))]
    rfl
  · rw [Lib.encodeRune, Lib.encodeRuneZ_four (by omega) (by omega)]
    simp only [lows, List.map_cons, List.map_nil, List.filter_cons, List.filter_nil]
    rw [if_neg (by simpa only [decide_eq_true_eq] using low _ (by omega) (by omega)), if_neg (by simpa only [decide_eq_true_eq] using low _ (by omega) (by omega)), if_neg (by simpa only [decide_eq_true_eq] using low _ (by omega) (by omega)), if_neg (by simpa only [decide_eq_true_eq] using low _ (by omega) (by omega))]
    rfl
theorem lows_text (l : List Int) : lows (text l) = lowSigns (signs (text l)) := by
  rw [signs_text_clamp]
  induction l with
  | nil => rfl
  | cons c l ih =>
    have e : text (c :: l) = Lib.encodeRune (clamp c) ++ text l := by simp [text, encode_clamp]
    rw [e, lows_append, lows_encode _ (clamp_valid c), ih, List.map_cons]
    unfold lowSigns
    rw [List.filter_cons]
    by_cases h : clamp c < 128
    · rw [if_pos h, if_pos (by simpa using h), List.length_cons]; omega
    · rw [if_neg h, if_neg (by simpa using h)]; omega
end Go.Proofs.YtgcdekaceimdnaaGreat
