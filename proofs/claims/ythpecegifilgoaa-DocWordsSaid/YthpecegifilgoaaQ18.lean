/- Texts laid together: Swap08, BytesN08, Many08, Nat. -/
import Derived.Test.YthpecegifilgoaaQ17
import Derived.Test.YthpecegifilgoaaRefText
import Derived.BigCall
import Derived.Deep.AppendLies
import Derived.Test.YthpecegifilgoaaBase

/- Two fields, and the same with their names changed. No program. -/
set_option linter.unusedVariables false
namespace Go.Proofs.Ythpecegifilgoaa
open Go

def nT : Nm := [116]
def nU : Nm := [117]
theorem nTU : nT ≠ nU := by decide
def swapN (s : Nm) : Nm := if s = nT then nU else nT
def swapT (t : Tm) : Tm := (swapN t.1, t.2)
def two (x y : Nm) : List Fd := [(nT, x), (nU, y)]
def owt (x y : Nm) : List Fd := [(nU, x), (nT, y)]
theorem goodF_T (s : Nm) : goodF 0 (nT, s) = (nT, s.take 40) := by rw [goodF, if_pos (show nameB nT = true by decide)]
theorem goodF_U (s : Nm) : goodF 1 (nU, s) = (nU, s.take 40) := by rw [goodF, if_pos (show nameB nU = true by decide)]
theorem good_two {s t : Nm} (h : (goodD (two s t)).length = 2) : goodD (two s t) = two (s.take 40) (t.take 40) := by
  have e : goodD (two s t) = goodUp (two s t) 2 := rfl
  rw [e] at h ⊢
  have h1 := goodUp_length (two s t) 1
  rw [goodUp] at h ⊢
  split at h
  · rename_i h2
    rw [if_pos h2]
    rw [List.length_append, List.length_singleton] at h
    have h3 : (goodUp (two s t) 1).length = 1 := by omega
    rw [goodUp] at h3 ⊢
    split at h3
    · rename_i h4
      rw [if_pos h4]
      show ([] ++ [goodF 0 (nT, s)]) ++ [goodF 1 (nU, t)] = _
      rw [goodF_T, goodF_U]
      rfl
    · simp [goodUp] at h3
  · omega
theorem places_swap (x y : Nm) {t : Tm} (h : t.1 = nT ∨ t.1 = nU) : placesD (owt x y) (swapT t) = placesD (two x y) t := by
  unfold placesD
  congr 1
  rcases h with h | h
  · simp [owt, two, wordsD, swapT, swapN, h]
  · simp [owt, two, wordsD, swapT, swapN, h, nTU, nTU.symm]
theorem weight_swap (x y : Nm) : weightD (owt x y) = weightD (two x y) := by
  simp [weightD, owt, two, wordsD, nTU, nTU.symm]
theorem weight_two (x y : Nm) : weightD (two x y) = (words x).length + (words y).length := by
  simp [weightD, two, wordsD, nTU]
theorem good_owt {x y : Nm} (h : GoodF (two x y)) : GoodF (owt x y) := by
  have hx := h.wordsF (nT, x) (by simp [two])
  have hy := h.wordsF (nU, y) (by simp [two])
  have tx := h.texts (nT, x) (by simp [two])
  have ty := h.texts (nU, y) (by simp [two])
  have hw : weightD (owt x y) ≤ 500 := by rw [weight_swap]; exact h.weight
  have ha : ApartF (owt x y) := by simp [ApartF, owt, nTU.symm]
  refine ⟨by simp [owt], fun f hf => ?_, fun f hf => ?_, ha, fun f hf => ?_, fun f hf => ?_, fun s => Nat.le_trans (wordsD_le ha s) hw, hw⟩
  all_goals
    simp only [owt, List.mem_cons, List.not_mem_nil, or_false] at hf
    rcases hf with rfl | rfl
    all_goals first | assumption | (dsimp only; decide)
theorem two_names {x y : Nm} (h : GoodF (two x y)) {t : Tm} (ht : t ∈ termsD (two x y)) : t.1 = nT ∨ t.1 = nU := by
  obtain ⟨f, hf, h1, _⟩ := (tellD_mem t _).1 ((termsD_mem h.apart t).1 ht)
  simp only [two, List.mem_cons, List.not_mem_nil, or_false] at hf
  rcases hf with rfl | rfl
  · exact .inl h1
  · exact .inr h1
theorem terms_nodup {l : List Fd} (h : NoZero l) : (termsD l).Nodup := by
  have hr := termsD_rise h
  unfold RiseT Rise at hr
  rw [List.pairwise_map] at hr
  exact hr.imp fun {a b} (hab : keyT a < keyT b) (e : a = b) => nm_irrefl (keyT b) (e ▸ hab)
theorem swap_mem {x y : Nm} (h : GoodF (two x y)) {t : Tm} (ht : t.1 = nT ∨ t.1 = nU) : swapT t ∈ termsD (owt x y) ↔ t ∈ termsD (two x y) := by
  rw [termsD_mem h.apart, termsD_mem (good_owt h).apart, tellD_mem, tellD_mem]
  obtain ⟨t1, t2⟩ := t
  rcases ht with ht | ht
  · simp only at ht
    subst ht
    simp [two, owt, swapT, swapN, nTU, nTU.symm]
  · simp only at ht
    subst ht
    simp [two, owt, swapT, swapN, nTU, nTU.symm]
theorem owt_names {x y : Nm} (h : GoodF (two x y)) {t : Tm} (ht : t ∈ termsD (owt x y)) : t.1 = nT ∨ t.1 = nU := by
  obtain ⟨f, hf, h1, _⟩ := (tellD_mem t _).1 ((termsD_mem (good_owt h).apart t).1 ht)
  simp only [owt, List.mem_cons, List.not_mem_nil, or_false] at hf
  rcases hf with rfl | rfl
  · exact .inr h1
  · exact .inl h1
theorem swap_swap {t : Tm} (h : t.1 = nT ∨ t.1 = nU) : swapT (swapT t) = t := by
  obtain ⟨t1, t2⟩ := t
  rcases h with h | h
  · simp only at h
    subst h
    simp [swapT, swapN, nTU.symm]
  · simp only at h
    subst h
    simp [swapT, swapN, nTU.symm]
theorem swap_name {t : Tm} : (swapT t).1 = nT ∨ (swapT t).1 = nU := by
  unfold swapT swapN
  split
  · exact .inr rfl
  · exact .inl rfl
theorem terms_swap {x y : Nm} (h : GoodF (two x y)) : (termsD (owt x y)).length = (termsD (two x y)).length := by
  have hp : ((termsD (two x y)).map swapT).Perm (termsD (owt x y)) := by
    refine (List.perm_ext_iff_of_nodup ?_ (terms_nodup (good_owt h).zero)).2 fun t => ?_
    · rw [List.Nodup, List.pairwise_map]
      refine List.Pairwise.imp_of_mem (fun {a b} ha hb hab e => hab ?_) (terms_nodup h.zero)
      have := congrArg swapT e
      rwa [swap_swap (two_names h ha), swap_swap (two_names h hb)] at this
    · rw [List.mem_map]
      constructor
      · rintro ⟨a, ha, rfl⟩
        exact (swap_mem h (two_names h ha)).2 ha
      · intro ht
        have hn := owt_names h ht
        refine ⟨swapT t, ?_, swap_swap hn⟩
        rw [← swap_mem h swap_name, swap_swap hn]
        exact ht
  rw [← hp.length_eq, List.length_map]
end Go.Proofs.Ythpecegifilgoaa

/- What the statements' own 'words' of layer 8 answers: so many words of one letter. -/
namespace Go.Proofs.Ythpecegifilgoaa
open Go Go.RowKit
set_option linter.unusedVariables false

def wordsB : Nat → List UInt8
  | 0 => []
  | k + 1 => wordsB k ++ [97, 32]
theorem wordsB_length : ∀ k, (wordsB k).length = k * 2
  | 0 => rfl
  | k + 1 => by rw [wordsB, List.length_append, wordsB_length k]; simp; omega
theorem wordsB_front : ∀ k, wordsB (k + 1) = 97 :: 32 :: wordsB k
  | 0 => rfl
  | k + 1 => by
    have h := wordsB_front k
    show wordsB (k + 1) ++ [97, 32] = 97 :: 32 :: wordsB (k + 1)
    rw [h, List.cons_append, List.cons_append, show wordsB k ++ [97, 32] = wordsB (k + 1) from rfl, h]

def WordsBRel (n : Nat) (w : World) (o i : Value) (wr : World) : Prop := ∃ (k : Nat) (vo : Value), vo = o ∧ k ≤ n ∧ i = .int .i64 (k : Int) ∧ wr.ownsRow w.heap.size 5 1 o (wordsB k).length (Lib.byteCells (wordsB k)) ∧ Below w.heap.size w wr

set_option maxHeartbeats 1000000 in
set_option maxRecDepth 100000 in
theorem law08_words (n : Nat) (w : World) (hn : n ≤ 1000) :
    Calls Try.prog 19 #[.int .i64 n] w fun e w' => e = .returned (.string ⟨(wordsB n).toArray⟩) ∧ Below w.heap.size w w' := by
  obtain ⟨i0, hi0, hz0, hz1, hz2⟩ := info_parts info_byte
  go_enter Try.func19, Try.ntmps19
  go_wp2
  go_loopw [3, 4] (fun o i wr => WordsBRel n w o i wr) (fun _ i _ => n - (intOf i).toNat)
  case atStart => exact ⟨0, _, rfl, by omega, rfl, World.ownsRow_nil _ _ _ _, Below.refl _ _⟩
  case round =>
    obtain ⟨k, vo, rfl, hk, rfl, hown, hbw⟩ := hrel
    have hsz := hbw.size
    by_cases hlt : k < n
    · have hl := wordsB_length k
      obtain ⟨bs, hbs⟩ : ∃ bs, bs = wordsB k := ⟨_, rfl⟩
      have HN : Hid (wordsB (k + 1) = bs ++ [97, 32]) := Lib.hid (by rw [hbs]; rfl)
      rw [← hbs] at hown hl
      clear hbs
      go_wp2_with (at_builtin; refine wpList_append_own _ rfl (.tmp 10) (.tmp 11) 63 rfl w.heap.size 5 i0 _ 1 1 Try.underlying63 hi0 hz0 hz1 hz2 rfl (by omega) _ bs.length (Lib.byteCells bs) rfl (hown.alloc _) ⟨_, 0, none⟩ 2 2 [.int .u8 97, .int .u8 32] rfl rfl (news_at _ [.int .u8 97, .int .u8 32] 5) (by intro u hu; simp at hu; rcases hu with rfl | rfl <;> rfl) (by unfold maxLen; omega) (by omega) (by simp; omega) ?_)
      intro v' w5 hown5 hgrow5 _
      have hbw5 := (hbw.alloc (by omega) _).grown hgrow5 (by simp; omega) (fun j hj => (hown.lt j hj).1)
      clear hgrow5
      go_wp2
      refine ⟨⟨k + 1, _, rfl, by omega, by go_num, ?_, hbw5⟩, by simp [intOf]; omega⟩
      rw [HN.out, List.length_append, hl, Lib.byteCells_append]
      exact hown5
    · have hkn : k = n := by omega
      subst hkn
      obtain ⟨A, c, rfl, _, hrow⟩ := owned_row hown
      obtain ⟨bs, hbs⟩ : ∃ bs, bs = wordsB k := ⟨_, rfl⟩
      rw [← hbs] at hrow
      rw [← hbs]
      have hcv := run_string_of (P := Try.prog) hrow 63 9 5 c Try.underlying63 Try.underlying5 Try.underlying9
      have HBS := Lib.hid hbs
      clear hbs
      go_wp2
      go_ret
      exact ⟨ret_string HBS.out, hbw⟩
end Go.Proofs.Ythpecegifilgoaa

/- Documents of two fields of so many words. No program. -/
set_option linter.unusedVariables false
namespace Go.Proofs.Ythpecegifilgoaa
open Go

theorem words_a : words [97] = [[97]] := words_one (w := [97]) ⟨by decide, by decide⟩
theorem words_wordsB : ∀ k, words (wordsB k) = List.replicate k [97]
  | 0 => rfl
  | k + 1 => by
    rw [wordsB_front, show (97 :: 32 :: wordsB k : List UInt8) = [97] ++ 32 :: wordsB k from rfl, words_join, words_a, words_wordsB k]
    rfl
theorem errFrom_many : ∀ (n i : Nat), i ≤ 500 → errFrom i (List.replicate n [97]) = if 500 < i + n then 7 else 0
  | 0, i, h => by rw [if_neg (by omega)]; rfl
  | n + 1, i, h => by
    rw [List.replicate_succ, errFrom, if_neg (by simp)]
    by_cases hi : 500 ≤ i
    · rw [if_pos hi, if_pos (by omega)]
    · rw [if_neg hi, errFrom_many n (i + 1) (by omega), show i + 1 + n = i + (n + 1) by omega]
theorem may_many (n m : Nat) : mayD (two (wordsB n) (wordsB m)) = if 500 < n + m then 7 else 0 := by
  have e1 : nameB nT = true := by decide
  have e2 : nameB nU = true := by decide
  rw [mayD, if_neg (by simp [two]), two, mayF, if_neg (by rw [e1]; decide), if_neg (by simp)]
  simp only [words_wordsB]
  rw [errFrom_many n 0 (by omega), Nat.zero_add]
  by_cases h1 : 500 < n
  · rw [if_pos h1, if_pos (by decide), if_pos (by omega)]
  · rw [if_neg h1, if_neg (by decide), mayF, if_neg (by rw [e2]; decide), if_neg (show ¬ nU ∈ [] ++ [nT] by decide)]
    simp only [words_wordsB]
    rw [errFrom_many m 0 (by omega), Nat.zero_add]
    by_cases h2 : 500 < m
    · rw [if_pos h2, if_pos (by decide), if_pos (by omega)]
    · rw [if_neg h2, if_neg (by decide), mayF, List.length_replicate, List.length_replicate, Nat.zero_add]
theorem weight_many (n m : Nat) : weightD (two (wordsB n) (wordsB m)) = n + m := by
  simp [weightD, two, wordsD, nTU, words_wordsB]
end Go.Proofs.Ythpecegifilgoaa

/- Small facts for the walks of the laws: numbers made from 0 on, texts that are joined. No program. -/
namespace Go.Proofs.Ythpecegifilgoaa
open Go Go.RowKit
set_option linter.unusedVariables false

theorem wf_bd {a : Int} (h : (Lit.int .i64 a).wf = true) : -9223372036854775808 ≤ a ∧ a ≤ 9223372036854775807 := by
  have e1 : IntKind.i64.min = -9223372036854775808 := rfl
  have e2 : IntKind.i64.max = 9223372036854775807 := rfl
  simp [Lit.wf] at h
  omega
/-- A number, made one from 0 on. -/
theorem made_nat {a : Int} (h : -9223372036854775808 ≤ a ∧ a ≤ 9223372036854775807) : ∃ n : Nat, n < 9223372036854775808 ∧ (a < 0 → -(a + 1) = (n : Int)) ∧ (¬ a < 0 → a = (n : Int)) :=
  ⟨(if a < 0 then -(a + 1) else a).toNat, by split <;> omega, fun h0 => by rw [if_pos h0]; omega, fun h0 => by rw [if_neg h0]; omega⟩
theorem str_cat (a b : List UInt8) : (⟨a.toArray⟩ : ByteArray) ++ ⟨b.toArray⟩ = ⟨(a ++ b).toArray⟩ := by
  apply ByteArray.ext
  simp
theorem str_size (a : List UInt8) : (⟨a.toArray⟩ : ByteArray).size = a.length := by simp [ByteArray.size]
end Go.Proofs.Ythpecegifilgoaa
