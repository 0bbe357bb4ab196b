/- What is told of a document, word by word, gathered by terms. No program. -/
import Derived.Test.YtgcdekaceimdnaaGreatQ05
set_option linter.unusedVariables false
namespace Go.Proofs.YtgcdekaceimdnaaGreat
open Go

/-- The words of a field, as terms, each with its place, counted from i on. -/
def tellF (s : Nm) : Nat → List Nm → List (Tm × Int)
  | _, [] => []
  | i, x :: l => ((s, x), (i : Int)) :: tellF s (i + 1) l
theorem tellF_append (s : Nm) : ∀ (l : List Nm) (i : Nat) (x : Nm), tellF s i (l ++ [x]) = tellF s i l ++ [((s, x), ((i + l.length : Nat) : Int))]
  | [], i, x => rfl
  | y :: l, i, x => by
    rw [List.cons_append, tellF, tellF, tellF_append s l (i + 1) x, List.cons_append, List.length_cons, Nat.add_assoc, Nat.add_comm 1]
theorem tellF_succ (s : Nm) {l : List Nm} {k : Nat} (hk : k < l.length) : tellF s 0 (l.take (k + 1)) = tellF s 0 (l.take k) ++ [((s, l[k]), (k : Int))] := by
  rw [List.take_succ_eq_append_getElem hk, tellF_append, List.length_take, Nat.zero_add, Nat.min_eq_left (by omega)]
theorem tellF_length (s : Nm) : ∀ (l : List Nm) (i : Nat), (tellF s i l).length = l.length
  | [], _ => rfl
  | x :: l, i => by rw [tellF, List.length_cons, tellF_length s l, List.length_cons]
def tellD : List Fd → List (Tm × Int)
  | [] => []
  | f :: l => tellF f.1 0 (words f.2) ++ tellD l
theorem tellD_append : ∀ (l : List Fd) (f : Fd), tellD (l ++ [f]) = tellD l ++ tellF f.1 0 (words f.2)
  | [], f => by simp [tellD]
  | g :: l, f => by rw [List.cons_append, tellD, tellD, tellD_append l f, List.append_assoc]
theorem tellD_succ {l : List Fd} {k : Nat} (hk : k < l.length) : tellD (l.take (k + 1)) = tellD (l.take k) ++ tellF l[k].1 0 (words l[k].2) := by
  rw [List.take_succ_eq_append_getElem hk, tellD_append]

/-- A group: a term, and its places. -/
abbrev Gr := Tm × List Int
def addG : List Gr → Tm → Int → List Gr
  | [], t, a => [(t, [a])]
  | p :: g, t, a => if p.1 = t then (p.1, p.2 ++ [a]) :: g else p :: addG g t a
def groupsT (s : List (Tm × Int)) : List Gr := s.foldl (fun g p => addG g p.1 p.2) []
theorem groupsT_snoc (s : List (Tm × Int)) (t : Tm) (a : Int) : groupsT (s ++ [(t, a)]) = addG (groupsT s) t a := by
  unfold groupsT
  rw [List.foldl_append]
  rfl
def getG : List Gr → Tm → List Int
  | [], _ => []
  | p :: g, t => if p.1 = t then p.2 else getG g t
theorem getG_add (t u : Tm) (a : Int) : ∀ g : List Gr, getG (addG g t a) u = if t = u then getG g u ++ [a] else getG g u
  | [] => by by_cases h : t = u <;> simp [addG, getG, h]
  | p :: g => by
    rw [addG]
    by_cases h1 : p.1 = t
    · rw [if_pos h1, getG, getG]
      by_cases h2 : t = u
      · rw [if_pos h2, if_pos (h1.trans h2), if_pos (h1.trans h2)]
      · rw [if_neg h2, if_neg (fun e => h2 (h1.symm.trans e)), if_neg (fun e => h2 (h1.symm.trans e))]
    · rw [if_neg h1, getG, getG, getG_add t u a g]
      by_cases h2 : p.1 = u
      · rw [if_pos h2, if_pos h2, if_neg (fun e => h1 (h2.trans e.symm))]
      · rw [if_neg h2, if_neg h2]
def placesS (s : List (Tm × Int)) (t : Tm) : List Int := (s.filter fun p => decide (p.1 = t)).map (·.2)
theorem getG_fold (t : Tm) : ∀ (s : List (Tm × Int)) (g : List Gr), getG (s.foldl (fun g p => addG g p.1 p.2) g) t = getG g t ++ placesS s t
  | [], g => by simp [placesS]
  | p :: s, g => by
    rw [List.foldl_cons, getG_fold t s, getG_add]
    unfold placesS
    by_cases h : p.1 = t <;> simp [h]
theorem getG_groups (s : List (Tm × Int)) (t : Tm) : getG (groupsT s) t = placesS s t := by
  rw [groupsT, getG_fold]
  rfl
theorem keys_add (t : Tm) (a : Int) : ∀ g : List Gr, (addG g t a).map (·.1) = if t ∈ g.map (·.1) then g.map (·.1) else g.map (·.1) ++ [t]
  | [] => rfl
  | p :: g => by
    have ih := keys_add t a g
    rw [addG]
    by_cases h : p.1 = t
    · rw [if_pos h, if_pos (by simp [h])]
      rfl
    · rw [if_neg h, List.map_cons, ih, List.map_cons]
      by_cases h2 : t ∈ g.map (·.1)
      · rw [if_pos h2, if_pos (List.mem_cons_of_mem _ h2)]
      · rw [if_neg h2, if_neg]
        · rfl
        · intro h3
          rcases List.mem_cons.1 h3 with h3 | h3
          · exact h h3.symm
          · exact h2 h3
theorem keys_nodup_add {g : List Gr} (h : (g.map (·.1)).Nodup) (t : Tm) (a : Int) : ((addG g t a).map (·.1)).Nodup := by
  rw [keys_add]
  split
  · exact h
  · rename_i hn
    rw [List.nodup_append]
    exact ⟨h, by simp, fun x hx y hy e => hn (by rw [List.mem_singleton] at hy; rw [← hy, ← e]; exact hx)⟩
theorem keys_fold : ∀ (s : List (Tm × Int)) (g : List Gr), (g.map (·.1)).Nodup → ((s.foldl (fun g p => addG g p.1 p.2) g).map (·.1)).Nodup ∧ ∀ t, t ∈ (s.foldl (fun g p => addG g p.1 p.2) g).map (·.1) ↔ t ∈ g.map (·.1) ∨ t ∈ s.map (·.1)
  | [], g, h => ⟨h, by simp⟩
  | p :: s, g, h => by
    obtain ⟨h1, h2⟩ := keys_fold s (addG g p.1 p.2) (keys_nodup_add h _ _)
    refine ⟨h1, fun t => ?_⟩
    rw [List.foldl_cons, h2, keys_add, List.map_cons, List.mem_cons]
    split
    · rename_i hp
      constructor
      · rintro (h | h)
        · exact .inl h
        · exact .inr (.inr h)
      · rintro (h | rfl | h)
        · exact .inl h
        · exact .inl hp
        · exact .inr h
    · rw [List.mem_append, List.mem_singleton, or_assoc]
theorem groups_nodup (s : List (Tm × Int)) : ((groupsT s).map (·.1)).Nodup := (keys_fold s [] (by simp)).1
theorem groups_mem (s : List (Tm × Int)) (t : Tm) : t ∈ (groupsT s).map (·.1) ↔ t ∈ s.map (·.1) := by
  rw [groupsT, (keys_fold s [] (by simp)).2]
  simp
theorem getG_at {g : List Gr} (h : (g.map (·.1)).Nodup) {p : Gr} (hp : p ∈ g) : getG g p.1 = p.2 := by
  induction g with
  | nil => cases hp
  | cons q g ih =>
    rw [List.map_cons, List.nodup_cons] at h
    rw [getG]
    rcases List.mem_cons.1 hp with rfl | hp
    · exact if_pos rfl
    · rw [if_neg (fun e => h.1 (by rw [e]; exact List.mem_map_of_mem hp))]
      exact ih h.2 hp

/-- Fields whose names are apart. -/
def ApartF (l : List Fd) : Prop := l.Pairwise fun f g => f.1 ≠ g.1
theorem wordsD_of {l : List Fd} (h : ApartF l) {f : Fd} (hf : f ∈ l) : wordsD l f.1 = words f.2 := by
  induction l with
  | nil => cases hf
  | cons g l ih =>
    rw [ApartF, List.pairwise_cons] at h
    rw [wordsD]
    rcases List.mem_cons.1 hf with rfl | hf
    · exact if_pos rfl
    · rw [if_neg (h.1 f hf)]
      exact ih h.2 hf
theorem wordsD_other {l : List Fd} {s : Nm} (h : ∀ f ∈ l, f.1 ≠ s) : wordsD l s = [] := by
  induction l with
  | nil => rfl
  | cons g l ih =>
    rw [wordsD, if_neg (h g (List.mem_cons_self ..))]
    exact ih fun f hf => h f (List.mem_cons_of_mem _ hf)
theorem placesS_append (a b : List (Tm × Int)) (t : Tm) : placesS (a ++ b) t = placesS a t ++ placesS b t := by simp [placesS]
theorem placesS_F (s : Nm) (t : Tm) : ∀ (l : List Nm) (i : Nat), placesS (tellF s i l) t = if s = t.1 then placesW i l t.2 else []
  | [], i => by simp [tellF, placesS, placesW]
  | x :: l, i => by
    have ih := placesS_F s t l (i + 1)
    rw [tellF]
    unfold placesS at ih ⊢
    rw [List.filter_cons]
    obtain ⟨t1, t2⟩ := t
    simp only [Prod.mk.injEq] at ih ⊢
    by_cases h1 : s = t1
    · rw [if_pos h1] at ih ⊢
      rw [placesW]
      by_cases h2 : x = t2
      · rw [if_pos h2, if_pos (by simp [h1, h2]), List.map_cons, ih]
      · rw [if_neg h2, if_neg (by simp [h2]), ih]
    · rw [if_neg h1] at ih ⊢
      rw [if_neg (by simp [h1]), ih]
theorem placesS_D {l : List Fd} (h : ApartF l) (t : Tm) : placesS (tellD l) t = placesD l t := by
  induction l with
  | nil => rfl
  | cons f l ih =>
    rw [ApartF, List.pairwise_cons] at h
    rw [tellD, placesS_append, placesS_F, ih h.2]
    unfold placesD
    rw [wordsD]
    by_cases h1 : f.1 = t.1
    · rw [if_pos h1, if_pos h1, wordsD_other (fun g hg e => h.1 g hg (h1.trans e.symm)), placesW, List.append_nil]
    · rw [if_neg h1, if_neg h1, List.nil_append]
theorem tellF_mem (s : Nm) (t : Tm) : ∀ (l : List Nm) (i : Nat), t ∈ (tellF s i l).map (·.1) ↔ t.1 = s ∧ t.2 ∈ l
  | [], i => by simp [tellF]
  | x :: l, i => by
    rw [tellF, List.map_cons, List.mem_cons, tellF_mem s t l, List.mem_cons]
    obtain ⟨t1, t2⟩ := t
    simp only [Prod.mk.injEq]
    constructor
    · rintro (⟨h1, h2⟩ | ⟨h1, h2⟩)
      · exact ⟨h1, .inl h2⟩
      · exact ⟨h1, .inr h2⟩
    · rintro ⟨h1, h2 | h2⟩
      · exact .inl ⟨h1, h2⟩
      · exact .inr ⟨h1, h2⟩
theorem tellD_mem (t : Tm) : ∀ l : List Fd, t ∈ (tellD l).map (·.1) ↔ ∃ f ∈ l, t.1 = f.1 ∧ t.2 ∈ words f.2
  | [] => by simp [tellD]
  | f :: l => by rw [tellD, List.map_append, List.mem_append, tellF_mem, tellD_mem t l]; simp
theorem putAll_mem (s : Nm) (t : Tm) : ∀ (ws : List Nm) (a : List Tm), t ∈ ws.foldl (fun b x => putT b (s, x)) a ↔ t ∈ a ∨ (t.1 = s ∧ t.2 ∈ ws)
  | [], a => by simp
  | x :: ws, a => by
    rw [List.foldl_cons, putAll_mem s t ws, mem_putT, List.mem_cons]
    obtain ⟨t1, t2⟩ := t
    simp only [Prod.mk.injEq]
    constructor
    · rintro ((h | ⟨h1, h2⟩) | ⟨h1, h2⟩)
      · exact .inl h
      · exact .inr ⟨h1, .inl h2⟩
      · exact .inr ⟨h1, .inr h2⟩
    · rintro (h | ⟨h1, h2 | h2⟩)
      · exact .inl (.inl h)
      · exact .inl (.inr ⟨h1, h2⟩)
      · exact .inr ⟨h1, h2⟩
theorem termsFold_mem (l : List Fd) (t : Tm) : ∀ (m : List Fd) (a : List Tm), t ∈ m.foldl (fun a f => (wordsD l f.1).foldl (fun b x => putT b (f.1, x)) a) a ↔ t ∈ a ∨ ∃ f ∈ m, t.1 = f.1 ∧ t.2 ∈ wordsD l f.1
  | [], a => by simp
  | f :: m, a => by
    rw [List.foldl_cons, termsFold_mem l t m, putAll_mem]
    simp [or_assoc]
theorem termsD_mem {l : List Fd} (h : ApartF l) (t : Tm) : t ∈ termsD l ↔ t ∈ (tellD l).map (·.1) := by
  rw [termsD, termsFold_mem, tellD_mem]
  simp only [List.not_mem_nil, false_or]
  constructor
  · rintro ⟨f, hf, h1, h2⟩; exact ⟨f, hf, h1, by rwa [wordsD_of h hf] at h2⟩
  · rintro ⟨f, hf, h1, h2⟩; exact ⟨f, hf, h1, by rwa [wordsD_of h hf]⟩
/-- No name holds a byte 0. -/
def NoZero (l : List Fd) : Prop := ∀ f ∈ l, (0 : UInt8) ∉ f.1
theorem putAll_rise {s : Nm} (h0 : (0 : UInt8) ∉ s) : ∀ (ws : List Nm) (a : List Tm), RiseT a → (∀ t ∈ a, (0 : UInt8) ∉ t.1) → RiseT (ws.foldl (fun b x => putT b (s, x)) a)
  | [], a, h, _ => h
  | x :: ws, a, h, hz => putAll_rise h0 ws _ (riseT_put h hz h0) fun t ht => by
    rcases mem_putT.1 ht with ht | rfl
    · exact hz t ht
    · exact h0
theorem termsFold_rise (l : List Fd) : ∀ (m : List Fd) (a : List Tm), NoZero m → RiseT a → (∀ t ∈ a, (0 : UInt8) ∉ t.1) → RiseT (m.foldl (fun a f => (wordsD l f.1).foldl (fun b x => putT b (f.1, x)) a) a)
  | [], a, _, h, _ => h
  | f :: m, a, hm, h, hz => termsFold_rise l m _ (fun g hg => hm g (List.mem_cons_of_mem _ hg)) (putAll_rise (hm f (List.mem_cons_self ..)) _ _ h hz) fun t ht => by
    rcases (putAll_mem f.1 t _ _).1 ht with ht | ⟨ht, _⟩
    · exact hz t ht
    · rw [ht]; exact hm f (List.mem_cons_self ..)
theorem termsD_rise {l : List Fd} (h : NoZero l) : RiseT (termsD l) := termsFold_rise l l [] h (by simp [RiseT, Rise]) (by simp)
theorem termsD_zero {l : List Fd} (ha : ApartF l) (h : NoZero l) {t : Tm} (ht : t ∈ termsD l) : (0 : UInt8) ∉ t.1 := by
  obtain ⟨f, hf, h1, _⟩ := (tellD_mem t l).1 ((termsD_mem ha t).1 ht)
  rw [h1]
  exact h f hf
theorem nm_not_lt {a b : Nm} (h : a < b) : ¬ b < a := fun h2 => nm_asym h h2
/-- What is put in order by keys, and has the terms of a document each once, is these, rising. -/
theorem terms_sorted {l : List Fd} (ha : ApartF l) (h0 : NoZero l) {ts : List Tm} (hp : ts.Perm ((groupsT (tellD l)).map (·.1))) (hs : ts.Pairwise fun s t => ¬ keyT t < keyT s) : ts = termsD l := by
  have hmem : ∀ t, t ∈ ts ↔ t ∈ termsD l := fun t => by rw [hp.mem_iff, groups_mem, termsD_mem ha]
  have hz : ∀ t ∈ ts, (0 : UInt8) ∉ t.1 := fun t ht => termsD_zero ha h0 ((hmem t).1 ht)
  have hnd : ts.Nodup := hp.nodup_iff.2 (groups_nodup _)
  have hr : RiseT ts := by
    unfold RiseT Rise
    rw [List.pairwise_map]
    have h1 : ts.Pairwise fun s t => s ∈ ts ∧ t ∈ ts ∧ s ≠ t := by
      rw [List.pairwise_iff_getElem]
      intro i j hi hj hij
      exact ⟨List.getElem_mem hi, List.getElem_mem hj, fun e => by have := (List.getElem_inj hnd).1 e; omega⟩
    refine (hs.and h1).imp fun {s t} h => ?_
    obtain ⟨h2, h3, h4, h5⟩ := h
    rcases nm_tri (keyT s) (keyT t) with e | e | e
    · exact e
    · exact absurd (keyT_inj e (hz s h3) (hz t h4)) h5
    · exact absurd e h2
  have h2 : ts.map keyT = (termsD l).map keyT := rise_ext hr (termsD_rise h0) fun k => by
    simp only [List.mem_map]
    constructor
    · rintro ⟨t, ht, rfl⟩; exact ⟨t, (hmem t).1 ht, rfl⟩
    · rintro ⟨t, ht, rfl⟩; exact ⟨t, (hmem t).2 ht, rfl⟩
  have hlen : ts.length = (termsD l).length := by simpa using congrArg List.length h2
  refine List.ext_getElem hlen fun i h3 h4 => ?_
  refine keyT_inj ?_ (hz _ (List.getElem_mem h3)) (termsD_zero ha h0 (List.getElem_mem h4))
  have h5 := List.getElem_of_eq h2 (i := i) (by simpa using h3)
  simpa using h5
theorem tellD_weight {l : List Fd} (h : ApartF l) : (tellD l).length = weightD l := by
  have h1 : ∀ m : List Fd, (∀ f ∈ m, f ∈ l) → (tellD m).length = (m.map fun f => (wordsD l f.1).length).sum := by
    intro m
    induction m with
    | nil => intro _; rfl
    | cons f m ih =>
      intro hm
      rw [tellD, List.length_append, tellF_length, ih fun g hg => hm g (List.mem_cons_of_mem _ hg), List.map_cons, List.sum_cons, wordsD_of h (hm f (List.mem_cons_self ..))]
  exact h1 l fun f hf => hf

/-- What may be: its fields are apart, their names hold no byte 0, their words are not many. -/
theorem mayF_of : ∀ {l : List Fd} {seen : List Nm} {n : Nat}, mayF seen n l = 0 → (∀ f ∈ l, nameB f.1 = true ∧ f.1 ∉ seen) ∧ ApartF l ∧ n + (l.map fun f => (words f.2).length).sum ≤ 500
  | [], seen, n, h => by
    rw [mayF] at h
    split at h
    · cases h
    · exact ⟨by simp, List.Pairwise.nil, by simp; omega⟩
  | f :: l, seen, n, h => by
    rw [mayF] at h
    split at h
    · cases h
    · rename_i h1
      split at h
      · cases h
      · rename_i h2
        split at h
        · rename_i h3; exact absurd h h3
        · obtain ⟨g1, g2, g3⟩ := mayF_of h
          refine ⟨fun g hg => ?_, List.pairwise_cons.2 ⟨fun g hg e => (g1 g hg).2 (by rw [← e]; simp), g2⟩, by rw [List.map_cons, List.sum_cons]; omega⟩
          rcases List.mem_cons.1 hg with rfl | hg
          · exact ⟨by simpa using h1, h2⟩
          · exact ⟨(g1 g hg).1, fun e => (g1 g hg).2 (List.mem_append_left _ e)⟩
theorem mayD_of {l : List Fd} (h : mayD l = 0) : l.length ≤ 8 ∧ (∀ f ∈ l, nameB f.1 = true) ∧ ApartF l ∧ NoZero l ∧ weightD l ≤ 500 := by
  unfold mayD at h
  split at h
  · cases h
  · rename_i h8
    obtain ⟨g1, g2, g3⟩ := mayF_of h
    refine ⟨by omega, fun f hf => (g1 f hf).1, g2, fun f hf => nameB_zero (g1 f hf).1, ?_⟩
    rw [← tellD_weight g2]
    have : ∀ m : List Fd, (tellD m).length = (m.map fun f => (words f.2).length).sum := by
      intro m
      induction m with
      | nil => rfl
      | cons f m ih => rw [tellD, List.length_append, tellF_length, ih, List.map_cons, List.sum_cons]
    rw [this]
    omega

/-- Where words stand, rising. -/
theorem placesW_ge (x : Nm) : ∀ (l : List Nm) (i : Nat), ∀ a ∈ placesW i l x, (i : Int) ≤ a
  | [], i, a, h => by cases h
  | y :: l, i, a, h => by
    rw [placesW] at h
    split at h
    · rcases List.mem_cons.1 h with rfl | h
      · exact Int.le_refl _
      · have := placesW_ge x l (i + 1) a h; omega
    · have := placesW_ge x l (i + 1) a h; omega
theorem placesW_rise (x : Nm) : ∀ (l : List Nm) (i : Nat), (placesW i l x).Pairwise (· < ·)
  | [], i => List.Pairwise.nil
  | y :: l, i => by
    rw [placesW]
    split
    · exact List.pairwise_cons.2 ⟨fun a ha => by have := placesW_ge x l (i + 1) a ha; omega, placesW_rise x l (i + 1)⟩
    · exact placesW_rise x l (i + 1)
theorem placesW_mem (x : Nm) (a : Int) : ∀ (l : List Nm) (i : Nat), a ∈ placesW i l x ↔ ∃ k : Nat, a = ((i + k : Nat) : Int) ∧ l[k]? = some x
  | [], i => by simp [placesW]
  | y :: l, i => by
    rw [placesW]
    have ih := placesW_mem x a l (i + 1)
    constructor
    · intro h
      split at h
      · rename_i hy
        rcases List.mem_cons.1 h with rfl | h
        · exact ⟨0, by simp, by simp [hy]⟩
        · obtain ⟨k, h1, h2⟩ := ih.1 h
          exact ⟨k + 1, by rw [h1]; congr 1; omega, by simpa using h2⟩
      · obtain ⟨k, h1, h2⟩ := ih.1 h
        exact ⟨k + 1, by rw [h1]; congr 1; omega, by simpa using h2⟩
    · rintro ⟨k, h1, h2⟩
      cases k with
      | zero =>
        have : y = x := by simpa using h2
        rw [if_pos this]
        exact List.mem_cons.2 (.inl (by simpa using h1))
      | succ k =>
        have := ih.2 ⟨k, by rw [h1]; congr 1; omega, by simpa using h2⟩
        split
        · exact List.mem_cons_of_mem _ this
        · exact this
/-- Do the words stand there, from place a on? -/
def followW (l : List Nm) (ws : List Nm) (a : Nat) : Bool := decide ((l.drop a).take ws.length = ws)
theorem followW_iff {l ws : List Nm} {a : Nat} : followW l ws a = true ↔ ∀ k (hk : k < ws.length), l[a + k]? = some ws[k] := by
  unfold followW
  rw [decide_eq_true_iff]
  constructor
  · intro h k hk
    have := congrArg (fun m => m[k]?) h
    simp only [List.getElem?_take, List.getElem?_drop, List.getElem?_eq_getElem hk] at this
    rwa [if_pos hk] at this
  · intro h
    apply List.ext_getElem?
    intro k
    rw [List.getElem?_take, List.getElem?_drop]
    split
    · rename_i hk; rw [h k hk, List.getElem?_eq_getElem hk]
    · rename_i hk; rw [List.getElem?_eq_none (by omega)]
theorem phraseW_count (x : Nm) (r l : List Nm) : ∀ (n k : Nat), n = l.length - k → phraseW (x :: r) (l.drop k) = ((placesW k (l.drop k) x).filter fun a => followW l r (a.toNat + 1)).length
  | 0, k, h => by rw [List.drop_eq_nil_of_le (by omega)]; rfl
  | n + 1, k, h => by
    have hk : k < l.length := by omega
    have ih := phraseW_count x r l n (k + 1) (by omega)
    rw [phraseW_at hk, placesW_at hk, ih]
    have e1 : (l.drop k).take (r.length + 1) = l[k] :: (l.drop (k + 1)).take r.length := by rw [List.drop_eq_getElem_cons hk, List.take_succ_cons]
    by_cases h1 : l[k] = x
    · rw [if_pos h1, List.filter_cons]
      have e2 : followW l r (((k : Int)).toNat + 1) = decide ((l.drop (k + 1)).take r.length = r) := by rw [Int.toNat_natCast]; rfl
      rw [e2]
      by_cases h2 : (l.drop (k + 1)).take r.length = r
      · rw [if_pos ⟨by simp, by rw [List.length_cons, e1, h1, h2]⟩, if_pos (by simpa using h2), List.length_cons]; omega
      · rw [if_neg (fun h => h2 (by have := h.2; rw [List.length_cons, e1] at this; injection this)), if_neg (by simpa using h2)]; omega
    · rw [if_neg h1, if_neg (fun h => h1 (by have := h.2; rw [List.length_cons, e1] at this; injection this))]; omega
theorem phraseD_count (l : List Fd) (s x : Nm) (r : List Nm) : phraseD l s (x :: r) = ((placesD l (s, x)).filter fun a => followW (wordsD l s) r (a.toNat + 1)).length := by
  have := phraseW_count x r (wordsD l s) _ 0 rfl
  rwa [List.drop_zero] at this
theorem follow_iff {l : List Fd} {s : Nm} {ws : List Nm} {a : Nat} : followW (wordsD l s) ws a = true ↔ ∀ k (hk : k < ws.length), ((a + k : Nat) : Int) ∈ placesD l (s, ws[k]) := by
  rw [followW_iff]
  constructor
  · intro h k hk
    exact (placesW_mem _ _ _ _).2 ⟨a + k, by rw [Nat.zero_add], h k hk⟩
  · intro h k hk
    obtain ⟨j, h1, h2⟩ := (placesW_mem _ _ _ _).1 (h k hk)
    have : j = a + k := by omega
    rw [← this]
    exact h2
end Go.Proofs.YtgcdekaceimdnaaGreat
