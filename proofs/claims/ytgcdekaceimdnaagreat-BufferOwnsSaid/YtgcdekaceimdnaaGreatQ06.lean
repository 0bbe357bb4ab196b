/- Texts laid together: GoodF08, Plain09, GrP09, App08, OnlyS06. -/
import Derived.Test.YtgcdekaceimdnaaGreatTell08
import Derived.Test.YtgcdekaceimdnaaGreatQ05
import Derived.Deep.AppendLies
import Derived.Test.YtgcdekaceimdnaaGreatQ02

/- A small document that may be: one word for what is known of it. No program. -/
set_option linter.unusedVariables false
namespace Go.Proofs.YtgcdekaceimdnaaGreat
open Go

/-- A small document that may be. -/
structure GoodF (l : List Fd) : Prop where
  len : l.length ≤ 8
  names : ∀ f ∈ l, f.1.length ≤ 12
  texts : ∀ f ∈ l, f.2.length ≤ 1024
  apart : ApartF l
  zero : NoZero l
  wordsF : ∀ f ∈ l, (words f.2).length ≤ 500
  wordsS : ∀ s, (wordsD l s).length ≤ 500
  weight : weightD l ≤ 500
theorem le_sum : ∀ {l : List Nat} {a : Nat}, a ∈ l → a ≤ l.sum
  | x :: l, a, h => by
    rw [List.sum_cons]
    rcases List.mem_cons.1 h with rfl | h
    · omega
    · have := le_sum h; omega
theorem wordsD_le {l : List Fd} (ha : ApartF l) (s : Nm) : (wordsD l s).length ≤ weightD l := by
  by_cases h : ∃ f ∈ l, f.1 = s
  · obtain ⟨f, hf, rfl⟩ := h
    unfold weightD
    exact le_sum (List.mem_map.2 ⟨f, hf, rfl⟩)
  · rw [wordsD_other fun f hf e => h ⟨f, hf, e⟩]
    exact Nat.zero_le _
theorem goodF_of {l : List Fd} (hm : mayD l = 0) (ht : ∀ f ∈ l, f.2.length ≤ 1024) : GoodF l := by
  obtain ⟨g1, g2, g3, g4, g5⟩ := mayD_of hm
  refine ⟨g1, fun f hf => ?_, ht, g3, g4, fun f hf => ?_, fun s => Nat.le_trans (wordsD_le g3 s) g5, g5⟩
  · have := g2 f hf
    rw [nameB, Bool.and_eq_true, Bool.and_eq_true, decide_eq_true_iff, decide_eq_true_iff] at this
    exact this.2.2
  · rw [← wordsD_of g3 hf]
    exact Nat.le_trans (wordsD_le g3 _) g5
theorem goodD_good (l : List Fd) : GoodF (goodD l) := goodF_of (goodD_may l) fun f hf => Nat.le_trans (goodUp_text l _ f hf) (by omega)

end Go.Proofs.YtgcdekaceimdnaaGreat

/- Entries in a list: what may be added, how many words, which keys, which postings. No program. -/
set_option linter.unusedVariables false
namespace Go.Proofs.YtgcdekaceimdnaaGreat
open Go

/-- A document: its number, its fields; an entry: its document's number and fields, its own number. -/
abbrev Dc := Int × List Fd
abbrev En := Int × List Fd × Int
abbrev Pn := Int × List Int
/-- What is told of an entry that is to be added behind a last number. -/
def mayE (last : Int) (q : En) : Int := if mayD q.2.1 ≠ 0 then mayD q.2.1 else if q.2.2 < 0 ∨ q.2.2 ≤ last then 12 else 0
def weightE (l : List En) : Nat := (l.map fun q => weightD q.2.1).sum
def keysIn (a : List Nm) (ts : List Tm) : List Nm := (ts.map keyT).foldl putN a
def keysE (l : List En) : List Nm := l.foldl (fun a q => keysIn a (termsD q.2.1)) []
def postIn (i : Nat) (d : List Fd) (ts : List Tm) (key : Nm) : List Pn := (ts.filter fun t => decide (keyT t = key)).map fun t => ((i : Int), placesD d t)
def postsE : Nat → List En → Nm → List Pn
  | _, [], _ => []
  | i, q :: l, key => postIn i q.2.1 (termsD q.2.1) key ++ postsE (i + 1) l key
def lastE (l : List En) : Int := match l.getLast? with | none => -1 | some q => q.2.2
def GoodE (l : List En) : Prop := ∀ q ∈ l, GoodF q.2.1

theorem weightE_take {l : List En} {k : Nat} (hk : k < l.length) : weightE (l.take (k + 1)) = weightE (l.take k) + weightD l[k].2.1 := by
  unfold weightE
  rw [List.take_succ_eq_append_getElem hk, List.map_append, List.sum_append]
  simp
theorem weightE_le {l : List En} (hg : GoodE l) : weightE l ≤ l.length * 500 := by
  unfold weightE
  induction l with
  | nil => simp
  | cons q l ih =>
    have h1 := (hg q (List.mem_cons_self ..)).weight
    have h2 := ih fun x hx => hg x (List.mem_cons_of_mem _ hx)
    simp only [List.map_cons, List.sum_cons, List.length_cons]
    omega
theorem GoodE.take {l : List En} (h : GoodE l) (k : Nat) : GoodE (l.take k) := fun q hq => h q (List.mem_of_mem_take hq)
theorem GoodE.drop {l : List En} (h : GoodE l) (k : Nat) : GoodE (l.drop k) := fun q hq => h q (List.mem_of_mem_drop hq)
theorem GoodE.snoc {l : List En} {q : En} (h : GoodE l) (hq : GoodF q.2.1) : GoodE (l ++ [q]) := fun x hx => by
  rcases List.mem_append.1 hx with hx | hx
  · exact h x hx
  · rw [List.mem_singleton.1 hx]; exact hq
theorem keysIn_take {a : List Nm} {ts : List Tm} {j : Nat} (hj : j < ts.length) : keysIn a (ts.take (j + 1)) = putN (keysIn a (ts.take j)) (keyT ts[j]) := by
  unfold keysIn
  rw [List.take_succ_eq_append_getElem hj, List.map_append, List.foldl_append]
  rfl
theorem keysE_take {l : List En} {k : Nat} (hk : k < l.length) : keysE (l.take (k + 1)) = keysIn (keysE (l.take k)) (termsD l[k].2.1) := by
  unfold keysE
  rw [List.take_succ_eq_append_getElem hk, List.foldl_append]
  rfl
theorem keysIn_length (a : List Nm) (ts : List Tm) : (keysIn a ts).length ≤ ts.length + a.length := by
  have := foldl_putN_length (ts.map keyT) a
  rwa [List.length_map] at this
theorem rise_keysIn {a : List Nm} (h : Rise a) (ts : List Tm) : Rise (keysIn a ts) := rise_foldl_putN _ _ h
theorem mem_keysIn {a : List Nm} {ts : List Tm} {x : Nm} : x ∈ keysIn a ts ↔ (∃ t ∈ ts, keyT t = x) ∨ x ∈ a := by
  rw [keysIn, mem_foldl_putN, List.mem_map]
theorem rise_keysE_from : ∀ (l : List En) {a : List Nm}, Rise a → Rise (l.foldl (fun a q => keysIn a (termsD q.2.1)) a)
  | [], a, h => h
  | q :: l, a, h => rise_keysE_from l (rise_keysIn h _)
theorem rise_keysE (l : List En) : Rise (keysE l) := rise_keysE_from l List.Pairwise.nil
theorem mem_keysE_from : ∀ (l : List En) {a : List Nm} {x : Nm}, x ∈ l.foldl (fun a q => keysIn a (termsD q.2.1)) a ↔ (∃ q ∈ l, ∃ t ∈ termsD q.2.1, keyT t = x) ∨ x ∈ a
  | [], a, x => by simp
  | q :: l, a, x => by
    rw [List.foldl_cons, mem_keysE_from l, mem_keysIn]
    constructor
    · rintro (⟨q', hq', h⟩ | h | h)
      · exact .inl ⟨q', List.mem_cons_of_mem _ hq', h⟩
      · exact .inl ⟨q, List.mem_cons_self .., h⟩
      · exact .inr h
    · rintro (⟨q', hq', h⟩ | h)
      · rcases List.mem_cons.1 hq' with rfl | hq'
        · exact .inr (.inl h)
        · exact .inl ⟨q', hq', h⟩
      · exact .inr (.inr h)
theorem mem_keysE {l : List En} {x : Nm} : x ∈ keysE l ↔ ∃ q ∈ l, ∃ t ∈ termsD q.2.1, keyT t = x := by
  have := mem_keysE_from l (a := []) (x := x)
  simpa [keysE] using this
theorem keysE_length {M : Nat} : ∀ {l : List En} {a : List Nm}, (∀ q ∈ l, (termsD q.2.1).length ≤ M) → (l.foldl (fun a q => keysIn a (termsD q.2.1)) a).length ≤ l.length * M + a.length
  | [], a, _ => by simp
  | q :: l, a, h => by
    have h1 := keysE_length (l := l) (a := keysIn a (termsD q.2.1)) fun x hx => h x (List.mem_cons_of_mem _ hx)
    have h2 := keysIn_length a (termsD q.2.1)
    have h3 := h q (List.mem_cons_self ..)
    simp only [List.foldl_cons, List.length_cons, Nat.add_mul, Nat.one_mul]
    omega
theorem postIn_take {i : Nat} {d : List Fd} {ts : List Tm} {key : Nm} {j : Nat} (hj : j < ts.length) : postIn i d (ts.take (j + 1)) key = if keyT ts[j] = key then postIn i d (ts.take j) key ++ [((i : Int), placesD d ts[j])] else postIn i d (ts.take j) key := by
  unfold postIn
  rw [List.take_succ_eq_append_getElem hj, List.filter_append, List.map_append]
  by_cases h : keyT ts[j] = key
  · simp [h]
  · simp [h]
theorem postsE_snoc : ∀ (l : List En) (i : Nat) (q : En) (key : Nm), postsE i (l ++ [q]) key = postsE i l key ++ postIn (i + l.length) q.2.1 (termsD q.2.1) key
  | [], i, q, key => by simp [postsE]
  | x :: l, i, q, key => by
    rw [List.cons_append, postsE, postsE, postsE_snoc l (i + 1) q key, List.append_assoc, List.length_cons, show i + 1 + l.length = i + (l.length + 1) by omega]
theorem postsE_take {l : List En} {k : Nat} {key : Nm} (hk : k < l.length) : postsE 0 (l.take (k + 1)) key = postsE 0 (l.take k) key ++ postIn k l[k].2.1 (termsD l[k].2.1) key := by
  rw [List.take_succ_eq_append_getElem hk, postsE_snoc, List.length_take, Nat.zero_add, Nat.min_eq_left (by omega)]
theorem lastE_nil : lastE [] = -1 := rfl
theorem lastE_snoc (l : List En) (q : En) : lastE (l ++ [q]) = q.2.2 := by simp [lastE]
theorem lastE_at {l : List En} (h : 0 < l.length) : lastE l = (l[l.length - 1]'(by omega)).2.2 := by
  have h0 : l ≠ [] := fun e => by rw [e] at h; simp at h
  rw [lastE, List.getLast?_eq_some_getLast h0, List.getLast_eq_getElem h0]
/-- Entries of documents made such as may be, their numbers rising from one on. -/
def goodsE (l : List Dc) (most : Nat) (start step : Int) : List En := (l.take most).zipIdx.map fun p => (p.1.1, goodD p.1.2, start + step * (p.2 : Int))
theorem goodsE_length (l : List Dc) (most : Nat) (start step : Int) : (goodsE l most start step).length = min most l.length := by simp [goodsE]
theorem goodsE_take {l : List Dc} {k : Nat} {start step : Int} (hk : k < l.length) : goodsE l (k + 1) start step = goodsE l k start step ++ [(l[k].1, goodD l[k].2, start + step * (k : Int))] := by
  unfold goodsE
  rw [List.take_succ_eq_append_getElem hk, List.zipIdx_append, List.map_append, List.length_take, Nat.zero_add, Nat.min_eq_left (by omega)]
  rfl
theorem goodsE_good (l : List Dc) (most : Nat) (start step : Int) : ∀ q ∈ goodsE l most start step, ∃ d, q.2.1 = goodD d := fun q hq => by
  obtain ⟨p, _, rfl⟩ := List.mem_map.1 hq
  exact ⟨p.1.2, rfl⟩
end Go.Proofs.YtgcdekaceimdnaaGreat

/- Postings gathered by keys: the groups that stand for a list of entries. No program. -/
set_option linter.unusedVariables false
namespace Go.Proofs.YtgcdekaceimdnaaGreat
open Go

/-- A group: a key, and its postings. -/
abbrev GP := Nm × List Pn
def addP : List GP → Nm → Pn → List GP
  | [], t, a => [(t, [a])]
  | p :: g, t, a => if p.1 = t then (p.1, p.2 ++ [a]) :: g else p :: addP g t a
def getP : List GP → Nm → List Pn
  | [], _ => []
  | p :: g, t => if p.1 = t then p.2 else getP g t
theorem getP_add (t u : Nm) (a : Pn) : ∀ g : List GP, getP (addP g t a) u = if t = u then getP g u ++ [a] else getP g u
  | [] => by by_cases h : t = u <;> simp [addP, getP, h]
  | p :: g => by
    rw [addP]
    by_cases h1 : p.1 = t
    · rw [if_pos h1, getP, getP]
      by_cases h2 : t = u
      · rw [if_pos h2, if_pos (h1.trans h2), if_pos (h1.trans h2)]
      · rw [if_neg h2, if_neg (fun e => h2 (h1.symm.trans e)), if_neg (fun e => h2 (h1.symm.trans e))]
    · rw [if_neg h1, getP, getP, getP_add t u a g]
      by_cases h2 : p.1 = u
      · rw [if_pos h2, if_pos h2, if_neg (fun e => h1 (h2.trans e.symm))]
      · rw [if_neg h2, if_neg h2]
theorem addP_keys (t : Nm) (a : Pn) : ∀ g : List GP, (addP g t a).map (·.1) = if t ∈ g.map (·.1) then g.map (·.1) else g.map (·.1) ++ [t]
  | [] => by simp [addP]
  | p :: g => by
    rw [addP]
    by_cases h1 : p.1 = t
    · rw [if_pos h1, if_pos (by simp [h1])]
      simp
    · rw [if_neg h1, List.map_cons, addP_keys t a g]
      by_cases h2 : t ∈ g.map (·.1)
      · rw [if_pos h2, if_pos (show t ∈ (p :: g).map (·.1) from List.mem_cons_of_mem _ h2)]
        simp
      · rw [if_neg h2, if_neg (by rw [List.map_cons, List.mem_cons]; exact fun h => h.elim (fun e => h1 e.symm) h2)]
        simp
theorem addP_mem {t : Nm} {a : Pn} {g : List GP} {x : Nm} : x ∈ (addP g t a).map (·.1) ↔ x ∈ g.map (·.1) ∨ x = t := by
  rw [addP_keys]
  split
  · rename_i h
    exact ⟨.inl, fun h' => h'.elim id fun e => e ▸ h⟩
  · rw [List.mem_append, List.mem_singleton]
theorem addP_nodup {t : Nm} {a : Pn} {g : List GP} (h : (g.map (·.1)).Nodup) : ((addP g t a).map (·.1)).Nodup := by
  rw [addP_keys]
  split
  · exact h
  · rename_i hn
    rw [List.nodup_append]
    exact ⟨h, by simp, fun x hx y hy e => by rw [List.mem_singleton] at hy; subst hy; subst e; exact hn hx⟩
theorem addP_length (t : Nm) (a : Pn) (g : List GP) : (addP g t a).length ≤ g.length + 1 := by
  have := congrArg List.length (addP_keys t a g)
  rw [List.length_map] at this
  rw [this]
  split <;> simp
/-- A document's terms, put behind what there is. -/
def turnP (i : Nat) (d : List Fd) (g : List GP) (ts : List Tm) : List GP := ts.foldl (fun g t => addP g (keyT t) ((i : Int), placesD d t)) g
theorem turnP_take {i : Nat} {d : List Fd} {g : List GP} {ts : List Tm} {k : Nat} (hk : k < ts.length) : turnP i d g (ts.take (k + 1)) = addP (turnP i d g (ts.take k)) (keyT ts[k]) ((i : Int), placesD d ts[k]) := by
  unfold turnP
  rw [List.take_succ_eq_append_getElem hk, List.foldl_append]
  rfl
theorem getP_turn (i : Nat) (d : List Fd) (key : Nm) : ∀ (ts : List Tm) (g : List GP), getP (turnP i d g ts) key = getP g key ++ postIn i d ts key
  | [], g => by simp [turnP, postIn]
  | t :: ts, g => by
    rw [show turnP i d g (t :: ts) = turnP i d (addP g (keyT t) ((i : Int), placesD d t)) ts from rfl, getP_turn i d key ts, getP_add]
    unfold postIn
    by_cases h : keyT t = key
    · rw [if_pos h, List.filter_cons_of_pos (by simpa using h), List.map_cons, List.append_assoc]
      rfl
    · rw [if_neg h, List.filter_cons_of_neg (by simpa using h)]
theorem turnP_nodup (i : Nat) (d : List Fd) : ∀ (ts : List Tm) (g : List GP), (g.map (·.1)).Nodup → ((turnP i d g ts).map (·.1)).Nodup
  | [], g, h => h
  | t :: ts, g, h => turnP_nodup i d ts _ (addP_nodup h)
theorem turnP_mem (i : Nat) (d : List Fd) {x : Nm} : ∀ (ts : List Tm) (g : List GP), x ∈ (turnP i d g ts).map (·.1) ↔ x ∈ g.map (·.1) ∨ ∃ t ∈ ts, keyT t = x
  | [], g => by simp [turnP]
  | t :: ts, g => by
    rw [show turnP i d g (t :: ts) = turnP i d (addP g (keyT t) ((i : Int), placesD d t)) ts from rfl, turnP_mem i d ts, addP_mem]
    constructor
    · rintro ((h | h) | ⟨t', h1, h2⟩)
      · exact .inl h
      · exact .inr ⟨t, List.mem_cons_self .., h.symm⟩
      · exact .inr ⟨t', List.mem_cons_of_mem _ h1, h2⟩
    · rintro (h | ⟨t', h1, h2⟩)
      · exact .inl (.inl h)
      · rcases List.mem_cons.1 h1 with rfl | h1
        · exact .inl (.inr h2.symm)
        · exact .inr ⟨t', h1, h2⟩
theorem turnP_length (i : Nat) (d : List Fd) : ∀ (ts : List Tm) (g : List GP), (turnP i d g ts).length ≤ g.length + ts.length
  | [], g => Nat.le_refl _
  | t :: ts, g => by
    have h1 := turnP_length i d ts (addP g (keyT t) ((i : Int), placesD d t))
    have h2 := addP_length (keyT t) ((i : Int), placesD d t) g
    rw [show turnP i d g (t :: ts) = turnP i d (addP g (keyT t) ((i : Int), placesD d t)) ts from rfl, List.length_cons]
    omega

/-- The groups stand for the entries. -/
structure Stand (g : List GP) (l : List En) : Prop where
  posts : ∀ key, getP g key = postsE 0 l key
  nodup : (g.map (·.1)).Nodup
  keys : ∀ x, x ∈ g.map (·.1) ↔ x ∈ keysE l
theorem Stand.nil : Stand [] [] := ⟨fun _ => rfl, List.nodup_nil, fun x => by simp [keysE]⟩
theorem Stand.turned {g : List GP} {l : List En} (h : Stand g l) (q : En) : Stand (turnP l.length q.2.1 g (termsD q.2.1)) (l ++ [q]) := by
  refine ⟨fun key => ?_, turnP_nodup _ _ _ _ h.nodup, fun x => ?_⟩
  · rw [getP_turn, h.posts, postsE_snoc, Nat.zero_add]
  · rw [turnP_mem, h.keys, mem_keysE, mem_keysE]
    constructor
    · rintro (⟨q', hq', h'⟩ | h')
      · exact ⟨q', List.mem_append_left _ hq', h'⟩
      · exact ⟨q, by simp, h'⟩
    · rintro ⟨q', hq', h'⟩
      rcases List.mem_append.1 hq' with hq' | hq'
      · exact .inl ⟨q', hq', h'⟩
      · rw [List.mem_singleton.1 hq'] at h'; exact .inr h'
theorem keysE_nodup (l : List En) : (keysE l).Nodup := List.Pairwise.imp (fun h e => by subst e; exact absurd h (List.lt_irrefl _)) (rise_keysE l)
theorem Stand.perm {g : List GP} {l : List En} (h : Stand g l) : (g.map (·.1)).Perm (keysE l) := (List.perm_ext_iff_of_nodup h.nodup (keysE_nodup l)).2 h.keys
theorem Stand.length {g : List GP} {l : List En} (h : Stand g l) : g.length = (keysE l).length := by have := h.perm.length_eq; rwa [List.length_map] at this
/-- The keys, sorted. -/
theorem sorted_keys {ks : List Nm} {l : List En} (h : ks.Perm (keysE l)) : ks.mergeSort (fun x y => decide (x ≤ y)) = keysE l := by
  have hp := (List.mergeSort_perm ks (fun x y => decide (x ≤ y))).trans h
  have hs : (ks.mergeSort fun x y => decide (x ≤ y)).Pairwise (fun x y : Nm => x ≤ y) := by
    have := List.pairwise_mergeSort (le := fun x y : Nm => decide (x ≤ y)) (fun a b c h1 h2 => by
      simp only [decide_eq_true_eq] at *
      exact List.le_trans h1 h2) (fun a b => by
      simp only [Bool.or_eq_true, decide_eq_true_eq]
      exact List.le_total a b) ks
    exact this.imp fun h => by simpa using h
  refine hp.eq_of_pairwise (le := fun x y : Nm => x ≤ y) (fun a b _ _ h1 h2 => List.le_antisymm h1 h2) hs ((rise_keysE l).imp fun h => Std.le_of_lt h)
end Go.Proofs.YtgcdekaceimdnaaGreat

/- append of terms, of fields, that lie in some row, onto a list of the call's own. -/
namespace Go.Proofs.YtgcdekaceimdnaaGreat
open Go Go.RowKit
set_option linter.unusedVariables false

/-- A list of terms of the call's own; one of fields. -/
def OwnTm (base : Nat) (w : World) (v : Value) (l : List Tm) : Prop := w.ownsRow base 92 2 v l.length (flds l)
def OwnFd (base : Nat) (w : World) (v : Value) (l : List Fd) : Prop := w.ownsRow base 59 2 v l.length (flds l)
theorem OwnTm.below {base : Nat} {w w' : World} {v : Value} {l : List Tm} (h : OwnTm base w v l) (hb : Below w.heap.size w w') : OwnTm base w' v l := owned_below h hb
theorem OwnTm.low {base b : Nat} {w : World} {v : Value} {l : List Tm} (h : OwnTm base w v l) (hb : b ≤ base) : OwnTm b w v l := owned_low h hb
theorem OwnTm.row {base : Nat} {w : World} {v : Value} {l : List Tm} (h : OwnTm base w v l) : ∃ A c, v = .slice A l.length c ∧ l.length ≤ c ∧ FRow w w.heap.size A l := owned_row h
theorem OwnTm.nil {base : Nat} {w : World} : OwnTm base w (.slice none 0 0) [] := World.ownsRow_nil _ _ _ _
theorem OwnFd.below {base : Nat} {w w' : World} {v : Value} {l : List Fd} (h : OwnFd base w v l) (hb : Below w.heap.size w w') : OwnFd base w' v l := owned_below h hb
theorem OwnFd.low {base b : Nat} {w : World} {v : Value} {l : List Fd} (h : OwnFd base w v l) (hb : b ≤ base) : OwnFd b w v l := owned_low h hb
theorem OwnFd.row {base : Nat} {w : World} {v : Value} {l : List Fd} (h : OwnFd base w v l) : ∃ A c, v = .slice A l.length c ∧ l.length ≤ c ∧ FRow w w.heap.size A l := owned_row h
theorem OwnFd.nil {base : Nat} {w : World} : OwnFd base w (.slice none 0 0) [] := World.ownsRow_nil _ _ _ _
theorem FRow.cut {w : World} {B : Nat} {A : Option Addr} {l : List Fd} (h : FRow w B A l) (k : Nat) : FRow w B A (l.take k) := by
  have := Row.cut h (k * 2)
  rwa [← flds_take] at this
theorem flds_drop : ∀ (l : List Fd) (k : Nat), flds (l.drop k) = (flds l).drop (k * 2)
  | l, 0 => by simp
  | [], k + 1 => by simp [flds]
  | f :: l, k + 1 => by rw [show (k + 1) * 2 = k * 2 + 1 + 1 by omega]; simp [flds, flds_drop l k]
theorem FRow.dropped {w : World} {B b off : Nat} {l : List Fd} (h : FRow w B (some ⟨b, off, none⟩) l) (k : Nat) : FRow w B (some ⟨b, off + k * 2, none⟩) (l.drop k) := by
  unfold FRow at h ⊢
  rw [flds_drop]
  rcases h with h | ⟨b', o', e, hb, hc⟩
  · exact .inl (by rw [h]; simp)
  · injection e with e
    injection e with e1 e2
    subst e1 e2
    refine .inr ⟨b, off + k * 2, rfl, hb, fun j u hu => ?_⟩
    rw [List.getElem?_drop] at hu
    have := hc (k * 2 + j) u hu
    rwa [← Nat.add_assoc] at this
/-- A pair of texts that was just laid in a block of its own. -/
theorem frow_new (w : World) (x : Fd) (t : TypeId) : FRow (w.alloc (.cells #[.string ⟨x.1.toArray⟩, .string ⟨x.2.toArray⟩] t)) (w.alloc (.cells #[.string ⟨x.1.toArray⟩, .string ⟨x.2.toArray⟩] t)).heap.size (some ⟨w.heap.size, 0, none⟩) [x] := by
  refine .inr ⟨w.heap.size, 0, rfl, by simp, fun j u hu => ?_⟩
  have := news_at w (flds [x]) t j u hu
  rw [Addr.add_lit] at this
  exact this
theorem info_term : (Tryz.prog.info? 92).map (fun i => (i.zero, i.size, i.bytes)) = some (some (.agg #[.string ByteArray.empty, .string ByteArray.empty]), 2, 32) := by kernel_rfl

theorem wpList_append_tm {ops : Array Oper} {rest : List Oper} {o : Oper} {a : Act} {Q : Exit → Act → World → Prop} (w : World) (hgd : o.guard = none) (s x : Operand)
    (ho : o.op = .call { callee := .builtin .append, args := #[s, x], argTypes := #[87, 87] })
    (base : Nat) (v : Value) (l : List Tm) (hs : a.eval s = v) (hown : OwnTm base w v l) (A : Option Addr) (m c : Nat) (news : List Tm) (hx : a.eval x = .slice A m c) (hl : news.length = m) (hr : FRow w w.heap.size A news)
    (hlen : l.length + m ≤ 1073741824) (hbase : base ≤ w.heap.size)
    (h : ∀ v' w', OwnTm base w' v' (l ++ news) → Below base w w' → wpList Tryz.prog ops Q rest (a.put o.dst v') w') : wpList Tryz.prog ops Q (o :: rest) a w := by
  obtain ⟨i0, hi0, hz0, hz1, hz2⟩ := info_parts info_term
  refine wpList_append_row w hgd s x 87 ho base 92 i0 _ 2 32 Tryz.underlying87 hi0 hz0 hz1 hz2 rfl (by decide) v l.length (flds l) hs hown w.heap.size A m c (flds news) hx (by rw [flds_length, hl]) hr (flds_oneCell _) (by unfold maxLen; omega) (by omega) hbase fun v' w' h1 h2 => h v' w' ?_ ?_
  · unfold OwnTm
    rw [List.length_append, hl, flds_append]
    exact h1
  · exact (Below.refl base w).grown h2 hbase fun k hk => (hown.lt k hk).1
theorem wpList_append_fd {ops : Array Oper} {rest : List Oper} {o : Oper} {a : Act} {Q : Exit → Act → World → Prop} (w : World) (hgd : o.guard = none) (s x : Operand)
    (ho : o.op = .call { callee := .builtin .append, args := #[s, x], argTypes := #[28, 28] })
    (base : Nat) (v : Value) (l : List Fd) (hs : a.eval s = v) (hown : OwnFd base w v l) (A : Option Addr) (m c : Nat) (news : List Fd) (hx : a.eval x = .slice A m c) (hl : news.length = m) (hr : FRow w w.heap.size A news)
    (hlen : l.length + m ≤ 1073741824) (hbase : base ≤ w.heap.size)
    (h : ∀ v' w', OwnFd base w' v' (l ++ news) → Below base w w' → w.grownBy w' v.ownBlock → wpList Tryz.prog ops Q rest (a.put o.dst v') w') : wpList Tryz.prog ops Q (o :: rest) a w := by
  obtain ⟨i0, hi0, hz0, hz1, hz2⟩ := info_parts info_field
  refine wpList_append_row w hgd s x 28 ho base 59 i0 _ 2 32 Tryz.underlying28 hi0 hz0 hz1 hz2 rfl (by decide) v l.length (flds l) hs hown w.heap.size A m c (flds news) hx (by rw [flds_length, hl]) hr (flds_oneCell _) (by unfold maxLen; omega) (by omega) hbase fun v' w' h1 h2 => h v' w' ?_ ?_ h2
  · unfold OwnFd
    rw [List.length_append, hl, flds_append]
    exact h1
  · exact (Below.refl base w).grown h2 hbase fun k hk => (hown.lt k hk).1
end Go.Proofs.YtgcdekaceimdnaaGreat

/- Nothing turns but some blocks. -/
set_option linter.unusedVariables false
namespace Go.Proofs.YtgcdekaceimdnaaGreat
open Go Go.RowKit

/-- Nothing that was there has turned but the blocks of S. -/
structure OnlyIn (S : Nat → Prop) (w w' : World) : Prop where
  os : w'.os = w.os
  tape : w'.tape = w.tape
  output : w'.output = w.output
  size : w.heap.size ≤ w'.heap.size
  block : ∀ k, k < w.heap.size → ¬ S k → w'.heap[k]? = w.heap[k]?
theorem OnlyIn.of_below {S : Nat → Prop} {w w' : World} (h : Below w.heap.size w w') : OnlyIn S w w' := ⟨h.os, h.tape, h.output, h.size, fun k hk _ => h.block k hk⟩
theorem OnlyIn.trans {S : Nat → Prop} {w w' w'' : World} (h : OnlyIn S w w') (k : OnlyIn S w' w'') : OnlyIn S w w'' :=
  ⟨k.os.trans h.os, k.tape.trans h.tape, k.output.trans h.output, Nat.le_trans h.size k.size, fun i hi hne => (k.block i (Nat.lt_of_lt_of_le hi h.size) hne).trans (h.block i hi hne)⟩
theorem OnlyIn.below {S : Nat → Prop} {base : Nat} {w w' : World} (h : OnlyIn S w w') (hb : ∀ k, S k → base ≤ k) (hw : base ≤ w.heap.size) : Below base w w' :=
  ⟨h.os, h.tape, h.output, h.size, fun k hk => h.block k (by omega) (fun hs => by have := hb k hs; omega)⟩
end Go.Proofs.YtgcdekaceimdnaaGreat
