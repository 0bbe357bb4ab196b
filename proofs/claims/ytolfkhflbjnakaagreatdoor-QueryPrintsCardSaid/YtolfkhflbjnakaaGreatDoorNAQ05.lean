/- Texts laid together: App08, Tell08, GoodF08, Plain09, OnlyS06, Nest09g, Box08. -/
import Derived.Test.YtolfkhflbjnakaaGreatDoorNAQ04
import Derived.Deep.AppendLies
import Derived.Test.YtolfkhflbjnakaaGreatDoorNAQ01
import Derived.BigCall
import Derived.BigQuiet
import Derived.Deep.QuietTactic

/- append of terms, of fields, that lie in some row, onto a list of the call's own. -/
namespace Go.Proofs.YtolfkhflbjnakaaGreatDoor
open Go Go.RowKit
set_option linter.unusedVariables false

/-- A list of terms of the call's own; one of fields. -/
def OwnTm (base : Nat) (w : World) (v : Value) (l : List Tm) : Prop := w.ownsRow base 23 2 v l.length (flds l)
def OwnFd (base : Nat) (w : World) (v : Value) (l : List Fd) : Prop := w.ownsRow base 60 2 v l.length (flds l)
theorem OwnTm.below {base : Nat} {w w' : World} {v : Value} {l : List Tm} (h : OwnTm base w v l) (hb : Below w.heap.size w w') : OwnTm base w' v l := owned_below h hb
theorem OwnTm.low {base b : Nat} {w : World} {v : Value} {l : List Tm} (h : OwnTm base w v l) (hb : b ≤ base) : OwnTm b w v l := owned_low h hb
theorem OwnTm.row {base : Nat} {w : World} {v : Value} {l : List Tm} (h : OwnTm base w v l) : ∃ A c, v = .slice A l.length c ∧ l.length ≤ c ∧ FRow w w.heap.size A l := owned_row h
theorem OwnTm.nil {base : Nat} {w : World} : OwnTm base w (.slice none 0 0) [] := World.ownsRow_nil _ _ _ _
theorem OwnFd.below {base : Nat} {w w' : World} {v : Value} {l : List Fd} (h : OwnFd base w v l) (hb : Below w.heap.size w w') : OwnFd base w' v l := owned_below h hb
theorem OwnFd.low {base b : Nat} {w : World} {v : Value} {l : List Fd} (h : OwnFd base w v l) (hb : b ≤ base) : OwnFd b w v l := owned_low h hb
theorem OwnFd.row {base : Nat} {w : World} {v : Value} {l : List Fd} (h : OwnFd base w v l) : ∃ A c, v = .slice A l.length c ∧ l.length ≤ c ∧ FRow w w.heap.size A l := owned_row h
theorem OwnFd.nil {base : Nat} {w : World} : OwnFd base w (.slice none 0 0) [] := World.ownsRow_nil _ _ _ _
theorem FRow.cut {w : World} {B : Nat} {A : Option Addr} {l : List Fd} (h : FRow w B A l) (k : Nat) : FRow w B A (l.take k) := by
  have := Row.cut h (k * 2)
  rwa [← flds_take] at this
theorem flds_drop : ∀ (l : List Fd) (k : Nat), flds (l.drop k) = (flds l).drop (k * 2)
  | l, 0 => by simp
  | [], k + 1 => by simp [flds]
  | f :: l, k + 1 => by rw [show (k + 1) * 2 = k * 2 + 1 + 1 by omega]; simp [flds, flds_drop l k]
theorem FRow.dropped {w : World} {B b off : Nat} {l : List Fd} (h : FRow w B (some ⟨b, off, none⟩) l) (k : Nat) : FRow w B (some ⟨b, off + k * 2, none⟩) (l.drop k) := by
  unfold FRow at h ⊢
  rw [flds_drop]
  rcases h with h | ⟨b', o', e, hb, hc⟩
  · exact .inl (by rw [h]; simp)
  · injection e with e
    injection e with e1 e2
    subst e1 e2
    refine .inr ⟨b, off + k * 2, rfl, hb, fun j u hu => ?_⟩
    rw [List.getElem?_drop] at hu
    have := hc (k * 2 + j) u hu
    rwa [← Nat.add_assoc] at this
/-- A pair of texts that was just laid in a block of its own. -/
theorem frow_new (w : World) (x : Fd) (t : TypeId) : FRow (w.alloc (.cells #[.string ⟨x.1.toArray⟩, .string ⟨x.2.toArray⟩] t)) (w.alloc (.cells #[.string ⟨x.1.toArray⟩, .string ⟨x.2.toArray⟩] t)).heap.size (some ⟨w.heap.size, 0, none⟩) [x] := by
  refine .inr ⟨w.heap.size, 0, rfl, by simp, fun j u hu => ?_⟩
  have := news_at w (flds [x]) t j u hu
  rw [Addr.add_lit] at this
  exact this
theorem info_term : (Tryz.prog.info? 23).map (fun i => (i.zero, i.size, i.bytes)) = some (some (.agg #[.string ByteArray.empty, .string ByteArray.empty]), 2, 32) := by kernel_rfl

theorem wpList_append_tm {ops : Array Oper} {rest : List Oper} {o : Oper} {a : Act} {Q : Exit → Act → World → Prop} (w : World) (hgd : o.guard = none) (s x : Operand)
    (ho : o.op = .call { callee := .builtin .append, args := #[s, x], argTypes := #[42, 42] })
    (base : Nat) (v : Value) (l : List Tm) (hs : a.eval s = v) (hown : OwnTm base w v l) (A : Option Addr) (m c : Nat) (news : List Tm) (hx : a.eval x = .slice A m c) (hl : news.length = m) (hr : FRow w w.heap.size A news)
    (hlen : l.length + m ≤ 1073741824) (hbase : base ≤ w.heap.size)
    (h : ∀ v' w', OwnTm base w' v' (l ++ news) → Below base w w' → wpList Tryz.prog ops Q rest (a.put o.dst v') w') : wpList Tryz.prog ops Q (o :: rest) a w := by
  obtain ⟨i0, hi0, hz0, hz1, hz2⟩ := info_parts info_term
  refine wpList_append_row w hgd s x 42 ho base 23 i0 _ 2 32 Tryz.underlying42 hi0 hz0 hz1 hz2 rfl (by decide) v l.length (flds l) hs hown w.heap.size A m c (flds news) hx (by rw [flds_length, hl]) hr (flds_oneCell _) (by unfold maxLen; omega) (by omega) hbase fun v' w' h1 h2 => h v' w' ?_ ?_
  · unfold OwnTm
    rw [List.length_append, hl, flds_append]
    exact h1
  · exact (Below.refl base w).grown h2 hbase fun k hk => (hown.lt k hk).1
theorem wpList_append_fd {ops : Array Oper} {rest : List Oper} {o : Oper} {a : Act} {Q : Exit → Act → World → Prop} (w : World) (hgd : o.guard = none) (s x : Operand)
    (ho : o.op = .call { callee := .builtin .append, args := #[s, x], argTypes := #[44, 44] })
    (base : Nat) (v : Value) (l : List Fd) (hs : a.eval s = v) (hown : OwnFd base w v l) (A : Option Addr) (m c : Nat) (news : List Fd) (hx : a.eval x = .slice A m c) (hl : news.length = m) (hr : FRow w w.heap.size A news)
    (hlen : l.length + m ≤ 1073741824) (hbase : base ≤ w.heap.size)
    (h : ∀ v' w', OwnFd base w' v' (l ++ news) → Below base w w' → w.grownBy w' v.ownBlock → wpList Tryz.prog ops Q rest (a.put o.dst v') w') : wpList Tryz.prog ops Q (o :: rest) a w := by
  obtain ⟨i0, hi0, hz0, hz1, hz2⟩ := info_parts info_field
  refine wpList_append_row w hgd s x 44 ho base 60 i0 _ 2 32 Tryz.underlying44 hi0 hz0 hz1 hz2 rfl (by decide) v l.length (flds l) hs hown w.heap.size A m c (flds news) hx (by rw [flds_length, hl]) hr (flds_oneCell _) (by unfold maxLen; omega) (by omega) hbase fun v' w' h1 h2 => h v' w' ?_ ?_ h2
  · unfold OwnFd
    rw [List.length_append, hl, flds_append]
    exact h1
  · exact (Below.refl base w).grown h2 hbase fun k hk => (hown.lt k hk).1
end Go.Proofs.YtolfkhflbjnakaaGreatDoor

/- What is told of a document, word by word, gathered by terms. No program. -/
set_option linter.unusedVariables false
namespace Go.Proofs.YtolfkhflbjnakaaGreatDoor
open Go

/-- The words of a field, as terms, each with its place, counted from i on. -/
def tellF (s : Nm) : Nat → List Nm → List (Tm × Int)
  | _, [] => []
  | i, x :: l => ((s, x), (i : Int)) :: tellF s (i + 1) l
theorem tellF_append (s : Nm) : ∀ (l : List Nm) (i : Nat) (x : Nm), tellF s i (l ++ [x]) = tellF s i l ++ [((s, x), ((i + l.length : Nat) : Int))]
  | [], i, x => rfl
  | y :: l, i, x => by
    rw [List.cons_append, tellF, tellF, tellF_append s l (i + 1) x, List.cons_append, List.length_cons, Nat.add_assoc, Nat.add_comm 1]
theorem tellF_succ (s : Nm) {l : List Nm} {k : Nat} (hk : k < l.length) : tellF s 0 (l.take (k + 1)) = tellF s 0 (l.take k) ++ [((s, l[k]), (k : Int))] := by
  rw [List.take_succ_eq_append_getElem hk, tellF_append, List.length_take, Nat.zero_add, Nat.min_eq_left (by omega)]
theorem tellF_length (s : Nm) : ∀ (l : List Nm) (i : Nat), (tellF s i l).length = l.length
  | [], _ => rfl
  | x :: l, i => by rw [tellF, List.length_cons, tellF_length s l, List.length_cons]
def tellD : List Fd → List (Tm × Int)
  | [] => []
  | f :: l => tellF f.1 0 (words f.2) ++ tellD l
theorem tellD_append : ∀ (l : List Fd) (f : Fd), tellD (l ++ [f]) = tellD l ++ tellF f.1 0 (words f.2)
  | [], f => by simp [tellD]
  | g :: l, f => by rw [List.cons_append, tellD, tellD, tellD_append l f, List.append_assoc]
theorem tellD_succ {l : List Fd} {k : Nat} (hk : k < l.length) : tellD (l.take (k + 1)) = tellD (l.take k) ++ tellF l[k].1 0 (words l[k].2) := by
  rw [List.take_succ_eq_append_getElem hk, tellD_append]

/-- A group: a term, and its places. -/
abbrev Gr := Tm × List Int
def addG : List Gr → Tm → Int → List Gr
  | [], t, a => [(t, [a])]
  | p :: g, t, a => if p.1 = t then (p.1, p.2 ++ [a]) :: g else p :: addG g t a
def groupsT (s : List (Tm × Int)) : List Gr := s.foldl (fun g p => addG g p.1 p.2) []
theorem groupsT_snoc (s : List (Tm × Int)) (t : Tm) (a : Int) : groupsT (s ++ [(t, a)]) = addG (groupsT s) t a := by
  unfold groupsT
  rw [List.foldl_append]
  rfl
def getG : List Gr → Tm → List Int
  | [], _ => []
  | p :: g, t => if p.1 = t then p.2 else getG g t
theorem getG_add (t u : Tm) (a : Int) : ∀ g : List Gr, getG (addG g t a) u = if t = u then getG g u ++ [a] else getG g u
  | [] => by by_cases h : t = u <;> simp [addG, getG, h]
  | p :: g => by
    rw [addG]
    by_cases h1 : p.1 = t
    · rw [if_pos h1, getG, getG]
      by_cases h2 : t = u
      · rw [if_pos h2, if_pos (h1.trans h2), if_pos (h1.trans h2)]
      · rw [if_neg h2, if_neg (fun e => h2 (h1.symm.trans e)), if_neg (fun e => h2 (h1.symm.trans e))]
    · rw [if_neg h1, getG, getG, getG_add t u a g]
      by_cases h2 : p.1 = u
      · rw [if_pos h2, if_pos h2, if_neg (fun e => h1 (h2.trans e.symm))]
      · rw [if_neg h2, if_neg h2]
def placesS (s : List (Tm × Int)) (t : Tm) : List Int := (s.filter fun p => decide (p.1 = t)).map (·.2)
theorem getG_fold (t : Tm) : ∀ (s : List (Tm × Int)) (g : List Gr), getG (s.foldl (fun g p => addG g p.1 p.2) g) t = getG g t ++ placesS s t
  | [], g => by simp [placesS]
  | p :: s, g => by
    rw [List.foldl_cons, getG_fold t s, getG_add]
    unfold placesS
    by_cases h : p.1 = t <;> simp [h]
theorem getG_groups (s : List (Tm × Int)) (t : Tm) : getG (groupsT s) t = placesS s t := by
  rw [groupsT, getG_fold]
  rfl
theorem keys_add (t : Tm) (a : Int) : ∀ g : List Gr, (addG g t a).map (·.1) = if t ∈ g.map (·.1) then g.map (·.1) else g.map (·.1) ++ [t]
  | [] => rfl
  | p :: g => by
    have ih := keys_add t a g
    rw [addG]
    by_cases h : p.1 = t
    · rw [if_pos h, if_pos (by simp [h])]
      rfl
    · rw [if_neg h, List.map_cons, ih, List.map_cons]
      by_cases h2 : t ∈ g.map (·.1)
      · rw [if_pos h2, if_pos (List.mem_cons_of_mem _ h2)]
      · rw [if_neg h2, if_neg]
        · rfl
        · intro h3
          rcases List.mem_cons.1 h3 with h3 | h3
          · exact h h3.symm
          · exact h2 h3
theorem keys_nodup_add {g : List Gr} (h : (g.map (·.1)).Nodup) (t : Tm) (a : Int) : ((addG g t a).map (·.1)).Nodup := by
  rw [keys_add]
  split
  · exact h
  · rename_i hn
    rw [List.nodup_append]
    exact ⟨h, by simp, fun x hx y hy e => hn (by rw [List.mem_singleton] at hy; rw [← hy, ← e]; exact hx)⟩
theorem keys_fold : ∀ (s : List (Tm × Int)) (g : List Gr), (g.map (·.1)).Nodup → ((s.foldl (fun g p => addG g p.1 p.2) g).map (·.1)).Nodup ∧ ∀ t, t ∈ (s.foldl (fun g p => addG g p.1 p.2) g).map (·.1) ↔ t ∈ g.map (·.1) ∨ t ∈ s.map (·.1)
  | [], g, h => ⟨h, by simp⟩
  | p :: s, g, h => by
    obtain ⟨h1, h2⟩ := keys_fold s (addG g p.1 p.2) (keys_nodup_add h _ _)
    refine ⟨h1, fun t => ?_⟩
    rw [List.foldl_cons, h2, keys_add, List.map_cons, List.mem_cons]
    split
    · rename_i hp
      constructor
      · rintro (h | h)
        · exact .inl h
        · exact .inr (.inr h)
      · rintro (h | rfl | h)
        · exact .inl h
        · exact .inl hp
        · exact .inr h
    · rw [List.mem_append, List.mem_singleton, or_assoc]
theorem groups_nodup (s : List (Tm × Int)) : ((groupsT s).map (·.1)).Nodup := (keys_fold s [] (by simp)).1
theorem groups_mem (s : List (Tm × Int)) (t : Tm) : t ∈ (groupsT s).map (·.1) ↔ t ∈ s.map (·.1) := by
  rw [groupsT, (keys_fold s [] (by simp)).2]
  simp
theorem getG_at {g : List Gr} (h : (g.map (·.1)).Nodup) {p : Gr} (hp : p ∈ g) : getG g p.1 = p.2 := by
  induction g with
  | nil => cases hp
  | cons q g ih =>
    rw [List.map_cons, List.nodup_cons] at h
    rw [getG]
    rcases List.mem_cons.1 hp with rfl | hp
    · exact if_pos rfl
    · rw [if_neg (fun e => h.1 (by rw [e]; exact List.mem_map_of_mem hp))]
      exact ih h.2 hp

/-- Fields whose names are apart. -/
def ApartF (l : List Fd) : Prop := l.Pairwise fun f g => f.1 ≠ g.1
theorem wordsD_of {l : List Fd} (h : ApartF l) {f : Fd} (hf : f ∈ l) : wordsD l f.1 = words f.2 := by
  induction l with
  | nil => cases hf
  | cons g l ih =>
    rw [ApartF, List.pairwise_cons] at h
    rw [wordsD]
    rcases List.mem_cons.1 hf with rfl | hf
    · exact if_pos rfl
    · rw [if_neg (h.1 f hf)]
      exact ih h.2 hf
theorem wordsD_other {l : List Fd} {s : Nm} (h : ∀ f ∈ l, f.1 ≠ s) : wordsD l s = [] := by
  induction l with
  | nil => rfl
  | cons g l ih =>
    rw [wordsD, if_neg (h g (List.mem_cons_self ..))]
    exact ih fun f hf => h f (List.mem_cons_of_mem _ hf)
theorem placesS_append (a b : List (Tm × Int)) (t : Tm) : placesS (a ++ b) t = placesS a t ++ placesS b t := by simp [placesS]
theorem placesS_F (s : Nm) (t : Tm) : ∀ (l : List Nm) (i : Nat), placesS (tellF s i l) t = if s = t.1 then placesW i l t.2 else []
  | [], i => by simp [tellF, placesS, placesW]
  | x :: l, i => by
    have ih := placesS_F s t l (i + 1)
    rw [tellF]
    unfold placesS at ih ⊢
    rw [List.filter_cons]
    obtain ⟨t1, t2⟩ := t
    simp only [Prod.mk.injEq] at ih ⊢
    by_cases h1 : s = t1
    · rw [if_pos h1] at ih ⊢
      rw [placesW]
      by_cases h2 : x = t2
      · rw [if_pos h2, if_pos (by simp [h1, h2]), List.map_cons, ih]
      · rw [if_neg h2, if_neg (by simp [h2]), ih]
    · rw [if_neg h1] at ih ⊢
      rw [if_neg (by simp [h1]), ih]
theorem placesS_D {l : List Fd} (h : ApartF l) (t : Tm) : placesS (tellD l) t = placesD l t := by
  induction l with
  | nil => rfl
  | cons f l ih =>
    rw [ApartF, List.pairwise_cons] at h
    rw [tellD, placesS_append, placesS_F, ih h.2]
    unfold placesD
    rw [wordsD]
    by_cases h1 : f.1 = t.1
    · rw [if_pos h1, if_pos h1, wordsD_other (fun g hg e => h.1 g hg (h1.trans e.symm)), placesW, List.append_nil]
    · rw [if_neg h1, if_neg h1, List.nil_append]
theorem tellF_mem (s : Nm) (t : Tm) : ∀ (l : List Nm) (i : Nat), t ∈ (tellF s i l).map (·.1) ↔ t.1 = s ∧ t.2 ∈ l
  | [], i => by simp [tellF]
  | x :: l, i => by
    rw [tellF, List.map_cons, List.mem_cons, tellF_mem s t l, List.mem_cons]
    obtain ⟨t1, t2⟩ := t
    simp only [Prod.mk.injEq]
    constructor
    · rintro (⟨h1, h2⟩ | ⟨h1, h2⟩)
      · exact ⟨h1, .inl h2⟩
      · exact ⟨h1, .inr h2⟩
    · rintro ⟨h1, h2 | h2⟩
      · exact .inl ⟨h1, h2⟩
      · exact .inr ⟨h1, h2⟩
theorem tellD_mem (t : Tm) : ∀ l : List Fd, t ∈ (tellD l).map (·.1) ↔ ∃ f ∈ l, t.1 = f.1 ∧ t.2 ∈ words f.2
  | [] => by simp [tellD]
  | f :: l => by rw [tellD, List.map_append, List.mem_append, tellF_mem, tellD_mem t l]; simp
theorem putAll_mem (s : Nm) (t : Tm) : ∀ (ws : List Nm) (a : List Tm), t ∈ ws.foldl (fun b x => putT b (s, x)) a ↔ t ∈ a ∨ (t.1 = s ∧ t.2 ∈ ws)
  | [], a => by simp
  | x :: ws, a => by
    rw [List.foldl_cons, putAll_mem s t ws, mem_putT, List.mem_cons]
    obtain ⟨t1, t2⟩ := t
    simp only [Prod.mk.injEq]
    constructor
    · rintro ((h | ⟨h1, h2⟩) | ⟨h1, h2⟩)
      · exact .inl h
      · exact .inr ⟨h1, .inl h2⟩
      · exact .inr ⟨h1, .inr h2⟩
    · rintro (h | ⟨h1, h2 | h2⟩)
      · exact .inl (.inl h)
      · exact .inl (.inr ⟨h1, h2⟩)
      · exact .inr ⟨h1, h2⟩
theorem termsFold_mem (l : List Fd) (t : Tm) : ∀ (m : List Fd) (a : List Tm), t ∈ m.foldl (fun a f => (wordsD l f.1).foldl (fun b x => putT b (f.1, x)) a) a ↔ t ∈ a ∨ ∃ f ∈ m, t.1 = f.1 ∧ t.2 ∈ wordsD l f.1
  | [], a => by simp
  | f :: m, a => by
    rw [List.foldl_cons, termsFold_mem l t m, putAll_mem]
    simp [or_assoc]
theorem termsD_mem {l : List Fd} (h : ApartF l) (t : Tm) : t ∈ termsD l ↔ t ∈ (tellD l).map (·.1) := by
  rw [termsD, termsFold_mem, tellD_mem]
  simp only [List.not_mem_nil, false_or]
  constructor
  · rintro ⟨f, hf, h1, h2⟩; exact ⟨f, hf, h1, by rwa [wordsD_of h hf] at h2⟩
  · rintro ⟨f, hf, h1, h2⟩; exact ⟨f, hf, h1, by rwa [wordsD_of h hf]⟩
/-- No name holds a byte 0. -/
def NoZero (l : List Fd) : Prop := ∀ f ∈ l, (0 : UInt8) ∉ f.1
theorem putAll_rise {s : Nm} (h0 : (0 : UInt8) ∉ s) : ∀ (ws : List Nm) (a : List Tm), RiseT a → (∀ t ∈ a, (0 : UInt8) ∉ t.1) → RiseT (ws.foldl (fun b x => putT b (s, x)) a)
  | [], a, h, _ => h
  | x :: ws, a, h, hz => putAll_rise h0 ws _ (riseT_put h hz h0) fun t ht => by
    rcases mem_putT.1 ht with ht | rfl
    · exact hz t ht
    · exact h0
theorem termsFold_rise (l : List Fd) : ∀ (m : List Fd) (a : List Tm), NoZero m → RiseT a → (∀ t ∈ a, (0 : UInt8) ∉ t.1) → RiseT (m.foldl (fun a f => (wordsD l f.1).foldl (fun b x => putT b (f.1, x)) a) a)
  | [], a, _, h, _ => h
  | f :: m, a, hm, h, hz => termsFold_rise l m _ (fun g hg => hm g (List.mem_cons_of_mem _ hg)) (putAll_rise (hm f (List.mem_cons_self ..)) _ _ h hz) fun t ht => by
    rcases (putAll_mem f.1 t _ _).1 ht with ht | ⟨ht, _⟩
    · exact hz t ht
    · rw [ht]; exact hm f (List.mem_cons_self ..)
theorem termsD_rise {l : List Fd} (h : NoZero l) : RiseT (termsD l) := termsFold_rise l l [] h (by simp [RiseT, Rise]) (by simp)
theorem termsD_zero {l : List Fd} (ha : ApartF l) (h : NoZero l) {t : Tm} (ht : t ∈ termsD l) : (0 : UInt8) ∉ t.1 := by
  obtain ⟨f, hf, h1, _⟩ := (tellD_mem t l).1 ((termsD_mem ha t).1 ht)
  rw [h1]
  exact h f hf
theorem nm_not_lt {a b : Nm} (h : a < b) : ¬ b < a := fun h2 => nm_asym h h2
/-- What is put in order by keys, and has the terms of a document each once, is these, rising. -/
theorem terms_sorted {l : List Fd} (ha : ApartF l) (h0 : NoZero l) {ts : List Tm} (hp : ts.Perm ((groupsT (tellD l)).map (·.1))) (hs : ts.Pairwise fun s t => ¬ keyT t < keyT s) : ts = termsD l := by
  have hmem : ∀ t, t ∈ ts ↔ t ∈ termsD l := fun t => by rw [hp.mem_iff, groups_mem, termsD_mem ha]
  have hz : ∀ t ∈ ts, (0 : UInt8) ∉ t.1 := fun t ht => termsD_zero ha h0 ((hmem t).1 ht)
  have hnd : ts.Nodup := hp.nodup_iff.2 (groups_nodup _)
  have hr : RiseT ts := by
    unfold RiseT Rise
    rw [List.pairwise_map]
    have h1 : ts.Pairwise fun s t => s ∈ ts ∧ t ∈ ts ∧ s ≠ t := by
      rw [List.pairwise_iff_getElem]
      intro i j hi hj hij
      exact ⟨List.getElem_mem hi, List.getElem_mem hj, fun e => by have := (List.getElem_inj hnd).1 e; omega⟩
    refine (hs.and h1).imp fun {s t} h => ?_
    obtain ⟨h2, h3, h4, h5⟩ := h
    rcases nm_tri (keyT s) (keyT t) with e | e | e
    · exact e
    · exact absurd (keyT_inj e (hz s h3) (hz t h4)) h5
    · exact absurd e h2
  have h2 : ts.map keyT = (termsD l).map keyT := rise_ext hr (termsD_rise h0) fun k => by
    simp only [List.mem_map]
    constructor
    · rintro ⟨t, ht, rfl⟩; exact ⟨t, (hmem t).1 ht, rfl⟩
    · rintro ⟨t, ht, rfl⟩; exact ⟨t, (hmem t).2 ht, rfl⟩
  have hlen : ts.length = (termsD l).length := by simpa using congrArg List.length h2
  refine List.ext_getElem hlen fun i h3 h4 => ?_
  refine keyT_inj ?_ (hz _ (List.getElem_mem h3)) (termsD_zero ha h0 (List.getElem_mem h4))
  have h5 := List.getElem_of_eq h2 (i := i) (by simpa using h3)
  simpa using h5
theorem tellD_weight {l : List Fd} (h : ApartF l) : (tellD l).length = weightD l := by
  have h1 : ∀ m : List Fd, (∀ f ∈ m, f ∈ l) → (tellD m).length = (m.map fun f => (wordsD l f.1).length).sum := by
    intro m
    induction m with
    | nil => intro _; rfl
    | cons f m ih =>
      intro hm
      rw [tellD, List.length_append, tellF_length, ih fun g hg => hm g (List.mem_cons_of_mem _ hg), List.map_cons, List.sum_cons, wordsD_of h (hm f (List.mem_cons_self ..))]
  exact h1 l fun f hf => hf

/-- What may be: its fields are apart, their names hold no byte 0, their words are not many. -/
theorem mayF_of : ∀ {l : List Fd} {seen : List Nm} {n : Nat}, mayF seen n l = 0 → (∀ f ∈ l, nameB f.1 = true ∧ f.1 ∉ seen) ∧ ApartF l ∧ n + (l.map fun f => (words f.2).length).sum ≤ 500
  | [], seen, n, h => by
    rw [mayF] at h
    split at h
    · cases h
    · exact ⟨by simp, List.Pairwise.nil, by simp; omega⟩
  | f :: l, seen, n, h => by
    rw [mayF] at h
    split at h
    · cases h
    · rename_i h1
      split at h
      · cases h
      · rename_i h2
        split at h
        · rename_i h3; exact absurd h h3
        · obtain ⟨g1, g2, g3⟩ := mayF_of h
          refine ⟨fun g hg => ?_, List.pairwise_cons.2 ⟨fun g hg e => (g1 g hg).2 (by rw [← e]; simp), g2⟩, by rw [List.map_cons, List.sum_cons]; omega⟩
          rcases List.mem_cons.1 hg with rfl | hg
          · exact ⟨by simpa using h1, h2⟩
          · exact ⟨(g1 g hg).1, fun e => (g1 g hg).2 (List.mem_append_left _ e)⟩
theorem mayD_of {l : List Fd} (h : mayD l = 0) : l.length ≤ 8 ∧ (∀ f ∈ l, nameB f.1 = true) ∧ ApartF l ∧ NoZero l ∧ weightD l ≤ 500 := by
  unfold mayD at h
  split at h
  · cases h
  · rename_i h8
    obtain ⟨g1, g2, g3⟩ := mayF_of h
    refine ⟨by omega, fun f hf => (g1 f hf).1, g2, fun f hf => nameB_zero (g1 f hf).1, ?_⟩
    rw [← tellD_weight g2]
    have : ∀ m : List Fd, (tellD m).length = (m.map fun f => (words f.2).length).sum := by
      intro m
      induction m with
      | nil => rfl
      | cons f m ih => rw [tellD, List.length_append, tellF_length, ih, List.map_cons, List.sum_cons]
    rw [this]
    omega

/-- Where words stand, rising. -/
theorem placesW_ge (x : Nm) : ∀ (l : List Nm) (i : Nat), ∀ a ∈ placesW i l x, (i : Int) ≤ a
  | [], i, a, h => by cases h
  | y :: l, i, a, h => by
    rw [placesW] at h
    split at h
    · rcases List.mem_cons.1 h with rfl | h
      · exact Int.le_refl _
      · have := placesW_ge x l (i + 1) a h; omega
    · have := placesW_ge x l (i + 1) a h; omega
theorem placesW_rise (x : Nm) : ∀ (l : List Nm) (i : Nat), (placesW i l x).Pairwise (· < ·)
  | [], i => List.Pairwise.nil
  | y :: l, i => by
    rw [placesW]
    split
    · exact List.pairwise_cons.2 ⟨fun a ha => by have := placesW_ge x l (i + 1) a ha; omega, placesW_rise x l (i + 1)⟩
    · exact placesW_rise x l (i + 1)
theorem placesW_mem (x : Nm) (a : Int) : ∀ (l : List Nm) (i : Nat), a ∈ placesW i l x ↔ ∃ k : Nat, a = ((i + k : Nat) : Int) ∧ l[k]? = some x
  | [], i => by simp [placesW]
  | y :: l, i => by
    rw [placesW]
    have ih := placesW_mem x a l (i + 1)
    constructor
    · intro h
      split at h
      · rename_i hy
        rcases List.mem_cons.1 h with rfl | h
        · exact ⟨0, by simp, by simp [hy]⟩
        · obtain ⟨k, h1, h2⟩ := ih.1 h
          exact ⟨k + 1, by rw [h1]; congr 1; omega, by simpa using h2⟩
      · obtain ⟨k, h1, h2⟩ := ih.1 h
        exact ⟨k + 1, by rw [h1]; congr 1; omega, by simpa using h2⟩
    · rintro ⟨k, h1, h2⟩
      cases k with
      | zero =>
        have : y = x := by simpa using h2
        rw [if_pos this]
        exact List.mem_cons.2 (.inl (by simpa using h1))
      | succ k =>
        have := ih.2 ⟨k, by rw [h1]; congr 1; omega, by simpa using h2⟩
        split
        · exact List.mem_cons_of_mem _ this
        · exact this
/-- Do the words stand there, from place a on? -/
def followW (l : List Nm) (ws : List Nm) (a : Nat) : Bool := decide ((l.drop a).take ws.length = ws)
theorem followW_iff {l ws : List Nm} {a : Nat} : followW l ws a = true ↔ ∀ k (hk : k < ws.length), l[a + k]? = some ws[k] := by
  unfold followW
  rw [decide_eq_true_iff]
  constructor
  · intro h k hk
    have := congrArg (fun m => m[k]?) h
    simp only [List.getElem?_take, List.getElem?_drop, List.getElem?_eq_getElem hk] at this
    rwa [if_pos hk] at this
  · intro h
    apply List.ext_getElem?
    intro k
    rw [List.getElem?_take, List.getElem?_drop]
    split
    · rename_i hk; rw [h k hk, List.getElem?_eq_getElem hk]
    · rename_i hk; rw [List.getElem?_eq_none (by omega)]
theorem phraseW_count (x : Nm) (r l : List Nm) : ∀ (n k : Nat), n = l.length - k → phraseW (x :: r) (l.drop k) = ((placesW k (l.drop k) x).filter fun a => followW l r (a.toNat + 1)).length
  | 0, k, h => by rw [List.drop_eq_nil_of_le (by omega)]; rfl
  | n + 1, k, h => by
    have hk : k < l.length := by omega
    have ih := phraseW_count x r l n (k + 1) (by omega)
    rw [phraseW_at hk, placesW_at hk, ih]
    have e1 : (l.drop k).take (r.length + 1) = l[k] :: (l.drop (k + 1)).take r.length := by rw [List.drop_eq_getElem_cons hk, List.take_succ_cons]
    by_cases h1 : l[k] = x
    · rw [if_pos h1, List.filter_cons]
      have e2 : followW l r (((k : Int)).toNat + 1) = decide ((l.drop (k + 1)).take r.length = r) := by rw [Int.toNat_natCast]; rfl
      rw [e2]
      by_cases h2 : (l.drop (k + 1)).take r.length = r
      · rw [if_pos ⟨by simp, by rw [List.length_cons, e1, h1, h2]⟩, if_pos (by simpa using h2), List.length_cons]; omega
      · rw [if_neg (fun h => h2 (by have := h.2; rw [List.length_cons, e1] at this; injection this)), if_neg (by simpa using h2)]; omega
    · rw [if_neg h1, if_neg (fun h => h1 (by have := h.2; rw [List.length_cons, e1] at this; injection this))]; omega
theorem phraseD_count (l : List Fd) (s x : Nm) (r : List Nm) : phraseD l s (x :: r) = ((placesD l (s, x)).filter fun a => followW (wordsD l s) r (a.toNat + 1)).length := by
  have := phraseW_count x r (wordsD l s) _ 0 rfl
  rwa [List.drop_zero] at this
theorem follow_iff {l : List Fd} {s : Nm} {ws : List Nm} {a : Nat} : followW (wordsD l s) ws a = true ↔ ∀ k (hk : k < ws.length), ((a + k : Nat) : Int) ∈ placesD l (s, ws[k]) := by
  rw [followW_iff]
  constructor
  · intro h k hk
    exact (placesW_mem _ _ _ _).2 ⟨a + k, by rw [Nat.zero_add], h k hk⟩
  · intro h k hk
    obtain ⟨j, h1, h2⟩ := (placesW_mem _ _ _ _).1 (h k hk)
    have : j = a + k := by omega
    rw [← this]
    exact h2
end Go.Proofs.YtolfkhflbjnakaaGreatDoor

/- A small document that may be: one word for what is known of it. No program. -/
set_option linter.unusedVariables false
namespace Go.Proofs.YtolfkhflbjnakaaGreatDoor
open Go

/-- A small document that may be. -/
structure GoodF (l : List Fd) : Prop where
  len : l.length ≤ 8
  names : ∀ f ∈ l, f.1.length ≤ 12
  texts : ∀ f ∈ l, f.2.length ≤ 1024
  apart : ApartF l
  zero : NoZero l
  wordsF : ∀ f ∈ l, (words f.2).length ≤ 500
  wordsS : ∀ s, (wordsD l s).length ≤ 500
  weight : weightD l ≤ 500
theorem le_sum : ∀ {l : List Nat} {a : Nat}, a ∈ l → a ≤ l.sum
  | x :: l, a, h => by
    rw [List.sum_cons]
    rcases List.mem_cons.1 h with rfl | h
    · omega
    · have := le_sum h; omega
theorem wordsD_le {l : List Fd} (ha : ApartF l) (s : Nm) : (wordsD l s).length ≤ weightD l := by
  by_cases h : ∃ f ∈ l, f.1 = s
  · obtain ⟨f, hf, rfl⟩ := h
    unfold weightD
    exact le_sum (List.mem_map.2 ⟨f, hf, rfl⟩)
  · rw [wordsD_other fun f hf e => h ⟨f, hf, e⟩]
    exact Nat.zero_le _
theorem goodF_of {l : List Fd} (hm : mayD l = 0) (ht : ∀ f ∈ l, f.2.length ≤ 1024) : GoodF l := by
  obtain ⟨g1, g2, g3, g4, g5⟩ := mayD_of hm
  refine ⟨g1, fun f hf => ?_, ht, g3, g4, fun f hf => ?_, fun s => Nat.le_trans (wordsD_le g3 s) g5, g5⟩
  · have := g2 f hf
    rw [nameB, Bool.and_eq_true, Bool.and_eq_true, decide_eq_true_iff, decide_eq_true_iff] at this
    exact this.2.2
  · rw [← wordsD_of g3 hf]
    exact Nat.le_trans (wordsD_le g3 _) g5
theorem goodD_good (l : List Fd) : GoodF (goodD l) := goodF_of (goodD_may l) fun f hf => Nat.le_trans (goodUp_text l _ f hf) (by omega)

end Go.Proofs.YtolfkhflbjnakaaGreatDoor

/- Entries in a list: what may be added, how many words, which keys, which postings. No program. -/
set_option linter.unusedVariables false
namespace Go.Proofs.YtolfkhflbjnakaaGreatDoor
open Go

/-- A document: its number, its fields; an entry: its document's number and fields, its own number. -/
abbrev Dc := Int × List Fd
abbrev En := Int × List Fd × Int
abbrev Pn := Int × List Int
/-- What is told of an entry that is to be added behind a last number. -/
def mayE (last : Int) (q : En) : Int := if mayD q.2.1 ≠ 0 then mayD q.2.1 else if q.2.2 < 0 ∨ q.2.2 ≤ last then 12 else 0
def weightE (l : List En) : Nat := (l.map fun q => weightD q.2.1).sum
def keysIn (a : List Nm) (ts : List Tm) : List Nm := (ts.map keyT).foldl putN a
def keysE (l : List En) : List Nm := l.foldl (fun a q => keysIn a (termsD q.2.1)) []
def postIn (i : Nat) (d : List Fd) (ts : List Tm) (key : Nm) : List Pn := (ts.filter fun t => decide (keyT t = key)).map fun t => ((i : Int), placesD d t)
def postsE : Nat → List En → Nm → List Pn
  | _, [], _ => []
  | i, q :: l, key => postIn i q.2.1 (termsD q.2.1) key ++ postsE (i + 1) l key
def lastE (l : List En) : Int := match l.getLast? with | none => -1 | some q => q.2.2
def GoodE (l : List En) : Prop := ∀ q ∈ l, GoodF q.2.1

theorem weightE_take {l : List En} {k : Nat} (hk : k < l.length) : weightE (l.take (k + 1)) = weightE (l.take k) + weightD l[k].2.1 := by
  unfold weightE
  rw [List.take_succ_eq_append_getElem hk, List.map_append, List.sum_append]
  simp
theorem weightE_le {l : List En} (hg : GoodE l) : weightE l ≤ l.length * 500 := by
  unfold weightE
  induction l with
  | nil => simp
  | cons q l ih =>
    have h1 := (hg q (List.mem_cons_self ..)).weight
    have h2 := ih fun x hx => hg x (List.mem_cons_of_mem _ hx)
    simp only [List.map_cons, List.sum_cons, List.length_cons]
    omega
theorem GoodE.take {l : List En} (h : GoodE l) (k : Nat) : GoodE (l.take k) := fun q hq => h q (List.mem_of_mem_take hq)
theorem GoodE.drop {l : List En} (h : GoodE l) (k : Nat) : GoodE (l.drop k) := fun q hq => h q (List.mem_of_mem_drop hq)
theorem GoodE.snoc {l : List En} {q : En} (h : GoodE l) (hq : GoodF q.2.1) : GoodE (l ++ [q]) := fun x hx => by
  rcases List.mem_append.1 hx with hx | hx
  · exact h x hx
  · rw [List.mem_singleton.1 hx]; exact hq
theorem keysIn_take {a : List Nm} {ts : List Tm} {j : Nat} (hj : j < ts.length) : keysIn a (ts.take (j + 1)) = putN (keysIn a (ts.take j)) (keyT ts[j]) := by
  unfold keysIn
  rw [List.take_succ_eq_append_getElem hj, List.map_append, List.foldl_append]
  rfl
theorem keysE_take {l : List En} {k : Nat} (hk : k < l.length) : keysE (l.take (k + 1)) = keysIn (keysE (l.take k)) (termsD l[k].2.1) := by
  unfold keysE
  rw [List.take_succ_eq_append_getElem hk, List.foldl_append]
  rfl
theorem keysIn_length (a : List Nm) (ts : List Tm) : (keysIn a ts).length ≤ ts.length + a.length := by
  have := foldl_putN_length (ts.map keyT) a
  rwa [List.length_map] at this
theorem rise_keysIn {a : List Nm} (h : Rise a) (ts : List Tm) : Rise (keysIn a ts) := rise_foldl_putN _ _ h
theorem mem_keysIn {a : List Nm} {ts : List Tm} {x : Nm} : x ∈ keysIn a ts ↔ (∃ t ∈ ts, keyT t = x) ∨ x ∈ a := by
  rw [keysIn, mem_foldl_putN, List.mem_map]
theorem rise_keysE_from : ∀ (l : List En) {a : List Nm}, Rise a → Rise (l.foldl (fun a q => keysIn a (termsD q.2.1)) a)
  | [], a, h => h
  | q :: l, a, h => rise_keysE_from l (rise_keysIn h _)
theorem rise_keysE (l : List En) : Rise (keysE l) := rise_keysE_from l List.Pairwise.nil
theorem mem_keysE_from : ∀ (l : List En) {a : List Nm} {x : Nm}, x ∈ l.foldl (fun a q => keysIn a (termsD q.2.1)) a ↔ (∃ q ∈ l, ∃ t ∈ termsD q.2.1, keyT t = x) ∨ x ∈ a
  | [], a, x => by simp
  | q :: l, a, x => by
    rw [List.foldl_cons, mem_keysE_from l, mem_keysIn]
    constructor
    · rintro (⟨q', hq', h⟩ | h | h)
      · exact .inl ⟨q', List.mem_cons_of_mem _ hq', h⟩
      · exact .inl ⟨q, List.mem_cons_self .., h⟩
      · exact .inr h
    · rintro (⟨q', hq', h⟩ | h)
      · rcases List.mem_cons.1 hq' with rfl | hq'
        · exact .inr (.inl h)
        · exact .inl ⟨q', hq', h⟩
      · exact .inr (.inr h)
theorem mem_keysE {l : List En} {x : Nm} : x ∈ keysE l ↔ ∃ q ∈ l, ∃ t ∈ termsD q.2.1, keyT t = x := by
  have := mem_keysE_from l (a := []) (x := x)
  simpa [keysE] using this
theorem keysE_length {M : Nat} : ∀ {l : List En} {a : List Nm}, (∀ q ∈ l, (termsD q.2.1).length ≤ M) → (l.foldl (fun a q => keysIn a (termsD q.2.1)) a).length ≤ l.length * M + a.length
  | [], a, _ => by simp
  | q :: l, a, h => by
    have h1 := keysE_length (l := l) (a := keysIn a (termsD q.2.1)) fun x hx => h x (List.mem_cons_of_mem _ hx)
    have h2 := keysIn_length a (termsD q.2.1)
    have h3 := h q (List.mem_cons_self ..)
    simp only [List.foldl_cons, List.length_cons, Nat.add_mul, Nat.one_mul]
    omega
theorem postIn_take {i : Nat} {d : List Fd} {ts : List Tm} {key : Nm} {j : Nat} (hj : j < ts.length) : postIn i d (ts.take (j + 1)) key = if keyT ts[j] = key then postIn i d (ts.take j) key ++ [((i : Int), placesD d ts[j])] else postIn i d (ts.take j) key := by
  unfold postIn
  rw [List.take_succ_eq_append_getElem hj, List.filter_append, List.map_append]
  by_cases h : keyT ts[j] = key
  · simp [h]
  · simp [h]
theorem postsE_snoc : ∀ (l : List En) (i : Nat) (q : En) (key : Nm), postsE i (l ++ [q]) key = postsE i l key ++ postIn (i + l.length) q.2.1 (termsD q.2.1) key
  | [], i, q, key => by simp [postsE]
  | x :: l, i, q, key => by
    rw [List.cons_append, postsE, postsE, postsE_snoc l (i + 1) q key, List.append_assoc, List.length_cons, show i + 1 + l.length = i + (l.length + 1) by omega]
theorem postsE_take {l : List En} {k : Nat} {key : Nm} (hk : k < l.length) : postsE 0 (l.take (k + 1)) key = postsE 0 (l.take k) key ++ postIn k l[k].2.1 (termsD l[k].2.1) key := by
  rw [List.take_succ_eq_append_getElem hk, postsE_snoc, List.length_take, Nat.zero_add, Nat.min_eq_left (by omega)]
theorem lastE_nil : lastE [] = -1 := rfl
theorem lastE_snoc (l : List En) (q : En) : lastE (l ++ [q]) = q.2.2 := by simp [lastE]
theorem lastE_at {l : List En} (h : 0 < l.length) : lastE l = (l[l.length - 1]'(by omega)).2.2 := by
  have h0 : l ≠ [] := fun e => by rw [e] at h; simp at h
  rw [lastE, List.getLast?_eq_some_getLast h0, List.getLast_eq_getElem h0]
/-- Entries of documents made such as may be, their numbers rising from one on. -/
def goodsE (l : List Dc) (most : Nat) (start step : Int) : List En := (l.take most).zipIdx.map fun p => (p.1.1, goodD p.1.2, start + step * (p.2 : Int))
theorem goodsE_length (l : List Dc) (most : Nat) (start step : Int) : (goodsE l most start step).length = min most l.length := by simp [goodsE]
theorem goodsE_take {l : List Dc} {k : Nat} {start step : Int} (hk : k < l.length) : goodsE l (k + 1) start step = goodsE l k start step ++ [(l[k].1, goodD l[k].2, start + step * (k : Int))] := by
  unfold goodsE
  rw [List.take_succ_eq_append_getElem hk, List.zipIdx_append, List.map_append, List.length_take, Nat.zero_add, Nat.min_eq_left (by omega)]
  rfl
theorem goodsE_good (l : List Dc) (most : Nat) (start step : Int) : ∀ q ∈ goodsE l most start step, ∃ d, q.2.1 = goodD d := fun q hq => by
  obtain ⟨p, _, rfl⟩ := List.mem_map.1 hq
  exact ⟨p.1.2, rfl⟩
end Go.Proofs.YtolfkhflbjnakaaGreatDoor

/- Nothing turns but some blocks. -/
set_option linter.unusedVariables false
namespace Go.Proofs.YtolfkhflbjnakaaGreatDoor
open Go Go.RowKit

/-- Nothing that was there has turned but the blocks of S. -/
structure OnlyIn (S : Nat → Prop) (w w' : World) : Prop where
  os : w'.os = w.os
  tape : w'.tape = w.tape
  output : w'.output = w.output
  size : w.heap.size ≤ w'.heap.size
  block : ∀ k, k < w.heap.size → ¬ S k → w'.heap[k]? = w.heap[k]?
theorem OnlyIn.of_below {S : Nat → Prop} {w w' : World} (h : Below w.heap.size w w') : OnlyIn S w w' := ⟨h.os, h.tape, h.output, h.size, fun k hk _ => h.block k hk⟩
theorem OnlyIn.trans {S : Nat → Prop} {w w' w'' : World} (h : OnlyIn S w w') (k : OnlyIn S w' w'') : OnlyIn S w w'' :=
  ⟨k.os.trans h.os, k.tape.trans h.tape, k.output.trans h.output, Nat.le_trans h.size k.size, fun i hi hne => (k.block i (Nat.lt_of_lt_of_le hi h.size) hne).trans (h.block i hi hne)⟩
theorem OnlyIn.below {S : Nat → Prop} {base : Nat} {w w' : World} (h : OnlyIn S w w') (hb : ∀ k, S k → base ≤ k) (hw : base ≤ w.heap.size) : Below base w w' :=
  ⟨h.os, h.tape, h.output, h.size, fun k hk => h.block k (by omega) (fun hs => by have := hb k hs; omega)⟩
end Go.Proofs.YtolfkhflbjnakaaGreatDoor

/- (Parted off.) Lists of things that have a list of fields in them, in memory: some cells, the fields' slice, some cells more. -/
set_option linter.unusedVariables false
namespace Go.Proofs.YtolfkhflbjnakaaGreatDoor
open Go Go.RowKit




/-- A slice's cells lie in a block of which p holds. -/
def RowP (p : Nat → Prop) (w : World) (A : Option Addr) (xs : List Value) : Prop := xs = [] ∨ ∃ b off, A = some ⟨b, off, none⟩ ∧ p b ∧ ∀ j u, xs[j]? = some u → w.cell? ⟨b, off + j, none⟩ = some u
section
variable {p q : Nat → Prop} {w w' : World} {A : Option Addr} {xs : List Value}
theorem RowP.nil : RowP p w A [] := .inl rfl
theorem RowP.keep (h : RowP p w A xs) (hb : ∀ b, p b → w'.heap[b]? = w.heap[b]?) : RowP p w' A xs := by
  rcases h with h | ⟨b, off, e, hp, hc⟩
  · exact .inl h
  · refine .inr ⟨b, off, e, hp, fun j u hu => ?_⟩
    rw [World.cell?_of_block (a := ⟨b, off + j, none⟩) (hb b hp)]
    exact hc j u hu
theorem RowP.imp (h : RowP p w A xs) (hpq : ∀ b, p b → q b) : RowP q w A xs := by
  rcases h with h | ⟨b, off, e, hp, hc⟩
  · exact .inl h
  · exact .inr ⟨b, off, e, hpq b hp, hc⟩
theorem RowP.row {B : Nat} (h : RowP p w A xs) (hB : ∀ b, p b → b < B) : Row w B A xs := h.imp hB
theorem Row.toP {B : Nat} (h : Row w B A xs) : RowP (fun b => b < B) w A xs := h
end
/-- How a thing lies: cells ahead of its fields' slice, its fields, cells behind. -/
structure Shape (α : Type) where
  p : Nat
  r : Nat
  pre : α → List Value
  mid : α → List Fd
  post : α → List Value
  hp : ∀ q, (pre q).length = p
  hr : ∀ q, (post q).length = r
def Shape.size {α : Type} (s : Shape α) : Nat := s.p + 1 + s.r

section
variable {α : Type} {s : Shape α} {R R' : Option Addr → List Value → Prop}
/-- The cells of things; R says where their fields lie. -/
def NestC (s : Shape α) (R : Option Addr → List Value → Prop) : List α → List Value → Prop
  | [], cs => cs = []
  | q :: l, cs => ∃ A c cs', cs = s.pre q ++ (.slice A (s.mid q).length c :: (s.post q ++ cs')) ∧ (s.mid q).length ≤ c ∧ c ≤ maxLen ∧ R A (flds (s.mid q)) ∧ NestC s R l cs'
theorem NestC.len : ∀ {l : List α} {cs : List Value}, NestC s R l cs → cs.length = l.length * s.size
  | [], cs, h => by simp only [NestC] at h; subst h; simp
  | q :: l, cs, h => by
    obtain ⟨A, c, cs', rfl, _, _, _, h'⟩ := h
    have := NestC.len h'
    have := s.hp q
    have := s.hr q
    simp only [List.length_append, List.length_cons, Nat.add_mul, Nat.one_mul]
    unfold Shape.size at *
    omega
theorem NestC.imp : ∀ {l : List α} {cs : List Value}, NestC s R l cs → (∀ A xs, R A xs → R' A xs) → NestC s R' l cs
  | [], cs, h, _ => h
  | q :: l, cs, h, hi => by
    obtain ⟨A, c, cs', rfl, h1, h2, h3, h'⟩ := h
    exact ⟨A, c, cs', rfl, h1, h2, hi _ _ h3, NestC.imp h' hi⟩
theorem nest_skip {q : α} {A : Option Addr} {c : Nat} {cs' : List Value} {k : Nat} (i : Nat) : (s.pre q ++ (.slice A (s.mid q).length c :: (s.post q ++ cs')))[(k + 1) * s.size + i]? = cs'[k * s.size + i]? := by
  have hp := s.hp q
  have hr := s.hr q
  have e : (k + 1) * s.size + i = s.p + (1 + (s.r + (k * s.size + i))) := by rw [Nat.add_mul, Nat.one_mul]; unfold Shape.size; omega
  rw [e, List.getElem?_append_right (by omega), hp, Nat.add_sub_cancel_left, Nat.add_comm 1, List.getElem?_cons_succ, List.getElem?_append_right (by omega), hr, Nat.add_sub_cancel_left]
theorem NestC.at_ : ∀ {l : List α} {cs : List Value} {k : Nat}, NestC s R l cs → (hk : k < l.length) →
    ∃ A c, cs[k * s.size + s.p]? = some (.slice A (s.mid l[k]).length c) ∧ (s.mid l[k]).length ≤ c ∧ c ≤ maxLen ∧ R A (flds (s.mid l[k])) ∧
      (∀ i u, (s.pre l[k])[i]? = some u → cs[k * s.size + i]? = some u) ∧ (∀ i u, (s.post l[k])[i]? = some u → cs[k * s.size + s.p + 1 + i]? = some u)
  | [], _, k, _, h => by simp at h
  | q :: l, cs, 0, h, _ => by
    obtain ⟨A, c, cs', rfl, h1, h2, h3, h'⟩ := h
    have hp := s.hp q
    refine ⟨A, c, ?_, h1, h2, h3, fun i u hu => ?_, fun i u hu => ?_⟩
    · rw [List.getElem?_append_right (by omega)]
      simp [hp]
    · have : i < (s.pre q).length := by
        rcases Nat.lt_or_ge i (s.pre q).length with h | h
        · exact h
        · simp only [List.getElem_cons_zero] at hu
          rw [List.getElem?_eq_none h] at hu; cases hu
      rw [Nat.zero_mul, Nat.zero_add, List.getElem?_append_left this]
      exact hu
    · have : i < (s.post q).length := by
        rcases Nat.lt_or_ge i (s.post q).length with h | h
        · exact h
        · simp only [List.getElem_cons_zero] at hu
          rw [List.getElem?_eq_none h] at hu; cases hu
      rw [List.getElem?_append_right (by omega), show 0 * s.size + s.p + 1 + i - (s.pre q).length = i + 1 by omega, List.getElem?_cons_succ, List.getElem?_append_left this]
      exact hu
  | q :: l, cs, k + 1, h, hk => by
    obtain ⟨A, c, cs', rfl, h1, h2, h3, h'⟩ := h
    have hp := s.hp q
    have hr := s.hr q
    have skip := nest_skip (s := s) (q := q) (A := A) (c := c) (cs' := cs') (k := k)
    obtain ⟨A', c', g1, g2, g3, g4, g5, g6⟩ := NestC.at_ (k := k) h' (by simpa using hk)
    refine ⟨A', c', ?_, g2, g3, g4, fun i u hu => ?_, fun i u hu => ?_⟩
    · rw [skip]; exact g1
    · rw [skip]; exact g5 i u hu
    · rw [show (k + 1) * s.size + s.p + 1 + i = (k + 1) * s.size + (s.p + 1 + i) by omega, skip, show k * s.size + (s.p + 1 + i) = k * s.size + s.p + 1 + i by omega]
      exact g6 i u hu
theorem NestC.snoc : ∀ {l : List α} {cs : List Value} {A : Option Addr} {c : Nat} {q : α}, NestC s R l cs → (s.mid q).length ≤ c → c ≤ maxLen → R A (flds (s.mid q)) → NestC s R (l ++ [q]) (cs ++ (s.pre q ++ (.slice A (s.mid q).length c :: s.post q)))
  | [], cs, A, c, q, h, h1, h2, h3 => by
    simp only [NestC] at h
    subst h
    exact ⟨A, c, [], by simp, h1, h2, h3, rfl⟩
  | y :: l, cs, A, c, q, h, h1, h2, h3 => by
    obtain ⟨A', c', cs', rfl, g1, g2, g3, h'⟩ := h
    exact ⟨A', c', _, by simp, g1, g2, g3, NestC.snoc h' h1 h2 h3⟩
theorem NestC.append : ∀ {l m : List α} {cs ds : List Value}, NestC s R l cs → NestC s R m ds → NestC s R (l ++ m) (cs ++ ds)
  | [], m, cs, ds, h, h' => by
    simp only [NestC] at h
    subst h
    simpa using h'
  | y :: l, m, cs, ds, h, h' => by
    obtain ⟨A', c', cs', rfl, g1, g2, g3, h''⟩ := h
    exact ⟨A', c', cs' ++ ds, by simp, g1, g2, g3, NestC.append h'' h'⟩
theorem NestC.take : ∀ {l : List α} {cs : List Value} (k : Nat), NestC s R l cs → NestC s R (l.take k) (cs.take (k * s.size))
  | _, cs, 0, _ => by simp [NestC]
  | [], cs, k + 1, h => by simp only [NestC] at h; subst h; simp [NestC]
  | q :: l, cs, k + 1, h => by
    obtain ⟨A, c, cs', rfl, h1, h2, h3, h'⟩ := h
    have hp := s.hp q
    have hr := s.hr q
    refine ⟨A, c, cs'.take (k * s.size), ?_, h1, h2, h3, NestC.take k h'⟩
    have e : (k + 1) * s.size = s.p + (1 + (s.r + k * s.size)) := by rw [Nat.add_mul, Nat.one_mul]; unfold Shape.size; omega
    rw [e, List.take_append, List.take_of_length_le (by omega), hp, Nat.add_sub_cancel_left, Nat.add_comm 1, List.take_succ_cons, List.take_append, List.take_of_length_le (by omega), hr, Nat.add_sub_cancel_left]
theorem NestC.drop : ∀ {l : List α} {cs : List Value} (k : Nat), NestC s R l cs → NestC s R (l.drop k) (cs.drop (k * s.size))
  | l, cs, 0, h => by simpa using h
  | [], cs, k + 1, h => by simp only [NestC] at h; subst h; simp [NestC]
  | q :: l, cs, k + 1, h => by
    obtain ⟨A, c, cs', rfl, h1, h2, h3, h'⟩ := h
    rw [List.drop_succ_cons, show (s.pre q ++ (.slice A (s.mid q).length c :: (s.post q ++ cs'))).drop ((k + 1) * s.size) = cs'.drop (k * s.size) from List.ext_getElem? fun i => by rw [List.getElem?_drop, List.getElem?_drop, nest_skip]]
    exact NestC.drop k h'

/-- A list of things lies behind the address A, all of it in blocks of which p holds. -/
def NestP (s : Shape α) (p : Nat → Prop) (w : World) (A : Option Addr) (l : List α) : Prop := ∃ cs, NestC s (RowP p w) l cs ∧ RowP p w A cs
end
section
variable {α : Type} {s : Shape α} {p q : Nat → Prop} {w w' : World} {A : Option Addr} {l : List α}
theorem NestP.nil : NestP s p w A [] := ⟨[], rfl, .inl rfl⟩
theorem NestP.keep (h : NestP s p w A l) (hb : ∀ b, p b → w'.heap[b]? = w.heap[b]?) : NestP s p w' A l := by
  obtain ⟨cs, h1, h2⟩ := h
  exact ⟨cs, h1.imp fun _ _ h => h.keep hb, h2.keep hb⟩
theorem NestP.imp (h : NestP s p w A l) (hpq : ∀ b, p b → q b) : NestP s q w A l := by
  obtain ⟨cs, h1, h2⟩ := h
  exact ⟨cs, h1.imp fun _ _ h => h.imp hpq, h2.imp hpq⟩
theorem RowP.cut {xs : List Value} (h : RowP p w A xs) (k : Nat) : RowP p w A (xs.take k) := by
  rcases h with rfl | ⟨b, off, e, hp, hc⟩
  · exact .inl (by simp)
  · refine .inr ⟨b, off, e, hp, fun j u hu => hc j u ?_⟩
    rw [List.getElem?_take] at hu
    split at hu
    · exact hu
    · cases hu
theorem NestP.cut (h : NestP s p w A l) (k : Nat) : NestP s p w A (l.take k) := by
  obtain ⟨cs, h1, h2⟩ := h
  exact ⟨_, h1.take k, h2.cut _⟩
theorem NestP.drop {b off : Nat} (h : NestP s p w (some ⟨b, off, none⟩) l) (k : Nat) : NestP s p w (some ⟨b, off + k * s.size, none⟩) (l.drop k) := by
  obtain ⟨cs, h1, h2⟩ := h
  refine ⟨_, h1.drop k, ?_⟩
  rcases h2 with rfl | ⟨b', o', e, hb, hc⟩
  · exact .inl (by simp)
  · injection e with e
    injection e with e1 e2
    subst e1 e2
    refine .inr ⟨b, off + k * s.size, rfl, hb, fun j u hu => ?_⟩
    have := hc (k * s.size + j) u (by rw [← hu]; simp)
    rwa [← Nat.add_assoc] at this
theorem NestP.at_ (h : NestP s p w A l) {k : Nat} (hk : k < l.length) :
    ∃ b off A' c', A = some ⟨b, off, none⟩ ∧ p b ∧ w.cell? ⟨b, off + k * s.size + s.p, none⟩ = some (.slice A' (s.mid l[k]).length c') ∧ (s.mid l[k]).length ≤ c' ∧ c' ≤ maxLen ∧ RowP p w A' (flds (s.mid l[k])) ∧
      (∀ i u, (s.pre l[k])[i]? = some u → w.cell? ⟨b, off + k * s.size + i, none⟩ = some u) ∧ (∀ i u, (s.post l[k])[i]? = some u → w.cell? ⟨b, off + k * s.size + s.p + 1 + i, none⟩ = some u) := by
  obtain ⟨cs, h1, h2⟩ := h
  obtain ⟨A', c', g1, g2, g3, g4, g5, g6⟩ := h1.at_ hk
  rcases h2 with rfl | ⟨b, off, rfl, hb, hc⟩
  · simp at g1
  · refine ⟨b, off, A', c', rfl, hb, by have := hc _ _ g1; rwa [← Nat.add_assoc] at this, g2, g3, g4, fun i u hu => ?_, fun i u hu => ?_⟩
    · have := hc _ _ (g5 i u hu); rwa [← Nat.add_assoc] at this
    · have := hc _ _ (g6 i u hu)
      rwa [show off + (k * s.size + s.p + 1 + i) = off + k * s.size + s.p + 1 + i by omega] at this
/-- .. below block B. -/
abbrev Nest (s : Shape α) (w : World) (B : Nat) (A : Option Addr) (l : List α) : Prop := NestP s (fun b => b < B) w A l
theorem Nest.below {B : Nat} (h : Nest s w B A l) (hb : Below B w w') : Nest s w' B A l := h.keep fun b hb' => hb.block b hb'
theorem Nest.more {B B' : Nat} (h : Nest s w B A l) (hB : B ≤ B') : Nest s w B' A l := h.imp fun b hb => Nat.lt_of_lt_of_le hb hB
theorem Nest.later (h : Nest s w w.heap.size A l) (hb : Below w.heap.size w w') : Nest s w' w'.heap.size A l := Nest.more (Nest.below h hb) hb.size
end
def docS : Shape Dc := ⟨1, 0, fun q => [.int .i64 q.1], fun q => q.2, fun _ => [], fun _ => rfl, fun _ => rfl⟩
def enS : Shape En := ⟨1, 1, fun q => [.int .i64 q.1], fun q => q.2.1, fun q => [.int .i64 q.2.2], fun _ => rfl, fun _ => rfl⟩
theorem enS_at {p : Nat → Prop} {w : World} {A : Option Addr} {l : List En} (h : NestP enS p w A l) {k : Nat} (hk : k < l.length) :
    ∃ b off A' c', A = some ⟨b, off, none⟩ ∧ p b ∧ w.cell? ⟨b, off + k * 3, none⟩ = some (.int .i64 l[k].1) ∧ w.cell? ⟨b, off + k * 3 + 1, none⟩ = some (.slice A' l[k].2.1.length c') ∧ w.cell? ⟨b, off + k * 3 + 2, none⟩ = some (.int .i64 l[k].2.2) ∧
      l[k].2.1.length ≤ c' ∧ c' ≤ maxLen ∧ RowP p w A' (flds l[k].2.1) := by
  obtain ⟨b, off, A', c', e, hb, g1, g2, g3, g4, g5, g6⟩ := h.at_ hk
  exact ⟨b, off, A', c', e, hb, g5 0 _ rfl, g1, g6 0 _ rfl, g2, g3, g4⟩
theorem docS_at {p : Nat → Prop} {w : World} {A : Option Addr} {l : List Dc} (h : NestP docS p w A l) {k : Nat} (hk : k < l.length) :
    ∃ b off A' c', A = some ⟨b, off, none⟩ ∧ p b ∧ w.cell? ⟨b, off + k * 2, none⟩ = some (.int .i64 l[k].1) ∧ w.cell? ⟨b, off + k * 2 + 1, none⟩ = some (.slice A' l[k].2.length c') ∧ l[k].2.length ≤ c' ∧ c' ≤ maxLen ∧ RowP p w A' (flds l[k].2) := by
  obtain ⟨b, off, A', c', e, hb, g1, g2, g3, g4, g5, _⟩ := h.at_ hk
  exact ⟨b, off, A', c', e, hb, g5 0 _ rfl, g1, g2, g3, g4⟩

/-- A block that no list of entries of the call's own lies in: it is below base, or holds fields. -/
def SafeF (base : Nat) (w : World) (b : Nat) : Prop := b < w.heap.size ∧ (b < base ∨ ∃ cs fr, w.heap[b]? = some (.cells cs 60 fr))
theorem SafeF.below {base : Nat} {w w' : World} {b : Nat} (h : SafeF base w b) (hb : Below w.heap.size w w') : SafeF base w' b := ⟨Nat.lt_of_lt_of_le h.1 hb.size, h.2.imp id fun ⟨cs, fr, h'⟩ => ⟨cs, fr, (hb.block b h.1).trans h'⟩⟩
theorem SafeF.apart {base : Nat} {w : World} {b : Nat} {E : TypeId} {size n : Nat} {v : Value} {ys : List Value} (h : SafeF base w b) (hv : w.ownsRow base E size v n ys) (hE : E ≠ 60) : v.ownBlock ≠ some b := by
  rcases h.2 with hk | ⟨cs, fr, hk⟩
  · intro e
    have := (hv.lt b e).1
    omega
  · intro e
    rcases hv.2 with ⟨rfl, _⟩ | ⟨g, cap, cur, rfl, _, hh, _⟩
    · cases e
    · simp only [Value.ownBlock, Option.some.injEq] at e
      subst e
      rw [hh] at hk
      simp at hk
      exact hE hk.2.1
theorem SafeF.grown {base : Nat} {w w' : World} {b : Nat} {E : TypeId} {size n : Nat} {v : Value} {ys : List Value} (h : SafeF base w b) (hv : w.ownsRow base E size v n ys) (hE : E ≠ 60) (hg : w.grownBy w' v.ownBlock) : SafeF base w' b ∧ w'.heap[b]? = w.heap[b]? := by
  have hblk : w'.heap[b]? = w.heap[b]? := hg.block b h.1 fun e => h.apart hv hE e.symm
  exact ⟨⟨Nat.lt_of_lt_of_le h.1 hg.size, h.2.imp id fun ⟨cs, fr, h'⟩ => ⟨cs, fr, hblk.trans h'⟩⟩, hblk⟩
/-- Fields of the call's own, or from below, lie in such a block. -/
theorem RowP.of_old {base : Nat} {w : World} {A : Option Addr} {xs : List Value} (h : Row w base A xs) (hb : base ≤ w.heap.size) : RowP (SafeF base w) w A xs := RowP.imp h fun b hb' => ⟨by omega, .inl hb'⟩
theorem RowP.of_own {base base' : Nat} {w : World} {A : Option Addr} {n c : Nat} {l : List Fd} (h : w.ownsRow base' 60 2 (.slice A n c) n (flds l)) : RowP (SafeF base w) w A (flds l) := by
  rcases h.2 with ⟨hv, hn⟩ | ⟨g, cap, cur, hv, hg, hh, hnc, hcp, hcs, htake⟩
  · refine .inl (List.eq_nil_of_length_eq_zero ?_)
    rw [h.1, hn]
  · injection hv with h1 h2 h3
    subst h1
    have hrow := owned_row_of h
    rcases hrow with h0 | ⟨b, off, e, hb, hc⟩
    · exact .inl h0
    · injection e with e
      injection e with e1 e2
      subst e1 e2
      exact .inr ⟨g, 0, rfl, ⟨(Array.getElem?_eq_some_iff.1 hh).1, .inr ⟨_, _, hh⟩⟩, hc⟩

section
variable {base : Nat} {w w' : World} {v v' : Value} {l : List En}
end
end Go.Proofs.YtolfkhflbjnakaaGreatDoor

/- A document in a block of its own. -/
namespace Go.Proofs.YtolfkhflbjnakaaGreatDoor
open Go Go.RowKit
set_option linter.unusedVariables false

theorem drewN_below (w : World) (m : Nat) : Below w.heap.size w (w.drewN m) := ⟨rfl, rfl, rfl, Nat.le_refl _, fun _ _ => rfl⟩
/-- A document in a block of its own. -/
def boxD (w : World) (id : Int) (A : Option Addr) (n c : Nat) : World := w.alloc (.cells #[.int .i64 id, .slice A n c] 46)
theorem boxD_cells {w wr : World} {id : Int} {A : Option Addr} {n c : Nat} (h : Below (boxD w id A n c).heap.size (boxD w id A n c) wr) :
    wr.cell? ⟨w.heap.size, 0, none⟩ = some (.int .i64 id) ∧ wr.cell? ⟨w.heap.size, 1, none⟩ = some (.slice A n c) := by
  have hb : wr.heap[w.heap.size]? = some (.cells #[.int .i64 id, .slice A n c] 46 (0, 0)) := (h.block w.heap.size (by simp [boxD])).trans (heap_alloc_new w _)
  exact ⟨by simp [World.cell?, hb], by simp [World.cell?, hb]⟩
theorem boxD_below (w : World) (id : Int) (A : Option Addr) (n c : Nat) : Below w.heap.size w (boxD w id A n c) := (Below.refl _ w).alloc (Nat.le_refl _) _
theorem boxD_size (w : World) (id : Int) (A : Option Addr) (n c : Nat) : (boxD w id A n c).heap.size = w.heap.size + 1 := by simp [boxD]
/-- .. and what was there stands behind it. -/
theorem boxD_out {w wr : World} {id : Int} {A : Option Addr} {n c : Nat} (h : Below (boxD w id A n c).heap.size (boxD w id A n c) wr) : Below w.heap.size w wr :=
  (boxD_below w id A n c).trans (h.mono (by rw [boxD_size]; omega))
end Go.Proofs.YtolfkhflbjnakaaGreatDoor
