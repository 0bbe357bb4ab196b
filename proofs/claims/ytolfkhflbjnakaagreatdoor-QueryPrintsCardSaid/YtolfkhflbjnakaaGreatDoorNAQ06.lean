/- Texts laid together: QMem12, ParseP12, ParseT12, GoodP12, Name08, RefToks02, May08. -/
import Derived.Test.YtolfkhflbjnakaaGreatDoorNAQ04
import Derived.Test.YtolfkhflbjnakaaGreatDoorNAQ05
import Derived.Test.YtolfkhflbjnakaaGreatDoorNAQ02
import Derived.BigCall
import Derived.BigQuiet
import Derived.Deep.QuietTactic
import Derived.Test.YtolfkhflbjnakaaGreatDoorNAQ03

/- Queries in memory: five cells each, their words and their kids in rows of their own. -/
set_option linter.unusedVariables false
namespace Go.Proofs.YtolfkhflbjnakaaGreatDoor
open Go Go.RowKit


/-- A query as a value, and its cells. -/
abbrev qV (k : Int) (f x : ByteArray) (A : Option Addr) (n c : Nat) (K : Option Addr) (m d : Nat) : Value := .agg #[.int .i64 k, .string f, .string x, .slice A n c, .slice K m d]
abbrev qC (k : Int) (f x : ByteArray) (A : Option Addr) (n c : Nat) (K : Option Addr) (m d : Nat) : List Value := [.int .i64 k, .string f, .string x, .slice A n c, .slice K m d]

mutual
/-- The cells of a query; its rows lie in blocks of p. -/
def QAt (p : Nat → Prop) (w : World) : Qy → List Value → Prop
  | .mk k t ws ks, cs => ∃ f x A c K d ds, cs = qC k f x A ws.length c K ks.length d ∧ f.data.toList = t.1 ∧ x.data.toList = t.2 ∧ ws.length ≤ c ∧ ks.length ≤ d ∧ RowP p w A (strs ws) ∧ RowP p w K ds ∧ QsAt p w ks ds
def QsAt (p : Nat → Prop) (w : World) : List Qy → List Value → Prop
  | [], cs => cs = []
  | q :: l, cs => ∃ a b, cs = a ++ b ∧ QAt p w q a ∧ QsAt p w l b
end
section
variable {p p' : Nat → Prop} {w w' : World}
mutual
theorem QAt.turn (hk : ∀ A xs, RowP p w A xs → RowP p' w' A xs) : ∀ {q : Qy} {cs : List Value}, QAt p w q cs → QAt p' w' q cs
  | .mk k t ws ks, cs, h => by
    rw [QAt] at h ⊢
    obtain ⟨f, x, A, c, K, d, ds, h1, h2, h3, h4, h5, h6, h7, h8⟩ := h
    exact ⟨f, x, A, c, K, d, ds, h1, h2, h3, h4, h5, hk _ _ h6, hk _ _ h7, QsAt.turn hk h8⟩
theorem QsAt.turn (hk : ∀ A xs, RowP p w A xs → RowP p' w' A xs) : ∀ {l : List Qy} {cs : List Value}, QsAt p w l cs → QsAt p' w' l cs
  | [], cs, h => by rw [QsAt] at h ⊢; exact h
  | q :: l, cs, h => by
    rw [QsAt] at h ⊢
    obtain ⟨a, b, h1, h2, h3⟩ := h
    exact ⟨a, b, h1, QAt.turn hk h2, QsAt.turn hk h3⟩
end
theorem QAt.keep {q : Qy} {cs : List Value} (h : QAt p w q cs) (hb : ∀ b, p b → w'.heap[b]? = w.heap[b]?) : QAt p w' q cs := h.turn fun _ _ h => h.keep hb
theorem QAt.imp {q : Qy} {cs : List Value} (h : QAt p w q cs) (hp : ∀ b, p b → p' b) : QAt p' w q cs := h.turn fun _ _ h => h.imp hp
theorem QsAt.keep {l : List Qy} {cs : List Value} (h : QsAt p w l cs) (hb : ∀ b, p b → w'.heap[b]? = w.heap[b]?) : QsAt p w' l cs := h.turn fun _ _ h => h.keep hb
theorem QsAt.imp {l : List Qy} {cs : List Value} (h : QsAt p w l cs) (hp : ∀ b, p b → p' b) : QsAt p' w l cs := h.turn fun _ _ h => h.imp hp
theorem QAt.len : ∀ {q : Qy} {cs : List Value}, QAt p w q cs → cs.length = 5
  | .mk k t ws ks, cs, h => by
    rw [QAt] at h
    obtain ⟨f, x, A, c, K, d, ds, rfl, _⟩ := h
    rfl
theorem QAt.one : ∀ {q : Qy} {cs : List Value}, QAt p w q cs → ∀ u ∈ cs, u.oneCell' = true
  | .mk k t ws ks, cs, h, u, hu => by
    rw [QAt] at h
    obtain ⟨f, x, A, c, K, d, ds, rfl, _⟩ := h
    simp only [List.mem_cons, List.mem_nil_iff, or_false] at hu
    rcases hu with rfl | rfl | rfl | rfl | rfl <;> rfl
theorem QsAt.len : ∀ {l : List Qy} {cs : List Value}, QsAt p w l cs → cs.length = l.length * 5
  | [], cs, h => by rw [QsAt] at h; subst h; rfl
  | q :: l, cs, h => by
    rw [QsAt] at h
    obtain ⟨a, b, rfl, h1, h2⟩ := h
    have := h1.len
    have := QsAt.len h2
    simp only [List.length_append, List.length_cons]
    omega
theorem QsAt.at_ : ∀ {l : List Qy} {cs : List Value} {i : Nat}, QsAt p w l cs → (hi : i < l.length) → ∃ a, QAt p w l[i] a ∧ ∀ j u, a[j]? = some u → cs[i * 5 + j]? = some u
  | [], _, i, _, h => by simp at h
  | q :: l, cs, 0, h, _ => by
    rw [QsAt] at h
    obtain ⟨a, b, rfl, h1, h2⟩ := h
    refine ⟨a, h1, fun j u hu => ?_⟩
    have hj : j < a.length := (List.getElem?_eq_some_iff.1 hu).1
    rw [Nat.zero_mul, Nat.zero_add, List.getElem?_append_left hj]
    exact hu
  | q :: l, cs, i + 1, h, hi => by
    rw [QsAt] at h
    obtain ⟨a, b, rfl, h1, h2⟩ := h
    obtain ⟨a', h3, h4⟩ := QsAt.at_ (i := i) h2 (by simpa using hi)
    refine ⟨a', h3, fun j u hu => ?_⟩
    have := h1.len
    rw [List.getElem?_append_right (by omega), show (i + 1) * 5 + j - a.length = i * 5 + j by omega]
    exact h4 j u hu
theorem QsAt.nil : QsAt p w [] [] := by rw [QsAt]
theorem QsAt.snoc : ∀ {l : List Qy} {cs a : List Value} {q : Qy}, QsAt p w l cs → QAt p w q a → QsAt p w (l ++ [q]) (cs ++ a)
  | [], cs, a, q, h, ha => by
    rw [QsAt] at h
    subst h
    rw [List.nil_append, List.nil_append, QsAt]
    exact ⟨a, [], by simp, ha, QsAt.nil⟩
  | q' :: l, cs, a, q, h, ha => by
    rw [QsAt] at h
    obtain ⟨a', b, rfl, h1, h2⟩ := h
    rw [List.cons_append, QsAt]
    exact ⟨a', b ++ a, by simp, h1, QsAt.snoc h2 ha⟩
theorem QsAt.drop : ∀ {l : List Qy} {cs : List Value} (i : Nat), QsAt p w l cs → QsAt p w (l.drop i) (cs.drop (i * 5))
  | _, cs, 0, h => by simpa using h
  | [], cs, i + 1, h => by rw [QsAt] at h; subst h; simp [QsAt]
  | q :: l, cs, i + 1, h => by
    rw [QsAt] at h
    obtain ⟨a, b, rfl, h1, h2⟩ := h
    have := h1.len
    have e : (a ++ b).drop ((i + 1) * 5) = b.drop (i * 5) := by rw [List.drop_append, List.drop_eq_nil_of_le (by omega), List.nil_append]; congr 1; omega
    rw [List.drop_succ_cons, e]
    exact QsAt.drop i h2

/-- A value is a query. -/
def QV (p : Nat → Prop) (w : World) (q : Qy) (v : Value) : Prop := ∃ k f x A n c K m d, v = qV k f x A n c K m d ∧ QAt p w q (qC k f x A n c K m d)
theorem QV.turn (hk : ∀ A xs, RowP p w A xs → RowP p' w' A xs) {q : Qy} {v : Value} (h : QV p w q v) : QV p' w' q v := by
  obtain ⟨k, f, x, A, n, c, K, m, d, e, h⟩ := h
  exact ⟨k, f, x, A, n, c, K, m, d, e, h.turn hk⟩
theorem QV.keep {q : Qy} {v : Value} (h : QV p w q v) (hb : ∀ b, p b → w'.heap[b]? = w.heap[b]?) : QV p w' q v := h.turn fun _ _ h => h.keep hb
theorem QV.imp {q : Qy} {v : Value} (h : QV p w q v) (hp : ∀ b, p b → p' b) : QV p' w q v := h.turn fun _ _ h => h.imp hp
theorem QV.open_ {q : Qy} {v : Value} (h : QV p w q v) : ∃ k t ws ks f x A c K d ds, q = .mk k t ws ks ∧ v = qV k f x A ws.length c K ks.length d ∧ f.data.toList = t.1 ∧ x.data.toList = t.2 ∧ ws.length ≤ c ∧ ks.length ≤ d ∧
    RowP p w A (strs ws) ∧ RowP p w K ds ∧ QsAt p w ks ds := by
  obtain ⟨k, f, x, A, n, c, K, m, d, rfl, h⟩ := h
  obtain ⟨k', t, ws, ks⟩ := q
  rw [QAt] at h
  obtain ⟨f', x', A', c', K', d', ds, e, h2, h3, h4, h5, h6, h7, h8⟩ := h
  simp only [List.cons.injEq, Value.int.injEq, true_and, Value.string.injEq, Value.slice.injEq, and_true] at e
  obtain ⟨rfl, rfl, rfl, ⟨rfl, rfl, rfl⟩, rfl, rfl, rfl⟩ := e
  exact ⟨k, t, ws, ks, f, x, A, c, K, d, ds, rfl, rfl, h2, h3, h4, h5, h6, h7, h8⟩
theorem QV.mk {k : Int} {t : Tm} {ws : List Nm} {ks : List Qy} {f x : ByteArray} {A K : Option Addr} {n c m d : Nat} {ds : List Value} (hn : ws.length = n) (hm : ks.length = m) (hf : f.data.toList = t.1) (hx : x.data.toList = t.2) (hc : ws.length ≤ c) (hd : ks.length ≤ d)
    (hA : RowP p w A (strs ws)) (hK : RowP p w K ds) (h : QsAt p w ks ds) : QV p w (.mk k t ws ks) (qV k f x A n c K m d) := by
  subst hn hm
  refine ⟨k, f, x, A, _, c, K, _, d, rfl, ?_⟩
  rw [QAt]
  exact ⟨f, x, A, c, K, d, ds, rfl, hf, hx, hc, hd, hA, hK, h⟩
theorem QAt.val {q : Qy} {cs : List Value} (h : QAt p w q cs) : ∃ k f x A n c K m d, cs = qC k f x A n c K m d ∧ QV p w q (qV k f x A n c K m d) := by
  obtain ⟨k', t, ws, ks⟩ := q
  have h0 := h
  rw [QAt] at h
  obtain ⟨f', x', A', c', K', d', ds, rfl, h2⟩ := h
  exact ⟨k', f', x', A', _, c', K', _, d', rfl, _, _, _, _, _, _, _, _, _, rfl, h0⟩
/-- The i-th kid: where it lies, and its value. -/
theorem kid_at {K : Option Addr} {ks : List Qy} {ds : List Value} (hK : RowP p w K ds) (hks : QsAt p w ks ds) {i : Nat} (hi : i < ks.length) :
    ∃ b off k f x A n c K' m d, K = some ⟨b, off, none⟩ ∧ p b ∧ QV p w ks[i] (qV k f x A n c K' m d) ∧ w.cell? ⟨b, off + i * 5, none⟩ = some (.int .i64 k) ∧ w.cell? ⟨b, off + i * 5 + 1, none⟩ = some (.string f) ∧ w.cell? ⟨b, off + i * 5 + 2, none⟩ = some (.string x) ∧
      w.cell? ⟨b, off + i * 5 + 3, none⟩ = some (.slice A n c) ∧ w.cell? ⟨b, off + i * 5 + 4, none⟩ = some (.slice K' m d) := by
  obtain ⟨a, h1, h2⟩ := hks.at_ hi
  have hl := hks.len
  rcases hK with rfl | ⟨b, off, rfl, hb, hc⟩
  · simp at hl; omega
  · obtain ⟨k, f, x, A, n, c, K', m, d, rfl, hv⟩ := h1.val
    exact ⟨b, off, k, f, x, A, n, c, K', m, d, rfl, hb, hv, hc _ _ (h2 0 _ rfl), by have := hc _ _ (h2 1 _ rfl); rwa [← Nat.add_assoc] at this, by have := hc _ _ (h2 2 _ rfl); rwa [← Nat.add_assoc] at this, by have := hc _ _ (h2 3 _ rfl); rwa [← Nat.add_assoc] at this,
      by have := hc _ _ (h2 4 _ rfl); rwa [← Nat.add_assoc] at this⟩
end
/-- A query that lies in what is there. -/
def QIn (w : World) (q : Qy) (v : Value) : Prop := QV (fun b => b < w.heap.size) w q v
theorem QIn.later {w w' : World} {q : Qy} {v : Value} (h : QIn w q v) (hb : Below w.heap.size w w') : QIn w' q v := QV.imp (QV.keep h fun b hb' => hb.block b hb') fun b hb' => Nat.lt_of_lt_of_le hb' hb.size
/-- A query in a block of its own. -/
def boxQ (w : World) (k : Int) (f x : ByteArray) (A : Option Addr) (n c : Nat) (K : Option Addr) (m d : Nat) : World := w.alloc (.cells #[.int .i64 k, .string f, .string x, .slice A n c, .slice K m d] 27)
section
variable {w wr : World} {k : Int} {f x : ByteArray} {A K : Option Addr} {n c m d : Nat}
theorem boxQ_size : (boxQ w k f x A n c K m d).heap.size = w.heap.size + 1 := by simp [boxQ]
theorem boxQ_below : Below w.heap.size w (boxQ w k f x A n c K m d) := (Below.refl _ w).alloc (Nat.le_refl _) _
/-- .. and what was there stands behind it. -/
theorem boxQ_of (h : Below (boxQ w k f x A n c K m d).heap.size (boxQ w k f x A n c K m d) wr) :
    Below w.heap.size w wr ∧ wr.cell? ⟨w.heap.size, 0, none⟩ = some (.int .i64 k) ∧ wr.cell? ⟨w.heap.size, 1, none⟩ = some (.string f) ∧ wr.cell? ⟨w.heap.size, 2, none⟩ = some (.string x) ∧ wr.cell? ⟨w.heap.size, 3, none⟩ = some (.slice A n c) ∧ wr.cell? ⟨w.heap.size, 4, none⟩ = some (.slice K m d) := by
  have hb : wr.heap[w.heap.size]? = some (.cells #[.int .i64 k, .string f, .string x, .slice A n c, .slice K m d] 27 (0, 0)) := (h.block w.heap.size (by rw [boxQ_size]; omega)).trans (heap_alloc_new w _)
  exact ⟨boxQ_below.trans (h.mono (by rw [boxQ_size]; omega)), by simp [World.cell?, hb], by simp [World.cell?, hb], by simp [World.cell?, hb], by simp [World.cell?, hb], by simp [World.cell?, hb]⟩
end
mutual
/-- Few words, few kids, texts that are not too long. -/
def FineQ : Qy → Prop
  | .mk k t ws ks => (t.1.length ≤ 100000000 ∧ t.2.length ≤ 100000000) ∧ (ws.length ≤ 9 ∧ ∀ w ∈ ws, w.length ≤ 100000000) ∧ ks.length ≤ 9 ∧ FineL ks
def FineL : List Qy → Prop
  | [] => True
  | q :: l => FineQ q ∧ FineL l
end
theorem fineL_mem : ∀ {l : List Qy} {q : Qy}, FineL l → q ∈ l → FineQ q
  | [], _, _, h => by cases h
  | a :: l, q, h, hq => by
    rw [FineL] at h
    rcases List.mem_cons.1 hq with rfl | hq
    · exact h.1
    · exact fineL_mem h.2 hq
theorem fineL_of : ∀ {l : List Qy}, (∀ q ∈ l, FineQ q) → FineL l
  | [], _ => by rw [FineL]; trivial
  | a :: l, h => by rw [FineL]; exact ⟨h a (List.mem_cons_self ..), fineL_of fun q hq => h q (List.mem_cons_of_mem _ hq)⟩
end Go.Proofs.YtolfkhflbjnakaaGreatDoor

/- Texts of queries, plain: how one is read, and that what is read has that text, and a query's text is read as it. No program. -/
set_option linter.unusedVariables false
namespace Go.Proofs.YtolfkhflbjnakaaGreatDoor
open Go

/-- What stands ahead of a mark, and behind it. -/
def cutB (c : UInt8) : Nm → Option (Nm × Nm)
  | [] => none
  | x :: l => if x = c then some ([], l) else match cutB c l with | none => none | some (a, b) => some (x :: a, b)
theorem cutB_some {c : UInt8} : ∀ {s a b : Nm}, cutB c s = some (a, b) → s = a ++ c :: b ∧ c ∉ a
  | [], _, _, h => by cases h
  | x :: l, a, b, h => by
    rw [cutB] at h
    split at h
    · rename_i e
      subst e
      injection h with h
      injection h with h1 h2
      subst h1 h2
      exact ⟨rfl, by simp⟩
    · rename_i e
      cases hc : cutB c l with
      | none => rw [hc] at h; cases h
      | some y =>
        rw [hc] at h
        obtain ⟨a', b'⟩ := y
        simp only [Option.some.injEq, Prod.mk.injEq] at h
        obtain ⟨rfl, rfl⟩ := h
        obtain ⟨h1, h2⟩ := cutB_some hc
        exact ⟨by rw [h1]; rfl, by simp [h2, Ne.symm e]⟩
theorem cutB_none {c : UInt8} : ∀ {s : Nm}, cutB c s = none → c ∉ s
  | [], _ => by simp
  | x :: l, h => by
    rw [cutB] at h
    split at h
    · cases h
    · rename_i e
      cases hc : cutB c l with
      | none => have := cutB_none hc; simp [this, Ne.symm e]
      | some y => rw [hc] at h; cases h
theorem cutB_of {c : UInt8} : ∀ {a : Nm} (b : Nm), c ∉ a → cutB c (a ++ c :: b) = some (a, b)
  | [], b, _ => by rw [List.nil_append, cutB, if_pos rfl]
  | x :: a, b, h => by
    have h1 : x ≠ c := fun e => h (by simp [e])
    rw [List.cons_append, cutB, if_neg h1, cutB_of b (fun hc => h (List.mem_cons_of_mem _ hc))]
theorem cutB_out {c : UInt8} : ∀ {s : Nm}, c ∉ s → cutB c s = none
  | [], _ => rfl
  | x :: l, h => by
    have h1 : x ≠ c := fun e => h (by simp [e])
    rw [cutB, if_neg h1, cutB_out fun hc => h (List.mem_cons_of_mem _ hc)]

/-- A text cut at blanks into so many parts at most. -/
def splitW : Nat → Nm → List Nm
  | 0, s => [s]
  | n + 1, s => match cutB 32 s with | none => [s] | some (a, b) => a :: splitW n b
theorem splitW_ne (n : Nat) (s : Nm) : splitW n s ≠ [] := by
  cases n with
  | zero => simp [splitW]
  | succ n => rw [splitW]; split <;> simp
theorem joinW_cons (w : Nm) {l : List Nm} (h : l ≠ []) : joinW (w :: l) = w ++ 32 :: joinW l := by
  cases l with
  | nil => exact absurd rfl h
  | cons a l => rfl
theorem join_split : ∀ (n : Nat) (s : Nm), joinW (splitW n s) = s
  | 0, s => rfl
  | n + 1, s => by
    rw [splitW]
    split
    · rfl
    · rename_i a b h
      rw [joinW_cons _ (splitW_ne _ _), join_split n b]
      exact (cutB_some h).1.symm
theorem split_join : ∀ (n : Nat) (ws : List Nm), ws ≠ [] → ws.length ≤ n + 1 → (∀ w ∈ ws, (32 : UInt8) ∉ w) → splitW n (joinW ws) = ws
  | _, [], h, _, _ => absurd rfl h
  | n, [w], _, _, hb => by
    cases n with
    | zero => rfl
    | succ n => rw [splitW, show joinW [w] = w from rfl, cutB_out (hb w (by simp))]
  | 0, w :: w' :: ws, _, hl, _ => by simp at hl
  | n + 1, w :: w' :: ws, _, hl, hb => by
    rw [joinW_cons _ (by simp), splitW, cutB_of _ (hb w (by simp)), ]
    simp only
    rw [split_join n (w' :: ws) (by simp) (by simpa using hl) fun x hx => hb x (List.mem_cons_of_mem _ hx)]
theorem splitW_length : ∀ (n : Nat) (s : Nm), (splitW n s).length ≤ n + 1
  | 0, s => by simp [splitW]
  | n + 1, s => by
    rw [splitW]
    split
    · simp
    · rename_i a b _
      have := splitW_length n b
      simp only [List.length_cons]
      omega
theorem splitW_size : ∀ (n : Nat) (s : Nm), ∀ w ∈ splitW n s, w.length ≤ s.length
  | 0, s, w, h => by simp [splitW] at h; subst h; omega
  | n + 1, s, w, h => by
    rw [splitW] at h
    split at h
    · simp at h; subst h; omega
    · rename_i a b hc
      have hl := congrArg List.length (cutB_some hc).1
      simp only [List.length_append, List.length_cons] at hl
      rcases List.mem_cons.1 h with rfl | h
      · omega
      · have := splitW_size n b w h
        omega

/-- As far as a word may go. -/
def stopC (c : UInt8) : Bool := c == 32 || c == 41
def wordR : Nm → Nm × Nm
  | [] => ([], [])
  | x :: l => if stopC x = true then ([], x :: l) else (x :: (wordR l).1, (wordR l).2)
theorem wordR_is : ∀ s : Nm, s = (wordR s).1 ++ (wordR s).2
  | [] => rfl
  | x :: l => by
    rw [wordR]
    split
    · rfl
    · show x :: l = x :: ((wordR l).1 ++ (wordR l).2)
      rw [← wordR_is l]
theorem wordR_of : ∀ (a b : Nm), (∀ c ∈ a, stopC c = false) → (b = [] ∨ ∃ c b', b = c :: b' ∧ stopC c = true) → wordR (a ++ b) = (a, b)
  | [], b, _, h => by
    rcases h with rfl | ⟨c, b', rfl, hc⟩
    · rfl
    · rw [List.nil_append, wordR, if_pos hc]
  | x :: a, b, ha, h => by
    rw [List.cons_append, wordR, if_neg (by rw [ha x (by simp)]; decide), wordR_of a b (fun c hc => ha c (List.mem_cons_of_mem _ hc)) h]
/-- The kind of a name; 0, if there is none. -/
def nameK (s : Nm) : Int := if s = [97, 110, 100] then 2 else if s = [111, 114] then 3 else if s = [110, 111, 116] then 4 else 0
theorem nameK_is {s : Nm} (h : nameK s ≠ 0) : kindN (nameK s) = s ∧ 2 ≤ nameK s ∧ nameK s ≤ 4 := by
  unfold nameK at h ⊢
  split
  · rename_i e; subst e; exact ⟨rfl, by decide, by decide⟩
  · split
    · rename_i e; subst e; exact ⟨rfl, by decide, by decide⟩
    · split
      · rename_i e; subst e; exact ⟨rfl, by decide, by decide⟩
      · rename_i h1 h2 h3; rw [if_neg h1, if_neg h2, if_neg h3] at h; exact absurd rfl h
theorem nameK_of {k : Int} (h1 : 2 ≤ k) (h2 : k ≤ 4) : nameK (kindN k) = k ∧ (32 : UInt8) ∉ kindN k := by
  have : k = 2 ∨ k = 3 ∨ k = 4 := by omega
  rcases this with rfl | rfl | rfl <;> exact ⟨by decide, by decide⟩
/-- Kids, one behind the other, at most so many. -/
def kidsR (rd : Nm → Option (Qy × Nm)) : Nat → Nm → Option (List Qy × Nm)
  | 0, s => some ([], s)
  | m + 1, s => match rd s with
    | none => none
    | some (q, r) => match r with
      | [] => some ([q], r)
      | c :: r' => if 0 < m ∧ c = 32 then (match kidsR rd m r' with | none => none | some (ks, r2) => some (q :: ks, r2)) else some ([q], r)
/-- What stands behind a bracket. -/
def partsR (rd : Nm → Option (Qy × Nm)) (s : Nm) : Option (Qy × Nm) :=
  match cutB 32 s with
  | none => none
  | some (name, s1) => if nameK name = 0 then none else
    match kidsR rd 8 s1 with
    | none => none
    | some (ks, s2) => match s2 with
      | [] => none
      | c :: s3 => if c = 41 then some (.mk (nameK name) ([], []) [] ks, s3) else none
/-- What stands behind a quotation mark. -/
def phraseR (field : Nm) (s : Nm) : Option (Qy × Nm) :=
  match cutB 34 s with
  | none => none
  | some (ws, r) => some (.mk 5 (field, []) (splitW 6 ws) [], r)
/-- What begins with a field's name. -/
def leafR (s : Nm) : Option (Qy × Nm) :=
  match cutB 58 s with
  | none => none
  | some (field, s1) => match s1 with
    | [] => some (.mk 1 (field, []) [] [], [])
    | c :: s2 => if c = 34 then phraseR field s2 else some (.mk 1 (field, (wordR (c :: s2)).1) [] [], (wordR (c :: s2)).2)
/-- A query that stands in so few that so many more may be. -/
def readQ : Nat → Nm → Option (Qy × Nm)
  | 0, _ => none
  | n + 1, s => match s with
    | [] => none
    | c :: s1 => if c = 40 then partsR (readQ n) s1 else leafR (c :: s1)
/-- A text's query. -/
def parseQ (s : Nm) : Option Qy := match readQ 6 s with
  | none => none
  | some (q, r) => if r ≠ [] ∨ mayQ 1 q ≠ 0 then none else some q

theorem kidsR_text {rd : Nm → Option (Qy × Nm)} (h : ∀ s q r, rd s = some (q, r) → s = textQ q ++ r) : ∀ {m : Nat} {s : Nm} {ks : List Qy} {r : Nm}, kidsR rd (m + 1) s = some (ks, r) → 32 :: s = textL ks ++ r
  | m, s, ks, r, hk => by
    rw [kidsR] at hk
    cases hr : rd s with
    | none => rw [hr] at hk; cases hk
    | some y =>
      obtain ⟨q, r1⟩ := y
      rw [hr] at hk
      have hs := h _ _ _ hr
      subst hs
      simp only at hk
      cases r1 with
      | nil =>
        simp only [Option.some.injEq, Prod.mk.injEq] at hk
        obtain ⟨rfl, rfl⟩ := hk
        simp [textL]
      | cons c r' =>
        simp only at hk
        split at hk
        · rename_i hc
          obtain ⟨hm, rfl⟩ := hc
          obtain ⟨m, rfl⟩ : ∃ m', m = m' + 1 := ⟨m - 1, by omega⟩
          cases hk2 : kidsR rd (m + 1) r' with
          | none => rw [hk2] at hk; cases hk
          | some z =>
            obtain ⟨ks', r2⟩ := z
            rw [hk2] at hk
            simp only [Option.some.injEq, Prod.mk.injEq] at hk
            obtain ⟨rfl, rfl⟩ := hk
            have := kidsR_text h hk2
            rw [textL, List.cons_append, List.append_assoc, ← this]
        · simp only [Option.some.injEq, Prod.mk.injEq] at hk
          obtain ⟨rfl, rfl⟩ := hk
          simp [textL]
theorem read_text : ∀ (n : Nat) (s : Nm) (q : Qy) (r : Nm), readQ n s = some (q, r) → s = textQ q ++ r
  | 0, _, _, _, h => by cases h
  | n + 1, s, q, r, h => by
    cases s with
    | nil => cases h
    | cons c s1 =>
      rw [readQ] at h
      split at h
      · rename_i hc
        subst hc
        unfold partsR at h
        cases h1 : cutB 32 s1 with
        | none => rw [h1] at h; cases h
        | some y =>
          obtain ⟨name, s2⟩ := y
          rw [h1] at h
          simp only at h
          split at h
          · cases h
          · rename_i hk
            obtain ⟨g1, g2, g3⟩ := nameK_is hk
            cases h2 : kidsR (readQ n) 8 s2 with
            | none => rw [h2] at h; cases h
            | some z =>
              obtain ⟨ks, s3⟩ := z
              rw [h2] at h
              simp only at h
              cases s3 with
              | nil => cases h
              | cons c s4 =>
                simp only at h
                split at h
                · rename_i hc
                  subst hc
                  simp only [Option.some.injEq, Prod.mk.injEq] at h
                  obtain ⟨rfl, rfl⟩ := h
                  have := kidsR_text (fun s q r => read_text n s q r) h2
                  rw [textQ, if_neg (by omega), if_neg (by omega), g1, (cutB_some h1).1, List.cons_append, List.append_assoc, List.append_assoc, this]
                  rfl
                · cases h
      · unfold leafR at h
        cases h1 : cutB 58 (c :: s1) with
        | none => rw [h1] at h; cases h
        | some y =>
          obtain ⟨field, s2⟩ := y
          rw [h1] at h
          rw [(cutB_some h1).1]
          cases s2 with
          | nil =>
            simp only [Option.some.injEq, Prod.mk.injEq] at h
            obtain ⟨rfl, rfl⟩ := h
            simp [textQ]
          | cons d s3 =>
            simp only at h
            split at h
            · rename_i hd
              subst hd
              unfold phraseR at h
              cases h2 : cutB 34 s3 with
              | none => rw [h2] at h; cases h
              | some z =>
                obtain ⟨ws, s4⟩ := z
                rw [h2] at h
                simp only [Option.some.injEq, Prod.mk.injEq] at h
                obtain ⟨rfl, rfl⟩ := h
                rw [(cutB_some h2).1, textQ, if_neg (by decide), if_pos rfl, join_split]
                simp
            · simp only [Option.some.injEq, Prod.mk.injEq] at h
              obtain ⟨rfl, rfl⟩ := h
              rw [textQ, if_pos rfl]
              conv => lhs; rw [wordR_is (d :: s3)]
              simp
/-- A text's query has that text. -/
theorem parse_text {s : Nm} {q : Qy} (h : parseQ s = some q) : s = textQ q ∧ mayQ 1 q = 0 := by
  unfold parseQ at h
  cases hr : readQ 6 s with
  | none => rw [hr] at h; cases h
  | some y =>
    obtain ⟨q', r⟩ := y
    rw [hr] at h
    simp only at h
    split at h
    · cases h
    · rename_i hc
      injection h with h
      subst h
      have h1 : r = [] := Classical.not_not.1 fun e => hc (.inl e)
      subst h1
      exact ⟨by simpa using read_text _ _ _ _ hr, Classical.not_not.1 fun e => hc (.inr e)⟩
end Go.Proofs.YtolfkhflbjnakaaGreatDoor

/- A query's text is read as it, plain; and how long texts are. No program. -/
set_option linter.unusedVariables false
namespace Go.Proofs.YtolfkhflbjnakaaGreatDoor
open Go

theorem enc_ge : ∀ c ∈ List.range 592, 48 ≤ c → ∀ b ∈ Lib.encodeRune (c : Int), 48 ≤ b.toNat := by decide +kernel
theorem word_bytes {w : Nm} (h : mayWord w = true) : ∀ b ∈ w, 48 ≤ b.toNat := by
  have h' : w ≠ [] ∧ w.length ≤ 30 ∧ ∀ c ∈ signs w, inWord c = true ∧ fold c = c := of_decide_eq_true h
  have hs := text_signs w (fun c hc he => by have := inWord_bd (h'.2.2 c hc).1; omega)
  intro b hb
  rw [← hs] at hb
  obtain ⟨c, hc, hb⟩ := List.mem_flatMap.1 (show b ∈ (signs w).flatMap Lib.encodeRune from hb)
  have hc' := inWord_bd (h'.2.2 c hc).1
  obtain ⟨m, rfl⟩ : ∃ m : Nat, c = (m : Int) := ⟨c.toNat, by omega⟩
  exact enc_ge m (by rw [List.mem_range]; omega) (by omega) b hb
theorem word_len {w : Nm} (h : mayWord w = true) : w ≠ [] ∧ w.length ≤ 30 := by
  have h' : w ≠ [] ∧ w.length ≤ 30 ∧ ∀ c ∈ signs w, inWord c = true ∧ fold c = c := of_decide_eq_true h
  exact ⟨h'.1, h'.2.1⟩
theorem word_out {w : Nm} (h : mayWord w = true) {c : UInt8} (hc : c.toNat < 48) : c ∉ w := fun hm => by have := word_bytes h c hm; omega
theorem word_stop {w : Nm} (h : mayWord w = true) : ∀ c ∈ w, stopC c = false := fun c hc => by
  have := word_bytes h c hc
  unfold stopC
  rw [Bool.or_eq_false_iff]
  constructor
  · rw [beq_eq_false_iff_ne]; rintro rfl; exact absurd this (by decide)
  · rw [beq_eq_false_iff_ne]; rintro rfl; exact absurd this (by decide)
theorem name_bytes {s : Nm} (h : nameB s = true) : (∀ c ∈ s, 97 ≤ c.toNat ∧ c.toNat ≤ 122) ∧ 1 ≤ s.length ∧ s.length ≤ 12 := by
  rw [nameB, Bool.and_eq_true, Bool.and_eq_true, decide_eq_true_iff, decide_eq_true_iff] at h
  refine ⟨fun c hc => ?_, h.2⟩
  have := List.all_eq_true.1 h.1 c hc
  rw [smallB, Bool.and_eq_true, decide_eq_true_iff, decide_eq_true_iff] at this
  exact this
theorem name_out {s : Nm} (h : nameB s = true) {c : UInt8} (hc : c.toNat < 97) : c ∉ s := fun hm => by have := (name_bytes h).1 c hm; omega
theorem joinW_mem : ∀ {ws : List Nm} {c : UInt8}, c ∈ joinW ws → c = 32 ∨ ∃ w ∈ ws, c ∈ w
  | [], _, h => by cases h
  | [w], c, h => .inr ⟨w, by simp, h⟩
  | w :: w' :: ws, c, h => by
    rw [joinW_cons _ (by simp)] at h
    rcases List.mem_append.1 h with h | h
    · exact .inr ⟨w, by simp, h⟩
    · rcases List.mem_cons.1 h with rfl | h
      · exact .inl rfl
      · rcases joinW_mem h with h | ⟨x, h1, h2⟩
        · exact .inl h
        · exact .inr ⟨x, List.mem_cons_of_mem _ h1, h2⟩
/-- What may stand behind a query's text. -/
def StopN (r : Nm) : Prop := r = [] ∨ ∃ c r', r = c :: r' ∧ stopC c = true
theorem leaf_of {f : Nm} (h : nameB f = true) (n : Nat) (b : Nm) : readQ (n + 1) (f ++ 58 :: b) = leafR (f ++ 58 :: b) ∧ cutB 58 (f ++ 58 :: b) = some (f, b) := by
  obtain ⟨h1, h2, _⟩ := name_bytes h
  refine ⟨?_, cutB_of b (name_out h (by decide))⟩
  cases f with
  | nil => simp at h2
  | cons c f =>
    have hc : c ≠ 40 := by rintro rfl; exact absurd (h1 40 (by simp)).1 (by decide)
    rw [List.cons_append, readQ, if_neg hc]
theorem kidsR_of {rd : Nm → Option (Qy × Nm)} : ∀ {ks : List Qy} {m : Nat} {r : Nm}, ks ≠ [] → ks.length ≤ m → (∀ q ∈ ks, ∀ r, StopN r → rd (textQ q ++ r) = some (q, r)) → kidsR rd m ((textL ks).tail ++ 41 :: r) = some (ks, 41 :: r)
  | [], _, _, h, _, _ => absurd rfl h
  | [q], m, r, _, hm, h => by
    obtain ⟨m, rfl⟩ : ∃ m', m = m' + 1 := ⟨m - 1, by simp at hm; omega⟩
    have := h q (by simp) (41 :: r) (.inr ⟨41, r, rfl, rfl⟩)
    rw [textL, textL, List.append_nil, List.tail_cons, kidsR, this]
    simp
  | q :: q' :: l, m, r, _, hm, h => by
    simp only [List.length_cons] at hm
    obtain ⟨m, rfl⟩ : ∃ m', m = m' + 1 := ⟨m - 1, by omega⟩
    have ih := kidsR_of (ks := q' :: l) (m := m) (r := r) (by simp) (by simp only [List.length_cons]; omega) fun x hx => h x (List.mem_cons_of_mem _ hx)
    have e : textL (q' :: l) = 32 :: (textL (q' :: l)).tail := by rw [textL, List.tail_cons]
    have := h q (by simp) (32 :: ((textL (q' :: l)).tail ++ 41 :: r)) (.inr ⟨32, _, rfl, rfl⟩)
    rw [textL, List.tail_cons, List.append_assoc, e, List.cons_append, kidsR, this]
    simp only
    rw [if_pos ⟨by omega, trivial⟩, ih]
theorem read_of : ∀ (n : Nat) {d : Nat} {q : Qy} {r : Nm}, deepQ q ≤ n → mayQ d q = 0 → StopN r → readQ n (textQ q ++ r) = some (q, r)
  | 0, _, q, _, h, _, _ => by have := deepQ_pos q; omega
  | n + 1, d, .mk k t ws ks, r, h, hm, hr => by
    obtain ⟨hd, ho, hl⟩ := mayQ_zero hm
    obtain ⟨t1, t2⟩ := t
    rcases own_zero ho with ⟨rfl, h1, rfl, h2, h3⟩ | ⟨rfl, h1, h2, h3, h4, h5, h6⟩ | ⟨h1, h2, h3, rfl, h4, h5, _⟩
    · obtain rfl : ks = [] := List.eq_nil_of_length_eq_zero h1
      simp only at h2 h3
      obtain ⟨e1, e2⟩ := leaf_of h2 n (t2 ++ r)
      rw [textQ, if_pos rfl, List.append_assoc, List.cons_append, e1, leafR, e2]
      have hw := wordR_of t2 r (word_stop h3) hr
      have hne := (word_len h3).1
      cases t2 with
      | nil => exact absurd rfl hne
      | cons c t2 =>
        have hc : c ≠ 34 := by rintro rfl; exact absurd (word_bytes h3 34 (by simp)) (by decide)
        simp only [List.cons_append] at hw ⊢
        rw [if_neg hc, hw]
    · obtain rfl : ks = [] := List.eq_nil_of_length_eq_zero h1
      simp only at h2 h3
      subst h2
      obtain ⟨e1, e2⟩ := leaf_of h3 n (34 :: (joinW ws ++ [34]) ++ r)
      have hb := badW_false.1 h5
      have hq : (34 : UInt8) ∉ joinW ws := fun hq => by
        rcases joinW_mem hq with h | ⟨w, h7, h8⟩
        · exact absurd h (by decide)
        · exact word_out (hb w h7) (by decide) h8
      rw [textQ, if_neg (by decide), if_pos rfl, List.append_assoc, List.cons_append, e1, leafR, e2]
      simp only [List.cons_append, if_true]
      rw [phraseR, List.append_assoc, List.singleton_append, cutB_of r hq]
      simp only
      rw [split_join 6 ws h4 (by omega) fun w hw => word_out (hb w hw) (by decide)]
    · simp only [Prod.mk.injEq] at h3
      obtain ⟨rfl, rfl⟩ := h3
      obtain ⟨g1, g2⟩ := nameK_of h1 h2
      have hne : ks ≠ [] := by rintro rfl; simp at h4
      have e : textL ks = 32 :: (textL ks).tail := by
        cases ks with
        | nil => exact absurd rfl hne
        | cons q l => rw [textL, List.tail_cons]
      have hk := kidsR_of (rd := readQ n) (m := 8) (r := r) hne h5 fun q hq r hr => by
        have := deepL_mem hq
        rw [deepQ] at h
        exact read_of n (by omega) (mayL_zero hl q hq) hr
      rw [textQ, if_neg (by omega), if_neg (by omega), e, List.cons_append, readQ]
      simp only [if_true, List.append_assoc, List.cons_append, List.nil_append]
      rw [partsR, cutB_of _ g2]
      simp only
      rw [if_neg (by rw [g1]; omega), hk, g1]
      simp
/-- A query's text is read as it. -/
theorem parse_of {q : Qy} (h : mayQ 1 q = 0) : parseQ (textQ q) = some q := by
  have h1 := mayQ_deep h
  have := read_of 6 (r := []) (by omega) h (.inl rfl)
  rw [List.append_nil] at this
  rw [parseQ, this]
  simp [h]
theorem joinW_length : ∀ {ws : List Nm} {b : Nat}, (∀ w ∈ ws, w.length ≤ b) → (joinW ws).length ≤ ws.length * (b + 1)
  | [], b, _ => by simp [joinW]
  | [w], b, h => by
    have := h w (by simp)
    simp only [joinW, List.length_cons, List.length_nil]
    omega
  | w :: w' :: ws, b, h => by
    have h1 := h w (by simp)
    have h2 := joinW_length (ws := w' :: ws) fun x hx => h x (List.mem_cons_of_mem _ hx)
    rw [joinW_cons _ (by simp), List.length_append, List.length_cons]
    simp only [List.length_cons, Nat.add_mul] at h2 ⊢
    omega
theorem textL_length {b : Nat} : ∀ {l : List Qy}, (∀ q ∈ l, (textQ q).length ≤ b) → (textL l).length ≤ l.length * (b + 1)
  | [], _ => by simp [textL]
  | q :: l, h => by
    have h1 := h q (by simp)
    have h2 := textL_length (l := l) fun x hx => h x (List.mem_cons_of_mem _ hx)
    rw [textL, List.length_cons, List.length_append, List.length_cons, Nat.add_mul]
    omega
/-- How long the text of a query is that may be. -/
theorem textQ_length : ∀ (n : Nat) {d : Nat} {q : Qy}, deepQ q ≤ n → mayQ d q = 0 → (textQ q).length ≤ 250 * 10 ^ n
  | 0, _, q, h, _ => by have := deepQ_pos q; omega
  | n + 1, d, .mk k t ws ks, h, hm => by
    obtain ⟨hd, ho, hl⟩ := mayQ_zero hm
    have hp : 1 ≤ 10 ^ n := Nat.one_le_pow _ _ (by decide)
    rw [Nat.pow_succ]
    rcases own_zero ho with ⟨rfl, h1, rfl, h2, h3⟩ | ⟨rfl, h1, h2, h3, h4, h5, h6⟩ | ⟨h1, h2, h3, rfl, h4, h5, _⟩
    · have a := (name_bytes h2).2.2
      have b := (word_len h3).2
      rw [textQ, if_pos rfl, List.length_append, List.length_cons]
      omega
    · have a := (name_bytes h3).2.2
      have b := joinW_length (ws := ws) (b := 30) fun w hw => (word_len (badW_false.1 h5 w hw)).2
      rw [textQ, if_neg (by decide), if_pos rfl]
      simp only [List.length_append, List.length_cons, List.length_nil]
      omega
    · have a := textL_length (l := ks) (b := 250 * 10 ^ n) fun q hq => by
        have := deepL_mem hq
        rw [deepQ] at h
        exact textQ_length n (by omega) (mayL_zero hl q hq)
      have hk : (kindN k).length ≤ 3 := by
        have : k = 2 ∨ k = 3 ∨ k = 4 := by omega
        rcases this with rfl | rfl | rfl <;> decide
      have : ks.length * (250 * 10 ^ n + 1) ≤ 8 * (250 * 10 ^ n + 1) := Nat.mul_le_mul_right _ h5
      rw [textQ, if_neg (by omega), if_neg (by omega)]
      simp only [List.length_append, List.length_cons, List.length_nil]
      omega
end Go.Proofs.YtolfkhflbjnakaaGreatDoor

/- Queries that may be, made of any, plain; and small ones. No program. -/
set_option linter.unusedVariables false
namespace Go.Proofs.YtolfkhflbjnakaaGreatDoor
open Go Go.RowKit

mutual
/-- Kinds that are ints, texts of at most b bytes. -/
def RawQ (b : Nat) : Qy → Prop
  | .mk k t ws ks => (-9223372036854775808 ≤ k ∧ k ≤ 9223372036854775807) ∧ (t.1.length ≤ b ∧ t.2.length ≤ b) ∧ (∀ w ∈ ws, w.length ≤ b) ∧ RawL b ks
def RawL (b : Nat) : List Qy → Prop
  | [] => True
  | q :: l => RawQ b q ∧ RawL b l
end
theorem rawL_mem {b : Nat} : ∀ {l : List Qy} {q : Qy}, RawL b l → q ∈ l → RawQ b q
  | [], _, _, h => by cases h
  | a :: l, q, h, hq => by
    rw [RawL] at h
    rcases List.mem_cons.1 hq with rfl | hq
    · exact h.1
    · exact rawL_mem h.2 hq
theorem goodK_bd (k : Int) : 1 ≤ goodK k ∧ goodK k ≤ 5 := by
  unfold goodK
  split <;> omega
theorem goodFn_is (s : Nm) : nameB (goodFn s) = true := by
  unfold goodFn
  split
  · rename_i h; exact h
  · rfl
theorem mayWord_a : mayWord [97] = true := by decide +kernel
theorem goodWd_is (s : Nm) : mayWord (goodWd s) = true := by
  unfold goodWd
  split
  · rename_i h; exact h
  · exact mayWord_a
theorem goodL_length : ∀ (m d : Nat) (l : List Qy), (goodL m d l).length = min m l.length
  | 0, _, _ => by simp [goodL]
  | m + 1, _, [] => by simp [goodL]
  | m + 1, d, q :: l => by rw [goodL, List.length_cons, goodL_length m d l, List.length_cons]; omega
theorem goodL_map : ∀ (m d : Nat) (l : List Qy), goodL m d l = (l.take m).map (goodQ d)
  | 0, _, _ => by simp [goodL]
  | m + 1, _, [] => by simp [goodL]
  | m + 1, d, q :: l => by rw [goodL, goodL_map m d l]; rfl
theorem fewL_map : ∀ (m d : Nat) (l : List Qy), fewL m d l = (l.take m).map (fewQ d)
  | 0, _, _ => by simp [fewL]
  | m + 1, _, [] => by simp [fewL]
  | m + 1, d, q :: l => by rw [fewL, fewL_map m d l]; rfl
theorem goodWs_is (ws : List Nm) : (∀ w ∈ goodWs ws, mayWord w = true) ∧ (goodWs ws).length ≤ 3 := by
  unfold goodWs
  refine ⟨fun w hw => (List.mem_filter.1 hw).2, ?_⟩
  have := List.length_filter_le mayWord (ws.take 3)
  rw [List.length_take] at this
  omega
/-- What is made so may be, and is small. -/
theorem good_may : ∀ (n : Nat) {d : Nat} {q : Qy}, 4 ≤ d + n → d ≤ 5 → mayQ d (goodQ d q) = 0 ∧ deepQ (goodQ d q) ≤ n + 1
  | n, d, .mk k t ws ks, hn, hd => by
    rw [goodQ]
    split
    · rename_i h
      obtain ⟨⟨h1, h2⟩, h3, h4⟩ := h
      obtain ⟨n, rfl⟩ : ∃ n', n = n' + 1 := ⟨n - 1, by omega⟩
      have ih : ∀ q ∈ goodL (if goodK k = 4 then 1 else 3) (d + 1) ks, mayQ (d + 1) q = 0 ∧ deepQ q ≤ n + 1 := fun q hq => by
        rw [goodL_map] at hq
        obtain ⟨y, _, rfl⟩ := List.mem_map.1 hq
        exact good_may n (by omega) (by omega)
      have hl := goodL_length (if goodK k = 4 then 1 else 3) (d + 1) ks
      constructor
      · refine mayQ_of (by omega) ?_ (mayL_of fun q hq => (ih q hq).1)
        rw [ownQ, if_neg (by omega), if_pos ⟨h1, h2⟩, hl]
        by_cases h5 : goodK k = 4
        · rw [if_pos h5, if_neg (fun hh => hh.elim (fun h => h rfl) fun hh => hh.elim (fun h => h rfl) (fun h => by omega)), if_neg (by omega)]
        · rw [if_neg h5, if_neg (fun hh => hh.elim (fun h => h rfl) fun hh => hh.elim (fun h => h rfl) (fun h => by omega)), if_neg (by omega)]
      · rw [deepQ]
        have : ∀ l : List Qy, (∀ q ∈ l, deepQ q ≤ n + 1) → deepL l ≤ n + 1 := fun l => by
          induction l with
          | nil => intro _; rw [deepL]; omega
          | cons a l ih => intro h; rw [deepL]; have := h a (List.mem_cons_self ..); have := ih fun q hq => h q (List.mem_cons_of_mem _ hq); omega
        have := this _ fun q hq => (ih q hq).2
        omega
    · split
      · rename_i h1 h2
        obtain ⟨g1, g2⟩ := goodWs_is ws
        have g0 : goodWs ws ≠ [] := fun e => by rw [e] at h2; exact absurd h2.2 (by decide)
        refine ⟨mayQ_of (by omega) ?_ rfl, by rw [deepQ, deepL]; omega⟩
        rw [ownQ, if_neg (by decide), if_neg (by decide), if_neg (fun hh => hh.elim (fun h => absurd h (by simp)) fun hh => hh.elim (fun h => absurd h.1 (by decide)) (fun h => h.2 rfl))]
        simp only
        rw [if_neg (by rw [goodFn_is]; decide), if_neg (c := (5 : Int) = 1) (by decide), if_neg (fun hh => hh.elim g0 fun h => by rw [badW_false.2 g1] at h; cases h), if_neg (by omega)]
      · refine ⟨mayQ_of (by omega) ?_ rfl, by rw [deepQ, deepL]; omega⟩
        rw [ownQ, if_neg (by decide), if_neg (by decide), if_neg (fun hh => hh.elim (fun h => absurd h (by simp)) fun hh => hh.elim (fun h => h.2 rfl) (fun h => absurd h.1 (by decide)))]
        simp only
        rw [if_neg (by rw [goodFn_is]; decide), if_pos trivial, if_pos (goodWd_is _)]
/-- One that may be is fine. -/
theorem may_fine : ∀ (n : Nat) {d : Nat} {q : Qy}, deepQ q ≤ n → mayQ d q = 0 → FineQ q
  | 0, _, q, h, _ => by have := deepQ_pos q; omega
  | n + 1, d, .mk k t ws ks, h, hm => by
    obtain ⟨hd, ho, hl⟩ := mayQ_zero hm
    have hk : FineL ks := fineL_of fun q hq => by
      have := deepL_mem hq
      rw [deepQ] at h
      exact may_fine n (by omega) (mayL_zero hl q hq)
    rw [FineQ]
    rcases own_zero ho with ⟨rfl, h1, rfl, h2, h3⟩ | ⟨rfl, h1, h2, h3, h4, h5, h6⟩ | ⟨h1, h2, h3, rfl, h4, h5, _⟩
    · have a := (name_bytes h2).2.2
      have b := (word_len h3).2
      exact ⟨⟨by omega, by omega⟩, ⟨by simp, by simp⟩, by omega, hk⟩
    · have a := (name_bytes h3).2.2
      exact ⟨⟨by omega, by rw [h2]; simp⟩, ⟨by omega, fun w hw => by have := (word_len (badW_false.1 h5 w hw)).2; omega⟩, by omega, hk⟩
    · subst h3
      exact ⟨⟨by simp, by simp⟩, ⟨by simp, by simp⟩, by omega, hk⟩
theorem few_deep : ∀ (d : Nat) (q : Qy), deepQ (fewQ d q) ≤ d + 1
  | 0, .mk k t ws ks => by rw [fewQ, deepQ, deepL]; omega
  | d + 1, .mk k t ws ks => by
    rw [fewQ, deepQ, fewL_map]
    have : ∀ l : List Qy, deepL (l.map (fewQ d)) ≤ d + 1 := fun l => by
      induction l with
      | nil => rw [List.map_nil, deepL]; omega
      | cons a l ih => rw [List.map_cons, deepL]; have := few_deep d a; omega
    have := this (ks.take 9)
    omega
theorem few_fine : ∀ (d : Nat) (q : Qy), FineQ (fewQ d q)
  | 0, .mk k t ws ks => by
    rw [fewQ, FineQ]
    refine ⟨⟨by simp; omega, by simp; omega⟩, ⟨by simp; omega, fun w hw => ?_⟩, by simp, by rw [FineL]; trivial⟩
    obtain ⟨y, _, rfl⟩ := List.mem_map.1 hw
    simp; omega
  | d + 1, .mk k t ws ks => by
    rw [fewQ, FineQ, fewL_map]
    refine ⟨⟨by simp; omega, by simp; omega⟩, ⟨by simp; omega, fun w hw => ?_⟩, by simp; omega, fineL_of fun q hq => ?_⟩
    · obtain ⟨y, _, rfl⟩ := List.mem_map.1 hw
      simp; omega
    · obtain ⟨y, _, rfl⟩ := List.mem_map.1 hq
      exact few_fine d y
theorem rawL_of {b : Nat} : ∀ {l : List Qy}, (∀ q ∈ l, RawQ b q) → RawL b l
  | [], _ => by rw [RawL]; trivial
  | a :: l, h => by rw [RawL]; exact ⟨h a (List.mem_cons_self ..), rawL_of fun q hq => h q (List.mem_cons_of_mem _ hq)⟩
theorem few_raw {b : Nat} : ∀ (d : Nat) {q : Qy}, RawQ b q → RawQ 35 (fewQ d q)
  | 0, .mk k t ws ks, h => by
    rw [RawQ] at h
    rw [fewQ, RawQ]
    refine ⟨h.1, ⟨by simp; omega, by simp; omega⟩, fun w hw => ?_, by rw [RawL]; trivial⟩
    obtain ⟨y, _, rfl⟩ := List.mem_map.1 hw
    simp; omega
  | d + 1, .mk k t ws ks, h => by
    rw [RawQ] at h
    rw [fewQ, RawQ, fewL_map]
    refine ⟨h.1, ⟨by simp; omega, by simp; omega⟩, fun w hw => ?_, rawL_of fun q hq => ?_⟩
    · obtain ⟨y, _, rfl⟩ := List.mem_map.1 hw
      simp; omega
    · obtain ⟨y, hy, rfl⟩ := List.mem_map.1 hq
      exact few_raw d (rawL_mem h.2.2.2 (List.mem_of_mem_take hy))
mutual
theorem raw_more {b b' : Nat} (hb : b ≤ b') : ∀ {q : Qy}, RawQ b q → RawQ b' q
  | .mk k t ws ks, h => by
    rw [RawQ] at h ⊢
    exact ⟨h.1, ⟨by omega, by omega⟩, fun w hw => Nat.le_trans (h.2.2.1 w hw) hb, raw_moreL hb h.2.2.2⟩
theorem raw_moreL {b b' : Nat} (hb : b ≤ b') : ∀ {l : List Qy}, RawL b l → RawL b' l
  | [], _ => by rw [RawL]; trivial
  | q :: l, h => by rw [RawL] at h ⊢; exact ⟨raw_more hb h.1, raw_moreL hb h.2⟩
end
end Go.Proofs.YtolfkhflbjnakaaGreatDoor

/- What the document's Name answers. -/
namespace Go.Proofs.YtolfkhflbjnakaaGreatDoor
open Go Go.RowKit
set_option linter.unusedVariables false

def NameRel (s : Nm) (w : World) (i : Value) (wr : World) : Prop := ∃ k : Nat, k ≤ s.length ∧ i = .int .i64 (k : Int) ∧ Below w.heap.size w wr ∧ ∀ j (hj : j < s.length), j < k → smallB s[j] = true

set_option maxHeartbeats 1000000 in
set_option maxRecDepth 100000 in
theorem ref08_Name (s : ByteArray) (w : World) (hs : s.size ≤ 9223372036854775807) :
    Calls Tryz.prog 31 #[.string s] w fun e w' => e = .returned (.bool (nameB s.data.toList)) ∧ Below w.heap.size w w' := by
  have hsz : s.data.toList.length = s.size := Array.length_toList
  obtain ⟨z, hz⟩ : ∃ z, z = nameB s.data.toList := ⟨_, rfl⟩
  rw [← hz]
  have HZ := Lib.hid hz
  clear hz
  go_enter Tryz.func31, Tryz.ntmps31
  go_wp2
  go_loopw [2, 3] (fun r i wr => r = .bool false ∧ NameRel s.data.toList w i wr) (fun _ i _ => s.size - (intOf i).toNat)
  case atStart => exact ⟨rfl, 0, by omega, rfl, Below.refl _ _, fun j _ hj => by omega⟩
  case round =>
    obtain ⟨rfl, k, hk, rfl, hbw, hall⟩ := hrel
    rw [hsz] at hk
    by_cases hlt : k < s.size
    · have hkl : k < s.data.toList.length := by omega
      have i0 : (0 : Int) ≤ k := by omega
      have i1 : (k : Int) < s.size := by omega
      have hb : s[k] = s.data.toList[k] := rfl
      cases hsm : smallB s.data.toList[k] with
      | true =>
        have h2 := hsm
        rw [smallB, ← hb, Bool.and_eq_true, decide_eq_true_iff, decide_eq_true_iff] at h2
        have j1 : (97 : Int) ≤ s[k].toNat := by omega
        have j2 : (s[k].toNat : Int) ≤ 122 := by omega
        have HN : Hid (∀ j (hj : j < s.data.toList.length), j < k + 1 → smallB s.data.toList[j] = true) := Lib.hid fun j hj hjk => by
          by_cases e : j = k
          · subst e; exact hsm
          · exact hall j hj (by omega)
        have HSZ := Lib.hid hsz
        clear hall hsm h2 hb hsz
        go_wp2
        go_roundw
        case rel => exact ⟨rfl, k + 1, by have := HSZ.out; omega, by go_num, hbw, HN.out⟩
        case measure => simp [intOf]; omega
      | false =>
        have h2 := hsm
        rw [smallB, ← hb, Bool.and_eq_false_iff, decide_eq_false_iff_not, decide_eq_false_iff_not] at h2
        have hbad : z = false := by rw [HZ.out]; exact nameB_bad hkl hsm
        subst hbad
        have j1 : (s[k].toNat : Int) < 97 ∨ (97 : Int) ≤ s[k].toNat ∧ (122 : Int) < s[k].toNat := by omega
        clear hall hsm h2 hb hsz
        rcases j1 with j1 | ⟨j1, j2⟩
        all_goals
          go_wp2
          go_ret
          exact ⟨rfl, hbw⟩
    · have e := nameB_good (s := s.data.toList) (fun j hj => hall j hj (by omega))
      rw [hsz, ← HZ.out] at e
      clear hall hsz
      by_cases g1 : 1 ≤ s.size
      · by_cases g2 : s.size ≤ 12
        · have d1 : (decide (1 ≤ s.size) && decide (s.size ≤ 12)) = true := by simp [g1, g2]
          rw [d1] at e
          subst e
          clear d1
          go_wp2
          go_ret
          exact ⟨ret_bool (decide_eq_true (by omega)), hbw⟩
        · have d1 : (decide (1 ≤ s.size) && decide (s.size ≤ 12)) = false := by simp [g2]
          have g3 : 12 < s.size := by omega
          rw [d1] at e
          subst e
          clear d1 g2
          go_wp2
          go_ret
          exact ⟨ret_bool (decide_eq_false (by omega)), hbw⟩
      · have d1 : (decide (1 ≤ s.size) && decide (s.size ≤ 12)) = false := by simp [g1]
        have g3 : s.size < 1 := by omega
        rw [d1] at e
        subst e
        clear d1 g1
        go_wp2
        go_ret
        exact ⟨rfl, hbw⟩
end Go.Proofs.YtolfkhflbjnakaaGreatDoor

/- What the document's Tokens answers: each word with its place, or the first error; in new memory; nothing that was there turns. -/
namespace Go.Proofs.YtolfkhflbjnakaaGreatDoor
open Go Go.RowKit
set_option linter.unusedVariables false

set_option maxHeartbeats 2000000 in
set_option maxRecDepth 100000 in
theorem ref_Tokens (s : ByteArray) (w : World) (hs : s.size ≤ 268435456) :
    Calls Tryz.prog 91 #[.string s] w (GaveToks (words s.data.toList) w) := by
  obtain ⟨i0, hi0, hz0, hz1, hz2⟩ := info_parts info_token
  have hwl := words_length s.data.toList
  have hsz : s.data.toList.length = s.size := Array.length_toList
  rw [hsz] at hwl
  go_enter Tryz.func91, Tryz.ntmps91
  go_wp2_with (go_at_call 133; refine (ref_Words s _ (by omega)).mono ?_)
  rintro e w1 ⟨v, rfl, hown, hb⟩
  obtain ⟨A, c, rfl, _, hrow⟩ := owned_row hown
  obtain ⟨ws, hl⟩ : ∃ ws, ws = words s.data.toList := ⟨_, rfl⟩
  rw [← hl] at hrow hwl
  rw [← hl]
  have FIN : Hid (∀ e w', GaveToks ws w e w' → GaveToks (words s.data.toList) w e w') := by rw [← hl]; exact fun _ _ h => h
  have HB := Lib.hid hb
  have HR := Lib.hid hrow
  clear hl hb hown hrow
  go_wp2
  go_loopw [2, 3, 5, 6] (fun a b o i wr => ToksRel ws w1 a b o i wr) (fun _ _ _ i _ => ws.length - (intOf i).toNat)
  case atStart => exact ⟨0, _, rfl, rfl, rfl, Nat.zero_le _, by omega, rfl, World.ownsRow_nil _ _ _ _, Below.refl _ _, rfl⟩
  case round =>
    obtain ⟨k, vo, rfl, rfl, rfl, hk, hk5, rfl, hown, hbw, her⟩ := hrel
    by_cases hlt : k < ws.length
    · obtain ⟨b1, o1, e1, _, hc1⟩ := row_str (HR.out.below hbw) hlt
      subst e1
      have hat := errFrom_at hlt
      have htk := tokCells_take hlt
      obtain ⟨tx, htx⟩ : ∃ tx : ByteArray, tx = ⟨ws[k].toArray⟩ := ⟨_, rfl⟩
      have htl : ws[k].length = tx.size := by rw [htx]; simp [ByteArray.size]
      rw [← htx] at hc1 htk
      rw [htl, her] at hat
      clear htx htl her
      have HTK := Lib.hid htk
      clear htk
      have hszj := hbw.size
      by_cases h30 : 30 < tx.size
      · rw [if_pos h30] at hat
        have HAT := Lib.hid hat
        clear hat
        go_wp2
        go_ret2
        exact FIN.out _ _ ⟨_, by rw [HAT.out]; rfl, fun h => by rw [HAT.out] at h; omega, fun _ => rfl, HB.out.trans (hbw.mono HB.out.size)⟩
      · rw [if_neg h30] at hat
        by_cases h500 : k = 500
        · rw [if_pos (by omega)] at hat
          have HAT := Lib.hid hat
          subst h500
          clear hat
          go_wp2
          go_ret2
          exact FIN.out _ _ ⟨_, by rw [HAT.out]; rfl, fun h => by rw [HAT.out] at h; omega, fun _ => rfl, HB.out.trans (hbw.mono HB.out.size)⟩
        · rw [if_neg (by omega)] at hat
          have HAT := Lib.hid hat
          clear hat
          have h5 : (k : Int) < 500 := by omega
          have h5' : ¬ (500 : Int) ≤ k := by omega
          go_wp2_with (at_builtin; refine wpList_append_own _ rfl (.tmp 23) (.tmp 30) 116 rfl w1.heap.size 155 i0 _ 2 24 Tryz.underlying116 hi0 hz0 hz1 hz2 rfl (by omega) _ k (tokCells 0 (ws.take k)) rfl (hown.alloc _) ⟨wr.heap.size, 0, none⟩ 1 1 [.string tx, .int .i64 k] rfl rfl (news_at wr [.string tx, .int .i64 k] 155) (by intro u hu; simp at hu; rcases hu with hu | hu <;> (subst hu; rfl)) (by unfold maxLen; omega) (by omega) (by simp; omega) ?_)
          intro v' w5 hown5 hgrow5 _
          have hbw5 := (hbw.alloc (by omega) _).grown hgrow5 (by simp; omega) (fun j hj => (hown.lt j hj).1)
          rw [← HTK.out] at hown5
          clear hgrow5
          go_wp2
          go_roundw
          case rel => exact ⟨k + 1, _, rfl, rfl, rfl, by omega, by omega, by go_num, hown5, hbw5, HAT.out.symm⟩
          case measure => simp [intOf]; omega
    · have hkl : k = ws.length := by omega
      have her0 : errFrom 0 ws = 0 := by rw [← her, List.drop_of_length_le (by omega)]; rfl
      rw [hkl, List.take_length] at hown
      have HE := Lib.hid her0
      clear her her0 hkl
      go_wp2
      go_ret2
      exact FIN.out _ _ ⟨_, by rw [HE.out]; rfl, fun _ => owned_low hown HB.out.size, fun h => absurd HE.out h, HB.out.trans (hbw.mono HB.out.size)⟩
end Go.Proofs.YtolfkhflbjnakaaGreatDoor

/- What the document's May answers of a document. -/
namespace Go.Proofs.YtolfkhflbjnakaaGreatDoor
open Go Go.RowKit
set_option linter.unusedVariables false

theorem errFrom_zero : ∀ {ws : List Nm} {i : Nat}, errFrom i ws = 0 → i ≤ 500 → i + ws.length ≤ 500
  | [], i, _, h => by simpa using h
  | w :: ws, i, h, hi => by
    rw [errFrom] at h
    split at h
    · omega
    · split at h
      · omega
      · have := errFrom_zero h (by omega)
        simp only [List.length_cons]
        omega
def seenUp (l : List Fd) (k : Nat) : List Nm := (l.take k).map (·.1)
theorem seenUp_succ {l : List Fd} {k : Nat} (hk : k < l.length) : seenUp l (k + 1) = seenUp l k ++ [l[k].1] := by
  unfold seenUp
  rw [List.take_succ_eq_append_getElem hk, List.map_append]
  rfl
theorem seenUp_in {l : List Fd} {k j : Nat} (hk : k ≤ l.length) (hj : j < k) : (l[j]'(by omega)).1 ∈ seenUp l k := by
  refine List.mem_map.2 ⟨l[j]'(by omega), ?_, rfl⟩
  have h : j < (l.take k).length := by rw [List.length_take]; omega
  have := List.getElem_mem h
  rwa [List.getElem_take] at this
theorem seenUp_out {l : List Fd} {k : Nat} (hk : k ≤ l.length) {x : Nm} (h : ∀ j (hj : j < l.length), j < k → l[j].1 ≠ x) : x ∉ seenUp l k := fun hx => by
  obtain ⟨f, hf, rfl⟩ := List.mem_map.1 hx
  obtain ⟨j, hj, rfl⟩ := List.getElem_of_mem hf
  rw [List.length_take] at hj
  rw [List.getElem_take] at h
  exact h j (by omega) (by omega) rfl
theorem mayF_at {seen : List Nm} {n k : Nat} {l : List Fd} (hk : k < l.length) : mayF seen n (l.drop k) =
    if nameB l[k].1 = false then 4 else if l[k].1 ∈ seen then 5 else if errFrom 0 (words l[k].2) ≠ 0 then errFrom 0 (words l[k].2) else mayF (seen ++ [l[k].1]) (n + (words l[k].2).length) (l.drop (k + 1)) := by
  rw [List.drop_eq_getElem_cons hk, mayF]

def MayRel8 (l : List Fd) (E : Int) (w1 : World) (r a i : Value) (wr : World) : Prop :=
  r = .int .i64 0 ∧ ∃ k m : Nat, k ≤ l.length ∧ m ≤ k * 500 ∧ a = .int .i64 (m : Int) ∧ i = .int .i64 (k : Int) ∧ Below w1.heap.size w1 wr ∧ mayF (seenUp l k) m (l.drop k) = E
def TwiceRel (l : List Fd) (k : Nat) (wr : World) (r i : Value) (wi : World) : Prop :=
  r = .int .i64 0 ∧ ∃ j : Nat, j ≤ k ∧ i = .int .i64 (j : Int) ∧ Below wr.heap.size wr wi ∧ ∀ i (hi : i < l.length) (hk : k < l.length), i < j → l[i].1 ≠ l[k].1

set_option maxHeartbeats 4000000 in
set_option maxRecDepth 100000 in
theorem ref08_May (id : Int) (A : Option Addr) (n c : Nat) (l : List Fd) (w : World) (hl : l.length = n) (hr : FRow w w.heap.size A l) (hn : n ≤ 1073741824) (ht : ∀ f ∈ l, f.1.length ≤ 1073741824 ∧ f.2.length ≤ 268435456) :
    Calls Tryz.prog 50 #[docV id A n c] w fun e w' => e = .returned (.int .i64 (mayD l)) ∧ Below w.heap.size w w' := by
  obtain ⟨R, hR⟩ : ∃ R, R = mayD l := ⟨_, rfl⟩
  rw [← hR]
  have HRR := Lib.hid hR
  have HR := Lib.hid hr
  have HT := Lib.hid ht
  have HB1 : Hid (∀ w1, w1 = boxD w id A n c → ∀ wr, Below w1.heap.size w1 wr → Below w.heap.size w wr ∧ wr.cell? ⟨w.heap.size, 0, none⟩ = some (.int .i64 id) ∧ wr.cell? ⟨w.heap.size, 1, none⟩ = some (.slice A n c)) := Lib.hid fun w1 e wr h => by subst e; exact ⟨boxD_out h, boxD_cells h⟩
  clear hR hr ht
  by_cases h8 : 8 < n
  · have hR7 : R = 7 := by rw [HRR.out, mayD, if_pos (by omega)]
    subst hR7
    have HB0 := Lib.hid (HB1.out _ rfl _ (Below.refl _ _)).1
    go_enter Tryz.func50, Tryz.ntmps50
    go_wp2
    go_ret
    exact ⟨rfl, HB0.out⟩
  · have hn8 : n ≤ 8 := by omega
    have HE : Hid (mayF (seenUp l 0) 0 (l.drop 0) = R) := Lib.hid (by rw [HRR.out, mayD, if_neg (by omega)]; rfl)
    clear h8
    subst hl
    go_enter Tryz.func50, Tryz.ntmps50
    go_wp2
    obtain ⟨w1, hw1⟩ : ∃ w1, w1 = boxD w id A l.length c := ⟨_, rfl⟩
    have HB2 := Lib.hid (HB1.out w1 hw1)
    rw [show w.alloc _ = w1 from hw1.symm]
    clear hw1 HB1
    go_loopw [2, 3, 4, 5, 6, 7, 8] (fun r a i n j t e wr => MayRel8 l R w1 r a i wr) (fun _ _ i _ _ _ _ _ => l.length - (intOf i).toNat)
    case atStart => exact ⟨rfl, 0, 0, by omega, by omega, rfl, rfl, Below.refl _ _, HE.out⟩
    case round =>
      obtain ⟨rfl, k, m, hk, hm, rfl, rfl, hbw, hgo⟩ := hrel
      obtain ⟨hb0, a0, a1⟩ := HB2.out _ hbw
      by_cases hlt : k < l.length
      · obtain ⟨b1, o1, e1, hb1, hc1, hc2⟩ := (HR.out.below hb0).at_ hlt
        subst e1
        rw [mayF_at hlt] at hgo
        have ht8 := HT.out _ (List.getElem_mem hlt)
        obtain ⟨x, hx, hx2⟩ := as_text l[k].1
        obtain ⟨y, hy, hy2⟩ := as_text l[k].2
        rw [← hx] at hc1
        rw [← hy] at hc2
        have i0 : (0 : Int) ≤ k := by omega
        have i1 : (k : Int) < l.length := by omega
        have N1 := fun w' => ref08_Name x w' (by rw [hx, size_nm]; have := ht8.1; omega)
        rw [hx2] at N1
        have T1 := fun w' => ref_Tokens y w' (by rw [hy, size_nm]; exact ht8.2)
        rw [hy2] at T1
        have HX := Lib.hid (And.intro hx hx2)
        clear hx hx2 hy hy2 ht8
        have HB0 := Lib.hid hb0
        clear hb0
        cases hnm : nameB l[k].1 with
        | false =>
          rw [hnm] at N1 hgo
          rw [if_pos rfl] at hgo
          subst hgo
          have HN1 := Lib.hid N1
          clear N1 T1 hnm
          go_wp2_with (go_at_call 31; (with_reducible refine (HN1.out _).mono ?_); rintro e w2 ⟨rfl, hb2⟩)
          go_ret
          exact ⟨rfl, HB0.out.trans (hb2.mono HB0.out.size)⟩
        | true =>
          rw [hnm] at N1 hgo
          rw [if_neg (by decide)] at hgo
          have HN1 := Lib.hid N1
          have HT1 := Lib.hid T1
          have HGO := Lib.hid hgo
          clear N1 T1 hnm hgo
          go_wp2_with (go_at_call 31; (with_reducible refine (HN1.out _).mono ?_); rintro e w2 ⟨rfl, hb2⟩)
          have hbw2 := hbw.trans (hb2.mono hbw.size)
          have HC : Hid (∀ wi, Below w2.heap.size w2 wi → Below w.heap.size w wi ∧ wi.cell? ⟨w.heap.size, 1, none⟩ = some (.slice (some ⟨b1, o1, none⟩) l.length c) ∧ wi.cell? ⟨b1, o1 + k * 2, none⟩ = some (.string x) ∧ wi.cell? ⟨b1, o1 + k * 2 + 1, none⟩ = some (.string y) ∧ ∀ j (hj : j < l.length), wi.cell? ⟨b1, o1 + j * 2, none⟩ = some (.string ⟨l[j].1.toArray⟩)) := Lib.hid fun wi h => by
            have h2 := hbw2.trans (h.mono hbw2.size)
            have h3 := HB2.out _ h2
            have hs1 := (HB2.out _ (Below.refl _ _)).1.size
            have h4 := (hb2.mono (by have := hbw.size; omega : w.heap.size ≤ wr.heap.size)).trans (h.mono (by have := hbw2.size; omega))
            refine ⟨h3.1, h3.2.2, (h4.cell (p := ⟨b1, o1 + k * 2, none⟩) hb1).trans hc1, (h4.cell (p := ⟨b1, o1 + k * 2 + 1, none⟩) hb1).trans hc2, fun j hj => ?_⟩
            obtain ⟨b', o', e', _, g, _⟩ := (HR.out.below h3.1).at_ hj
            injection e' with e'
            injection e' with e1 e2
            subst e1 e2
            exact g
          have HBW2 := Lib.hid hbw2
          clear hb2 hbw2 hc1 hc2 a0 a1 hbw
          go_wp2
          go_loopw [2, 6] (fun r i wi => TwiceRel l k w2 r i wi) (fun _ i _ => k - (intOf i).toNat)
          case atStart => exact ⟨rfl, 0, by omega, rfl, Below.refl _ _, fun _ _ _ h => by omega⟩
          case round =>
            obtain ⟨rfl, j, hj, rfl, hbi, hne⟩ := hrel
            obtain ⟨hb0, a1, hc1, hc2, hcs⟩ := HC.out _ hbi
            by_cases hjk : j < k
            · have hjl : j < l.length := by omega
              have hcj := hcs j hjl
              clear hcs
              obtain ⟨z, hz, hz2⟩ := as_text l[j].1
              rw [← hz] at hcj
              have j0 : (0 : Int) ≤ j := by omega
              have j1 : (j : Int) < l.length := by omega
              have j2 : (j : Int) < k := by omega
              by_cases he : l[j].1 = l[k].1
              · have t1 := same_true (s := z) (t := x) (by rw [hz2, HX.out.2]; exact he)
                have hR5 : R = 5 := by rw [← HGO.out, if_pos (by rw [← he]; exact seenUp_in hk hjk)]
                subst hR5
                have HB0' := Lib.hid hb0
                clear he hz hz2 hne hb0
                go_wp2
                go_quiet (fail)
                go_wp2
                go_ret
                exact ⟨rfl, HB0'.out.trans ((drewN_below _ _).mono HB0'.out.size)⟩
              · have t1 := same_false (s := z) (t := x) (by rw [hz2, HX.out.2]; exact he)
                have HNE : Hid (∀ i (hi : i < l.length) (hk : k < l.length), i < j + 1 → l[i].1 ≠ l[k].1) := Lib.hid fun i hi hk hij => by
                  by_cases e : i = j
                  · subst e; exact he
                  · exact hne i hi hk (by omega)
                clear he hz hz2 hne hb0
                go_wp2
                go_quiet (fail)
                go_wp2
                exact ⟨⟨rfl, j + 1, by omega, by go_num, hbi.trans ((drewN_below _ _).mono hbi.size), HNE.out⟩, by simp [intOf]; omega⟩
            · have hjk' : j = k := by omega
              subst hjk'
              have hgo := HGO.out
              rw [if_neg (seenUp_out hk fun i hi hij => hne i hi hlt hij)] at hgo
              obtain ⟨ws, hws⟩ : ∃ ws, ws = words l[j].2 := ⟨_, rfl⟩
              have HT2 : Hid (∀ w', Calls Tryz.prog 91 #[.string y] w' (GaveToks ws w')) := Lib.hid (by rw [hws]; exact HT1.out)
              rw [← hws] at hgo
              have HB0' := Lib.hid hb0
              clear hne hcs hb0 hws HGO HT1
              go_wp2_with (go_at_call 91; refine (HT2.out _).mono ?_)
              rintro e w3 ⟨v, rfl, h1, h2, hb3⟩
              have HBI := Lib.hid (HB0'.out.trans (hb3.mono HB0'.out.size))
              have HBJ := Lib.hid (hbi.trans (hb3.mono hbi.size))
              by_cases hz : errFrom 0 ws = 0
              · obtain ⟨A3, c3, rfl⟩ : ∃ A3 c3, v = .slice A3 ws.length c3 := by
                  rcases (h1 hz).2 with ⟨hv, hn⟩ | ⟨g, cap, cur, hv, _⟩
                  · exact ⟨none, 0, by rw [hn]; exact hv⟩
                  · exact ⟨_, _, hv⟩
                have hw5 := errFrom_zero hz (by omega)
                rw [if_neg (by rw [hz]; decide), ← seenUp_succ hlt] at hgo
                have HGO2 := Lib.hid hgo
                rw [hz]
                have hm5 : m ≤ 4000 := by omega
                have hwn : ws.length ≤ 500 := by omega
                clear h1 h2 hz hgo hb3
                go_wp2
                refine ⟨⟨rfl, j + 1, m + ws.length, by omega, by omega, ?_, by go_num, HBW2.out.trans (HBJ.out.mono HBW2.out.size), HGO2.out⟩, by simp [intOf]; omega⟩
                push_cast
                rfl
              · rw [if_pos hz] at hgo
                obtain ⟨E, hE⟩ : ∃ E, E = errFrom 0 ws := ⟨_, rfl⟩
                rw [← hE] at hgo hz
                rw [← hE]
                subst hgo
                have hv := h2 (by rw [← hE]; exact hz)
                subst hv
                clear h1 h2 hb3 hE
                go_wp2
                go_ret
                exact ⟨rfl, HBI.out⟩
      · have hkl : k = l.length := by omega
        subst hkl
        rw [List.drop_length, mayF] at hgo
        have HB0 := Lib.hid hb0
        clear hb0
        by_cases h5 : 500 < m
        · rw [if_pos h5] at hgo
          subst hgo
          go_wp2
          go_ret
          exact ⟨rfl, HB0.out⟩
        · rw [if_neg h5] at hgo
          subst hgo
          have h5' : m ≤ 500 := by omega
          clear h5
          go_wp2
          go_ret
          exact ⟨rfl, HB0.out⟩
end Go.Proofs.YtolfkhflbjnakaaGreatDoor
