/- Texts laid together: Sum09, Words09, Zed04, More05, DocAt05, Row04, RefRises04, May05. -/
import Derived.Test.YtgcdekaceimdnaaGreatQ06
import Derived.Test.YtgcdekaceimdnaaGreatQ07
import Derived.Test.YtgcdekaceimdnaaGreatNest09
import Derived.Test.YtgcdekaceimdnaaGreatQ14
import Derived.BigQuiet
import Derived.BigCall
import Derived.Deep.QuietTactic

/- Postings of entries tell all words of all documents. No program. -/
set_option linter.unusedVariables false
namespace Go.Proofs.YtgcdekaceimdnaaGreat
open Go

theorem sum_add {β : Type} (f g : β → Nat) : ∀ ks : List β, (ks.map fun k => f k + g k).sum = (ks.map f).sum + (ks.map g).sum
  | [] => rfl
  | k :: ks => by simp only [List.map_cons, List.sum_cons, sum_add f g ks]; omega
theorem sum_zero {β : Type} (ks : List β) : (ks.map fun _ => 0).sum = 0 := by induction ks with | nil => rfl | cons k ks ih => simp [ih]
theorem sum_one {β : Type} [DecidableEq β] (x : β) (n : Nat) : ∀ ks : List β, ks.Nodup → x ∈ ks → (ks.map fun k => if x = k then n else 0).sum = n
  | [], _, h => by cases h
  | k :: ks, hn, h => by
    rw [List.nodup_cons] at hn
    simp only [List.map_cons, List.sum_cons]
    by_cases hx : x = k
    · rw [if_pos hx]
      have : (ks.map fun k => if x = k then n else 0) = ks.map fun _ => 0 := List.map_congr_left fun y hy => if_neg fun e => hn.1 (by rw [← hx, e]; exact hy)
      rw [this, sum_zero]
      omega
    · rw [if_neg hx, sum_one x n ks hn.2 ((List.mem_cons.1 h).resolve_left hx)]
      omega
theorem sum_fib {α β : Type} [DecidableEq β] (f : α → β) (g : α → Nat) (ks : List β) (hk : ks.Nodup) : ∀ s : List α, (∀ p ∈ s, f p ∈ ks) → (ks.map fun k => ((s.filter fun p => decide (f p = k)).map g).sum).sum = (s.map g).sum
  | [], _ => by simpa using sum_zero ks
  | p :: s, h => by
    have ih := sum_fib f g ks hk s fun q hq => h q (List.mem_cons_of_mem _ hq)
    have hh : (ks.map fun k => (((p :: s).filter fun p => decide (f p = k)).map g).sum) = ks.map fun k => (if f p = k then g p else 0) + ((s.filter fun p => decide (f p = k)).map g).sum := List.map_congr_left fun k _ => by
      by_cases e : f p = k
      · rw [List.filter_cons_of_pos (by simpa using e), if_pos e]; simp
      · rw [List.filter_cons_of_neg (by simpa using e), if_neg e]; simp
    rw [hh, sum_add, sum_one _ _ _ hk (h p (List.mem_cons_self ..)), ih]
    simp
theorem map_one {α : Type} (s : List α) : (s.map fun _ => 1).sum = s.length := by induction s with | nil => rfl | cons p s ih => simp [ih]; omega
theorem terms_nodup9 {l : List Fd} (h : NoZero l) : (termsD l).Nodup := by
  have h1 := termsD_rise h
  unfold RiseT Rise at h1
  rw [List.pairwise_map] at h1
  exact h1.imp fun h e => by subst e; exact absurd h (List.lt_irrefl _)
theorem places_tell {d : List Fd} (h : ApartF d) (t : Tm) : (placesD d t).length = ((tellD d).filter fun p => decide (p.1 = t)).length := by
  rw [← placesS_D h t]
  simp [placesS]
theorem places_pos {d : List Fd} (h : GoodF d) {t : Tm} (ht : t ∈ termsD d) : 0 < (placesD d t).length := by
  obtain ⟨p, hp, e⟩ := List.mem_map.1 ((termsD_mem h.apart t).1 ht)
  rw [places_tell h.apart]
  exact List.length_pos_of_mem (List.mem_filter.2 ⟨hp, by simpa using e⟩)
theorem places_len {d : List Fd} (h : GoodF d) (t : Tm) : (placesD d t).length ≤ 500 := Nat.le_trans (placesW_length _ _ _) (h.wordsS _)
theorem sum_terms {d : List Fd} (h : GoodF d) : ((termsD d).map fun t => (placesD d t).length).sum = weightD d := by
  have h1 := sum_fib (fun p : Tm × Int => p.1) (fun _ => 1) (termsD d) (terms_nodup9 h.zero) (tellD d) fun p hp => (termsD_mem h.apart _).2 (List.mem_map.2 ⟨p, hp, rfl⟩)
  rw [map_one, tellD_weight h.apart] at h1
  rw [← h1]
  refine congrArg List.sum (List.map_congr_left fun t _ => ?_)
  rw [places_tell h.apart, map_one]
theorem totalP_append : ∀ a b : List Pn, totalP (a ++ b) = totalP a + totalP b
  | [], b => by simp [totalP]
  | p :: a, b => by simp only [List.cons_append, totalP, totalP_append a b]; omega
theorem total_postIn (i : Nat) (d : List Fd) (ts : List Tm) (key : Nm) : totalP (postIn i d ts key) = ((ts.filter fun t => decide (keyT t = key)).map fun t => (placesD d t).length).sum := by
  unfold postIn
  generalize ts.filter _ = s
  induction s with
  | nil => rfl
  | cons t s ih => simp only [List.map_cons, totalP, List.sum_cons, ih]
/-- All words are told, each once. -/
theorem sum_posts (ks : List Nm) (hk : ks.Nodup) : ∀ (l : List En) (i : Nat), GoodE l → (∀ q ∈ l, ∀ t ∈ termsD q.2.1, keyT t ∈ ks) → (ks.map fun k => totalP (postsE i l k)).sum = weightE l
  | [], i, _, _ => by simpa [postsE, totalP, weightE] using sum_zero ks
  | q :: l, i, hg, h => by
    have ih := sum_posts ks hk l (i + 1) (fun x hx => hg x (List.mem_cons_of_mem _ hx)) fun x hx => h x (List.mem_cons_of_mem _ hx)
    have hh : (ks.map fun k => totalP (postsE i (q :: l) k)) = ks.map fun k => (((termsD q.2.1).filter fun t => decide (keyT t = k)).map fun t => (placesD q.2.1 t).length).sum + totalP (postsE (i + 1) l k) := List.map_congr_left fun k _ => by
      rw [postsE, totalP_append, total_postIn]
    rw [hh, sum_add, ih, sum_fib keyT _ ks hk _ (h q (List.mem_cons_self ..)), sum_terms (hg q (List.mem_cons_self ..))]
    simp [weightE]
theorem sum_keys {l : List En} (hg : GoodE l) : ((keysE l).map fun k => totalP (postsE 0 l k)).sum = weightE l :=
  sum_posts _ (keysE_nodup l) l 0 hg fun q hq t ht => mem_keysE.2 ⟨q, hq, t, ht, rfl⟩
/-- A key's postings are there. -/
theorem posts_there {key : Nm} : ∀ {l : List En} {i : Nat}, (∃ q ∈ l, ∃ t ∈ termsD q.2.1, keyT t = key) → 0 < (postsE i l key).length
  | [], i, ⟨q, hq, _⟩ => by cases hq
  | q :: l, i, ⟨x, hx, t, ht, e⟩ => by
    rw [postsE, List.length_append]
    rcases List.mem_cons.1 hx with rfl | hx
    · have : 0 < (postIn i x.2.1 (termsD x.2.1) key).length := by
        unfold postIn
        rw [List.length_map]
        exact List.length_pos_of_mem (List.mem_filter.2 ⟨ht, by simpa using e⟩)
      omega
    · have := posts_there (i := i + 1) ⟨x, hx, t, ht, e⟩
      omega
theorem posts_mem {key : Nm} {p : Pn} : ∀ {l : List En} {i : Nat}, p ∈ postsE i l key → ∃ q ∈ l, ∃ t ∈ termsD q.2.1, p.2 = placesD q.2.1 t
  | [], i, h => by cases h
  | q :: l, i, h => by
    rw [postsE] at h
    rcases List.mem_append.1 h with h | h
    · unfold postIn at h
      obtain ⟨t, ht, rfl⟩ := List.mem_map.1 h
      exact ⟨q, List.mem_cons_self .., t, (List.mem_filter.1 ht).1, rfl⟩
    · obtain ⟨x, hx, t, ht, e⟩ := posts_mem h
      exact ⟨x, List.mem_cons_of_mem _ hx, t, ht, e⟩
theorem posts_good {l : List En} (hg : GoodE l) {key : Nm} : ∀ p ∈ postsE 0 l key, 0 < p.2.length ∧ p.2.length ≤ 500 := fun p hp => by
  obtain ⟨q, hq, t, ht, e⟩ := posts_mem hp
  rw [e]
  exact ⟨places_pos (hg q hq) ht, places_len (hg q hq) t⟩
/-- Each document has at most one posting. -/
theorem postIn_one {i : Nat} {d : List Fd} (h : NoZero d) (key : Nm) : postIn i d (termsD d) key = [] ∨ ∃ t ∈ termsD d, postIn i d (termsD d) key = [((i : Int), placesD d t)] := by
  have h1 := termsD_rise h
  unfold RiseT Rise at h1
  rw [List.pairwise_map] at h1
  have h2 := h1.filter (fun t => decide (keyT t = key))
  unfold postIn
  match hs : (termsD d).filter fun t => decide (keyT t = key) with
  | [] => exact .inl rfl
  | [t] => exact .inr ⟨t, (List.mem_filter.1 (hs ▸ List.mem_singleton_self t)).1, rfl⟩
  | t :: u :: s =>
    rw [hs] at h2
    have h3 := (List.pairwise_cons.1 h2).1 u (List.mem_cons_self ..)
    have mt : t ∈ (termsD d).filter fun t => decide (keyT t = key) := by rw [hs]; exact List.mem_cons_self ..
    have mu : u ∈ (termsD d).filter fun t => decide (keyT t = key) := by rw [hs]; exact List.mem_cons_of_mem _ (List.mem_cons_self ..)
    have ht : keyT t = key := by simpa using (List.mem_filter.1 mt).2
    have hu : keyT u = key := by simpa using (List.mem_filter.1 mu).2
    rw [ht, hu] at h3
    exact absurd h3 (List.lt_irrefl _)
theorem posts_len {l : List En} (hg : GoodE l) {key : Nm} : ∀ (m : List En) (i : Nat), (∀ q ∈ m, q ∈ l) → (postsE i m key).length ≤ m.length
  | [], i, _ => by simp [postsE]
  | q :: m, i, h => by
    have ih := posts_len hg (key := key) m (i + 1) fun x hx => h x (List.mem_cons_of_mem _ hx)
    rw [postsE, List.length_append, List.length_cons]
    rcases postIn_one (i := i) (hg q (h q (List.mem_cons_self ..))).zero key with e | ⟨t, _, e⟩ <;> rw [e] <;> simp <;> omega
theorem rises_of : ∀ {ps : List Int} {x : Int}, ps.Pairwise (· < ·) → (∀ a ∈ ps, x < a) → risesZ x ps = true
  | [], x, _, _ => rfl
  | p :: ps, x, h, hx => by
    rw [List.pairwise_cons] at h
    rw [risesZ, rises_of h.2 h.1, Bool.and_true]
    exact decide_eq_true (hx p (List.mem_cons_self ..))
theorem places_may {d : List Fd} (h : GoodF d) {t : Tm} (ht : t ∈ termsD d) : placesB (placesD d t) = true := by
  have h0 := places_pos h ht
  have hne : placesD d t ≠ [] := fun e => by rw [e] at h0; cases h0
  rw [placesB_iff]
  refine ⟨rises_of (placesW_rise _ _ _) fun a ha => ?_, hne, ?_⟩
  · have := placesW_ge _ _ _ a ha
    omega
  · have hm : (placesD d t).getLastD 0 ∈ placesD d t := by
      rw [List.getLastD_eq_getLast?, List.getLast?_eq_some_getLast hne]
      exact List.getLast_mem hne
    obtain ⟨k, hk, hk2⟩ := (placesW_mem _ _ _ _).1 hm
    have hl := (List.getElem?_eq_some_iff.1 hk2).1
    have := h.wordsS t.1
    rw [hk]
    omega
theorem posts_may {key : Nm} : ∀ {l : List En} {i : Nat} {last : Int}, GoodE l → last < i → i + l.length ≤ 2147483648 → mayB' last (postsE i l key) = true
  | [], i, last, _, _, _ => rfl
  | q :: l, i, last, hg, hl, hi => by
    have hq := hg q (List.mem_cons_self ..)
    rw [List.length_cons] at hi
    have ih := fun (last : Int) (h : last < ((i + 1 : Nat) : Int)) => posts_may (key := key) (l := l) (i := i + 1) (last := last) (fun x hx => hg x (List.mem_cons_of_mem _ hx)) h (by omega)
    rw [postsE]
    rcases postIn_one (i := i) hq.zero key with e | ⟨t, ht, e⟩
    · rw [e, List.nil_append]
      exact ih last (by push_cast; omega)
    · rw [e, List.singleton_append, mayB'_cons]
      exact ⟨hl, by show (i : Int) < 2147483648; omega, places_may hq ht, ih _ (by push_cast; omega)⟩
end Go.Proofs.YtgcdekaceimdnaaGreat

/- What the document's Words of entries answers. -/
namespace Go.Proofs.YtgcdekaceimdnaaGreat
open Go Go.RowKit
set_option linter.unusedVariables false

def WordsRel09 (l : List En) (w : World) (a i : Value) (wr : World) : Prop := ∃ k : Nat, k ≤ l.length ∧ a = .int .i64 (weightE (l.take k) : Int) ∧ i = .int .i64 (k : Int) ∧ Below w.heap.size w wr
set_option maxHeartbeats 1000000 in
set_option maxRecDepth 100000 in
theorem ref09_Words (A : Option Addr) (n c : Nat) (l : List En) (w : World) (hl : l.length = n) (hr : Nest enS w w.heap.size A l) (hg : GoodE l) (hn : n ≤ 1000) :
    Calls Tryz.prog 21 #[.slice A n c] w fun e w' => e = .returned (.int .i64 (weightE l : Int)) ∧ Below w.heap.size w w' := by
  have HR := Lib.hid hr
  have HG := Lib.hid hg
  have HL := Lib.hid hl
  clear hr hg hl
  go_enter Tryz.func21, Tryz.ntmps21
  go_wp2
  go_loopw [3, 4] (fun a i wr => WordsRel09 l w a i wr) (fun _ i _ => n - (intOf i).toNat)
  case atStart => exact ⟨0, Nat.zero_le _, rfl, rfl, Below.refl _ _⟩
  case round =>
    obtain ⟨k, hk, rfl, rfl, hbw⟩ := hrel
    by_cases hlt : k < n
    · have hkl : k < l.length := by rw [HL.out]; exact hlt
      have hnr := Nest.later HR.out hbw
      obtain ⟨b, off, A', c', e1, _, g1, g2, _, hc, _, hfr⟩ := enS_at hnr hkl
      subst e1
      have hw := weightE_take hkl
      have hb := weightE_le (HG.out.take k)
      rw [List.length_take] at hb
      have HC := Lib.hid (good_rweight (id := l[k].1) (c := c') (HG.out _ (List.getElem_mem hkl)) rfl hfr)
      obtain ⟨m, hm⟩ : ∃ m, m = l[k].2.1.length := ⟨_, rfl⟩
      obtain ⟨d, hd⟩ : ∃ d, d = weightD l[k].2.1 := ⟨_, rfl⟩
      obtain ⟨t, ht⟩ : ∃ t, t = weightE (l.take k) := ⟨_, rfl⟩
      obtain ⟨q, hq⟩ : ∃ q, q = l[k].1 := ⟨_, rfl⟩
      have hd5 : d ≤ 500 := by rw [hd]; exact (HG.out _ (List.getElem_mem hkl)).weight
      rw [← hm, ← hd, ← hq] at HC
      rw [← hm] at g2
      rw [← hq] at g1
      rw [← ht, ← hd] at hw
      rw [← ht] at hb ⊢
      have ht5 : t ≤ 500000 := by omega
      have HW := Lib.hid hw
      have i0 : (0 : Int) ≤ k := by omega
      have i1 : (k : Int) < n := by omega
      clear hnr hfr hm hd ht hq hw hb hc
      go_wp2_with (go_at_call 41; (with_reducible refine HC.out.mono ?_); rintro e w2 ⟨rfl, hb2⟩)
      refine ⟨⟨k + 1, hkl, ?_, by go_num, hbw.trans (hb2.mono hbw.size)⟩, by simp [intOf]; omega⟩
      rw [HW.out]
      push_cast
      rfl
    · have hkn : k = l.length := by have := HL.out; omega
      subst hkn
      rw [List.take_length]
      go_wp2
      go_ret
      exact ⟨rfl, hbw⟩
end Go.Proofs.YtgcdekaceimdnaaGreat

/- Numbers and rising numbers that are got: what calls of that kind give; facts that the walks share. No program but a type's number. -/
namespace Go.Proofs.YtgcdekaceimdnaaGreat
open Go Go.RowKit
set_option linter.unusedVariables false

/-- What one byte more is worth. -/
theorem worth_more {l : List UInt8} {k : Nat} (hk : k < 9) (hl : k < l.length) : ∃ q p v : Nat, 128 ^ k = q ∧ valB (l.take k) = v ∧ valB (l.take (k + 1)) = v + p ∧ (((l.getD k 0).toNat : Int) % 128) * (q : Int) = (p : Int) ∧ p ≤ 9151314442816847872 ∧ v + p < 9223372036854775808 ∧ q ≤ 72057594037927936 := by
  have h1 := valB_take hl
  have h2 := valB_take_lt l (k + 1)
  have h3 := pow_bd hk
  have h4 : (128 : Nat) ^ (k + 1) ≤ 128 ^ 9 := Nat.pow_le_pow_right (by omega) (by omega)
  have h5 : (128 : Nat) ^ 9 = 9223372036854775808 := by decide
  refine ⟨_, (l.getD k 0).toNat % 128 * 128 ^ k, _, rfl, rfl, h1, by simp, ?_, by omega, h3⟩
  have : (l.getD k 0).toNat % 128 * 128 ^ k ≤ 127 * 72057594037927936 := Nat.mul_le_mul (by omega) h3
  omega
theorem pow_next {k q : Nat} (h : 128 ^ k = q) (hk : k < 8) : 128 ^ (k + 1) = q * 128 ∧ q * 128 ≤ 72057594037927936 := by
  have h1 := pow_bd (i := k + 1) (by omega)
  rw [Nat.pow_succ, h] at h1 ⊢
  exact ⟨rfl, h1⟩

theorem row_drop {w : World} {B b off m c a : Nat} {l : List UInt8} (h : Row w B (some ⟨b, off, none⟩) (Lib.byteCells l)) (hm : l.length = m) (hc : m ≤ c) (ha : a ≤ m) (A : Option Addr) (hA : A = some ⟨b, off, none⟩ ∧ c = a ∨ A = some ⟨b, off + a, none⟩) : Row w B A (Lib.byteCells (l.drop a)) := by
  by_cases h0 : a = m
  · refine .inl ?_
    rw [List.drop_eq_nil_of_le (by omega)]
    rfl
  · rcases hA with ⟨_, hA⟩ | hA
    · omega
    · obtain ⟨b', o', h1, h2, h3⟩ := h.at_ (by rw [Lib.byteCells_length]; omega)
      injection h1 with h1
      injection h1 with h1 h4
      subst h1 h4 hA
      refine .inr ⟨b, off + a, rfl, h2, fun j u hu => ?_⟩
      have := h3 (a + j) u (by rw [← hu]; simp [Lib.byteCells])
      rwa [← Nat.add_assoc] at this

/-- What a call gives that answers a number, a place and an error. -/
def GaveZ (z : Int × Int × Int) (w : World) (e : Ending) (w' : World) : Prop := e = .returned (.tuple #[.int .i64 z.1, .int .i64 z.2.1, .int .i64 z.2.2]) ∧ Below w.heap.size w w'

theorem getZ_split (l : List UInt8) (a : Int) : (∃ e : Int, getZ l a = (0, 0, e) ∧ (e = 1 ∨ e = 2)) ∨ ∃ n b : Nat, getZ l a = ((n : Int), (b : Int), 0) ∧ b ≤ l.length ∧ n < 9223372036854775808 := by
  by_cases h0 : a < 0 ∨ (l.length : Int) < a
  · exact .inl ⟨1, getZ_out h0, .inl rfl⟩
  · obtain ⟨k, rfl⟩ : ∃ k : Nat, a = k := ⟨a.toNat, by omega⟩
    have hbd := getF_bd (l.drop k)
    rw [List.length_drop] at hbd
    by_cases h2 : (getF (l.drop k)).2 = 0
    · exact .inl ⟨2, getZ_form (by omega) h2, .inr rfl⟩
    · obtain ⟨j, hj⟩ : ∃ j, (getF (l.drop k)).2 = j + 1 := ⟨(getF (l.drop k)).2 - 1, by omega⟩
      refine .inr ⟨(getF (l.drop k)).1, k + (j + 1), ?_, by omega, hbd.1⟩
      rw [getZ_ok (n := (getF (l.drop k)).1) (k := j) (by omega) (by rw [← hj])]
      simp

def outR : Option (List Int × Nat) → List Int × Int × Int
  | none => ([], 0, 2)
  | some p => (p.1, (p.2 : Int), 0)
theorem risZ_err {l : List UInt8} {a e : Int} (hz : getZ l a = (0, 0, e)) (he : e ≠ 0) : risZ l a = ([], 0, e) := by
  unfold risZ
  rw [hz, if_neg (by simpa using he)]
theorem risZ_ok {l : List UInt8} {a : Int} {n b : Nat} (hz : getZ l a = ((n : Int), (b : Int), 0)) : risZ l a = outR (takeR l n (-1) b []) := by
  unfold risZ
  rw [hz]
  simp only [if_true, Int.toNat_natCast]
  rcases takeR l n (-1) b [] with _ | ⟨xs, q⟩ <;> rfl
/-- What a call gives that answers numbers, a place and an error. -/
def GaveR (r : List Int × Int × Int) (w : World) (e : Ending) (w' : World) : Prop :=
  ∃ v, e = .returned (.tuple #[v, .int .i64 r.2.1, .int .i64 r.2.2]) ∧ w'.ownsRow w.heap.size 3 1 v r.1.length (ints r.1) ∧ Below w.heap.size w w'

theorem takeR_length : ∀ (many : Nat) (l : List UInt8) (x : Int) (a : Nat) (acc xs : List Int) (b : Nat), takeR l many x a acc = some (xs, b) → a ≤ l.length → xs.length + a ≤ acc.length + b ∧ b ≤ l.length
  | 0, l, x, a, acc, xs, b, h, ha => by
    simp only [takeR, Option.some.injEq, Prod.mk.injEq] at h
    obtain ⟨rfl, rfl⟩ := h
    exact ⟨Nat.le_refl _, ha⟩
  | m + 1, l, x, a, acc, xs, b, h, ha => by
    have hbd := getF_bd (l.drop a)
    rw [List.length_drop] at hbd
    rw [takeR] at h
    split at h
    · cases h
    · have := takeR_length m l _ _ _ xs b h (by omega)
      simp only [List.length_append, List.length_singleton] at this
      omega
theorem risZ_length (l : List UInt8) (a : Int) : (risZ l a).1.length ≤ l.length := by
  rcases getZ_split l a with ⟨e, hz, he⟩ | ⟨many, b, hz, hb, _⟩
  · rw [risZ_err hz (by omega)]; simp
  · rw [risZ_ok hz]
    rcases h : takeR l many (-1) b [] with _ | ⟨xs, q⟩
    · simp [outR]
    · have := takeR_length many l _ _ _ xs q h hb
      simp only [outR, List.length_nil] at this ⊢
      omega

end Go.Proofs.YtgcdekaceimdnaaGreat

/- Small facts on postings, their bytes and their memory, which several texts want. -/
set_option linter.unusedVariables false
namespace Go.Proofs.YtgcdekaceimdnaaGreat
open Go Go.RowKit

/-- Bytes behind bytes of the call's own. -/
theorem own_more {base : Nat} {w' : World} {v' : Value} {a b : List UInt8} {m : Nat} (hm : b.length = m) (hown : w'.ownsRow base 5 1 v' (a.length + m) (Lib.byteCells a ++ Lib.byteCells b)) : Own base w' v' (a ++ b) := by
  unfold Own
  rw [Lib.byteCells_append, List.length_append, hm]
  exact hown

theorem drop_po {l : List Po} {k : Nat} (hk : k < l.length) : l.drop k = l.getD k (0, []) :: l.drop (k + 1) := by
  rw [List.drop_eq_getElem_cons hk, List.getD_eq_getElem?_getD, List.getElem?_eq_getElem hk]
  rfl

theorem quiet_below {w : World} {n : Nat} (B : Nat) : Below B w (w.drewN n) := ⟨rfl, rfl, rfl, Nat.le_refl _, fun _ _ => rfl⟩

/-- These are so many postings, which may be, and these are their bytes. -/
def Fits (many : Int) (b : List UInt8) (l : List Po) : Prop := mayB' (-1) l = true ∧ (l.length : Int) = many ∧ bytesP (-1) l = b

theorem docOf_getD : ∀ {l : List Po} {x : Int}, 0 < l.length → docOf x l = (l.getD (l.length - 1) (0, [])).1
  | [], _, h => by simp at h
  | [p], x, _ => rfl
  | p :: q :: r, x, _ => by
    have ih := docOf_getD (l := q :: r) (x := p.1) (by simp)
    rw [docOf, ih]
    simp

/-- Every place takes a byte at the least. -/
theorem bytes_places : ∀ (l : List Po) (last : Int) (p : Po), p ∈ l → p.2.length ≤ (bytesP last l).length
  | [], _, p, h => by cases h
  | q :: r, last, p, h => by
    have hd : ∀ (ps : List Int) (x : Int), ps.length ≤ (dB x ps).length := by
      intro ps
      induction ps with
      | nil => simp
      | cons a t ih =>
        intro x
        have := ih a
        have := putB_pos (a - (x + 1)).toNat
        rw [dB, List.length_append, List.length_cons]
        omega
    rw [bytesP, List.length_append, List.length_append]
    rcases List.mem_cons.1 h with rfl | h
    · have := hd p.2 (-1)
      rw [putR, List.length_append]
      omega
    · have := bytes_places r q.1 p h
      omega

theorem risZ_split (l : List UInt8) (a : Int) : (∃ e : Int, risZ l a = ([], 0, e) ∧ e ≠ 0) ∨ ∃ (ps : List Int) (q : Nat), risZ l a = (ps, (q : Int), 0) ∧ q ≤ l.length ∧ ps.length ≤ l.length := by
  have hlen := risZ_length l a
  rcases getZ_split l a with ⟨e, hz, he⟩ | ⟨n, b, hz, hb, _⟩
  · exact .inl ⟨e, risZ_err hz (by omega), by omega⟩
  · rw [risZ_ok hz] at hlen ⊢
    rcases h : takeR l n (-1) b [] with _ | ⟨xs, q⟩
    · exact .inl ⟨2, rfl, by omega⟩
    · rw [h] at hlen
      have := takeR_length n l _ _ _ xs q h hb
      exact .inr ⟨xs, q, rfl, this.2, hlen⟩

theorem totalP_le : ∀ {l : List Po} {n : Nat}, (∀ p ∈ l, p.2.length ≤ n) → totalP l ≤ l.length * n
  | [], _, _ => by simp [totalP]
  | p :: r, n, h => by
    have h1 := h p (by simp)
    have h2 := totalP_le (l := r) fun q hq => h q (by simp [hq])
    rw [totalP, List.length_cons, Nat.add_mul, Nat.one_mul]
    omega

theorem totalP_take {l : List Po} {k : Nat} (hk : k < l.length) : totalP (l.take (k + 1)) = totalP (l.take k) + (l.getD k (0, [])).2.length := by
  have e : ∀ (a b : List Po), totalP (a ++ b) = totalP a + totalP b := by
    intro a
    induction a with
    | nil => intro b; simp [totalP]
    | cons p r ih => intro b; simp [totalP, ih, Nat.add_assoc]
  rw [List.take_succ_eq_append_getElem hk, e, List.getD_eq_getElem?_getD, List.getElem?_eq_getElem hk]
  simp [totalP]

theorem totalP_le_take {l : List Po} (k : Nat) : totalP (l.take k) ≤ totalP l := by
  have e : ∀ (a b : List Po), totalP (a ++ b) = totalP a + totalP b := by
    intro a
    induction a with
    | nil => intro b; simp [totalP]
    | cons p r ih => intro b; simp [totalP, ih, Nat.add_assoc]
  have h := e (l.take k) (l.drop k)
  rw [List.take_append_drop] at h
  omega

theorem fits_same {a b : Int} {bs : List UInt8} {l g : List Po} (hb : bs.length ≤ 1000000) (h : Fits a bs l) (h2 : Fits b bs g) : l = g := by
  obtain ⟨h1, _, h3⟩ := h
  obtain ⟨g1, _, g3⟩ := h2
  refine bytesP_inj h1 g1 (fun p hp => ?_) (fun p hp => ?_) (h3.trans g3.symm)
  · have := bytes_places l (-1) p hp
    rw [h3] at this
    omega
  · have := bytes_places g (-1) p hp
    rw [g3] at this
    omega

theorem OwnPo.room {E : TypeId} {base : Nat} {w : World} {v : Value} {l : List Po} (h : OwnPo E base w v l) : ∃ A c, v = .slice A l.length c ∧ l.length ≤ c ∧ c ≤ maxLen ∧ Posts w w.heap.size A l := by
  obtain ⟨A, c, rfl, h1, h2⟩ := h.posts
  refine ⟨A, c, rfl, h1, ?_, h2⟩
  obtain ⟨cs, h3, _⟩ := h
  rcases h3.2 with ⟨h4, _⟩ | ⟨g, cap, cur, h4, _, _, _, h5, _⟩
  · injection h4 with _ _ h4; omega
  · injection h4 with _ _ h4; rw [h4]; exact h5

/-- What is known of postings that are made such as may be. -/
theorem good40 (z : List Po) (most : Nat) (hm : most ≤ 100) : (goodP (-1) (z.take most)).length ≤ most ∧ mayB' (-1) (goodP (-1) (z.take most)) = true ∧ (∀ q ∈ goodP (-1) (z.take most), q.2.length ≤ 5 ∧ 0 < q.2.length) ∧ (bytesP (-1) (goodP (-1) (z.take most))).length ≤ 10000 := by
  have h1 : (goodP (-1) (z.take most)).length ≤ most := by rw [goodP_length]; exact List.length_take_le _ _
  have hl := List.length_take_le most z
  obtain ⟨h2, h3⟩ := goodP_may (z.take most) (-1) (by omega) (by omega)
  have h4 := bytesP_length _ (-1) (by omega) h2 (fun p hp => by have := (h3 p hp).1; omega)
  have h5 := totalP_le (n := 5) fun p hp => (h3 p hp).1
  refine ⟨h1, h2, h3, ?_⟩
  omega
end Go.Proofs.YtgcdekaceimdnaaGreat

/- The document ahead of a place. No program. -/
set_option linter.unusedVariables false
namespace Go.Proofs.YtgcdekaceimdnaaGreat
open Go

def docAt (l : List Po) (k : Nat) : Int := if k = 0 then -1 else (l.getD (k - 1) (0, [])).1
theorem docAt_succ {l : List Po} {k : Nat} : docAt l (k + 1) = (l.getD k (0, [])).1 := by simp [docAt]
end Go.Proofs.YtgcdekaceimdnaaGreat

/- Rising numbers from a place on, and a row of ints. No program. -/
set_option linter.unusedVariables false
namespace Go.Proofs.YtgcdekaceimdnaaGreat
open Go Go.RowKit

/-- The number ahead of place k: -1 ahead of the first. -/
def ahead (l : List Int) (k : Nat) : Int := if k = 0 then -1 else l.getD (k - 1) 0

theorem ahead_succ {l : List Int} {k : Nat} : ahead l (k + 1) = l.getD k 0 := by simp [ahead]
theorem risesZ_drop {l : List Int} {k : Nat} (hk : k < l.length) (last : Int) : risesZ last (l.drop k) = (decide (last < l.getD k 0) && risesZ (l.getD k 0) (l.drop (k + 1))) := by
  rw [List.drop_eq_getElem_cons hk, risesZ, List.getD_eq_getElem?_getD, List.getElem?_eq_getElem hk]
  rfl
theorem risesZ_end {l : List Int} {k : Nat} (hk : l.length ≤ k) (last : Int) : risesZ last (l.drop k) = true := by rw [List.drop_eq_nil_of_le hk]; rfl
theorem row_int' {w : World} {B : Nat} {A : Option Addr} {xs : List Int} (h : Row w B A (ints xs)) {k : Nat} (hk : k < xs.length) :
    ∃ b off, A = some ⟨b, off, none⟩ ∧ b < B ∧ w.cell? ⟨b, off + k, none⟩ = some (.int .i64 (xs.getD k 0)) := by
  obtain ⟨b, off, h1, h2, h3⟩ := row_int h hk
  refine ⟨b, off, h1, h2, ?_⟩
  rw [h3, List.getD_eq_getElem?_getD, List.getElem?_eq_getElem hk]
  rfl
theorem dB_drop {l : List Int} {k : Nat} (hk : k < l.length) (last : Int) : dB last (l.drop k) = putB (l.getD k 0 - (last + 1)).toNat ++ dB (l.getD k 0) (l.drop (k + 1)) := by
  rw [List.drop_eq_getElem_cons hk, dB, List.getD_eq_getElem?_getD, List.getElem?_eq_getElem hk]
  rfl
theorem dB_end {l : List Int} {k : Nat} (hk : l.length ≤ k) (last : Int) : dB last (l.drop k) = [] := by rw [List.drop_eq_nil_of_le hk]; rfl
end Go.Proofs.YtgcdekaceimdnaaGreat

/- What the document's own Rises of layer 4 answers. -/
namespace Go.Proofs.YtgcdekaceimdnaaGreat
open Go Go.RowKit
set_option linter.unusedVariables false

def RefRisesRel (l : List Int) (r i : Value) : Prop := r = .bool false ∧ ∃ (k : Nat), k ≤ l.length ∧ i = .int .i64 (k : Int) ∧ risesZ (ahead l k) (l.drop k) = risesZ (-1) l ∧ -1 ≤ ahead l k

set_option maxHeartbeats 1000000 in
set_option maxRecDepth 100000 in
theorem ref_Rises (A : Option Addr) (m c : Nat) (l : List Int) (w : World) (hr : Row w w.heap.size A (ints l)) (hm : l.length = m) (hl : m ≤ 1073741824) :
    Calls Tryz.prog 40 #[.slice A m c] w fun e w' => e = .returned (.bool (risesZ (-1) l)) ∧ Below w.heap.size w w' := by
  have HR := Lib.hid hr
  clear hr
  subst hm
  obtain ⟨ans, hans⟩ : ∃ ans, ans = risesZ (-1) l := ⟨_, rfl⟩
  rw [← hans]
  have HA := Lib.hid hans
  clear hans
  go_enter Tryz.func40, Tryz.ntmps40
  go_wp2
  go_loopw [2, 3] (fun r i wr => RefRisesRel l r i ∧ Below w.heap.size w wr) (fun _ i _ => l.length - (intOf i).toNat)
  case atStart => exact ⟨⟨rfl, 0, by omega, rfl, rfl, by simp [ahead]⟩, Below.refl _ _⟩
  case round =>
    obtain ⟨⟨rfl, k, hk, rfl, hx, hx1⟩, hbw⟩ := hrel
    by_cases hlt : k < l.length
    · obtain ⟨b1, o1, e1, _, hc1⟩ := row_int' (HR.out.below hbw) hlt
      subst e1
      have hc0 : 0 < k → wr.cell? ⟨b1, o1 + (k - 1), none⟩ = some (.int .i64 (ahead l k)) := fun h => by
        obtain ⟨b2, o2, e2, _, hc2⟩ := row_int' (HR.out.below hbw) (k := k - 1) (by omega)
        injection e2 with e2
        injection e2 with e3 e4
        subst e3 e4
        rw [hc2]
        simp [ahead]
        omega
      have ha0 : k = 0 → ahead l k = -1 := fun h => by simp [ahead, h]
      rw [risesZ_drop hlt] at hx
      have hs := ahead_succ (l := l) (k := k)
      obtain ⟨y, hy⟩ : ∃ y, y = l.getD k 0 := ⟨_, rfl⟩
      rw [← hy] at hc1 hx hs
      obtain ⟨x, hxx⟩ : ∃ x, x = ahead l k := ⟨_, rfl⟩
      rw [← hxx] at hx hx1 hc0 ha0
      have HS := Lib.hid hs
      clear hy hs hxx
      by_cases hxy : y ≤ x
      · rw [decide_eq_false (by omega), Bool.false_and, ← HA.out] at hx
        subst hx
        by_cases hy0 : y < 0
        · go_wp2
          go_quiet (fail)
          go_wp2
          go_ret
          exact ⟨rfl, hbw.trans ⟨rfl, rfl, rfl, Nat.le_refl _, fun _ _ => rfl⟩⟩
        · have hyb : decide (y < 0) = false := decide_eq_false hy0
          have hk0 : 0 < k := by
            rcases Nat.eq_zero_or_pos k with h | h
            · have := ha0 h; omega
            · exact h
          have hcp := hc0 hk0
          obtain ⟨j, hj⟩ : ∃ j, j = k - 1 := ⟨_, rfl⟩
          have hw : IntKind.i64.wrap ((k : Int) - 1) = (j : Int) := by rw [IntWalk.i64_in _ (by omega)]; omega
          have hjl : j < l.length := by omega
          rw [← hj] at hcp
          clear hc0 ha0 hj
          go_wp2
          go_quiet (fail)
          go_wp2
          go_ret
          exact ⟨rfl, hbw.trans ⟨rfl, rfl, rfl, Nat.le_refl _, fun _ _ => rfl⟩⟩
      · rw [decide_eq_true (by omega), Bool.true_and] at hx
        have HX := Lib.hid hx
        clear hx
        have hy0 : ¬ y < 0 := by omega
        have hyb : decide (y < 0) = false := decide_eq_false hy0
        rcases Nat.eq_zero_or_pos k with hk0 | hk0
        · clear hc0 ha0
          subst hk0
          rw [Nat.add_zero] at hc1
          go_wp2
          go_quiet (fail)
          go_wp2
          go_roundw
          case rel => exact ⟨⟨rfl, 0 + 1, by omega, by go_num, by rw [HS.out]; exact HX.out, by rw [HS.out]; omega⟩, hbw.trans ⟨rfl, rfl, rfl, Nat.le_refl _, fun _ _ => rfl⟩⟩
          case measure => simp [intOf]; omega
        · have hcp := hc0 hk0
          obtain ⟨j, hj⟩ : ∃ j, j = k - 1 := ⟨_, rfl⟩
          have hw : IntKind.i64.wrap ((k : Int) - 1) = (j : Int) := by rw [IntWalk.i64_in _ (by omega)]; omega
          have hjl : j < l.length := by omega
          rw [← hj] at hcp
          clear hc0 ha0 hj
          go_wp2
          go_quiet (fail)
          go_wp2
          go_roundw
          case rel => exact ⟨⟨rfl, k + 1, by omega, by go_num, by rw [HS.out]; exact HX.out, by rw [HS.out]; omega⟩, hbw.trans ⟨rfl, rfl, rfl, Nat.le_refl _, fun _ _ => rfl⟩⟩
          case measure => simp [intOf]; omega
    · rw [risesZ_end (by omega), ← HA.out] at hx
      subst hx
      go_wp2
      go_ret
      exact ⟨rfl, hbw⟩
end Go.Proofs.YtgcdekaceimdnaaGreat

/- What the document's own May of layer 5 answers: whether postings may be. Written by mkmay05.py. -/
namespace Go.Proofs.YtgcdekaceimdnaaGreat
open Go Go.RowKit
set_option linter.unusedVariables false

def MayRel05 (l : List Po) (w : World) (r i : Value) (wr : World) : Prop := r = .bool false ∧ ∃ k : Nat, k ≤ l.length ∧ i = .int .i64 (k : Int) ∧ -1 ≤ docAt l k ∧ mayB' (docAt l k) (l.drop k) = mayB' (-1) l ∧ Below w.heap.size w wr
theorem last_at {ps : List Int} {j : Nat} (h : j + 1 = ps.length) : ps.getD j 0 = ps.getLastD 0 := by
  rw [List.getLastD_eq_getLast?, List.getLast?_eq_getElem?, List.getD_eq_getElem?_getD, ← h]
  simp
set_option maxHeartbeats 4000000 in
set_option maxRecDepth 100000 in
theorem ref05_May (A : Option Addr) (n d : Nat) (l : List Po) (w : World) (hn : l.length = n) (hnx : n ≤ 1073741824) (hpo : Posts w w.heap.size A l) (hpl : ∀ p ∈ l, p.2.length ≤ 1073741824) :
    Calls Tryz.prog 19 #[.slice A n d] w fun e w' => e = .returned (.bool (mayB' (-1) l)) ∧ Below w.heap.size w w' := by
  subst hn
  obtain ⟨ans, hans⟩ : ∃ ans, ans = mayB' (-1) l := ⟨_, rfl⟩
  rw [← hans]
  have HANS := Lib.hid hans
  have HPO := Lib.hid hpo
  have HPL := Lib.hid hpl
  clear hans hpo hpl
  go_enter Tryz.func19, Tryz.ntmps19
  go_wp2
  go_loopw [2, 3] (fun r i wr => MayRel05 l w r i wr) (fun _ i _ => l.length - (intOf i).toNat)
  case atStart => exact ⟨rfl, 0, by omega, rfl, by simp [docAt], rfl, Below.refl _ _⟩
  case round =>
    obtain ⟨rfl, k, hk, rfl, hx1, hris, hbw⟩ := hrel
    have hsz := hbw.size
    by_cases hlt : k < l.length
    · obtain ⟨b1, o1, e1, hb1, hc1, A2, c2, hc2, hlc, hcx, hr2⟩ := (HPO.out.below hbw).at_ hlt
      subst e1
      have hc0 : 0 < k → ∀ j, j = k - 1 → wr.cell? ⟨b1, o1 + j * 2, none⟩ = some (.int .i64 (docAt l k)) := fun h j hj => by
        obtain ⟨b2, o2, e2, _, hc3, _⟩ := (HPO.out.below hbw).at_ (k := j) (by omega)
        injection e2 with e2
        injection e2 with e3 e4
        subst e3 e4
        rw [hc3]
        have hk0 : k ≠ 0 := by omega
        simp only [docAt, if_neg hk0, hj]
      have ha0 : k = 0 → docAt l k = -1 := fun h => by simp [docAt, h]
      have hs := docAt_succ (l := l) (k := k)
      have hlp := HPL.out (l.getD k (0, [])) (by rw [List.getD_eq_getElem?_getD, List.getElem?_eq_getElem hlt]; simp)
      rw [drop_po hlt] at hris
      obtain ⟨q, hq⟩ : ∃ q, q = l.getD k (0, []) := ⟨_, rfl⟩
      rw [← hq] at hc1 hc2 hlc hr2 hris hs hlp
      obtain ⟨y, ps⟩ := q
      obtain ⟨x, hxx⟩ : ∃ x, x = docAt l k := ⟨_, rfl⟩
      rw [← hxx] at hris hx1 hc0 ha0
      simp only at hc1 hc2 hlc hr2 hs hlp
      have HNO : Hid (¬ (x < y ∧ y < 2147483648 ∧ placesB ps = true) → ans = false) := Lib.hid fun h => by
        rw [HANS.out, ← hris, Bool.eq_false_iff]
        intro hm
        have := mayB'_cons.1 hm
        exact h ⟨this.1, this.2.1, this.2.2.1⟩
      have HYES : Hid (x < y → y < 2147483648 → placesB ps = true → mayB' y (l.drop (k + 1)) = mayB' (-1) l) := Lib.hid fun h1 h2 h3 => by
        rw [← hris, mayB', decide_eq_true h1, decide_eq_true h2, h3]
        rfl
      have rr := ref_Rises A2 ps.length c2 ps wr (hr2.more hsz) rfl hlp
      obtain ⟨rb, hrb⟩ : ∃ rb, rb = risesZ (-1) ps := ⟨_, rfl⟩
      rw [← hrb] at rr
      have RR := Lib.hid rr
      have HRB := Lib.hid hrb
      have HR2 := Lib.hid hr2
      have HS := Lib.hid hs
      have HC0 := Lib.hid hc0
      have HA0 := Lib.hid ha0
      obtain ⟨P, hP⟩ : ∃ P, P = ps.length := ⟨_, rfl⟩
      rw [← hP] at hc2 hlc hlp RR
      have HPP := Lib.hid hP
      clear hris rr hrb hr2 hs hc0 ha0 hq hxx hP
      go_wp2_with (go_at_call 40; refine RR.out.mono ?_)
      rintro e w5 ⟨rfl, hb5⟩
      have hb5' : Below w.heap.size wr w5 := hb5.mono hsz
      have k1 := (hb5'.cell (p := ⟨b1, o1 + k * 2, none⟩) hb1).trans hc1
      have k2 := (hb5'.cell (p := ⟨b1, o1 + k * 2 + 1, none⟩) hb1).trans hc2
      have HK0 : Hid (0 < k → ∀ j, j = k - 1 → w5.cell? ⟨b1, o1 + j * 2, none⟩ = some (.int .i64 x)) := Lib.hid fun h j hj => (hb5'.cell (p := ⟨b1, o1 + j * 2, none⟩) hb1).trans (HC0.out h j hj)
      have HLAST : Hid (∀ p1, p1 + 1 = P → ∃ b3 o3, A2 = some ⟨b3, o3, none⟩ ∧ w5.cell? ⟨b3, o3 + p1, none⟩ = some (.int .i64 (ps.getLastD 0))) := Lib.hid fun p1 hp => by
        obtain ⟨b3, o3, e3, _, hc3⟩ := row_int' (HR2.out.below hb5') (k := p1) (by rw [← HPP.out]; omega)
        exact ⟨b3, o3, e3, by rw [hc3, last_at (by rw [← HPP.out]; exact hp)]⟩
      have HB5 := Lib.hid (hbw.trans hb5')
      clear hb5 hb5' hc1 hc2 RR HC0
      by_cases h1 : y < 0
      · have e1 : decide (y < 0) = true := decide_eq_true h1
        have HN0 := Lib.hid (HNO.out (by omega))
        go_wp2
        go_quiet (fail)
        go_wp2
        go_ret
        rw [HN0.out]
        exact ⟨rfl, HB5.out.trans (quiet_below _)⟩
      have e1 : decide (y < 0) = false := decide_eq_false h1
      by_cases h2 : 2147483648 ≤ y
      · have e2 : decide (2147483648 ≤ y) = true := decide_eq_true h2
        have HN0 := Lib.hid (HNO.out (by omega))
        go_wp2
        go_quiet (fail)
        go_wp2
        go_ret
        rw [HN0.out]
        exact ⟨rfl, HB5.out.trans (quiet_below _)⟩
      have e2 : decide (2147483648 ≤ y) = false := decide_eq_false h2
      have hyb : y < 2147483648 := by omega
      rcases Nat.eq_zero_or_pos k with hk0 | hk0
      · have hxy : x < y := by have := HA0.out hk0; omega
        have e3 : decide ((0 : Int) < (k : Int)) = false := decide_eq_false (by omega)
        have e3' : decide (0 < k) = false := decide_eq_false (by omega)
        clear hk0
        rcases Nat.eq_zero_or_pos P with hP0 | hP0
        · have hpe : ps = [] := List.eq_nil_of_length_eq_zero (by rw [← HPP.out]; exact hP0)
          have HN0 := Lib.hid (HNO.out (by rw [hpe]; simp [placesB]))
          have e4 : ((P : Int) == 0) = true := by rw [hP0]; rfl
          clear hpe hP0
          go_wp2
          go_quiet (fail)
          go_wp2
          go_ret
          rw [HN0.out]
          exact ⟨rfl, HB5.out.trans (quiet_below _)⟩
        · have e4 : ((P : Int) == 0) = false := by rw [beq_eq_false_iff_ne]; omega
          rcases hrbc : rb with _ | _
          · have HN0 := Lib.hid (HNO.out (by have := HRB.out; rw [hrbc] at this; simp [placesB, ← this]))
            subst hrbc
            go_wp2
            go_quiet (fail)
            go_wp2
            go_ret
            rw [HN0.out]
            exact ⟨rfl, HB5.out.trans (quiet_below _)⟩
          · obtain ⟨p1, hp1⟩ : ∃ p1, p1 + 1 = P := ⟨P - 1, by omega⟩
            obtain ⟨b3, o3, hA3, hlast⟩ := HLAST.out p1 hp1
            have hw2 : IntKind.i64.wrap ((P : Int) - 1) = (p1 : Int) := by rw [IntWalk.i64_in _ (by omega)]; omega
            have hp1P : p1 < P := by omega
            obtain ⟨z, hz⟩ : ∃ z, z = ps.getLastD 0 := ⟨_, rfl⟩
            rw [← hz] at hlast
            have hne : ps ≠ [] := by intro h; have := HPP.out; rw [h] at this; simp at this; omega
            have HZ := Lib.hid hz
            have HNE := Lib.hid hne
            have HRT : Hid (risesZ (-1) ps = true) := Lib.hid (by rw [← HRB.out]; exact hrbc)
            subst hA3
            clear hp1 hz hne
            subst hrbc
            by_cases hzb : 2147483648 ≤ z
            · have HN0 := Lib.hid (HNO.out (by intro h; have := (placesB_iff.1 h.2.2).2.2; rw [← HZ.out] at this; omega))
              have e6 : decide (2147483648 ≤ z) = true := decide_eq_true hzb
              go_wp2
              go_quiet (fail)
              go_wp2
              go_ret
              rw [HN0.out]
              exact ⟨rfl, HB5.out.trans (quiet_below _)⟩
            · have e6 : decide (2147483648 ≤ z) = false := decide_eq_false hzb
              have HY0 := Lib.hid (HYES.out hxy hyb (placesB_iff.2 ⟨HRT.out, HNE.out, by rw [← HZ.out]; omega⟩))
              have HXY := Lib.hid hxy
              clear hxy
              go_wp2
              go_quiet (fail)
              go_wp2
              go_roundw
              case rel => exact ⟨rfl, k + 1, by omega, by go_num, by rw [HS.out]; have := HXY.out; omega, by rw [HS.out]; exact HY0.out, HB5.out.trans (quiet_below _)⟩
              case measure => simp [intOf]; omega
      · obtain ⟨j, hj⟩ : ∃ j, j = k - 1 := ⟨_, rfl⟩
        have k0 := HK0.out hk0 j hj
        have hw1 : IntKind.i64.wrap ((k : Int) - 1) = (j : Int) := by rw [IntWalk.i64_in _ (by omega)]; omega
        have hjl : j < l.length := by omega
        have e3 : decide ((0 : Int) < (k : Int)) = true := decide_eq_true (by omega)
        have e3' : decide (0 < k) = true := decide_eq_true hk0
        clear hj
        by_cases h3 : y ≤ x
        · have e5 : decide (y ≤ x) = true := decide_eq_true h3
          have HN0 := Lib.hid (HNO.out (by omega))
          go_wp2
          go_quiet (fail)
          go_wp2
          go_ret
          rw [HN0.out]
          exact ⟨rfl, HB5.out.trans (quiet_below _)⟩
        have e5 : decide (y ≤ x) = false := decide_eq_false h3
        have hxy : x < y := by omega
        rcases Nat.eq_zero_or_pos P with hP0 | hP0
        · have hpe : ps = [] := List.eq_nil_of_length_eq_zero (by rw [← HPP.out]; exact hP0)
          have HN0 := Lib.hid (HNO.out (by rw [hpe]; simp [placesB]))
          have e4 : ((P : Int) == 0) = true := by rw [hP0]; rfl
          clear hpe hP0
          go_wp2
          go_quiet (fail)
          go_wp2
          go_ret
          rw [HN0.out]
          exact ⟨rfl, HB5.out.trans (quiet_below _)⟩
        · have e4 : ((P : Int) == 0) = false := by rw [beq_eq_false_iff_ne]; omega
          rcases hrbc : rb with _ | _
          · have HN0 := Lib.hid (HNO.out (by have := HRB.out; rw [hrbc] at this; simp [placesB, ← this]))
            subst hrbc
            go_wp2
            go_quiet (fail)
            go_wp2
            go_ret
            rw [HN0.out]
            exact ⟨rfl, HB5.out.trans (quiet_below _)⟩
          · obtain ⟨p1, hp1⟩ : ∃ p1, p1 + 1 = P := ⟨P - 1, by omega⟩
            obtain ⟨b3, o3, hA3, hlast⟩ := HLAST.out p1 hp1
            have hw2 : IntKind.i64.wrap ((P : Int) - 1) = (p1 : Int) := by rw [IntWalk.i64_in _ (by omega)]; omega
            have hp1P : p1 < P := by omega
            obtain ⟨z, hz⟩ : ∃ z, z = ps.getLastD 0 := ⟨_, rfl⟩
            rw [← hz] at hlast
            have hne : ps ≠ [] := by intro h; have := HPP.out; rw [h] at this; simp at this; omega
            have HZ := Lib.hid hz
            have HNE := Lib.hid hne
            have HRT : Hid (risesZ (-1) ps = true) := Lib.hid (by rw [← HRB.out]; exact hrbc)
            subst hA3
            clear hp1 hz hne
            subst hrbc
            by_cases hzb : 2147483648 ≤ z
            · have HN0 := Lib.hid (HNO.out (by intro h; have := (placesB_iff.1 h.2.2).2.2; rw [← HZ.out] at this; omega))
              have e6 : decide (2147483648 ≤ z) = true := decide_eq_true hzb
              go_wp2
              go_quiet (fail)
              go_wp2
              go_ret
              rw [HN0.out]
              exact ⟨rfl, HB5.out.trans (quiet_below _)⟩
            · have e6 : decide (2147483648 ≤ z) = false := decide_eq_false hzb
              have HY0 := Lib.hid (HYES.out hxy hyb (placesB_iff.2 ⟨HRT.out, HNE.out, by rw [← HZ.out]; omega⟩))
              have HXY := Lib.hid hxy
              clear hxy
              go_wp2
              go_quiet (fail)
              go_wp2
              go_roundw
              case rel => exact ⟨rfl, k + 1, by omega, by go_num, by rw [HS.out]; have := HXY.out; omega, by rw [HS.out]; exact HY0.out, HB5.out.trans (quiet_below _)⟩
              case measure => simp [intOf]; omega
    · rw [List.drop_eq_nil_of_le (by omega)] at hris
      have HF : Hid (ans = true) := Lib.hid (by rw [HANS.out, ← hris]; rfl)
      clear hris
      go_wp2
      go_ret
      rw [HF.out]
      exact ⟨rfl, hbw⟩
end Go.Proofs.YtgcdekaceimdnaaGreat
