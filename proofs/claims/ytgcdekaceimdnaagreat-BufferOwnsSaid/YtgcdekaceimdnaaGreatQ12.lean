/- Texts laid together: AddA09, Goods09, Words08. -/
import Derived.Test.YtgcdekaceimdnaaGreatQ09
import Derived.Test.YtgcdekaceimdnaaGreatAddE09
import Derived.Test.YtgcdekaceimdnaaGreatQ06
import Derived.Test.YtgcdekaceimdnaaGreatQ04
import Derived.BigCall
import Derived.BigQuiet
import Derived.Deep.QuietTactic

/- What stands while an entry is added to a buffer. No walk. -/
set_option linter.unusedVariables false
namespace Go.Proofs.YtgcdekaceimdnaaGreat
open Go Go.RowKit

/-- What stands: the buffer's four cells, its entries, its map, the entry at hand in a block of its own, its fields. -/
structure AddAt (S : Nat → Prop) (B M c : Nat) (q : En) (A : Option Addr) (cp : Nat) (v : Value) (L : List En) (x2 x3 : Int) (g : List GP) (w wr : World) : Prop where
  cells : wr.heap[B]? = some (.cells #[v, .map (some M), .int .i64 x2, .int .i64 x3] 63 (0, 0))
  own : OwnES (fun k => S k ∨ Since w.heap.size wr k) wr v L
  map : PmAt (fun k => S k ∨ Since w.heap.size wr k) wr M c g
  only : OnlyIn S w wr
  ent : wr.heap[w.heap.size]? = some (.cells #[.int .i64 q.1, .slice A q.2.1.length cp, .int .i64 q.2.2] 37 (0, 0))
  mine : S B
  flds : FRow wr w.heap.size A q.2.1
  vE : v.ownBlock ≠ some w.heap.size
section
variable {S : Nat → Prop} {B M c cp : Nat} {q : En} {A : Option Addr} {v : Value} {L : List En} {x2 x3 : Int} {g : List GP} {w wr w' : World}
theorem Since.later {a k : Nat} (h : Since a wr k) (hb : wr.heap.size ≤ w'.heap.size) : Since a w' k := ⟨h.1, Nat.lt_of_lt_of_le h.2 hb⟩
theorem AddAt.below (h : AddAt S B M c q A cp v L x2 x3 g w wr) (hb : Below wr.heap.size wr w') : AddAt S B M c q A cp v L x2 x3 g w w' :=
  ⟨(hb.block _ (lt_of_block h.cells)).trans h.cells, (h.own.keeps fun k _ hk => hb.block k hk).imp fun k hk => hk.imp id fun hk => hk.later hb.size, (h.map.keep fun k _ hk => hb.block k hk).imp fun k hk => hk.imp id fun hk => hk.later hb.size,
    h.only.trans (OnlyIn.of_below hb), (hb.block _ (lt_of_block h.ent)).trans h.ent, h.mine, h.flds.below (hb.mono h.only.size), h.vE⟩
theorem AddAt.row (h : AddAt S B M c q A cp v L x2 x3 g w wr) : FRow wr wr.heap.size A q.2.1 := h.flds.more h.only.size
/-- A store into one of the buffer's cells. -/
theorem AddAt.kept (h : AddAt S B M c q A cp v L x2 x3 g w wr) (hf : RowP (fun k => k < w.heap.size ∧ ¬ S k) w A (Go.Proofs.YtgcdekaceimdnaaGreat.flds q.2.1))
    (hs : wr.heap.size ≤ w'.heap.size) (ho : w'.os = wr.os) (ht : w'.tape = wr.tape) (hou : w'.output = wr.output) {R : Nat → Prop} (hR : ∀ k, R k → S k ∨ Since w.heap.size wr k) (hRE : ¬ R w.heap.size) (hk : ∀ k, k < wr.heap.size → ¬ R k → w'.heap[k]? = wr.heap[k]?) :
    OnlyIn S w w' ∧ w'.heap[w.heap.size]? = some (.cells #[.int .i64 q.1, .slice A q.2.1.length cp, .int .i64 q.2.2] 37 (0, 0)) ∧ FRow w' w.heap.size A q.2.1 := by
  have hsz := h.only.size
  have honly : OnlyIn S w w' := ⟨ho.trans h.only.os, ht.trans h.only.tape, hou.trans h.only.output, Nat.le_trans h.only.size hs, fun k h1 h2 => (hk k (by omega) fun hr => (hR k hr).elim h2 fun hr => by have := hr.1; omega).trans (h.only.block k h1 h2)⟩
  exact ⟨honly, (hk _ (lt_of_block h.ent) hRE).trans h.ent, (hf.keep fun k hk => honly.block k hk.1 hk.2).imp fun k hk => hk.1⟩
theorem PmAt.keepT {S : Nat → Prop} {w w' : World} {M c : Nat} {g : List GP} (h : PmAt S w M c g) (hM : w'.heap[M]? = w.heap[M]?) (hk : ∀ (k : Nat) (cs : Array Value) (t : TypeId) (fr : Nat × Nat), w.heap[k]? = some (.cells cs t fr) → (t = 54 ∨ t = 3) → w'.heap[k]? = w.heap[k]?) : PmAt S w' M c g := by
  obtain ⟨m, h1, h2, h3, h4, h5⟩ := h
  refine ⟨m, hM.trans h1, h2, h3, fun i e p he hp => ?_, h5⟩
  obtain ⟨r1, r2⟩ := h4 i e p he hp
  refine ⟨r1, r2.keep (fun k hv => ?_) fun k hs => ?_⟩
  · obtain ⟨cs, q1, _⟩ := r2
    obtain ⟨cs', fr, hh⟩ := owned_type q1 hv
    exact hk k _ _ _ hh (.inl rfl)
  · obtain ⟨_, cs', fr, hh, _⟩ := hs
    exact hk k _ _ _ hh (.inr rfl)
theorem AddAt.mapB (h : AddAt S B M c q A cp v L x2 x3 g w wr) {k : Nat} {cs : Array Value} {t : TypeId} {fr : Nat × Nat} {T : Nat → Prop} (hk : wr.heap[k]? = some (.cells cs t fr)) (ht : t ≠ 54) : ¬ MapB T wr M k := fun e => by
  rcases e with e | ⟨_, cs', fr', hh, _⟩
  · obtain ⟨es, ec, hes⟩ := h.map.map
    rw [← e, hk] at hes
    cases hes
  · rw [hk] at hh
    injection hh with hh
    injection hh with _ h2 _
    exact ht h2
/-- Behind turn. -/
theorem AddAt.turned (h : AddAt S B M c q A cp v L x2 x3 g w wr) (hf : RowP (fun k => k < w.heap.size ∧ ¬ S k) w A (Go.Proofs.YtgcdekaceimdnaaGreat.flds q.2.1)) {w4 : World} {g' : List GP}
    (hm : PmAt (fun k => (S k ∨ Since w.heap.size wr k) ∨ Since wr.heap.size w4 k) w4 M c g') (ho : OnlyIn (MapB (fun k => S k ∨ Since w.heap.size wr k) wr M) wr w4) : AddAt S B M c q A cp v L x2 x3 g' w w4 := by
  have hsz := h.only.size
  have hSM : (S M ∨ Since w.heap.size wr M) := by obtain ⟨m, _, h2, _⟩ := h.map; exact h2
  obtain ⟨k1, k2, k3⟩ := h.kept hf ho.size ho.os ho.tape ho.output (R := MapB (fun k => S k ∨ Since w.heap.size wr k) wr M) (fun k hk => hk.elim (fun hk => hk ▸ hSM) fun hk => hk.1) (h.mapB h.ent (by decide)) ho.block
  have hkt : ∀ (k : Nat) (cs : Array Value) (t : TypeId) (fr : Nat × Nat), wr.heap[k]? = some (.cells cs t fr) → t ≠ 54 → w4.heap[k]? = wr.heap[k]? := fun k cs t fr hk ht => ho.block k (Array.getElem?_eq_some_iff.1 hk).1 (h.mapB hk ht)
  refine ⟨(hkt _ _ _ _ h.cells (by decide)).trans h.cells, (h.own.keep (fun k hk => ?_) fun k hk => ?_).imp fun k hk => hk.imp id fun hk => hk.later ho.size, hm.imp fun k hk => ?_, k1, k2, h.mine, k3, h.vE⟩
  · obtain ⟨cs, r1, _⟩ := h.own
    obtain ⟨cs', fr, hh⟩ := owned_type r1 hk
    exact hkt _ _ _ _ hh (by decide)
  · obtain ⟨_, cs', fr, hh, _⟩ := hk
    exact hkt _ _ _ _ hh (by decide)
  · rcases hk with (hk | hk) | hk
    · exact .inl hk
    · exact .inr (hk.later ho.size)
    · exact .inr ⟨by have := hk.1; omega, hk.2⟩
/-- Behind a store into the third, into the fourth cell. -/
theorem AddAt.stored (h : AddAt S B M c q A cp v L x2 x3 g w wr) (hf : RowP (fun k => k < w.heap.size ∧ ¬ S k) w A (Go.Proofs.YtgcdekaceimdnaaGreat.flds q.2.1)) (hB : B < w.heap.size) (y2 y3 : Int) (hw : w'.heap[B]? = some (.cells #[v, .map (some M), .int .i64 y2, .int .i64 y3] 63 (0, 0)))
    (hk : ∀ k, k ≠ B → w'.heap[k]? = wr.heap[k]?) (hs : w'.heap.size = wr.heap.size) (ho : w'.os = wr.os) (ht : w'.tape = wr.tape) (hou : w'.output = wr.output) : AddAt S B M c q A cp v L y2 y3 g w w' := by
  have hne : ∀ {k : Nat} {cs : Array Value} {t : TypeId} {fr : Nat × Nat}, wr.heap[k]? = some (.cells cs t fr) → t ≠ 63 → k ≠ B := fun hk ht e => by
    rw [e, h.cells] at hk
    injection hk with hk
    injection hk with _ h2 _
    exact ht h2.symm
  obtain ⟨k1, k2, k3⟩ := h.kept hf (by omega) ho ht hou (R := fun k => k = B) (fun k hk => .inl (hk ▸ h.mine)) (by omega) (fun k _ h1 => hk k h1)
  refine ⟨hw, (h.own.keep (fun k hk' => ?_) fun k hk' => ?_).imp fun k hk => hk.imp id fun hk => hk.later (by omega), (h.map.keepT (hk M fun e => ?_) fun k cs t fr h1 h2 => hk k (hne h1 (by rcases h2 with rfl | rfl <;> decide))).imp fun k hk => hk.imp id fun hk => hk.later (by omega), k1, k2, h.mine, k3, h.vE⟩
  · obtain ⟨cs, r1, _⟩ := h.own
    obtain ⟨cs', fr, hh⟩ := owned_type r1 hk'
    exact hk k (hne hh (by decide))
  · obtain ⟨_, cs', fr, hh, _⟩ := hk'
    exact hk k (hne hh (by decide))
  · obtain ⟨es, ec, hes⟩ := h.map.map
    rw [e, h.cells] at hes
    cases hes
/-- Behind the append, and the store of the new list. -/
theorem AddAt.push (h : AddAt S B M c q A cp v L x2 x3 g w wr) (hf : RowP (fun k => k < w.heap.size ∧ ¬ S k) w A (Go.Proofs.YtgcdekaceimdnaaGreat.flds q.2.1)) (hB : B < w.heap.size) {A5 : Option Addr} {c5 : Nat} (ho5 : OwnFd w.heap.size wr (.slice A5 q.2.1.length c5) q.2.1) (hc5 : q.2.1.length ≤ c5 ∧ c5 ≤ maxLen) :
    ∃ cs, wr.ownsRow 0 37 3 v L.length cs ∧ ∀ (gg cap : Nat) (w7 : World), w7.ownsRow 0 37 3 (.slice (some ⟨gg, 0, none⟩) (L.length + 1) cap) (L.length + 1) (cs ++ [.int .i64 q.1, .slice A5 q.2.1.length c5, .int .i64 q.2.2]) →
      (wr.alloc (.cells #[.int .i64 q.1, .slice A5 q.2.1.length c5, .int .i64 q.2.2] 37)).grownBy w7 v.ownBlock → (v.ownBlock = some gg ∨ gg = wr.heap.size + 1) → gg < w7.heap.size →
      w7.heap[B]? = some (.cells #[v, .map (some M), .int .i64 x2, .int .i64 x3] 63 (0, 0)) ∧ w7.heap[w.heap.size]? = some (.cells #[.int .i64 q.1, .slice A q.2.1.length cp, .int .i64 q.2.2] 37 (0, 0)) ∧
        AddAt S B M c q A cp (.slice (some ⟨gg, 0, none⟩) (L.length + 1) cap) (L ++ [q]) x2 x3 g w (w7.setCell ⟨B, 0, none⟩ (.slice (some ⟨gg, 0, none⟩) (L.length + 1) cap)) := by
  have hsz := h.only.size
  obtain ⟨cs, r1, r2, r3⟩ := h.own
  refine ⟨cs, r1, fun gg cap w7 hown hg hat hlt => ?_⟩
  have hal : Below wr.heap.size wr (wr.alloc (.cells #[.int .i64 q.1, .slice A5 q.2.1.length c5, .int .i64 q.2.2] 37)) := (Below.refl _ _).alloc (Nat.le_refl _) _
  have hs6 := hal.size
  have hs7 := hg.size
  have hk7 : ∀ k, k < wr.heap.size → v.ownBlock ≠ some k → w7.heap[k]? = wr.heap[k]? := fun k hk hne => (hg.block k (by omega) (fun e => hne e.symm)).trans (hal.block k hk)
  have hkt : ∀ (k : Nat) (cs' : Array Value) (t : TypeId) (fr : Nat × Nat), wr.heap[k]? = some (.cells cs' t fr) → t ≠ 37 → w7.heap[k]? = wr.heap[k]? := fun k cs' t fr hk ht => hk7 k (Array.getElem?_eq_some_iff.1 hk).1 (owned_apart r1 hk ht)
  have hB7 := (hkt _ _ _ _ h.cells (by decide)).trans h.cells
  have hE7 : w7.heap[w.heap.size]? = some (.cells #[.int .i64 q.1, .slice A q.2.1.length cp, .int .i64 q.2.2] 37 (0, 0)) := (hk7 _ (lt_of_block h.ent) h.vE).trans h.ent
  refine ⟨hB7, hE7, ?_⟩
  obtain ⟨w8, hw8⟩ : ∃ w8, w8 = w7.setCell ⟨B, 0, none⟩ (.slice (some ⟨gg, 0, none⟩) (L.length + 1) cap) := ⟨_, rfl⟩
  rw [← hw8]
  have hB8 : w8.heap[B]? = some (.cells #[.slice (some ⟨gg, 0, none⟩) (L.length + 1) cap, .map (some M), .int .i64 x2, .int .i64 x3] 63 (0, 0)) := by rw [hw8, set_at hB7]; rfl
  have ho8 : ∀ k, k ≠ B → w8.heap[k]? = w7.heap[k]? := fun k hk => by rw [hw8, set_ne (Ne.symm hk)]
  have hs8 : w8.heap.size = w7.heap.size := by rw [hw8]; simp
  have h8 : w8.os = w7.os ∧ w8.tape = w7.tape ∧ w8.output = w7.output := by rw [hw8]; exact ⟨rfl, rfl, rfl⟩
  have hkB : ∀ k, v.ownBlock = some k → (S k ∨ Since w.heap.size wr k) := fun k hk => r2 k hk
  obtain ⟨k1, k2, k3⟩ := h.kept (w' := w8) hf (by omega) (h8.1.trans (hg.os.trans hal.os)) (h8.2.1.trans (hg.tape.trans hal.tape)) (h8.2.2.trans (hg.output.trans hal.output)) (R := fun k => k = B ∨ v.ownBlock = some k) (fun k hk => hk.elim (fun hk => .inl (hk ▸ h.mine)) fun hk => hkB k hk) (fun e => e.elim (fun e => by omega) h.vE)
    (fun k h1 h2 => (ho8 k fun e => h2 (.inl e)).trans (hk7 k h1 fun e => h2 (.inr e)))
  have hne : ∀ {k : Nat} {cs : Array Value} {t : TypeId} {fr : Nat × Nat}, w7.heap[k]? = some (.cells cs t fr) → t ≠ 63 → k ≠ B := fun hk ht e => by
    rw [e, hB7] at hk
    injection hk with hk
    injection hk with _ h2 _
    exact ht h2.symm
  have hup : ∀ {A : Option Addr} {xs : List Value}, RowF (fun k => S k ∨ Since w.heap.size wr k) wr A xs → RowF (fun k => S k ∨ Since w.heap.size w8 k) (wr.alloc (.cells #[.int .i64 q.1, .slice A5 q.2.1.length c5, .int .i64 q.2.2] 37)) A xs := fun h => (h.keepO fun k hk => hal.block k hk.lt).impS fun k hk => hk.imp id fun hk => hk.later (by omega)
  have hpush := OwnES.push (S := fun k => S k ∨ Since w.heap.size w8 k) (q := q) (owned_below r1 hal) (r3.imp fun _ _ h => hup h) hc5.1 hc5.2 (hup (RowF.of_own ho5 fun k a b => .inr ⟨a, b⟩)) hown hg fun k hk => by
    simp only [Value.ownBlock, Option.some.injEq] at hk
    subst hk
    rcases hat with e | e
    · exact (hkB _ e).imp id fun hk => hk.later (by omega)
    · exact .inr ⟨by omega, by omega⟩
  refine ⟨hB8, hpush.keep (fun k hk => ?_) (fun k hk => ?_), (h.map.keepT ?_ fun k cs t fr h1 h2 => ?_).imp fun k hk => hk.imp id fun hk => hk.later (by omega), k1, k2, h.mine, k3, fun e => ?_⟩
  · obtain ⟨cs', fr, hh⟩ := owned_type hown hk
    exact ho8 k (hne hh (by decide))
  · obtain ⟨_, cs', fr, hh, _⟩ := hk
    exact ho8 k (hne hh (by decide))
  · obtain ⟨es, ec, hes⟩ := h.map.map
    have hM7 : w7.heap[M]? = wr.heap[M]? := hk7 M (Array.getElem?_eq_some_iff.1 hes).1 fun e => by
      obtain ⟨cs', fr, hh⟩ := owned_type r1 e
      rw [hes] at hh
      cases hh
    have hMB : M ≠ B := fun e => by
      rw [← hM7, e, hB7] at hes
      cases hes
    rw [ho8 M hMB, hM7]
  · have h7 := hkt _ _ _ _ h1 (by rcases h2 with rfl | rfl <;> decide)
    rw [ho8 k (hne (h7.trans h1) (by rcases h2 with rfl | rfl <;> decide)), h7]
  · simp only [Value.ownBlock, Option.some.injEq] at e
    rcases hat with e2 | e2
    · exact h.vE (by rw [e2, e])
    · omega
/-- At the end. -/
theorem AddAt.done (h : AddAt S B M c q A cp v (L ++ [q]) (weightE (L ++ [q]) : Int) q.2.2 (turnP L.length q.2.1 g (termsD q.2.1)) w wr) (hS : ∀ k, S k → k < w.heap.size) (hst : Stand g L) (hgd : GoodE L) (hq : GoodF q.2.1) (hs : 0 ≤ q.2.2) : BufAt (fun k => S k ∨ Since w.heap.size wr k) wr B (L ++ [q]) q.2.2 :=
  ⟨v, M, c, _, h.cells, .inl h.mine, h.own, h.map, hst.turned q, hgd.snoc hq, by omega, fun _ => (lastE_snoc L q).symm, fun k hk => hk.elim (fun hk => Nat.lt_of_lt_of_le (hS k hk) h.only.size) fun hk => hk.2⟩
end
end Go.Proofs.YtgcdekaceimdnaaGreat

/- What Invert and Weight of package doc answer of a document that may be. -/
set_option linter.unusedVariables false
namespace Go.Proofs.YtgcdekaceimdnaaGreat
open Go Go.RowKit

section
variable {id : Int} {A : Option Addr} {n c : Nat} {l : List Fd} {w : World}
theorem good_inv9 (hg : GoodF l) (hl : l.length = n) (hr : FRow w w.heap.size A l) : Calls Tryz.prog 45 #[docV id A n c] w (GotInv (termsD l) ((termsD l).map (placesD l)) w) :=
  doc_Invert id A n c l w hl hr (by have := hg.len; omega) (fun f hf => by have := hg.names f hf; have := hg.texts f hf; omega) (fun f hf => by have := hg.wordsF f hf; omega) hg.apart hg.zero
theorem good_weight9 (hg : GoodF l) (hl : l.length = n) (hr : FRow w w.heap.size A l) : Calls Tryz.prog 31 #[docV id A n c] w fun e w' => e = .returned (.int .i64 (weightD l : Int)) ∧ Below w.heap.size w w' := by
  rw [← tellD_weight hg.apart]
  exact doc_Weight id A n c l w hl hr (by have := hg.len; omega) (fun f hf => by have := hg.texts f hf; omega) (fun f hf => by have := hg.wordsF f hf; omega)
end
end Go.Proofs.YtgcdekaceimdnaaGreat

/- What the document's Words answers: the words of the field of a name. -/
namespace Go.Proofs.YtgcdekaceimdnaaGreat
open Go Go.RowKit
set_option linter.unusedVariables false

def WordsRel8 (l : List Fd) (s : Nm) (w1 : World) (a i : Value) (wr : World) : Prop :=
  a = .slice none 0 0 ∧ ∃ k : Nat, k ≤ l.length ∧ i = .int .i64 (k : Int) ∧ Below w1.heap.size w1 wr ∧ ∀ j (hj : j < l.length), j < k → l[j].1 ≠ s

set_option maxHeartbeats 1000000 in
set_option maxRecDepth 100000 in
theorem ref08_Words (id : Int) (A : Option Addr) (n c : Nat) (l : List Fd) (s : ByteArray) (w : World) (hl : l.length = n) (hr : FRow w w.heap.size A l) (hn : n ≤ 1073741824) (ht : ∀ f ∈ l, f.2.length ≤ 268435456) :
    Calls Tryz.prog 58 #[docV id A n c, .string s] w (GaveStrs (wordsD l s.data.toList) w) := by
  subst hl
  have HR := Lib.hid hr
  have HT := Lib.hid ht
  obtain ⟨ws, hws⟩ : ∃ ws, ws = wordsD l s.data.toList := ⟨_, rfl⟩
  rw [← hws]
  have HW := Lib.hid hws
  clear hws hr ht
  go_enter Tryz.func58, Tryz.ntmps58
  go_wp2
  obtain ⟨w1, hw1⟩ : ∃ w1, w1 = boxD w id A l.length c := ⟨_, rfl⟩
  have hb1 : ∀ wr, Below w1.heap.size w1 wr → Below w.heap.size w wr ∧ wr.cell? ⟨w.heap.size, 0, none⟩ = some (.int .i64 id) ∧ wr.cell? ⟨w.heap.size, 1, none⟩ = some (.slice A l.length c) := fun wr h => by
    subst hw1
    exact ⟨boxD_out h, boxD_cells h⟩
  have HB1 := Lib.hid hb1
  clear hb1
  rw [show w.alloc _ = w1 from hw1.symm]
  clear hw1
  go_loopw [4, 5] (fun a i wr => WordsRel8 l s.data.toList w1 a i wr) (fun _ i _ => l.length - (intOf i).toNat)
  case atStart => exact ⟨rfl, 0, by omega, rfl, Below.refl _ _, fun j _ hj => by omega⟩
  case round =>
    obtain ⟨rfl, k, hk, rfl, hbw, hall⟩ := hrel
    obtain ⟨hb0, hc0, hc1⟩ := HB1.out _ hbw
    by_cases hlt : k < l.length
    · obtain ⟨b1, o1, e1, _, hf1, hf2⟩ := (HR.out.below hb0).at_ hlt
      subst e1
      have ht8 := HT.out _ (List.getElem_mem hlt)
      obtain ⟨x, hx, hx2⟩ := as_text l[k].1
      obtain ⟨y, hy, hy2⟩ := as_text l[k].2
      rw [← hx] at hf1
      rw [← hy] at hf2
      have i0 : (0 : Int) ≤ k := by omega
      have i1 : (k : Int) < l.length := by omega
      by_cases he : l[k].1 = s.data.toList
      · have t1 := same_true (s := x) (t := s) (by rw [hx2]; exact he)
        have hys : y.size ≤ 268435456 := by rw [hy, size_nm]; omega
        have C1 := Lib.hid fun w => ref_Words y w hys
        have hww : words y.data.toList = ws := by rw [hy2, HW.out]; exact (wordsD_at hlt hall he).symm
        rw [hww] at C1
        have HB0 := Lib.hid hb0
        clear hall he hx hx2 hy hy2 hww ht8 hb0
        go_wp2_with (go_at_call 59; refine (C1.out _).mono ?_)
        rintro e w2 ⟨v, rfl, hown, hb2⟩
        have HO := Lib.hid hown
        have HB2 := Lib.hid hb2
        clear hown hb2
        go_wp2
        go_ret
        exact ⟨_, rfl, owned_low HO.out HB0.out.size, HB0.out.trans (HB2.out.mono HB0.out.size)⟩
      · have t1 := same_false (s := x) (t := s) (by rw [hx2]; exact he)
        have HN : Hid (∀ j (hj : j < l.length), j < k + 1 → l[j].1 ≠ s.data.toList) := Lib.hid fun j hj hjk => by
          by_cases e : j = k
          · subst e; exact he
          · exact hall j hj (by omega)
        clear hall he hx hx2 hy hy2 ht8 hb0
        go_wp2
        go_roundw
        case rel => exact ⟨rfl, k + 1, by omega, by go_num, hbw, HN.out⟩
        case measure => simp [intOf]; omega
    · have hn0 : ws = [] := by rw [HW.out]; exact wordsD_none fun j hj => hall j hj (by omega)
      subst hn0
      have HB0 := Lib.hid hb0
      clear hall hb0
      go_wp2
      go_ret
      exact ⟨_, rfl, World.ownsRow_nil _ _ _ _, HB0.out⟩
end Go.Proofs.YtgcdekaceimdnaaGreat
