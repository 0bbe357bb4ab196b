/- Texts laid together: Toks02, Key02. -/
import Derived.Test.YthpecegifilgoaaRefWords
import Derived.Test.YthpecegifilgoaaProg
import Derived.Test.YthpecegifilgoaaBase
import Derived.Lib.Hide
import Derived.BigQuiet
import Derived.Deep.QuietTactic

/- What a call of Tokens gives: each word with its place, or the first error; in new memory; nothing that was there turns. -/
namespace Go.Proofs.Ythpecegifilgoaa
open Go Go.RowKit
set_option linter.unusedVariables false

/-- The first error of words, from place i on. -/
def errFrom : Nat → List (List UInt8) → Int
  | _, [] => 0
  | i, w :: ws => if 30 < w.length then 3 else if 500 ≤ i then 7 else errFrom (i + 1) ws
def tokCells : Nat → List (List UInt8) → List Value
  | _, [] => []
  | i, w :: ws => .string ⟨w.toArray⟩ :: .int .i64 i :: tokCells (i + 1) ws
theorem tokCells_append : ∀ (a : List (List UInt8)) (i : Nat) (b : List (List UInt8)), tokCells i (a ++ b) = tokCells i a ++ tokCells (i + a.length) b
  | [], i, b => by simp [tokCells]
  | w :: a, i, b => by
    simp only [List.cons_append, tokCells, tokCells_append a, List.length_cons]
    rw [show i + 1 + a.length = i + (a.length + 1) by omega]
theorem tokCells_length : ∀ (a : List (List UInt8)) (i : Nat), (tokCells i a).length = a.length * 2
  | [], i => rfl
  | w :: a, i => by simp only [tokCells, List.length_cons, tokCells_length a]; omega
theorem tokCells_take {ws : List (List UInt8)} {k : Nat} (hk : k < ws.length) : tokCells 0 (ws.take (k + 1)) = tokCells 0 (ws.take k) ++ [.string ⟨ws[k].toArray⟩, .int .i64 k] := by
  rw [List.take_succ_eq_append_getElem hk, tokCells_append, List.length_take, Nat.zero_add, Nat.min_eq_left (by omega)]
  rfl
theorem errFrom_at {ws : List (List UInt8)} {k : Nat} (hk : k < ws.length) : errFrom k (ws.drop k) = if 30 < ws[k].length then 3 else if 500 ≤ k then 7 else errFrom (k + 1) (ws.drop (k + 1)) := by
  rw [List.drop_eq_getElem_cons hk, errFrom]

theorem info_token : (Try.prog.info? 82).map (fun i => (i.zero, i.size, i.bytes)) = some (some (.agg #[.string ByteArray.empty, .int .i64 0]), 2, 24) := by kernel_rfl

/-- What a call of Tokens gives. -/
def GaveToks (ws : List (List UInt8)) (w : World) (e : Ending) (w' : World) : Prop :=
  ∃ v, e = .returned (.tuple #[v, .int .i64 (errFrom 0 ws)]) ∧ (errFrom 0 ws = 0 → w'.ownsRow w.heap.size 82 2 v ws.length (tokCells 0 ws)) ∧ (errFrom 0 ws ≠ 0 → v = .slice none 0 0) ∧ Below w.heap.size w w'

def ToksRel (ws : List (List UInt8)) (w1 : World) (a b o i : Value) (wr : World) : Prop :=
  ∃ (k : Nat) (vo : Value), vo = o ∧ a = .slice none 0 0 ∧ b = .int .i64 0 ∧ k ≤ ws.length ∧ k ≤ 500 ∧ i = .int .i64 k ∧ wr.ownsRow w1.heap.size 82 2 o k (tokCells 0 (ws.take k)) ∧ Below w1.heap.size w1 wr ∧ errFrom k (ws.drop k) = errFrom 0 ws
end Go.Proofs.Ythpecegifilgoaa

/- A term's key, and what the document's own Key answers. -/
namespace Go.Proofs.Ythpecegifilgoaa
open Go Go.RowKit
set_option linter.unusedVariables false

/-- A term's key. -/
def keyL (f g : List UInt8) : List UInt8 := f ++ 0 :: g
theorem keyL_inj {f g f' g' : List UInt8} (h : keyL f g = keyL f' g') (h0 : (0 : UInt8) ∉ f) (h1 : (0 : UInt8) ∉ f') : f = f' ∧ g = g' := by
  induction f generalizing f' with
  | nil =>
    cases f' with
    | nil => simp [keyL] at h; exact ⟨rfl, h⟩
    | cons b f' => simp [keyL] at h; exact absurd (by rw [← h.1]; exact List.mem_cons_self ..) h1
  | cons a f ih =>
    cases f' with
    | nil => simp [keyL] at h; exact absurd (by rw [h.1]; exact List.mem_cons_self ..) h0
    | cons b f' =>
      simp only [keyL, List.cons_append, List.cons.injEq] at h
      obtain ⟨h2, h3⟩ := ih (f' := f') h.2 (fun e => h0 (List.mem_cons_of_mem _ e)) (fun e => h1 (List.mem_cons_of_mem _ e))
      exact ⟨by rw [h.1, h2], h3⟩
def keyB (f g : ByteArray) : ByteArray := f ++ ⟨#[0]⟩ ++ g
theorem keyB_list (f g : ByteArray) : (keyB f g).data.toList = keyL f.data.toList g.data.toList := by simp [keyB, keyL]

set_option maxHeartbeats 1000000 in
theorem ref_Key (f g : ByteArray) (w : World) (hf : f.size ≤ 1073741824) (hg : g.size ≤ 1073741824) :
    Calls Try.prog 56 #[.agg #[.string f, .string g]] w fun e w' => e = .returned (.string (keyB f g)) ∧ Below w.heap.size w w' := by
  go_enter Try.func56, Try.ntmps56
  go_wp2
  go_ret
  exact ⟨rfl, (Below.refl _ _).alloc (Nat.le_refl _) _⟩
end Go.Proofs.Ythpecegifilgoaa
