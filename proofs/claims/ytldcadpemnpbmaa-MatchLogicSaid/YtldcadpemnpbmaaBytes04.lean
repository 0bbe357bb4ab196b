/- Bytes that lie in a slice, and one byte more behind them; lists of ints; what came in as bytes. No program but the kinds' facts. -/
import Derived.Test.YtldcadpemnpbmaaPlain04
import Derived.Test.YtldcadpemnpbmaaBase
import Derived.Test.YtldcadpemnpbmaaProg
import Derived.Test.YtldcadpemnpbmaaInts
import Derived.ArgAppend
import Derived.Lib.Hide
import Derived.Laws.BytesArg
set_option linter.unusedVariables false
namespace Go.Proofs.Ytldcadpemnpbmaa
open Go Go.RowKit

theorem info_byte : (Try.prog.info? 5).map (fun i => (i.zero, i.size, i.bytes)) = some (some (.int .u8 0), 1, 1) := by kernel_rfl
theorem row_byte {w : World} {B : Nat} {A : Option Addr} {xs : List UInt8} (h : Row w B A (Lib.byteCells xs)) {k : Nat} (hk : k < xs.length) :
    ∃ b off, A = some ⟨b, off, none⟩ ∧ b < B ∧ w.cell? ⟨b, off + k, none⟩ = some (.int .u8 ((xs.getD k 0).toNat : Int)) := by
  obtain ⟨b, off, rfl, hb, hc⟩ := h.at_ (by rw [Lib.byteCells_length]; omega)
  refine ⟨b, off, rfl, hb, hc k _ ?_⟩
  simp [Lib.byteCells, hk]
theorem byteCells_oneCell (l : List UInt8) : ∀ u ∈ Lib.byteCells l, u.oneCell' = true := by
  intro u hu
  obtain ⟨b, _, rfl⟩ := List.mem_map.1 hu
  rfl
theorem ints_oneCell' (l : List Int) : ∀ u ∈ ints l, u.oneCell' = true := by
  intro u hu
  obtain ⟨b, _, rfl⟩ := List.mem_map.1 hu
  rfl

/-- Ints of the kind of bytes are bytes. -/
theorem bytes_of_ints : ∀ {zs : List Int}, (∀ n ∈ zs, (Lit.int IntKind.u8 n).wf = true) → ∃ l : List UInt8, zs.map (Value.int .u8) = Lib.byteCells l ∧ l.length = zs.length
  | [], _ => ⟨[], rfl, rfl⟩
  | z :: r, h => by
    obtain ⟨l, hl, hn⟩ := bytes_of_ints (zs := r) fun n hn => h n (by simp [hn])
    have hz := h z (by simp)
    have hb : 0 ≤ z ∧ z < 256 := by
      have e1 : IntKind.u8.min = 0 := rfl
      have e2 : IntKind.u8.max = 255 := rfl
      simp [Lit.wf] at hz
      omega
    refine ⟨UInt8.ofNat z.toNat :: l, ?_, by simp [hn]⟩
    rw [List.map_cons, hl]
    simp only [Lib.byteCells, List.map_cons]
    rw [byte_nat (by omega), Int.toNat_of_nonneg hb.1]

/-- Bytes lie in a slice: in one without room that was there, or in one of the call's own. -/
def Buf (base : Nat) (w : World) (v : Value) (bs : List UInt8) : Prop :=
  (∃ A, v = .slice A bs.length bs.length ∧ Row w base A (Lib.byteCells bs)) ∨ w.ownsRow base 5 1 v bs.length (Lib.byteCells bs)
/-- Bytes lie in a slice of the call's own. -/
def Own (base : Nat) (w : World) (v : Value) (bs : List UInt8) : Prop := w.ownsRow base 5 1 v bs.length (Lib.byteCells bs)
theorem Own.buf {base : Nat} {w : World} {v : Value} {bs : List UInt8} (h : Own base w v bs) : Buf base w v bs := .inr h
theorem Own.below {base : Nat} {w w' : World} {v : Value} {bs : List UInt8} (h : Own base w v bs) (hb : Below w.heap.size w w') : Own base w' v bs := owned_below h hb
theorem Own.low {base b : Nat} {w : World} {v : Value} {bs : List UInt8} (h : Own base w v bs) (hb : b ≤ base) : Own b w v bs := owned_low h hb
theorem Own.row {base : Nat} {w : World} {v : Value} {bs : List UInt8} (h : Own base w v bs) : ∃ A c, v = .slice A bs.length c ∧ bs.length ≤ c ∧ Row w w.heap.size A (Lib.byteCells bs) := owned_row h
theorem Buf.alloc {base : Nat} {w : World} {v : Value} {bs : List UInt8} (h : Buf base w v bs) (hb : base ≤ w.heap.size) (o : Obj) : Buf base (w.alloc o) v bs := by
  rcases h with ⟨A, rfl, hr⟩ | hown
  · exact .inl ⟨A, rfl, hr.below ((Below.refl _ _).alloc hb o)⟩
  · exact .inr (hown.alloc o)

section
variable {P : Program} (w : World)
/-- One byte more behind bytes. -/
theorem wpList_append_buf {ops : Array Oper} {rest : List Oper} {o : Oper} {a : Act} {Q : Exit → Act → World → Prop} (hgd : o.guard = none) (s x : Operand) (t : TypeId)
    (ho : o.op = .call { callee := .builtin .append, args := #[s, x], argTypes := #[t, t] })
    (base : Nat) (i : TypeInfo) (z : Value) (ht : P.underlying t = some (.slice 5)) (hi : P.info? 5 = some i) (hz : i.zero = some z)
    (hsize : i.size = 1) (hby : i.bytes = 1) (hzs : z.cells.size = 1)
    (v : Value) (bs : List UInt8) (hs : a.eval s = v) (hb : Buf base w v bs) (hbase : base ≤ w.heap.size)
    (ad : Addr) (c : Nat) (y : Int) (hx : a.eval x = .slice (some ad) 1 c) (hnews : ∀ j u, [Value.int .u8 y][j]? = some u → w.cell? (ad.add j) = some u)
    (u : UInt8) (hy : y = (u.toNat : Int)) (hl : bs.length ≤ 1099511627776)
    (h : ∀ v' w', Own base w' v' (bs ++ [u]) → Below base w w' → wpList P ops Q rest (a.put o.dst v') w') : wpList P ops Q (o :: rest) a w := by
  have hcells : Lib.byteCells bs ++ [Value.int .u8 y] = Lib.byteCells (bs ++ [u]) := by rw [hy, Lib.byteCells_append]; rfl
  have hlen : bs.length + 1 = (bs ++ [u]).length := by simp
  have h1 : ∀ q ∈ [Value.int .u8 y], q.oneCell' = true := by intro q hq; simp at hq; subst hq; rfl
  rcases hb with ⟨A, rfl, hr⟩ | hown
  · refine wpList_append_grows w hgd s x t ho 5 i z 1 1 ht hi hz hsize hby hzs (by omega) A bs.length bs.length (Lib.byteCells bs) hs ?_ (by rw [Lib.byteCells_length]; omega) ?_ ad 1 c _ hx rfl hnews h1 (by omega) (by unfold maxLen; omega) (by omega) ?_
    · rintro rfl
      rcases hr with h0 | ⟨b, off, h0, _⟩
      · have := congrArg List.length h0
        rw [Lib.byteCells_length] at this
        simp at this
        simp [this]
      · cases h0
    · rintro b rfl j q hq
      rcases hr with h0 | ⟨b', off, h0, _, hc⟩
      · rw [h0] at hq; simp at hq
      · injection h0 with h0
        subst h0
        rw [Addr.add_lit]
        exact hc j q hq
    · intro v' w' hown hg
      rw [hcells, hlen] at hown
      exact h v' w' (owned_low hown hbase) ((Below.refl _ w).grown hg hbase fun k hk => by cases hk)
  · refine wpList_append_own w hgd s x t ho base 5 i z 1 1 ht hi hz hsize hby hzs (by omega) v bs.length (Lib.byteCells bs) hs hown ad 1 c _ hx rfl hnews h1 (by unfold maxLen; omega) (by omega) hbase ?_
    intro v' w' hown' hg _
    rw [hcells, hlen] at hown'
    exact h v' w' hown' ((Below.refl _ w).grown hg hbase fun k hk => (hown.lt k hk).1)
end

theorem run_string_of {P : Program} {w : World} {B : Nat} {A : Option Addr} {l : List UInt8} (h : Row w B A (Lib.byteCells l)) (src dst e : TypeId) (n c : Nat) (hn : l.length = n)
    (hs : P.underlying src = some (.slice e)) (he : P.underlying e = some (.int .u8)) (hd : P.underlying dst = some .string) :
    (convert src dst (.slice A n c)).run P w = .ok (.string ⟨l.toArray⟩) w := by
  subst hn
  by_cases h0 : l = []
  · subst h0
    rcases A with _ | a
    · exact run_convert_bytes_nil w src e hs he 0 c dst hd
    · exact run_convert_bytes_back w src dst e a c [] hs he hd (fun j hj => absurd hj (by simp))
  · have hpos : 0 < l.length := List.length_pos_iff.2 h0
    obtain ⟨b, off, rfl, _, hc⟩ := h.at_ (by rw [Lib.byteCells_length]; exact hpos)
    refine run_convert_bytes_back w src dst e _ c l hs he hd (fun j hj => ?_)
    rw [Addr.add_lit]
    exact hc j _ (by simp [Lib.byteCells, hj])
end Go.Proofs.Ytldcadpemnpbmaa
