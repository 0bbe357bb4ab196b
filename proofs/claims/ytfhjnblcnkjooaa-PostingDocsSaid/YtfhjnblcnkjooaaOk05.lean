/- Package posting's calls give what its promises say. -/
import Derived.Test.YtfhjnblcnkjooaaAllD05
import Derived.Test.YtfhjnblcnkjooaaRoundL05
set_option linter.unusedVariables false
namespace Go.Proofs.Ytfhjnblcnkjooaa
open Go Go.RowKit
attribute [local go_sem] Oper.semAt_some

theorem list_calls (base B : Nat) (l : List Po) (hmay : mayB' (-1) l = true) (hbl : (bytesP (-1) l).length ≤ 1000000) (hl : l.length ≤ 1000000) : ListCalls ⟨B, 0, none⟩ l (fun w => LAt w base B (bytesP (-1) l) l) where
  stays w w' h hb := h.below hb
  len w h := (list_Len base B _ l w h).mono fun e w' ⟨h1, h2⟩ => by subst h2; exact ⟨h1, Below.refl _ _⟩
  blocks w h := (list_Blocks base B _ l w h).mono fun e w' ⟨h1, h2⟩ => by subst h2; exact ⟨h1, Below.refl _ _⟩
  total w h := (list_Total base B _ l w h).mono fun e w' ⟨h1, h2⟩ => by subst h2; exact ⟨h1, Below.refl _ _⟩
  bytes w h := (list_Bytes base B _ l w h (by omega)).mono fun e w' ⟨v, h1, h2, h3⟩ => by
    obtain ⟨A, c, rfl, _, h4⟩ := h2.row
    exact ⟨A, c, h1, h4, h3⟩
  last w k h0 _ h := (list_Last base B _ l w h (by omega) k h0).mono fun e w' ⟨h1, h2⟩ => by subst h2; exact ⟨h1, Below.refl _ _⟩
  block w k h0 _ h := (list_Block base B l w h hmay hbl hl k h0).mono fun e w' ⟨v, h1, h2, h3⟩ => by
    obtain ⟨A, c, rfl, _, _, h4⟩ := h2.room
    exact ⟨A, c, h1, h4, h3⟩
  all w h := (list_All base B l w h hmay hbl hl).mono fun e w' ⟨v, h1, h2, h3⟩ => by
    obtain ⟨A, c, rfl, _, _, h4⟩ := h2.room
    exact ⟨A, c, h1, h4, h3⟩

set_option maxHeartbeats 2000000 in
set_option maxRecDepth 100000 in
theorem posting_Make_no (A : Option Addr) (n c : Nat) (l : List Po) (w : World) (hn : l.length = n) (hn100 : n ≤ 100) (hpo : Posts w w.heap.size A l) (hpl : ∀ p ∈ l, p.2.length ≤ 20) (hm : mayB' (-1) l = false) :
    Calls Try.prog 10 #[.slice A n c] w (GaveNone 1 w) := by
  refine (callsIn_wide (n := 6)).1 ?_
  have my := posting_May A n c l w hn (by omega) hpo (fun p hp => by have := hpl p hp; omega)
  rw [hm] at my
  have MY := Lib.hid my
  clear my hpo hpl hm hn
  refine callsIn_of_wp_marks Try.func10 rfl trivial ?_ rfl
  simp only [Try.ntmps10, List.size_toArray, List.length_cons, List.length_nil, Nat.reduceAdd, Nat.reduceSub, Array.replicate_succ, Array.replicate_zero, List.push_toArray, List.append_toArray, List.nil_append, List.cons_append]
  gi_wp2_with (first
    | (refine ⟨trivial, ?_⟩; gi_at_call 11; refine (callsIn_wide.2 MY.out).mono ?_; rintro e w1 ⟨rfl, hb1⟩)
    | (gi_at_call 11; refine (callsIn_wide.2 MY.out).mono ?_; rintro e w1 ⟨rfl, hb1⟩))
  refine ⟨_, results_tmp2 rfl _ _ _, ?_⟩
  exact ⟨rfl, hb1⟩

theorem posting_ok : PostingOk where
  may A n c l w h1 h2 h3 h4 h5 h6 := posting_May A n c l w h1 (by omega) h5 (fun q hq => by have := h6 q hq; omega)
  make_ok A n c l w h1 h2 h3 h4 h5 h6 h7 := (posting_Make A n c l w h1 h2 h3 h4 h5 h6 h7).mono fun e w' ⟨B, e1, e2, e3⟩ => by
    have hb := bytesP_length l (-1) (by omega) h7 (fun p hp => by have := h6 p hp; omega)
    have ht := totalP_le h6
    exact ⟨_, _, e1, list_calls w.heap.size B l h7 (by omega) (by omega), e2, e3⟩
  make_no A n c l w h1 h2 h3 h4 h5 h6 h7 := posting_Make_no A n c l w h1 h4 h5 h6 h7
  read_ok many A m c b l w h1 h2 h3 h4 h5 h6 h7 h8 := (posting_Read many A m c b w h1 h2 h3 h4 (by omega) (by omega) h7).mono fun e w' ⟨hb, hh⟩ => by
    rcases hh with ⟨l', B, f1, e1, e2⟩ | ⟨f1, _⟩
    · obtain rfl := fits_same (by omega) f1 h8
      have hlen : l'.length ≤ 1000000 := by have := f1.2.1; omega
      have hby : (bytesP (-1) l').length ≤ 1000000 := by rw [f1.2.2]; omega
      exact ⟨_, _, e1, list_calls w.heap.size B l' f1.1 hby hlen, by rw [f1.2.2]; exact e2, hb⟩
    · exact absurd h8 (f1 l)
  read_no many A m c b w h1 h2 h3 h4 h5 h6 h7 h8 := (posting_Read many A m c b w h1 h2 h3 h4 (by omega) (by omega) h7).mono fun e w' ⟨hb, hh⟩ => by
    rcases hh with ⟨l', B, f1, _⟩ | ⟨_, e1⟩
    · exact absurd f1 (h8 l')
    · exact ⟨e1, hb⟩
end Go.Proofs.Ytfhjnblcnkjooaa
