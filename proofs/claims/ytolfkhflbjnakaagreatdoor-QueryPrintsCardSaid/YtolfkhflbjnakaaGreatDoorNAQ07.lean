/- Texts laid together: Good08, OwnQ12, Cut12, GlobL12, Arg08, Arg09g, Nat. -/
import Derived.Test.YtolfkhflbjnakaaGreatDoorNAQ05
import Derived.Test.YtolfkhflbjnakaaGreatDoorNAQ06
import Derived.Deep.DeepCutAuto
import Derived.Deep.AppendLies
import Derived.Deep.Slices
import Derived.Test.YtolfkhflbjnakaaGreatDoorNAQ01
import Derived.Test.YtolfkhflbjnakaaGreatDoorRows
import Derived.ProofKit
import Derived.Lib.LaidTab
import Derived.Lay
import Derived.LaidMore
import Derived.LaidOnce
import Derived.Test.YtolfkhflbjnakaaGreatDoorNAQ04
import Derived.Deep.SlicePairs
import Derived.OpenShut

/- What the document's Good answers: a document that may be, made of any. -/
namespace Go.Proofs.YtolfkhflbjnakaaGreatDoor
open Go Go.RowKit
set_option linter.unusedVariables false

/-- The blocks of a call of Good: the document, its pool, what it has gathered. -/
def GoodW (w : World) (id : Int) (A : Option Addr) (n c : Nat) (v : Value) (wr : World) : Prop :=
  Below w.heap.size w wr ∧ w.heap.size + 4 ≤ wr.heap.size ∧ wr.heap[w.heap.size]? = some (.cells #[.int .i64 id, .slice A n c] 46 (0, 0)) ∧ wr.heap[w.heap.size + 1]? = some (.cells #[.int .i64 0, .slice none 0 0] 46 (0, 0)) ∧
    wr.heap[w.heap.size + 1 + 1]? = some (.cells #[.int .i64 id, v] 46 (0, 0)) ∧ wr.heap[w.heap.size + 1 + 1 + 1]? = some (.cells #[.string ⟨#[116]⟩, .string ⟨#[117]⟩, .string ⟨#[118]⟩, .string ⟨#[119]⟩] 9 (0, 0))
theorem GoodW.below {w wr w' : World} {id : Int} {A : Option Addr} {n c : Nat} {v : Value} (h : GoodW w id A n c v wr) (hb : Below wr.heap.size wr w') : GoodW w id A n c v w' := by
  obtain ⟨h0, h1, h2, h3, h4, h5⟩ := h
  exact ⟨h0.trans (hb.mono (by omega)), by have := hb.size; omega, (hb.block _ (by omega)).trans h2, (hb.block _ (by omega)).trans h3, (hb.block _ (by omega)).trans h4, (hb.block _ (by omega)).trans h5⟩
theorem GoodW.cells {w wr : World} {id : Int} {A : Option Addr} {n c : Nat} {v : Value} (h : GoodW w id A n c v wr) :
    wr.cell? ⟨w.heap.size, 0, none⟩ = some (.int .i64 id) ∧ wr.cell? ⟨w.heap.size, 1, none⟩ = some (.slice A n c) ∧ wr.cell? ⟨w.heap.size + 1 + 1, 0, none⟩ = some (.int .i64 id) ∧ wr.cell? ⟨w.heap.size + 1 + 1, 1, none⟩ = some v := by
  obtain ⟨_, _, h2, _, h4, _⟩ := h
  exact ⟨by simp [World.cell?, h2], by simp [World.cell?, h2], by simp [World.cell?, h4], by simp [World.cell?, h4]⟩
theorem GoodW.pool {w wr : World} {id : Int} {A : Option Addr} {n c : Nat} {v : Value} (h : GoodW w id A n c v wr) {k : Nat} (hk : k < 4) : wr.cell? ⟨w.heap.size + 1 + 1 + 1, k, none⟩ = some (.string ⟨(poolN k).toArray⟩) := by
  obtain ⟨_, _, _, _, _, h5⟩ := h
  have : k = 0 ∨ k = 1 ∨ k = 2 ∨ k = 3 := by omega
  rcases this with rfl | rfl | rfl | rfl <;> simp [World.cell?, h5, poolN]
theorem goodW_start (w : World) (id : Int) (A : Option Addr) (n c : Nat) : GoodW w id A n c (.slice none 0 0) ((((w.alloc (.cells #[.int .i64 id, .slice A n c] 46)).alloc (.cells #[.int .i64 0, .slice none 0 0] 46)).alloc (.cells #[.int .i64 id, .slice none 0 0] 46)).alloc (.cells #[.string ⟨#[116]⟩, .string ⟨#[117]⟩, .string ⟨#[118]⟩, .string ⟨#[119]⟩] 9)) := by
  refine ⟨((((Below.refl _ w).alloc (Nat.le_refl _) _).alloc (by simp) _).alloc (by simp; try omega) _).alloc (by simp; try omega) _, by simp, ?_, ?_, ?_, ?_⟩
  · rw [Below.heap_alloc _ _ _ (by simp; try omega), Below.heap_alloc _ _ _ (by simp; try omega), Below.heap_alloc _ _ _ (by simp)]
    exact heap_alloc_new w _
  · rw [Below.heap_alloc _ _ _ (by simp; try omega), Below.heap_alloc _ _ _ (by simp)]
    simpa using heap_alloc_new (w.alloc (.cells #[.int .i64 id, .slice A n c] 46)) (.cells #[.int .i64 0, .slice none 0 0] 46)
  · rw [Below.heap_alloc _ _ _ (by simp)]
    simpa using heap_alloc_new ((w.alloc (.cells #[.int .i64 id, .slice A n c] 46)).alloc (.cells #[.int .i64 0, .slice none 0 0] 46)) (.cells #[.int .i64 id, .slice none 0 0] 46)
  · simpa using heap_alloc_new (((w.alloc (.cells #[.int .i64 id, .slice A n c] 46)).alloc (.cells #[.int .i64 0, .slice none 0 0] 46)).alloc (.cells #[.int .i64 id, .slice none 0 0] 46)) (.cells #[.string ⟨#[116]⟩, .string ⟨#[117]⟩, .string ⟨#[118]⟩, .string ⟨#[119]⟩] 9)

theorem set_at {w : World} {b k : Nat} {cs : Array Value} {t : TypeId} {v : Value} (h : w.heap[b]? = some (.cells cs t (0, 0))) : (w.setCell ⟨b, k, none⟩ v).heap[b]? = some (.cells (cs.setIfInBounds k v) t (0, 0)) := by
  have hlt := lt_of_block h
  have h' : w.heap[b] = .cells cs t (0, 0) := by simpa [Array.getElem?_eq_getElem hlt] using h
  show (w.heap.modify b _)[b]? = _
  rw [Array.getElem?_eq_getElem (by simpa using hlt), Array.getElem_modify_self, h']
  rfl
theorem two_cells {w : World} {b : Nat} {x y : Value} {t : TypeId} (h : w.heap[b]? = some (.cells #[x, y] t (0, 0))) :
    w.cell? ⟨b, 0, none⟩ = some x ∧ w.cell? ⟨b, 1, none⟩ = some y ∧ w.frozen? ⟨b, 0, none⟩ = false ∧ w.frozen? ⟨b, 1, none⟩ = false := by
  simp [World.cell?, World.frozen?, h]

theorem cut_text (y : ByteArray) : y.extract 0 (min (y.size : Int) 40).toNat = ⟨(y.data.toList.take 40).toArray⟩ := by
  have e2 : y.data.toList.length = y.size := Array.length_toList
  have e : (y.extract 0 (min (y.size : Int) 40).toNat).data = y.data.extract 0 (min (y.size : Int) 40).toNat := ByteArray.data_extract
  apply ByteArray.ext
  apply Array.ext'
  rw [e, Array.toList_extract, List.extract_eq_take_drop, List.drop_zero, Nat.sub_zero]
  show List.take _ _ = List.take 40 _
  by_cases h : y.size ≤ 40
  · rw [List.take_of_length_le (by omega), List.take_of_length_le (by omega)]
  · rw [show (min (y.size : Int) 40).toNat = 40 by omega]

theorem set_ne {w : World} {b k d : Nat} {v : Value} (h : b ≠ d) : (w.setCell ⟨b, k, none⟩ v).heap[d]? = w.heap[d]? := by
  show (w.heap.modify b _)[d]? = _
  rw [Array.getElem?_modify]
  simp [h]
theorem GoodW.put {w wr : World} {id : Int} {A : Option Addr} {n c : Nat} {v : Value} (h : GoodW w id A n c v wr) (v' : Value) : GoodW w id A n c v' ((wr.setCell ⟨w.heap.size + 1 + 1, 0, none⟩ (.int .i64 id)).setCell ⟨w.heap.size + 1 + 1, 1, none⟩ v') := by
  obtain ⟨h0, h1, h2, h3, h4, h5⟩ := h
  refine ⟨(h0.setCell (by simp; omega) _).setCell (by simp; omega) _, by simpa using h1, ?_, ?_, ?_, ?_⟩
  · rw [set_ne (by omega), set_ne (by omega)]; exact h2
  · rw [set_ne (by omega), set_ne (by omega)]; exact h3
  · rw [set_at (set_at h4)]; rfl
  · rw [set_ne (by omega), set_ne (by omega)]; exact h5
theorem goodF_name (i : Nat) (f : Fd) : (goodF i f).1.length ≤ 12 := by
  unfold goodF
  by_cases h : nameB f.1 = true
  · rw [if_pos h]
    rw [nameB, Bool.and_eq_true, Bool.and_eq_true, decide_eq_true_iff, decide_eq_true_iff] at h
    exact h.2.2
  · rw [if_neg h]; simp [poolN]
theorem goodUp_name (l : List Fd) : ∀ k, ∀ f ∈ goodUp l k, f.1.length ≤ 12
  | 0, f, h => by cases h
  | k + 1, f, h => by
    rw [goodUp] at h
    split at h
    · rcases List.mem_append.1 h with h | h
      · exact goodUp_name l k f h
      · rw [List.mem_singleton.1 h]; exact goodF_name _ _
    · exact goodUp_name l k f h

def GoodRel8 (l : List Fd) (w : World) (id : Int) (A : Option Addr) (n c : Nat) (i : Value) (wr : World) : Prop :=
  ∃ (k : Nat) (v : Value), k ≤ n ∧ k ≤ 4 ∧ i = .int .i64 (k : Int) ∧ GoodW w id A n c v wr ∧ OwnFd (w.heap.size + 4) wr v (goodUp l k)

set_option maxHeartbeats 4000000 in
set_option maxRecDepth 100000 in
theorem ref08_Good (id : Int) (A : Option Addr) (n c : Nat) (l : List Fd) (w : World) (hl : l.length = n) (hr : FRow w w.heap.size A l) (hn : n ≤ 9223372036854775807) (ht : ∀ f ∈ l, f.1.length ≤ 9223372036854775807 ∧ f.2.length ≤ 9223372036854775807) :
    Calls Tryz.prog 26 #[docV id A n c] w fun e w' => ∃ v, e = .returned (.agg #[.int .i64 id, v]) ∧ OwnFd w.heap.size w' v (goodD l) ∧ Below w.heap.size w w' := by
  have HR := Lib.hid hr
  have HT := Lib.hid ht
  have HL := Lib.hid hl
  clear hr ht hl
  go_enter Tryz.func26, Tryz.ntmps26
  go_wp2
  obtain ⟨w1, hw1⟩ : ∃ w1, w1 = ((((w.alloc (.cells #[.int .i64 id, .slice A n c] 46)).alloc (.cells #[.int .i64 0, .slice none 0 0] 46)).alloc (.cells #[.int .i64 id, .slice none 0 0] 46)).alloc (.cells #[.string ⟨#[116]⟩, .string ⟨#[117]⟩, .string ⟨#[118]⟩, .string ⟨#[119]⟩] 9)) := ⟨_, rfl⟩
  have HG : Hid (GoodW w id A n c (.slice none 0 0) w1) := Lib.hid (by rw [hw1]; exact goodW_start w id A n c)
  rw [← hw1]
  clear hw1
  go_loopw [5, 6, 7, 8] (fun i a b d wr => GoodRel8 l w id A n c i wr) (fun i _ _ _ _ => n - (intOf i).toNat)
  case atStart => exact ⟨0, _, by omega, by omega, rfl, HG.out, OwnFd.nil⟩
  case round =>
    obtain ⟨k, v, hk, hk4, rfl, hgw, hown⟩ := hrel
    obtain ⟨Av, cv, rfl, hlv, hrv⟩ := hown.row
    have hgl := goodUp_length l k
    obtain ⟨up, hup⟩ : ∃ up, up = goodUp l k := ⟨_, rfl⟩
    rw [← hup] at hown hlv hrv hgw hgl
    have HUP := Lib.hid hup
    have HRV := Lib.hid hrv
    clear hup hrv
    obtain ⟨m, hm⟩ : ∃ m, m = up.length := ⟨_, rfl⟩
    rw [← hm] at hlv hgw hgl hown
    have HM := Lib.hid hm
    clear hm
    obtain ⟨q0, q1, q2, q3⟩ := hgw.cells
    by_cases hlt : k < n ∧ k < 4
    · obtain ⟨hkn, hk5⟩ := hlt
      have hkl : k < l.length := by rw [HL.out]; exact hkn
      have hp := hgw.pool hk5
      obtain ⟨b1, o1, e1, hb1, hc1, hc2⟩ := (HR.out.below hgw.1).at_ hkl
      subst e1
      have ht8 := HT.out _ (List.getElem_mem hkl)
      obtain ⟨x, hx, hx2⟩ := as_text l[k].1
      obtain ⟨y, hy, hy2⟩ := as_text l[k].2
      rw [← hx] at hc1
      rw [← hy] at hc2
      have i0 : (0 : Int) ≤ k := by omega
      have i1 : (k : Int) < n := by omega
      have i2 : (k : Int) < 4 := by omega
      have N1 := fun w' => ref08_Name x w' (by rw [hx, size_nm]; exact ht8.1)
      rw [hx2] at N1
      have HN1 : Hid (∀ w', Calls Tryz.prog 31 #[.string x] w' fun e w'' => e = .returned (.bool (nameB l[k].1)) ∧ Below w'.heap.size w' w'') := Lib.hid N1
      have HGW := Lib.hid hgw
      have HXY := Lib.hid (And.intro hx2 hy2)
      have HOWN := Lib.hid hown
      obtain ⟨z, hz⟩ : ∃ z, z = nameB l[k].1 := ⟨_, rfl⟩
      rw [← hz] at HN1
      obtain ⟨g, hg⟩ : ∃ g, g = goodF k l[k] := ⟨_, rfl⟩
      have HGF : Hid (g = (if z = true then x.data.toList else poolN k, y.data.toList.take 40)) := Lib.hid (by rw [hg, goodF, hz, hx2, hy2])
      have HG := Lib.hid hg
      clear N1 hgw hx hx2 hy hy2 hown hz ht8 hg
      go_upto_if 33 with (first
        | (go_at_call 31; (with_reducible refine (HN1.out _).mono ?_); rintro e w2 ⟨rfl, hb2⟩
           have hg2 : GoodW w id (some ⟨b1, o1, none⟩) n c (.slice Av m cv) w2 := HGW.out.below (((Below.refl _ wr).alloc (Nat.le_refl _) _).trans (hb2.mono (by simp)))
           have hF : w2.heap[wr.heap.size]? = some (.cells #[.string x, .string y] 60 (0, 0)) := (hb2.block wr.heap.size (by simp)).trans (heap_alloc_new wr _)
           have HOW2 : Hid (OwnFd (w.heap.size + 4) w2 (.slice Av m cv) up) := Lib.hid (HOWN.out.below (((Below.refl _ wr).alloc (Nat.le_refl _) _).trans (hb2.mono (by simp))))
           have HBW2 : Hid (Below wr.heap.size wr w2) := Lib.hid (((Below.refl _ wr).alloc (Nat.le_refl _) _).trans (hb2.mono (by simp)))
           have hp := hg2.pool hk5
           have hz := two_cells hF
           have z0 := hz.1
           have z1 := hz.2.1
           have f0 := hz.2.2.1
           have f1 := hz.2.2.2
           have HG2 := Lib.hid hg2
           have HF := Lib.hid hF
           clear hg2 hF hb2 hz))
      have HBX2 : Hid (Below wr.heap.size wr w2) := Lib.hid HBW2.out
      go_cut [] from 32 to 38 (fun wx => Below wr.heap.size wr wx ∧ wx.heap[wr.heap.size]? = some (.cells #[.string ⟨g.1.toArray⟩, .string y] 60 (0, 0)))
      case first =>
        cases z with
        | true =>
          go_wp2_with fail
          go_meet
          exact ⟨HBX2.out, by rw [HGF.out]; exact HF.out⟩
        | false =>
          go_wp2_with fail
          go_meet
          refine ⟨HBX2.out.setCell (Nat.le_refl _) _, ?_⟩
          rw [set_at HF.out, HGF.out]
          rfl
      case rest =>
        obtain ⟨hbx, hfx⟩ := hcut
        have hz := two_cells hfx
        have z0 := hz.1
        have z1 := hz.2.1
        have f0 := hz.2.2.1
        have f1 := hz.2.2.2
        have HBX := Lib.hid hbx
        have HFX := Lib.hid hfx
        clear hbx hfx hz
        go_upto_region 10 with fail
        go_cut [] from 39 to 46 (fun wx => Below wr.heap.size wr wx ∧ wx.heap[wr.heap.size]? = some (.cells #[.string ⟨g.1.toArray⟩, .string ⟨g.2.toArray⟩] 60 (0, 0)))
        case first =>
          go_wp2_with fail
          go_meet
          refine ⟨HBX.out.setCell (Nat.le_refl _) _, ?_⟩
          rw [set_at HFX.out, HGF.out, cut_text]
          rfl
        case rest =>
          obtain ⟨hby, hfy⟩ := hcut
          obtain ⟨wy, rfl⟩ : ∃ wy, wy = wc := ⟨_, rfl⟩
          have hg3 := HGW.out.below hby
          have hq := hg3.cells
          have q0 := hq.1
          have q1 := hq.2.1
          have q2 := hq.2.2.1
          have q3 := hq.2.2.2
          have hz := two_cells hfy
          have z0 := hz.1
          have z1 := hz.2.1
          have HBY := Lib.hid hby
          have HFY := Lib.hid hfy
          have HG3 := Lib.hid hg3
          clear hby hfy hg3 hq hz
          have HFLT : Hid (wr.heap.size < wy.heap.size) := Lib.hid (lt_of_block HFY.out)
          have HM2 : Hid (OwnFd (w.heap.size + 4) wy (.slice Av m cv) up) := Lib.hid (HOWN.out.below HBY.out)
          have HRY : Hid (FRow wy wy.heap.size Av up) := Lib.hid (HRV.out.later HBY.out)
          go_upto_region 12 with fail
          go_cut [] from 50 to 55 (fun wx => ∃ v', Below wy.heap.size wy wx ∧ wx.heap[wy.heap.size]? = some (.cells #[.int .i64 id, v'] 46 (0, 0)) ∧ OwnFd (wy.heap.size + 1) wx v' up)
          case first =>
            have HN4 : Hid ((wy.alloc (.cells #[.int .i64 id, .slice none 0 0] 46)).heap[wy.heap.size]? = some (.cells #[.int .i64 id, .slice none 0 0] 46 (0, 0))) := Lib.hid (heap_alloc_new wy _)
            have hq4 := (HG3.out.below ((Below.refl _ wy).alloc (Nat.le_refl _) (.cells #[.int .i64 id, .slice none 0 0] 46))).cells
            have q34 := hq4.2.2.2
            clear hq4
            go_wp2_with (first
              | (at_builtin; refine wpList_append_fd _ rfl (.tmp 51) (.tmp 53) rfl (wy.heap.size + 1) _ [] rfl OwnFd.nil Av m cv up rfl HM.out.symm ((HRY.out).later ((Below.refl _ wy).alloc (Nat.le_refl _) _)) (by simp; omega) (by simp) ?_
                 intro v5 w5 ho5 hb5 _
                 obtain ⟨A5, c5, rfl, _, _⟩ := ho5.row
                 have HB5 := Lib.hid (((Below.refl _ wy).alloc (Nat.le_refl _) (.cells #[.int .i64 id, .slice none 0 0] 46)).trans (hb5.mono (by omega)))
                 have HN5 : Hid (w5.heap[wy.heap.size]? = some (.cells #[.int .i64 id, .slice none 0 0] 46 (0, 0))) := Lib.hid ((hb5.block wy.heap.size (by omega)).trans HN4.out)
                 have HO5 : Hid (OwnFd (wy.heap.size + 1) w5 _ up) := Lib.hid ho5
                 have hz := two_cells HN5.out
                 have n0 := hz.1
                 have n1 := hz.2.1
                 have m0 := hz.2.2.1
                 have m1 := hz.2.2.2
                 clear ho5 hb5 hz))
            go_meet
            refine ⟨_, HB5.out.setCell (Nat.le_refl _) _, by rw [set_at HN5.out]; rfl, ?_⟩
            exact ownsRow_setCell_below HO5.out (a := ⟨wy.heap.size, 1, none⟩) (by simp) _
          case rest =>
            obtain ⟨wz, rfl⟩ : ∃ wz, wz = wc := ⟨_, rfl⟩
            obtain ⟨v6, hb6, hn6, ho6⟩ := hcut
            obtain ⟨A6, c6, rfl, _, _⟩ := ho6.row
            have hf6 : wz.heap[wr.heap.size]? = some (.cells #[.string ⟨g.1.toArray⟩, .string ⟨g.2.toArray⟩] 60 (0, 0)) := (hb6.block _ (by have := HFLT.out; omega)).trans HFY.out
            have HB6 := Lib.hid hb6
            have HN6 := Lib.hid hn6
            have HO6 := Lib.hid ho6
            have hz := two_cells hf6
            have z0 := hz.1
            have z1 := hz.2.1
            have hz := two_cells hn6
            have n0 := hz.1
            have n1 := hz.2.1
            have hnlt := lt_of_block hn6
            have HF6 := Lib.hid hf6
            clear hb6 hn6 ho6 hf6 hz
            go_upto_region 13 with fail
            go_cut [] from 56 to 61 (fun wx => ∃ v', Below wy.heap.size wy wx ∧ wx.heap[wy.heap.size]? = some (.cells #[.int .i64 id, v'] 46 (0, 0)) ∧ OwnFd (wy.heap.size + 1) wx v' (up ++ [g]))
            case first =>
              go_wp2_with (first
                | (at_builtin; refine wpList_append_fd _ rfl (.tmp 57) (.tmp 59) rfl (wy.heap.size + 1) _ up rfl (HO6.out.below ((Below.refl _ _).alloc (Nat.le_refl _) _)) _ 1 1 [g] rfl rfl (frow_new _ g 60) (by have := HM.out; omega) (by simp; omega) ?_
                   intro v7 w7 ho7 hb7 _
                   obtain ⟨A7, c7, rfl, _, _⟩ := ho7.row
                   have HB7 : Hid (Below wy.heap.size wy w7) := Lib.hid (HB6.out.trans ((((Below.refl _ wz).alloc (Nat.le_refl _) _).mono (by omega)).trans (hb7.mono (by omega))))
                   have HN7 : Hid (w7.heap[wy.heap.size]? = some (.cells #[.int .i64 id, .slice A6 up.length c6] 46 (0, 0))) := Lib.hid ((hb7.block wy.heap.size (by omega)).trans ((((Below.refl wz.heap.size wz).alloc (Nat.le_refl _) _).block wy.heap.size hnlt).trans HN6.out))
                   have HO7 : Hid (OwnFd (wy.heap.size + 1) w7 _ (up ++ [g])) := Lib.hid ho7
                   have hz := two_cells HN7.out
                   have n0 := hz.1
                   have n1 := hz.2.1
                   have m0 := hz.2.2.1
                   have m1 := hz.2.2.2
                   clear ho7 hb7 hz))
              go_meet
              refine ⟨_, HB7.out.setCell (Nat.le_refl _) _, by rw [set_at HN7.out]; rfl, ?_⟩
              rw [show up.length + 1 = (up ++ [g]).length by simp]
              exact ownsRow_setCell_below HO7.out (a := ⟨wy.heap.size, 1, none⟩) (by simp) _
            case rest =>
              obtain ⟨wu, rfl⟩ : ∃ wu, wu = wc := ⟨_, rfl⟩
              obtain ⟨v8, hb8, hn8, ho8⟩ := hcut
              obtain ⟨A8, c8, rfl, _, hr8⟩ := ho8.row
              obtain ⟨M8, hM8⟩ : ∃ M8, M8 = (up ++ [g]).length := ⟨_, rfl⟩
              rw [← hM8] at hn8 ho8
              have HMAY : Hid (∀ w', Below wu.heap.size wu w' → Calls Tryz.prog 50 #[docV id A8 M8 c8] w' fun e w'' => e = .returned (.int .i64 (mayD (up ++ [g]))) ∧ Below w'.heap.size w' w'') := Lib.hid fun w' h =>
                ref08_May id A8 _ c8 (up ++ [g]) w' hM8.symm (hr8.later h) (by rw [hM8]; simp; have := HM.out; omega) fun f hf => by
                  rcases List.mem_append.1 hf with hf | hf
                  · have a1 := goodUp_name l k f (by rw [← HUP.out]; exact hf)
                    have a2 := goodUp_text l k f (by rw [← HUP.out]; exact hf)
                    omega
                  · rw [List.mem_singleton.1 hf, HG.out]
                    have a1 := goodF_name k l[k]
                    have a2 := goodF_text k l[k]
                    omega
              have hz := two_cells hn8
              have n0 := hz.1
              have n1 := hz.2.1
              have HGS : Hid (goodUp l (k + 1) = if mayD (up ++ [g]) = 0 then up ++ [g] else up) := Lib.hid (by
                rw [goodUp, ← HUP.out, HG.out, List.getD_eq_getElem?_getD, List.getElem?_eq_getElem hkl]
                rfl)
              have HB8 := Lib.hid hb8
              have HO8 := Lib.hid ho8
              have hnlt8 := lt_of_block hn8
              have HN8 := Lib.hid hn8
              obtain ⟨e8, he8⟩ : ∃ e8, e8 = mayD (up ++ [g]) := ⟨_, rfl⟩
              rw [← he8] at HMAY HGS
              clear hb8 hn8 ho8 hr8 hz he8 hM8
              have hny := HG3.out.2.1
              by_cases h8 : e8 = 0
              · subst h8
                have HGT : Hid (goodUp l (k + 1) = up ++ [g]) := Lib.hid (by rw [HGS.out, if_pos rfl])
                go_wp2_with (first
                | (go_at_call 50; (with_reducible refine (HMAY.out _ (Below.refl _ _)).mono ?_); rintro e w9 ⟨rfl, hb9⟩
                   have hg9 : GoodW w id (some ⟨b1, o1, none⟩) n c (.slice Av m cv) w9 := HG3.out.below (HB8.out.trans (hb9.mono HB8.out.size))
                   have hn9 : w9.heap[wy.heap.size]? = some (.cells #[.int .i64 id, .slice A8 M8 c8] 46 (0, 0)) := (hb9.block _ hnlt8).trans HN8.out
                   have HO9 : Hid (OwnFd (wy.heap.size + 1) w9 (.slice A8 M8 c8) (up ++ [g])) := Lib.hid (HO8.out.below hb9)
                   have HU9 : Hid (OwnFd (w.heap.size + 4) w9 (.slice Av m cv) up) := Lib.hid (HM2.out.below (HB8.out.trans (hb9.mono HB8.out.size)))
                   have hz := two_cells hn9
                   have n0 := hz.1
                   have n1 := hz.2.1
                   have hz := two_cells hg9.2.2.2.2.1
                   have s0 := hz.1
                   have s1 := hz.2.1
                   have s2 := hz.2.2.1
                   have s3 := hz.2.2.2
                   have HG9 := Lib.hid hg9
                   clear hg9 hn9 hb9 hz))
                refine ⟨⟨k + 1, _, by omega, by omega, by go_num, HG9.out.put _, ?_⟩, by simp [intOf]; omega⟩
                rw [HGT.out]
                exact (show OwnFd (wy.heap.size + 1) _ _ _ from ownsRow_setCell_below (ownsRow_setCell_below HO9.out (a := ⟨w.heap.size + 1 + 1, 0, none⟩) (by simp; omega) _) (a := ⟨w.heap.size + 1 + 1, 1, none⟩) (by simp; omega) _).low (by omega)
              · have HGT : Hid (goodUp l (k + 1) = up) := Lib.hid (by rw [HGS.out, if_neg h8])
                go_wp2_with (first
                | (go_at_call 50; (with_reducible refine (HMAY.out _ (Below.refl _ _)).mono ?_); rintro e w9 ⟨rfl, hb9⟩
                   have hg9 : GoodW w id (some ⟨b1, o1, none⟩) n c (.slice Av m cv) w9 := HG3.out.below (HB8.out.trans (hb9.mono HB8.out.size))
                   have hn9 : w9.heap[wy.heap.size]? = some (.cells #[.int .i64 id, .slice A8 M8 c8] 46 (0, 0)) := (hb9.block _ hnlt8).trans HN8.out
                   have HO9 : Hid (OwnFd (wy.heap.size + 1) w9 (.slice A8 M8 c8) (up ++ [g])) := Lib.hid (HO8.out.below hb9)
                   have HU9 : Hid (OwnFd (w.heap.size + 4) w9 (.slice Av m cv) up) := Lib.hid (HM2.out.below (HB8.out.trans (hb9.mono HB8.out.size)))
                   have hz := two_cells hn9
                   have n0 := hz.1
                   have n1 := hz.2.1
                   have hz := two_cells hg9.2.2.2.2.1
                   have s0 := hz.1
                   have s1 := hz.2.1
                   have s2 := hz.2.2.1
                   have s3 := hz.2.2.2
                   have HG9 := Lib.hid hg9
                   clear hg9 hn9 hb9 hz))
                refine ⟨⟨k + 1, _, by omega, by omega, by go_num, HG9.out, ?_⟩, by simp [intOf]; omega⟩
                rw [HGT.out]
                exact HU9.out
    · have hend : min l.length 4 = k := by rw [HL.out]; omega
      have hup : goodD l = up := by rw [goodD, hend, HUP.out]
      have HEND := Lib.hid hup
      have hz := two_cells hgw.2.2.2.2.1
      have s0 := hz.1
      have s1 := hz.2.1
      have hz := two_cells hgw.2.2.2.1
      have r0 := hz.1
      have r1 := hz.2.1
      have r2 := hz.2.2.1
      have r3 := hz.2.2.2
      have h1 : (n : Int) ≤ k ∨ (k : Int) < n ∧ (4 : Int) ≤ k := by omega
      clear hlt hz hend hup
      rcases h1 with h1 | ⟨h1, h2⟩
      all_goals
        go_wp2
        obtain ⟨we, hwe⟩ : ∃ we, we = (wr.setCell ⟨w.heap.size + 1, 0, none⟩ (.int .i64 id)).setCell ⟨w.heap.size + 1, 1, none⟩ (.slice Av m cv) := ⟨_, rfl⟩
        have h3 : we.heap[w.heap.size + 1]? = some (.cells #[.int .i64 id, .slice Av m cv] 46 (0, 0)) := by rw [hwe, set_at (set_at hgw.2.2.2.1)]; rfl
        have hbe : Below w.heap.size w we := by rw [hwe]; exact (hgw.1.setCell (by simp) _).setCell (by simp) _
        have hoe : OwnFd w.heap.size we (.slice Av m cv) up := by
          rw [hwe]
          exact (show OwnFd (w.heap.size + 4) _ _ _ from ownsRow_setCell_below (ownsRow_setCell_below hown (a := ⟨w.heap.size + 1, 0, none⟩) (by simp) _) (a := ⟨w.heap.size + 1, 1, none⟩) (by simp) _).low (by omega)
        rw [← hwe]
        obtain ⟨d0, d1, _, _⟩ := two_cells h3
        exact bodyPost_ret (v := .agg #[.int .i64 id, .slice Av m cv]) (by simp [results, Tryz.results26, go_sem, d0, d1]) rfl ⟨_, rfl, by rw [HEND.out]; exact hoe, hbe⟩
end Go.Proofs.YtolfkhflbjnakaaGreatDoor

/- Lists of queries of the call's own; a query's block that is written into. -/
namespace Go.Proofs.YtolfkhflbjnakaaGreatDoor
open Go Go.RowKit
set_option linter.unusedVariables false

theorem info_query : (Tryz.prog.info? 27).map (fun i => (i.zero, i.size, i.bytes)) = some (some (.agg #[.int .i64 0, .string ByteArray.empty, .string ByteArray.empty, .slice none 0 0, .slice none 0 0]), 5, 88) := by kernel_rfl
/-- What is answered of a query of the call's own: it lies in new blocks. -/
def GaveQ (q : Qy) (w : World) (e : Ending) (w' : World) : Prop := ∃ v, e = .returned v ∧ QV (fun b => w.heap.size ≤ b ∧ b < w'.heap.size) w' q v ∧ Below w.heap.size w w'
/-- A list of queries of the call's own: its row, and all that they hold, in other blocks, from base on. -/
def OwnQs (base : Nat) (w : World) (v : Value) (l : List Qy) : Prop := ∃ cs, w.ownsRow base 27 5 v l.length cs ∧ QsAt (fun b => base ≤ b ∧ b < w.heap.size ∧ v.ownBlock ≠ some b) w l cs
section
variable {base : Nat} {w w' w'' : World} {v v' : Value} {l : List Qy}
theorem OwnQs.nil : OwnQs base w (.slice none 0 0) [] := ⟨[], World.ownsRow_nil _ _ _ _, QsAt.nil⟩
theorem OwnQs.below (h : OwnQs base w v l) (hb : Below w.heap.size w w') : OwnQs base w' v l := by
  obtain ⟨cs, h1, h2⟩ := h
  exact ⟨cs, owned_below h1 hb, (h2.keep fun b hs => hb.block b hs.2.1).imp fun b hs => ⟨hs.1, Nat.lt_of_lt_of_le hs.2.1 hb.size, hs.2.2⟩⟩
theorem OwnQs.low {b : Nat} (h : OwnQs base w v l) (hb : b ≤ base) : OwnQs b w v l := by
  obtain ⟨cs, h1, h2⟩ := h
  exact ⟨cs, owned_low h1 hb, h2.imp fun b hs => ⟨by omega, hs.2⟩⟩
theorem OwnQs.slice (h : OwnQs base w v l) : ∃ A c ds, v = .slice A l.length c ∧ l.length ≤ c ∧ RowP (fun b => base ≤ b ∧ b < w.heap.size) w A ds ∧ QsAt (fun b => base ≤ b ∧ b < w.heap.size) w l ds := by
  obtain ⟨cs, h1, h2⟩ := h
  have h1' := h1
  obtain ⟨A, c, rfl, hc, hr⟩ := owned_row h1
  refine ⟨A, c, cs, rfl, hc, ?_, h2.imp fun b hs => ⟨hs.1, hs.2.1⟩⟩
  rcases hr with hr | ⟨b, off, rfl, hb, hcell⟩
  · exact .inl hr
  · refine .inr ⟨b, off, rfl, ⟨?_, hb⟩, hcell⟩
    rcases h1'.2 with ⟨hv, hn⟩ | ⟨g, cap, cur, hv, hg, _⟩
    · injection hv with hv; cases hv
    · injection hv with hv
      injection hv with hv
      injection hv with hv
      subst hv
      exact hg
/-- One more behind them: its cells are laid in the row, behind what is there. -/
theorem OwnQs.push {w2 : World} {cs kcs : List Value} {q : Qy} {g : Nat} (h1 : w.ownsRow base 27 5 v l.length cs) (h2 : QsAt (fun b => base ≤ b ∧ b < w.heap.size ∧ v.ownBlock ≠ some b) w l cs) (hb : Below w.heap.size w w2)
    (hq : QAt (fun b => w.heap.size ≤ b ∧ b < w2.heap.size) w2 q kcs) (hbase : base ≤ w.heap.size) (hb3 : Below w2.heap.size w2 w') (hown : w''.ownsRow base 27 5 v' (l.length + 1) (cs ++ kcs)) (hg : w'.grownBy w'' v.ownBlock) (hv' : v'.ownBlock = some g) (hat : v.ownBlock = some g ∨ w2.heap.size ≤ g) : OwnQs base w'' v' (l ++ [q]) := by
  have hlt : ∀ k, v.ownBlock = some k → k < w.heap.size := fun k hk => (h1.lt k hk).2
  have hk1 : ∀ b, b < w2.heap.size → v.ownBlock ≠ some b → w''.heap[b]? = w2.heap[b]? := fun b hb1 hb2 => (hg.block b (Nat.lt_of_lt_of_le hb1 hb3.size) (fun e => hb2 e.symm)).trans (hb3.block b hb1)
  have hne : ∀ b, b < w2.heap.size → v.ownBlock ≠ some b → v'.ownBlock ≠ some b := fun b hb1 hb2 e => by
    rw [hv'] at e
    injection e with e
    subst e
    rcases hat with h | h
    · exact hb2 h
    · omega
  have hsz : w2.heap.size ≤ w''.heap.size := Nat.le_trans hb3.size hg.size
  refine ⟨cs ++ kcs, by rw [List.length_append, List.length_singleton]; exact hown, QsAt.snoc ?_ ?_⟩
  · refine ((h2.keep fun b hs => ?_).imp fun b hs => ⟨hs.1, ?_, hne b (Nat.lt_of_lt_of_le hs.2.1 hb.size) hs.2.2⟩)
    · exact (hk1 b (Nat.lt_of_lt_of_le hs.2.1 hb.size) hs.2.2).trans (hb.block b hs.2.1)
    · exact Nat.lt_of_lt_of_le hs.2.1 (Nat.le_trans hb.size hsz)
  · refine ((hq.keep fun b hs => hk1 b hs.2 fun e => ?_).imp fun b hs => ⟨by omega, by omega, hne b hs.2 fun e => ?_⟩)
    · have := hlt b e; omega
    · have := hlt b e; omega
end
theorem five_cells {w : World} {b : Nat} {x0 x1 x2 x3 x4 : Value} {t : TypeId} (h : w.heap[b]? = some (.cells #[x0, x1, x2, x3, x4] t (0, 0))) :
    (w.cell? ⟨b, 0, none⟩ = some x0 ∧ w.cell? ⟨b, 1, none⟩ = some x1 ∧ w.cell? ⟨b, 2, none⟩ = some x2 ∧ w.cell? ⟨b, 3, none⟩ = some x3 ∧ w.cell? ⟨b, 4, none⟩ = some x4) ∧
    (w.frozen? ⟨b, 0, none⟩ = false ∧ w.frozen? ⟨b, 1, none⟩ = false ∧ w.frozen? ⟨b, 2, none⟩ = false ∧ w.frozen? ⟨b, 3, none⟩ = false ∧ w.frozen? ⟨b, 4, none⟩ = false) := by
  simp [World.cell?, World.frozen?, h]
/-- All five cells are written. -/
def set5 (w : World) (b : Nat) (y0 y1 y2 y3 y4 : Value) : World := ((((w.setCell ⟨b, 0, none⟩ y0).setCell ⟨b, 1, none⟩ y1).setCell ⟨b, 2, none⟩ y2).setCell ⟨b, 3, none⟩ y3).setCell ⟨b, 4, none⟩ y4
theorem set5_at {w : World} {b : Nat} {x0 x1 x2 x3 x4 y0 y1 y2 y3 y4 : Value} {t : TypeId} (h : w.heap[b]? = some (.cells #[x0, x1, x2, x3, x4] t (0, 0))) : (set5 w b y0 y1 y2 y3 y4).heap[b]? = some (.cells #[y0, y1, y2, y3, y4] t (0, 0)) := by
  unfold set5
  rw [set_at (set_at (set_at (set_at (set_at h))))]
  rfl
theorem set5_ne {w : World} {b d : Nat} {y0 y1 y2 y3 y4 : Value} (h : b ≠ d) : (set5 w b y0 y1 y2 y3 y4).heap[d]? = w.heap[d]? := by
  unfold set5
  rw [set_ne h, set_ne h, set_ne h, set_ne h, set_ne h]
theorem set5_size {w : World} {b : Nat} {y0 y1 y2 y3 y4 : Value} : (set5 w b y0 y1 y2 y3 y4).heap.size = w.heap.size := by simp [set5, World.setCell]
theorem set5_below {w wr : World} {b B : Nat} {y0 y1 y2 y3 y4 : Value} (h : Below B w wr) (hb : B ≤ b) : Below B w (set5 wr b y0 y1 y2 y3 y4) := by
  unfold set5
  exact ((((h.setCell hb _).setCell hb _).setCell hb _).setCell hb _).setCell hb _
end Go.Proofs.YtolfkhflbjnakaaGreatDoor

/- strings.Cut, CutPrefix at a mark of one byte, in plain words; a text that is read, in memory: take and upto. -/
namespace Go.Proofs.YtolfkhflbjnakaaGreatDoor
open Go Go.RowKit Go.Shelf
set_option linter.unusedVariables false

/-- What Cut tells: what stands ahead of a mark, and behind it, and whether it is there. -/
def cutV (c : UInt8) (s : Nm) : Nm × Nm × Bool := match cutB c s with | some (a, b) => (a, b, true) | none => (s, [], false)
/-- What CutPrefix tells. -/
def preV (c : UInt8) : Nm → Nm × Bool
  | [] => ([], false)
  | x :: r => if x = c then (r, true) else (x :: r, false)
theorem index_cut (c : UInt8) : ∀ s : Nm, Lib.index s [c] = match cutB c s with | some (a, _) => (a.length : Int) | none => -1
  | [] => rfl
  | x :: l => by
    have ih := index_cut c l
    rw [Lib.index, cutB]
    by_cases h : x = c
    · subst h; simp
    · have h' : ([c].isPrefixOf (x :: l)) = false := by simp [List.isPrefixOf, Ne.symm h]
      rw [h', if_neg (by decide), if_neg h, ih]
      cases hc : cutB c l with
      | none => simp
      | some y =>
        obtain ⟨a, b⟩ := y
        have : ((a.length : Int) == -1) = false := by rw [beq_eq_false_iff_ne]; omega
        simp [this]
theorem lib_cut (c : UInt8) (s : Nm) : Lib.cut s [c] = cutV c s := by
  have h := index_cut c s
  unfold Lib.cut cutV
  cases hc : cutB c s with
  | none => rw [hc] at h; rw [h]; rfl
  | some y =>
    obtain ⟨a, b⟩ := y
    rw [hc] at h
    simp only at h
    rw [h, if_pos (by omega), (cutB_some hc).1]
    simp
theorem lib_pre (c : UInt8) : ∀ s : Nm, (Lib.trimPrefix s [c], Lib.hasPrefix s [c]) = preV c s
  | [] => rfl
  | x :: r => by
    show _ = if x = c then (r, true) else (x :: r, false)
    unfold Lib.trimPrefix Lib.hasPrefix
    by_cases h : x = c
    · subst h; simp
    · have h' : ([c].isPrefixOf (x :: r)) = false := by simp [List.isPrefixOf, Ne.symm h]
      rw [h', if_neg h]
      rfl
theorem cutV_length (c : UInt8) (s : Nm) : (cutV c s).1.length ≤ s.length ∧ (cutV c s).2.1.length ≤ s.length := by
  unfold cutV
  split
  · rename_i a b h
    have := congrArg List.length (cutB_some h).1
    simp only [List.length_append, List.length_cons] at this ⊢
    exact ⟨by omega, by omega⟩
  · exact ⟨Nat.le_refl _, by simp⟩
theorem preV_length (c : UInt8) (s : Nm) : (preV c s).1.length ≤ s.length := by
  cases s with
  | nil => exact Nat.le_refl _
  | cons x r =>
    show (if x = c then (r, true) else (x :: r, false)).1.length ≤ _
    split <;> simp

/-- The package variables that are read: the tail of bytealg's search, and the names of kinds. -/
structure Glob (w : World) : Prop where
  m : ∃ m : Int, w.cell? ⟨1, 0, none⟩ = some (.int .i64 m)
  n0 : w.cell? ⟨0, 0, none⟩ = some (.string ⟨#[]⟩)
  n1 : w.cell? ⟨0, 1, none⟩ = some (.string ⟨#[]⟩)
  n2 : w.cell? ⟨0, 2, none⟩ = some (.string ⟨#[97, 110, 100]⟩)
  n3 : w.cell? ⟨0, 3, none⟩ = some (.string ⟨#[111, 114]⟩)
  n4 : w.cell? ⟨0, 4, none⟩ = some (.string ⟨#[110, 111, 116]⟩)
theorem Glob.size {w : World} (h : Glob w) : 2 ≤ w.heap.size := by
  obtain ⟨m, h⟩ := h.m
  have := World.block_lt_of_cell? w _ h
  exact this
theorem Glob.keep {w w' : World} (h : Glob w) (hb : ∀ b, b < 2 → w'.heap[b]? = w.heap[b]?) : Glob w' := by
  have k : ∀ {b i : Nat} {v : Value}, b < 2 → w.cell? ⟨b, i, none⟩ = some v → w'.cell? ⟨b, i, none⟩ = some v := fun {b i v} hlt e => by
    rw [World.cell?_of_block (a := ⟨b, i, none⟩) (hb b hlt)]; exact e
  obtain ⟨m, hm⟩ := h.m
  exact ⟨⟨m, k (by decide) hm⟩, k (by decide) h.n0, k (by decide) h.n1, k (by decide) h.n2, k (by decide) h.n3, k (by decide) h.n4⟩
theorem Glob.below {w w' : World} {B : Nat} (h : Glob w) (hb : Below B w w') (hB : 2 ≤ B) : Glob w' := h.keep fun b hlt => hb.block b (by omega)
theorem Glob.only {w w' : World} {R : Nat} (h : Glob w) (hb : OnlyIn (fun k => k = R) w w') (hR : 2 ≤ R) : Glob w' := h.keep fun b hlt => hb.block b (by have := h.size; omega) (by omega)

theorem str_cut (c : UInt8) (s : ByteArray) (w : World) (hs : s.size < 4294967281) (hg : Glob w) :
    Calls Tryz.prog 111 #[.string s, .string ⟨#[c]⟩] w fun e w' => e = .returned (.tuple #[.string ⟨(cutV c s.data.toList).1.toArray⟩, .string ⟨(cutV c s.data.toList).2.1.toArray⟩, .bool (cutV c s.data.toList).2.2]) ∧ Below w.heap.size w w' := by
  obtain ⟨m, hm⟩ := hg.m
  refine (Any.strings_Cut layCut s ⟨#[c]⟩ m w hs hm).mono fun e w' ⟨he, n, hw⟩ => ⟨?_, by rw [hw]; exact drewN_below w n⟩
  rw [he, show (⟨#[c]⟩ : ByteArray).data.toList = [c] from rfl, lib_cut]
theorem str_pre (c : UInt8) (s : ByteArray) (w : World) :
    Calls Tryz.prog 109 #[.string s, .string ⟨#[c]⟩] w fun e w' => e = .returned (.tuple #[.string ⟨(preV c s.data.toList).1.toArray⟩, .bool (preV c s.data.toList).2]) ∧ w' = w := by
  refine (Any.strings_CutPrefix layCutPrefix s ⟨#[c]⟩ w).mono fun e w' ⟨he, hw⟩ => ⟨?_, hw⟩
  rw [he, show (⟨#[c]⟩ : ByteArray).data.toList = [c] from rfl, ← lib_pre]

/-- A text that is read lies at block R: what is left of it, and in how many queries it stands. -/
def RdAt (w : World) (R : Nat) (s : Nm) (d : Int) : Prop := w.heap[R]? = some (.cells #[.string ⟨s.toArray⟩, .int .i64 d] 67 (0, 0))
theorem RdAt.lt {w : World} {R : Nat} {s : Nm} {d : Int} (h : RdAt w R s d) : R < w.heap.size := (Array.getElem?_eq_some_iff.1 h).1
theorem RdAt.below {w w' : World} {R : Nat} {s : Nm} {d : Int} (h : RdAt w R s d) (hb : Below w.heap.size w w') : RdAt w' R s d := (hb.block R h.lt).trans h
/-- Nothing that was there turns but block R. -/
abbrev OnlyR (R : Nat) := OnlyIn (fun k => k = R)
theorem OnlyR.set {R i : Nat} {w : World} (v : Value) : OnlyR R w (w.setCell ⟨R, i, none⟩ v) := ⟨rfl, rfl, rfl, by simp [World.setCell], fun k _ hk => set_ne (fun e => hk e.symm)⟩

set_option maxHeartbeats 1000000 in
set_option maxRecDepth 100000 in
theorem query_take (c : UInt8) (R : Nat) (s : Nm) (d : Int) (w : World) (h : RdAt w R s d) : Calls Tryz.prog 77 #[.pointer (some ⟨R, 0, none⟩), .string ⟨#[c]⟩] w
    fun e w' => e = .returned (.bool (preV c s).2) ∧ RdAt w' R (preV c s).1 d ∧ OnlyR R w w' := by
  obtain ⟨c0, c1, f0, f1⟩ := two_cells h
  obtain ⟨x, hx⟩ : ∃ x : ByteArray, x = ⟨s.toArray⟩ := ⟨_, rfl⟩
  have hxs : x.data.toList = s := by rw [hx]
  have HP0 := str_pre c x w
  rw [hxs] at HP0
  rw [← hx] at c0
  have hnp : (preV c s).2 = false → (preV c s).1 = s := by
    cases s with
    | nil => intro _; rfl
    | cons y r =>
      show (if y = c then (r, true) else (y :: r, false)).2 = false → (if y = c then (r, true) else (y :: r, false)).1 = _
      split <;> simp
  obtain ⟨r, hr⟩ : ∃ r, r = (preV c s).1 := ⟨_, rfl⟩
  obtain ⟨b, hb⟩ : ∃ b, b = (preV c s).2 := ⟨_, rfl⟩
  rw [← hr, ← hb] at HP0 hnp
  rw [← hr, ← hb]
  have HP := Lib.hid HP0
  have HNP := Lib.hid hnp
  have HR := Lib.hid h
  clear hx hxs hr hb hnp HP0 h
  cases b with
  | false =>
    have H : Hid (RdAt w R r d) := Lib.hid (by rw [HNP.out rfl]; exact HR.out)
    go_enter Tryz.func77, Tryz.ntmps77
    go_wp2_with (go_at_call 109; (with_reducible refine HP.out.mono ?_); rintro e w2 ⟨rfl, rfl⟩)
    go_ret
    exact ⟨rfl, H.out, ⟨rfl, rfl, rfl, Nat.le_refl _, fun _ _ _ => rfl⟩⟩
  | true =>
    have H : Hid (RdAt (w.setCell ⟨R, 0, none⟩ (.string ⟨r.toArray⟩)) R r d) := Lib.hid (by unfold RdAt; rw [set_at HR.out]; rfl)
    go_enter Tryz.func77, Tryz.ntmps77
    go_wp2_with (go_at_call 109; (with_reducible refine HP.out.mono ?_); rintro e w2 ⟨rfl, rfl⟩)
    go_ret
    exact ⟨rfl, H.out, OnlyR.set _⟩
end Go.Proofs.YtolfkhflbjnakaaGreatDoor

/- What the row's list of variables gives: the names of kinds, and some int in the library's variable. -/
set_option linter.unusedVariables false
namespace Go.Proofs.YtolfkhflbjnakaaGreatDoor
open Go Go.RowKit Go.ChangeShapes Go.WideShapes

def laid12 : List (String × DataW Unit) := [("unicode/utf8.acceptRanges", Rows.laid_unicode_utf8_acceptRanges), ("concordance/query.names", Rows.laid_concordance_query_names), ("unicode/utf8.first", Rows.laid_unicode_utf8_first)]
theorem cells_of_strs {H : Type} {enc : TypeId × Value → H} {P : Program} {w : World} {base : Nat} {sp : Nat → Bool} {held : Bool} {fuel : Nat} {t e : TypeId} {n : Nat} {cs : List Value} {zs : List Nm} {p : List MemPlace}
    (ht : P.underlying t = some (.array n e)) (he : P.underlying e = some .string) (hce : P.cellsOf e = 1) (hct : P.cellsOf t = n)
    (h : DataW.trod enc P w base sp held fuel t cs = some (.agg (zs.map fun z => .lit (.string z)), p)) : cs = zs.map fun z => Value.string ⟨z.toArray⟩ := by
  cases fuel with
  | zero => simp [DataW.trod] at h
  | succ fuel =>
    simp only [DataW.trod, ht, hce, hct, Nat.mul_one] at h
    split at h
    · rename_i hl
      obtain ⟨xs, hm, hx⟩ := Option.map_eq_some_iff.1 h
      have hxs : xs.map (·.1) = zs.map fun z => (DataW.lit (.string z) : DataW H) := by
        have := congrArg Prod.fst hx
        simpa using this
      have hxl : xs.length = n := by simpa using Lib.mapM_length hm
      have hzl : zs.length = n := by
        have := congrArg List.length hxs
        simp at this
        omega
      apply List.ext_getElem?
      intro i
      by_cases hi : i < n
      · obtain ⟨b, hb, hf⟩ := Lib.mapM_at hm i i (by simp [hi])
        obtain ⟨z, hc, rfl, _⟩ := DataW.trod_string he hf
        have h1 : cs[i]? = some (.string z) := by
          have := congrArg (·[0]?) hc
          simpa [List.getElem?_take, List.getElem?_drop] using this
        have h2 : (xs.map (·.1))[i]? = some (DataW.lit (.string z.data.toList) : DataW H) := by simp [hb]
        rw [hxs] at h2
        simp only [List.getElem?_map, Option.map_eq_some_iff, DataW.lit.injEq, Lit.string.injEq] at h2
        obtain ⟨z', hz', hz2⟩ := h2
        rw [h1, List.getElem?_map, hz', hz2]
        rfl
      · rw [List.getElem?_eq_none (by omega), List.getElem?_eq_none (by simp; omega)]
    · cases h
theorem gNames : Tryz.prog.globalNamed "concordance/query.names" = some 0 := by kernel_rfl
def kindsN : List Nm := [[], [], [97, 110, 100], [111, 114], [110, 111, 116]]
theorem names_of_laid {W : World} (h : laidMet Tryz.prog laid12 W) : W.var? Tryz.prog "concordance/query.names" = some (kindsN.map fun z => Value.string ⟨z.toArray⟩).toArray := by
  obtain ⟨ps, ⟨g1, t1, cs1, f1, p1, q1, _, _, _, _, ⟨g', t', cs, fuel, p, q, hg', ht', hvar, hd, _, _⟩, _⟩, _⟩ := h
  obtain rfl := Option.some.inj ((show (Tryz.prog.globals[0]?).map (·.type) = some 130 by kernel_rfl).symm.trans (by rw [Option.some.inj (gNames.symm.trans hg')]; exact ht'))
  have hd' : DataW.trod (fun _ => ()) Tryz.prog W 0 (fun _ => true) false fuel 130 cs.toList = some (.agg (kindsN.map fun z => .lit (.string z)), p) := hd
  rw [hvar, ← cells_of_strs (n := 5) (e := 9) Tryz.underlying130 Tryz.underlying9 (by kernel_rfl) (by kernel_rfl) hd']
/-- A variable of an integer's type holds some integer. -/
theorem int_of_shape {P : Program} {w : World} {g : Nat} {t : TypeId} {k : IntKind} {zero : Array Value} (h : w.ShapedOpen P) (hg : g < P.globals.size)
    (h0 : ((begin P (fun _ _ => 0) default).world.heap[g]?).bind Obj.row? = some (zero, t)) (hz : zero.size = 1)
    (hb : P.buildable t = true) (hc : P.cellTypes P.depth t = some [t]) (hu : P.underlying t = some (.int k)) : ∃ m, w.cell? ⟨g, 0, none⟩ = some (.int k m) := by
  obtain ⟨cs, hh, hs, hr⟩ := h.1 g zero t hg h0
  obtain ⟨ts, hts, _, hall⟩ := hr hb
  rw [hc] at hts
  cases hts
  have h1 : 0 < cs.size := by omega
  obtain ⟨u, hu', hok⟩ := hall 0 cs[0] (by simp [h1])
  have : u = t := by simpa using hu'.symm
  subst this
  have hcell : w.cell? ⟨g, 0, none⟩ = some cs[0] := by simp [World.cell?, hh, h1]
  rw [hcell]
  unfold Cell.ok at hok
  rw [hu] at hok
  cases hv : cs[0] <;> rw [hv] at hok <;> first | exact ⟨_, rfl⟩ | simp at hok
  exact ⟨_, by rw [hok.1]⟩
theorem glob_of {W : World} (h : laidMetH Tryz.prog laid12 W) (hs : W.ShapedOpen Tryz.prog) : Glob W := by
  rw [MakeChecks.laidMetH_plain _ _ _ (by kernel_rfl)] at h
  have hv := names_of_laid h
  have hc : ∀ (i : Nat) (hi : i < 5), W.cell? ⟨0, i, none⟩ = some (.string ⟨(kindsN[i]'hi).toArray⟩) := fun i hi => by
    have := World.var?_cell gNames hv i
    rw [List.getElem?_toArray, List.getElem?_map, List.getElem?_eq_getElem (by exact hi)] at this
    exact this
  obtain ⟨m, hm⟩ := int_of_shape (g := 1) (t := 3) (k := .i64) hs (by decide +kernel) (zero := #[.int .i64 0]) (by kernel_rfl) rfl (by kernel_rfl) (by kernel_rfl) Tryz.underlying3
  exact ⟨⟨m, hm⟩, hc 0 (by decide), hc 1 (by decide), hc 2 (by decide), hc 3 (by decide), hc 4 (by decide)⟩
end Go.Proofs.YtolfkhflbjnakaaGreatDoor

/- A list of fields that came in, read as data: what a walk is told of it. -/
namespace Go.Proofs.YtolfkhflbjnakaaGreatDoor
open Go Go.RowKit Go.ChangeShapes Go.WideShapes Go.ChangeAt
set_option linter.unusedVariables false

/-- What a walk is told of a list of fields that came in. -/
def InFlds (w : World) (a : Option Addr) (len cap : Nat) (l : List Fd) : Prop :=
  len ≤ cap ∧ cap ≤ maxLen ∧ l.length = len ∧ FRow w w.heap.size a l ∧ ∀ f ∈ l, f.1.length ≤ maxLen ∧ f.2.length ≤ maxLen
theorem field_cells : Tryz.prog.cellsOf 60 = 2 := by kernel_rfl
theorem str_cells : Tryz.prog.cellsOf 9 = 1 := by kernel_rfl
theorem flds_range {f : Nat → Fd} {V0 V1 : Nat → Value} {w : World} {b off n : Nat} (h : ∀ i, i < n → V0 i = .string ⟨(f i).1.toArray⟩ ∧ V1 i = .string ⟨(f i).2.toArray⟩)
    (hc : ∀ i, i < n → w.cell? ⟨b, off + i * 2, none⟩ = some (V0 i) ∧ w.cell? ⟨b, off + (i * 2 + 1), none⟩ = some (V1 i)) :
    ∀ k, k ≤ n → ∀ j u, (flds ((List.range k).map f))[j]? = some u → w.cell? ⟨b, off + j, none⟩ = some u
  | 0, _, j, u, hu => by simp [flds] at hu
  | k + 1, hk, j, u, hu => by
    rw [List.range_succ, List.map_append, flds_append] at hu
    have hl : (flds ((List.range k).map f)).length = k * 2 := by rw [flds_length, List.length_map, List.length_range]
    by_cases hj : j < k * 2
    · rw [List.getElem?_append_left (by rw [hl]; exact hj)] at hu
      exact flds_range h hc k (by omega) j u hu
    · rw [List.getElem?_append_right (by rw [hl]; omega), hl] at hu
      obtain ⟨h0, h1⟩ := h k (by omega)
      obtain ⟨c0, c1⟩ := hc k (by omega)
      rcases hq : j - k * 2 with _ | _ | q
      · rw [hq] at hu
        simp [flds] at hu
        rw [show j = k * 2 by omega, c0, h0, hu]
      · rw [hq] at hu
        simp [flds] at hu
        rw [show j = k * 2 + 1 by omega, c1, h1, hu]
      · rw [hq] at hu
        simp [flds] at hu

theorem in_flds {H : Type} {enc : TypeId × Value → H} {W : World} {fuel : Nat} {a : Option Addr} {len cap : Nat} {x : DataW H × List MemPlace}
    (h : DataW.trod enc Tryz.prog W 0 (fun _ => true) true fuel 44 [Value.slice a len cap] = some x) : ∃ l, InFlds W a len cap l := by
  rcases Deep.open_slice_pairs Tryz.underlying44 Tryz.underlying60 field_cells rfl rfl str_cells str_cells h with ⟨hcs, _⟩ | ⟨ad, l, c, m, n, V0, V1, D0, D1, P0, P1, hcs, _, hl, hm, hmm, _, hx⟩
  · simp at hcs
    obtain ⟨rfl, rfl, rfl⟩ := hcs
    exact ⟨[], Nat.le_refl _, Nat.zero_le _, rfl, FRow.nil, fun p hp => by cases hp⟩
  · simp at hcs
    obtain ⟨rfl, rfl, rfl⟩ := hcs
    simp only [if_true] at hmm
    subst hmm
    have each : ∀ i, i < m → ∃ q : Fd, (V0 i = .string ⟨q.1.toArray⟩ ∧ V1 i = .string ⟨q.2.toArray⟩) ∧ q.1.length ≤ maxLen ∧ q.2.length ≤ maxLen := fun i hi => by
      obtain ⟨_, _, g0, g1⟩ := hx i hi
      obtain ⟨s0, e0, _, k0⟩ := DataW.trod_string Tryz.underlying9 g0
      obtain ⟨s1, e1, _, k1⟩ := DataW.trod_string Tryz.underlying9 g1
      simp only [List.cons.injEq, and_true] at e0 e1
      refine ⟨(s0.data.toList, s1.data.toList), ⟨e0, e1⟩, ?_, ?_⟩
      · show s0.data.toList.length ≤ maxLen
        rw [Array.length_toList]
        exact k0
      · show s1.data.toList.length ≤ maxLen
        rw [Array.length_toList]
        exact k1
    obtain ⟨f, hf⟩ := Deep.choose_lt each
    by_cases h0 : m = 0
    · have hl0 : len = 0 := by omega
      subst hl0
      exact ⟨[], hl, hm, rfl, FRow.nil, fun p hp => by cases hp⟩
    · obtain ⟨c00, _, _, _⟩ := hx 0 (by omega)
      obtain ⟨b, off, spot⟩ := ad
      have hs : spot = none := by simpa [Addr.add] using World.cell?_spot c00
      subst hs
      have hblt : b < W.heap.size := by simpa [Addr.add_lit] using World.block_lt_of_cell? W _ c00
      refine ⟨(List.range len).map f, hl, hm, by simp, .inr ⟨b, off, rfl, hblt, flds_range (n := m) (fun i hi => (hf i hi).1) (fun i hi => ?_) len hl⟩, fun p hp => ?_⟩
      · obtain ⟨g0, g1, _, _⟩ := hx i hi
        rw [Addr.add_lit] at g0 g1
        exact ⟨g0, g1⟩
      · obtain ⟨i, hi, rfl⟩ := List.mem_map.1 hp
        have hil := List.mem_range.1 hi
        exact (hf i (by omega)).2
/-- .. whatever the value is. -/
theorem in_flds_any {H : Type} {enc : TypeId × Value → H} {W : World} {fuel : Nat} {v : Value} {x : DataW H × List MemPlace}
    (h : DataW.trod enc Tryz.prog W 0 (fun _ => true) true fuel 44 [v] = some x) : ∃ a len cap l, v = .slice a len cap ∧ InFlds W a len cap l := by
  have hv : ∃ a len cap, v = .slice a len cap := by
    rcases Deep.open_slice_pairs Tryz.underlying44 Tryz.underlying60 field_cells rfl rfl str_cells str_cells h with ⟨hcs, _⟩ | ⟨ad, l, c, m, n, V0, V1, D0, D1, P0, P1, hcs, _⟩
    · simp only [List.cons.injEq, and_true] at hcs
      exact ⟨_, _, _, hcs⟩
    · simp only [List.cons.injEq, and_true] at hcs
      exact ⟨_, _, _, hcs⟩
  obtain ⟨a, len, cap, rfl⟩ := hv
  obtain ⟨l, hl⟩ := in_flds h
  exact ⟨a, len, cap, l, rfl, hl⟩
theorem doc_cells : Tryz.prog.cellsOf 46 = 2 := by kernel_rfl
end Go.Proofs.YtolfkhflbjnakaaGreatDoor

/- (Parted off.) Lists of documents, and of deeds, that came in, read as data: what a walk is told of them. -/
namespace Go.Proofs.YtolfkhflbjnakaaGreatDoor
open Go Go.RowKit Go.ChangeShapes Go.WideShapes Go.ChangeAt
set_option linter.unusedVariables false


/-- Cells, one thing's behind the other's. -/
def catTo (V : Nat → List Value) : Nat → List Value
  | 0 => []
  | k + 1 => catTo V k ++ V k
theorem catTo_length {V : Nat → List Value} {z n : Nat} (hz : ∀ i, i < n → (V i).length = z) : ∀ k, k ≤ n → (catTo V k).length = k * z
  | 0, _ => by simp [catTo]
  | k + 1, hk => by rw [catTo, List.length_append, catTo_length hz k (by omega), hz k (by omega), Nat.add_mul, Nat.one_mul]
theorem catTo_row {w : World} {b off z n : Nat} {V : Nat → List Value} (hz : ∀ i, i < n → (V i).length = z) (h : ∀ i, i < n → ∀ j u, (V i)[j]? = some u → w.cell? ⟨b, off + (i * z + j), none⟩ = some u) :
    ∀ k, k ≤ n → ∀ j u, (catTo V k)[j]? = some u → w.cell? ⟨b, off + j, none⟩ = some u
  | 0, _, j, u, hu => by simp [catTo] at hu
  | k + 1, hk, j, u, hu => by
    rw [catTo] at hu
    have hl := catTo_length hz k (by omega)
    by_cases hj : j < k * z
    · rw [List.getElem?_append_left (by rw [hl]; exact hj)] at hu
      exact catTo_row hz h k (by omega) j u hu
    · rw [List.getElem?_append_right (by rw [hl]; omega), hl] at hu
      have := h k (by omega) _ _ hu
      rwa [show k * z + (j - k * z) = j by omega] at this
theorem catTo_nest {α : Type} {s : Shape α} {R : Option Addr → List Value → Prop} {V : Nat → List Value} {f : Nat → α} {n : Nat}
    (h : ∀ i, i < n → ∃ A c, V i = s.pre (f i) ++ (.slice A (s.mid (f i)).length c :: s.post (f i)) ∧ (s.mid (f i)).length ≤ c ∧ c ≤ maxLen ∧ R A (flds (s.mid (f i)))) : ∀ k, k ≤ n → NestC s R ((List.range k).map f) (catTo V k)
  | 0, _ => rfl
  | k + 1, hk => by
    have ih := catTo_nest h k (by omega)
    obtain ⟨A, c, h1, h2, h3, h4⟩ := h k (by omega)
    rw [List.range_succ, List.map_append, catTo, h1]
    exact ih.snoc h2 h3 h4

/-- A slice of things that came in. -/
def InNest {α : Type} (s : Shape α) (good : α → Prop) (w : World) (a : Option Addr) (len cap : Nat) (l : List α) : Prop :=
  len ≤ cap ∧ cap ≤ maxLen ∧ l.length = len ∧ Nest s w w.heap.size a l ∧ ∀ q ∈ l, good q

theorem in_nest {α : Type} [Inhabited α] {H : Type} {enc : TypeId × Value → H} {W : World} (s : Shape α) (good : α → Prop) {t e : TypeId} (ht : Tryz.prog.underlying t = some (.slice e)) (ce : Tryz.prog.cellsOf e = s.size)
    (open1 : ∀ {fuel : Nat} {cs : List Value} {x : DataW H × List MemPlace}, DataW.trod enc Tryz.prog W 0 (fun _ => true) true fuel e cs = some x →
      ∃ (q : α) (A : Option Addr) (c : Nat), cs = s.pre q ++ (.slice A (s.mid q).length c :: s.post q) ∧ (s.mid q).length ≤ c ∧ c ≤ maxLen ∧ FRow W W.heap.size A (s.mid q) ∧ good q)
    {fuel : Nat} {a : Option Addr} {len cap : Nat} {x : DataW H × List MemPlace} (h : DataW.trod enc Tryz.prog W 0 (fun _ => true) true fuel t [Value.slice a len cap] = some x) : ∃ l, InNest s good W a len cap l := by
  rcases Deep.open_slice ht h with ⟨hcs, _⟩ | ⟨ad, l, c, m, n, D, Pl, hcs, _, hl, hm, hmm, _, hx⟩
  · simp at hcs
    obtain ⟨rfl, rfl, rfl⟩ := hcs
    exact ⟨[], Nat.le_refl _, Nat.zero_le _, rfl, NestP.nil, fun p hp => by cases hp⟩
  · simp at hcs
    obtain ⟨rfl, rfl, rfl⟩ := hcs
    simp only [if_true] at hmm
    subst hmm
    have each : ∀ i, i < m → ∃ q : α × List Value, (∃ A c, q.2 = s.pre q.1 ++ (.slice A (s.mid q.1).length c :: s.post q.1) ∧ (s.mid q.1).length ≤ c ∧ c ≤ maxLen ∧ Row W W.heap.size A (flds (s.mid q.1))) ∧ good q.1 ∧ q.2.length = s.size ∧
        ∀ j u, q.2[j]? = some u → W.cell? (ad.add (i * s.size + j)) = some u := fun i hi => by
      obtain ⟨cs', h1, h2⟩ := hx i hi
      obtain ⟨_, hlen, hcell⟩ := World.cells?_some h1
      obtain ⟨q, A, c, e1, e2, e3, e4, e5⟩ := open1 h2
      rw [ce] at hlen
      refine ⟨(q, cs'), ⟨A, c, e1, e2, e3, e4⟩, e5, hlen, fun j u hu => ?_⟩
      have hj : j < s.size := by
        rcases Nat.lt_or_ge j s.size with h | h
        · exact h
        · rw [List.getElem?_eq_none (by rw [hlen]; exact h)] at hu; cases hu
      have := hcell j (by rw [ce]; exact hj)
      rw [Deep.add_add, ce] at this
      rw [this]
      exact hu
    obtain ⟨f, hf⟩ := Deep.choose_lt each
    by_cases h0 : m = 0
    · have hl0 : len = 0 := by omega
      subst hl0
      exact ⟨[], hl, hm, rfl, NestP.nil, fun p hp => by cases hp⟩
    · obtain ⟨_, _, hl0, hc0⟩ := hf 0 (by omega)
      obtain ⟨u0, hu0⟩ : ∃ u, (f 0).2[0]? = some u := ⟨_, List.getElem?_eq_getElem (by rw [hl0]; unfold Shape.size; omega)⟩
      have c00 := hc0 0 u0 hu0
      obtain ⟨b, off, spot⟩ := ad
      have hs : spot = none := by simpa [Addr.add] using World.cell?_spot c00
      subst hs
      have hblt : b < W.heap.size := by simpa [Addr.add_lit] using World.block_lt_of_cell? W _ c00
      refine ⟨(List.range len).map fun i => (f i).1, hl, hm, by simp, ⟨catTo (fun i => (f i).2) len, catTo_nest (n := m) (fun i hi => (hf i hi).1) len hl, .inr ⟨b, off, rfl, hblt, catTo_row (n := m) (z := s.size) (fun i hi => (hf i hi).2.2.1) (fun i hi j u hu => ?_) len hl⟩⟩, fun p hp => ?_⟩
      · have := (hf i hi).2.2.2 j u hu
        rwa [Addr.add_lit] at this
      · obtain ⟨i, hi, rfl⟩ := List.mem_map.1 hp
        have hil := List.mem_range.1 hi
        exact (hf i (by omega)).2.1

/-- Texts that came in. -/
def InFd (l : List Fd) : Prop := ∀ f ∈ l, f.1.length ≤ maxLen ∧ f.2.length ≤ maxLen
theorem open_doc {H : Type} {enc : TypeId × Value → H} {W : World} {fuel : Nat} {cs : List Value} {x : DataW H × List MemPlace} (h : DataW.trod enc Tryz.prog W 0 (fun _ => true) true fuel 46 cs = some x) :
    ∃ (q : Dc) (A : Option Addr) (c : Nat), cs = [.int .i64 q.1, .slice A q.2.length c] ∧ q.2.length ≤ c ∧ c ≤ maxLen ∧ FRow W W.heap.size A q.2 ∧ InFd q.2 := by
  obtain ⟨y0, y1, n, _, hl, g0, g1⟩ := trod_struct2 Tryz.underlying46 h
  rw [doc_cells] at hl
  obtain ⟨v0, v1, rfl⟩ : ∃ v0 v1, cs = [v0, v1] := by
    rcases cs with _ | ⟨v0, _ | ⟨v1, _ | ⟨v2, cs⟩⟩⟩
    · cases hl
    · cases hl
    · exact ⟨_, _, rfl⟩
    · simp only [List.length_cons] at hl; omega
  · have ci : Tryz.prog.cellsOf 3 = 1 := by kernel_rfl
    have cf : Tryz.prog.cellsOf 44 = 1 := by kernel_rfl
    simp [ci] at g0
    simp [cf] at g1
    obtain ⟨d, e0, _, _⟩ := DataW.trod_int Tryz.underlying3 g0
    obtain ⟨a, len, cap, l, rfl, h1, h2, h3, h4, h5⟩ := in_flds_any g1
    simp only [List.cons.injEq, and_true] at e0
    subst e0
    exact ⟨(d, l), a, cap, by rw [h3], by rw [h3]; exact h1, h2, h4, h5⟩
abbrev InDocs := InNest docS (fun q => InFd q.2)
end Go.Proofs.YtolfkhflbjnakaaGreatDoor

/- Small facts for the walks of the laws: numbers made from 0 on, texts that are joined. No program. -/
namespace Go.Proofs.YtolfkhflbjnakaaGreatDoor
open Go Go.RowKit
set_option linter.unusedVariables false

theorem wf_bd {a : Int} (h : (Lit.int .i64 a).wf = true) : -9223372036854775808 ≤ a ∧ a ≤ 9223372036854775807 := by
  have e1 : IntKind.i64.min = -9223372036854775808 := rfl
  have e2 : IntKind.i64.max = 9223372036854775807 := rfl
  simp [Lit.wf] at h
  omega
/-- A number, made one from 0 on. -/
theorem made_nat {a : Int} (h : -9223372036854775808 ≤ a ∧ a ≤ 9223372036854775807) : ∃ n : Nat, n < 9223372036854775808 ∧ (a < 0 → -(a + 1) = (n : Int)) ∧ (¬ a < 0 → a = (n : Int)) :=
  ⟨(if a < 0 then -(a + 1) else a).toNat, by split <;> omega, fun h0 => by rw [if_pos h0]; omega, fun h0 => by rw [if_neg h0]; omega⟩
theorem str_cat (a b : List UInt8) : (⟨a.toArray⟩ : ByteArray) ++ ⟨b.toArray⟩ = ⟨(a ++ b).toArray⟩ := by
  apply ByteArray.ext
  simp
theorem str_size (a : List UInt8) : (⟨a.toArray⟩ : ByteArray).size = a.length := by simp [ByteArray.size]
end Go.Proofs.YtolfkhflbjnakaaGreatDoor
