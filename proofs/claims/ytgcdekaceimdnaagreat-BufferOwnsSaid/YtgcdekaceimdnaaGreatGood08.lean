/- What the document's Good answers: a document that may be, made of any. -/
import Derived.Test.YtgcdekaceimdnaaGreatQ06
import Derived.Test.YtgcdekaceimdnaaGreatMay08
import Derived.Deep.DeepCutAuto
namespace Go.Proofs.YtgcdekaceimdnaaGreat
open Go Go.RowKit
set_option linter.unusedVariables false

/-- The blocks of a call of Good: the document, its pool, what it has gathered. -/
def GoodW (w : World) (id : Int) (A : Option Addr) (n c : Nat) (v : Value) (wr : World) : Prop :=
  Below w.heap.size w wr ∧ w.heap.size + 4 ≤ wr.heap.size ∧ wr.heap[w.heap.size]? = some (.cells #[.int .i64 id, .slice A n c] 30 (0, 0)) ∧ wr.heap[w.heap.size + 1]? = some (.cells #[.int .i64 0, .slice none 0 0] 30 (0, 0)) ∧
    wr.heap[w.heap.size + 1 + 1]? = some (.cells #[.int .i64 id, v] 30 (0, 0)) ∧ wr.heap[w.heap.size + 1 + 1 + 1]? = some (.cells #[.string ⟨#[116]⟩, .string ⟨#[117]⟩, .string ⟨#[118]⟩, .string ⟨#[119]⟩] 9 (0, 0))
theorem GoodW.below {w wr w' : World} {id : Int} {A : Option Addr} {n c : Nat} {v : Value} (h : GoodW w id A n c v wr) (hb : Below wr.heap.size wr w') : GoodW w id A n c v w' := by
  obtain ⟨h0, h1, h2, h3, h4, h5⟩ := h
  exact ⟨h0.trans (hb.mono (by omega)), by have := hb.size; omega, (hb.block _ (by omega)).trans h2, (hb.block _ (by omega)).trans h3, (hb.block _ (by omega)).trans h4, (hb.block _ (by omega)).trans h5⟩
theorem GoodW.cells {w wr : World} {id : Int} {A : Option Addr} {n c : Nat} {v : Value} (h : GoodW w id A n c v wr) :
    wr.cell? ⟨w.heap.size, 0, none⟩ = some (.int .i64 id) ∧ wr.cell? ⟨w.heap.size, 1, none⟩ = some (.slice A n c) ∧ wr.cell? ⟨w.heap.size + 1 + 1, 0, none⟩ = some (.int .i64 id) ∧ wr.cell? ⟨w.heap.size + 1 + 1, 1, none⟩ = some v := by
  obtain ⟨_, _, h2, _, h4, _⟩ := h
  exact ⟨by simp [World.cell?, h2], by simp [World.cell?, h2], by simp [World.cell?, h4], by simp [World.cell?, h4]⟩
theorem GoodW.pool {w wr : World} {id : Int} {A : Option Addr} {n c : Nat} {v : Value} (h : GoodW w id A n c v wr) {k : Nat} (hk : k < 4) : wr.cell? ⟨w.heap.size + 1 + 1 + 1, k, none⟩ = some (.string ⟨(poolN k).toArray⟩) := by
  obtain ⟨_, _, _, _, _, h5⟩ := h
  have : k = 0 ∨ k = 1 ∨ k = 2 ∨ k = 3 := by omega
  rcases this with rfl | rfl | rfl | rfl <;> simp [World.cell?, h5, poolN]
theorem goodW_start (w : World) (id : Int) (A : Option Addr) (n c : Nat) : GoodW w id A n c (.slice none 0 0) ((((w.alloc (.cells #[.int .i64 id, .slice A n c] 30)).alloc (.cells #[.int .i64 0, .slice none 0 0] 30)).alloc (.cells #[.int .i64 id, .slice none 0 0] 30)).alloc (.cells #[.string ⟨#[116]⟩, .string ⟨#[117]⟩, .string ⟨#[118]⟩, .string ⟨#[119]⟩] 9)) := by
  refine ⟨((((Below.refl _ w).alloc (Nat.le_refl _) _).alloc (by simp) _).alloc (by simp; try omega) _).alloc (by simp; try omega) _, by simp, ?_, ?_, ?_, ?_⟩
  · rw [Below.heap_alloc _ _ _ (by simp; try omega), Below.heap_alloc _ _ _ (by simp; try omega), Below.heap_alloc _ _ _ (by simp)]
    exact heap_alloc_new w _
  · rw [Below.heap_alloc _ _ _ (by simp; try omega), Below.heap_alloc _ _ _ (by simp)]
    simpa using heap_alloc_new (w.alloc (.cells #[.int .i64 id, .slice A n c] 30)) (.cells #[.int .i64 0, .slice none 0 0] 30)
  · rw [Below.heap_alloc _ _ _ (by simp)]
    simpa using heap_alloc_new ((w.alloc (.cells #[.int .i64 id, .slice A n c] 30)).alloc (.cells #[.int .i64 0, .slice none 0 0] 30)) (.cells #[.int .i64 id, .slice none 0 0] 30)
  · simpa using heap_alloc_new (((w.alloc (.cells #[.int .i64 id, .slice A n c] 30)).alloc (.cells #[.int .i64 0, .slice none 0 0] 30)).alloc (.cells #[.int .i64 id, .slice none 0 0] 30)) (.cells #[.string ⟨#[116]⟩, .string ⟨#[117]⟩, .string ⟨#[118]⟩, .string ⟨#[119]⟩] 9)

theorem set_at {w : World} {b k : Nat} {cs : Array Value} {t : TypeId} {v : Value} (h : w.heap[b]? = some (.cells cs t (0, 0))) : (w.setCell ⟨b, k, none⟩ v).heap[b]? = some (.cells (cs.setIfInBounds k v) t (0, 0)) := by
  have hlt := lt_of_block h
  have h' : w.heap[b] = .cells cs t (0, 0) := by simpa [Array.getElem?_eq_getElem hlt] using h
  show (w.heap.modify b _)[b]? = _
  rw [Array.getElem?_eq_getElem (by simpa using hlt), Array.getElem_modify_self, h']
  rfl
theorem two_cells {w : World} {b : Nat} {x y : Value} {t : TypeId} (h : w.heap[b]? = some (.cells #[x, y] t (0, 0))) :
    w.cell? ⟨b, 0, none⟩ = some x ∧ w.cell? ⟨b, 1, none⟩ = some y ∧ w.frozen? ⟨b, 0, none⟩ = false ∧ w.frozen? ⟨b, 1, none⟩ = false := by
  simp [World.cell?, World.frozen?, h]

theorem cut_text (y : ByteArray) : y.extract 0 (min (y.size : Int) 40).toNat = ⟨(y.data.toList.take 40).toArray⟩ := by
  have e2 : y.data.toList.length = y.size := Array.length_toList
  have e : (y.extract 0 (min (y.size : Int) 40).toNat).data = y.data.extract 0 (min (y.size : Int) 40).toNat := ByteArray.data_extract
  apply ByteArray.ext
  apply Array.ext'
  rw [e, Array.toList_extract, List.extract_eq_take_drop, List.drop_zero, Nat.sub_zero]
  show List.take _ _ = List.take 40 _
  by_cases h : y.size ≤ 40
  · rw [List.take_of_length_le (by omega), List.take_of_length_le (by omega)]
  · rw [show (min (y.size : Int) 40).toNat = 40 by omega]

theorem set_ne {w : World} {b k d : Nat} {v : Value} (h : b ≠ d) : (w.setCell ⟨b, k, none⟩ v).heap[d]? = w.heap[d]? := by
  show (w.heap.modify b _)[d]? = _
  rw [Array.getElem?_modify]
  simp [h]
theorem GoodW.put {w wr : World} {id : Int} {A : Option Addr} {n c : Nat} {v : Value} (h : GoodW w id A n c v wr) (v' : Value) : GoodW w id A n c v' ((wr.setCell ⟨w.heap.size + 1 + 1, 0, none⟩ (.int .i64 id)).setCell ⟨w.heap.size + 1 + 1, 1, none⟩ v') := by
  obtain ⟨h0, h1, h2, h3, h4, h5⟩ := h
  refine ⟨(h0.setCell (by simp; omega) _).setCell (by simp; omega) _, by simpa using h1, ?_, ?_, ?_, ?_⟩
  · rw [set_ne (by omega), set_ne (by omega)]; exact h2
  · rw [set_ne (by omega), set_ne (by omega)]; exact h3
  · rw [set_at (set_at h4)]; rfl
  · rw [set_ne (by omega), set_ne (by omega)]; exact h5
theorem goodF_name (i : Nat) (f : Fd) : (goodF i f).1.length ≤ 12 := by
  unfold goodF
  by_cases h : nameB f.1 = true
  · rw [if_pos h]
    rw [nameB, Bool.and_eq_true, Bool.and_eq_true, decide_eq_true_iff, decide_eq_true_iff] at h
    exact h.2.2
  · rw [if_neg h]; simp [poolN]
theorem goodUp_name (l : List Fd) : ∀ k, ∀ f ∈ goodUp l k, f.1.length ≤ 12
  | 0, f, h => by cases h
  | k + 1, f, h => by
    rw [goodUp] at h
    split at h
    · rcases List.mem_append.1 h with h | h
      · exact goodUp_name l k f h
      · rw [List.mem_singleton.1 h]; exact goodF_name _ _
    · exact goodUp_name l k f h

def GoodRel (l : List Fd) (w : World) (id : Int) (A : Option Addr) (n c : Nat) (i : Value) (wr : World) : Prop :=
  ∃ (k : Nat) (v : Value), k ≤ n ∧ k ≤ 4 ∧ i = .int .i64 (k : Int) ∧ GoodW w id A n c v wr ∧ OwnFd (w.heap.size + 4) wr v (goodUp l k)

set_option maxHeartbeats 4000000 in
set_option maxRecDepth 100000 in
theorem ref08_Good (id : Int) (A : Option Addr) (n c : Nat) (l : List Fd) (w : World) (hl : l.length = n) (hr : FRow w w.heap.size A l) (hn : n ≤ 9223372036854775807) (ht : ∀ f ∈ l, f.1.length ≤ 9223372036854775807 ∧ f.2.length ≤ 9223372036854775807) :
    Calls Tryz.prog 11 #[docV id A n c] w fun e w' => ∃ v, e = .returned (.agg #[.int .i64 id, v]) ∧ OwnFd w.heap.size w' v (goodD l) ∧ Below w.heap.size w w' := by
  have HR := Lib.hid hr
  have HT := Lib.hid ht
  have HL := Lib.hid hl
  clear hr ht hl
  go_enter Tryz.func11, Tryz.ntmps11
  go_wp2
  obtain ⟨w1, hw1⟩ : ∃ w1, w1 = ((((w.alloc (.cells #[.int .i64 id, .slice A n c] 30)).alloc (.cells #[.int .i64 0, .slice none 0 0] 30)).alloc (.cells #[.int .i64 id, .slice none 0 0] 30)).alloc (.cells #[.string ⟨#[116]⟩, .string ⟨#[117]⟩, .string ⟨#[118]⟩, .string ⟨#[119]⟩] 9)) := ⟨_, rfl⟩
  have HG : Hid (GoodW w id A n c (.slice none 0 0) w1) := Lib.hid (by rw [hw1]; exact goodW_start w id A n c)
  rw [← hw1]
  clear hw1
  go_loopw [5, 6, 7, 8] (fun i a b d wr => GoodRel l w id A n c i wr) (fun i _ _ _ _ => n - (intOf i).toNat)
  case atStart => exact ⟨0, _, by omega, by omega, rfl, HG.out, OwnFd.nil⟩
  case round =>
    obtain ⟨k, v, hk, hk4, rfl, hgw, hown⟩ := hrel
    obtain ⟨Av, cv, rfl, hlv, hrv⟩ := hown.row
    have hgl := goodUp_length l k
    obtain ⟨up, hup⟩ : ∃ up, up = goodUp l k := ⟨_, rfl⟩
    rw [← hup] at hown hlv hrv hgw hgl
    have HUP := Lib.hid hup
    have HRV := Lib.hid hrv
    clear hup hrv
    obtain ⟨m, hm⟩ : ∃ m, m = up.length := ⟨_, rfl⟩
    rw [← hm] at hlv hgw hgl hown
    have HM := Lib.hid hm
    clear hm
    obtain ⟨q0, q1, q2, q3⟩ := hgw.cells
    by_cases hlt : k < n ∧ k < 4
    · obtain ⟨hkn, hk5⟩ := hlt
      have hkl : k < l.length := by rw [HL.out]; exact hkn
      have hp := hgw.pool hk5
      obtain ⟨b1, o1, e1, hb1, hc1, hc2⟩ := (HR.out.below hgw.1).at_ hkl
      subst e1
      have ht8 := HT.out _ (List.getElem_mem hkl)
      obtain ⟨x, hx, hx2⟩ := as_text l[k].1
      obtain ⟨y, hy, hy2⟩ := as_text l[k].2
      rw [← hx] at hc1
      rw [← hy] at hc2
      have i0 : (0 : Int) ≤ k := by omega
      have i1 : (k : Int) < n := by omega
      have i2 : (k : Int) < 4 := by omega
      have N1 := fun w' => ref08_Name x w' (by rw [hx, size_nm]; exact ht8.1)
      rw [hx2] at N1
      have HN1 : Hid (∀ w', Calls Tryz.prog 26 #[.string x] w' fun e w'' => e = .returned (.bool (nameB l[k].1)) ∧ Below w'.heap.size w' w'') := Lib.hid N1
      have HGW := Lib.hid hgw
      have HXY := Lib.hid (And.intro hx2 hy2)
      have HOWN := Lib.hid hown
      obtain ⟨z, hz⟩ : ∃ z, z = nameB l[k].1 := ⟨_, rfl⟩
      rw [← hz] at HN1
      obtain ⟨g, hg⟩ : ∃ g, g = goodF k l[k] := ⟨_, rfl⟩
      have HGF : Hid (g = (if z = true then x.data.toList else poolN k, y.data.toList.take 40)) := Lib.hid (by rw [hg, goodF, hz, hx2, hy2])
      have HG := Lib.hid hg
      clear N1 hgw hx hx2 hy hy2 hown hz ht8 hg
      go_upto_if 33 with (first
        | (go_at_call 26; (with_reducible refine (HN1.out _).mono ?_); rintro e w2 ⟨rfl, hb2⟩
           have hg2 : GoodW w id (some ⟨b1, o1, none⟩) n c (.slice Av m cv) w2 := HGW.out.below (((Below.refl _ wr).alloc (Nat.le_refl _) _).trans (hb2.mono (by simp)))
           have hF : w2.heap[wr.heap.size]? = some (.cells #[.string x, .string y] 59 (0, 0)) := (hb2.block wr.heap.size (by simp)).trans (heap_alloc_new wr _)
           have HOW2 : Hid (OwnFd (w.heap.size + 4) w2 (.slice Av m cv) up) := Lib.hid (HOWN.out.below (((Below.refl _ wr).alloc (Nat.le_refl _) _).trans (hb2.mono (by simp))))
           have HBW2 : Hid (Below wr.heap.size wr w2) := Lib.hid (((Below.refl _ wr).alloc (Nat.le_refl _) _).trans (hb2.mono (by simp)))
           have hp := hg2.pool hk5
           have hz := two_cells hF
           have z0 := hz.1
           have z1 := hz.2.1
           have f0 := hz.2.2.1
           have f1 := hz.2.2.2
           have HG2 := Lib.hid hg2
           have HF := Lib.hid hF
           clear hg2 hF hb2 hz))
      have HBX2 : Hid (Below wr.heap.size wr w2) := Lib.hid HBW2.out
      go_cut [] from 32 to 38 (fun wx => Below wr.heap.size wr wx ∧ wx.heap[wr.heap.size]? = some (.cells #[.string ⟨g.1.toArray⟩, .string y] 59 (0, 0)))
      case first =>
        cases z with
        | true =>
          go_wp2_with fail
          go_meet
          exact ⟨HBX2.out, by rw [HGF.out]; exact HF.out⟩
        | false =>
          go_wp2_with fail
          go_meet
          refine ⟨HBX2.out.setCell (Nat.le_refl _) _, ?_⟩
          rw [set_at HF.out, HGF.out]
          rfl
      case rest =>
        obtain ⟨hbx, hfx⟩ := hcut
        have hz := two_cells hfx
        have z0 := hz.1
        have z1 := hz.2.1
        have f0 := hz.2.2.1
        have f1 := hz.2.2.2
        have HBX := Lib.hid hbx
        have HFX := Lib.hid hfx
        clear hbx hfx hz
        go_upto_region 10 with fail
        go_cut [] from 39 to 46 (fun wx => Below wr.heap.size wr wx ∧ wx.heap[wr.heap.size]? = some (.cells #[.string ⟨g.1.toArray⟩, .string ⟨g.2.toArray⟩] 59 (0, 0)))
        case first =>
          go_wp2_with fail
          go_meet
          refine ⟨HBX.out.setCell (Nat.le_refl _) _, ?_⟩
          rw [set_at HFX.out, HGF.out, cut_text]
          rfl
        case rest =>
          obtain ⟨hby, hfy⟩ := hcut
          obtain ⟨wy, rfl⟩ : ∃ wy, wy = wc := ⟨_, rfl⟩
          have hg3 := HGW.out.below hby
          have hq := hg3.cells
          have q0 := hq.1
          have q1 := hq.2.1
          have q2 := hq.2.2.1
          have q3 := hq.2.2.2
          have hz := two_cells hfy
          have z0 := hz.1
          have z1 := hz.2.1
          have HBY := Lib.hid hby
          have HFY := Lib.hid hfy
          have HG3 := Lib.hid hg3
          clear hby hfy hg3 hq hz
          have HFLT : Hid (wr.heap.size < wy.heap.size) := Lib.hid (lt_of_block HFY.out)
          have HM2 : Hid (OwnFd (w.heap.size + 4) wy (.slice Av m cv) up) := Lib.hid (HOWN.out.below HBY.out)
          have HRY : Hid (FRow wy wy.heap.size Av up) := Lib.hid (HRV.out.later HBY.out)
          go_upto_region 12 with fail
          go_cut [] from 50 to 55 (fun wx => ∃ v', Below wy.heap.size wy wx ∧ wx.heap[wy.heap.size]? = some (.cells #[.int .i64 id, v'] 30 (0, 0)) ∧ OwnFd (wy.heap.size + 1) wx v' up)
          case first =>
            have HN4 : Hid ((wy.alloc (.cells #[.int .i64 id, .slice none 0 0] 30)).heap[wy.heap.size]? = some (.cells #[.int .i64 id, .slice none 0 0] 30 (0, 0))) := Lib.hid (heap_alloc_new wy _)
            have hq4 := (HG3.out.below ((Below.refl _ wy).alloc (Nat.le_refl _) (.cells #[.int .i64 id, .slice none 0 0] 30))).cells
            have q34 := hq4.2.2.2
            clear hq4
            go_wp2_with (first
              | (at_builtin; refine wpList_append_fd _ rfl (.tmp 51) (.tmp 53) rfl (wy.heap.size + 1) _ [] rfl OwnFd.nil Av m cv up rfl HM.out.symm ((HRY.out).later ((Below.refl _ wy).alloc (Nat.le_refl _) _)) (by simp; omega) (by simp) ?_
                 intro v5 w5 ho5 hb5 _
                 obtain ⟨A5, c5, rfl, _, _⟩ := ho5.row
                 have HB5 := Lib.hid (((Below.refl _ wy).alloc (Nat.le_refl _) (.cells #[.int .i64 id, .slice none 0 0] 30)).trans (hb5.mono (by omega)))
                 have HN5 : Hid (w5.heap[wy.heap.size]? = some (.cells #[.int .i64 id, .slice none 0 0] 30 (0, 0))) := Lib.hid ((hb5.block wy.heap.size (by omega)).trans HN4.out)
                 have HO5 : Hid (OwnFd (wy.heap.size + 1) w5 _ up) := Lib.hid ho5
                 have hz := two_cells HN5.out
                 have n0 := hz.1
                 have n1 := hz.2.1
                 have m0 := hz.2.2.1
                 have m1 := hz.2.2.2
                 clear ho5 hb5 hz))
            go_meet
            refine ⟨_, HB5.out.setCell (Nat.le_refl _) _, by rw [set_at HN5.out]; rfl, ?_⟩
            exact ownsRow_setCell_below HO5.out (a := ⟨wy.heap.size, 1, none⟩) (by simp) _
          case rest =>
            obtain ⟨wz, rfl⟩ : ∃ wz, wz = wc := ⟨_, rfl⟩
            obtain ⟨v6, hb6, hn6, ho6⟩ := hcut
            obtain ⟨A6, c6, rfl, _, _⟩ := ho6.row
            have hf6 : wz.heap[wr.heap.size]? = some (.cells #[.string ⟨g.1.toArray⟩, .string ⟨g.2.toArray⟩] 59 (0, 0)) := (hb6.block _ (by have := HFLT.out; omega)).trans HFY.out
            have HB6 := Lib.hid hb6
            have HN6 := Lib.hid hn6
            have HO6 := Lib.hid ho6
            have hz := two_cells hf6
            have z0 := hz.1
            have z1 := hz.2.1
            have hz := two_cells hn6
            have n0 := hz.1
            have n1 := hz.2.1
            have hnlt := lt_of_block hn6
            have HF6 := Lib.hid hf6
            clear hb6 hn6 ho6 hf6 hz
            go_upto_region 13 with fail
            go_cut [] from 56 to 61 (fun wx => ∃ v', Below wy.heap.size wy wx ∧ wx.heap[wy.heap.size]? = some (.cells #[.int .i64 id, v'] 30 (0, 0)) ∧ OwnFd (wy.heap.size + 1) wx v' (up ++ [g]))
            case first =>
              go_wp2_with (first
                | (at_builtin; refine wpList_append_fd _ rfl (.tmp 57) (.tmp 59) rfl (wy.heap.size + 1) _ up rfl (HO6.out.below ((Below.refl _ _).alloc (Nat.le_refl _) _)) _ 1 1 [g] rfl rfl (frow_new _ g 59) (by have := HM.out; omega) (by simp; omega) ?_
                   intro v7 w7 ho7 hb7 _
                   obtain ⟨A7, c7, rfl, _, _⟩ := ho7.row
                   have HB7 : Hid (Below wy.heap.size wy w7) := Lib.hid (HB6.out.trans ((((Below.refl _ wz).alloc (Nat.le_refl _) _).mono (by omega)).trans (hb7.mono (by omega))))
                   have HN7 : Hid (w7.heap[wy.heap.size]? = some (.cells #[.int .i64 id, .slice A6 up.length c6] 30 (0, 0))) := Lib.hid ((hb7.block wy.heap.size (by omega)).trans ((((Below.refl wz.heap.size wz).alloc (Nat.le_refl _) _).block wy.heap.size hnlt).trans HN6.out))
                   have HO7 : Hid (OwnFd (wy.heap.size + 1) w7 _ (up ++ [g])) := Lib.hid ho7
                   have hz := two_cells HN7.out
                   have n0 := hz.1
                   have n1 := hz.2.1
                   have m0 := hz.2.2.1
                   have m1 := hz.2.2.2
                   clear ho7 hb7 hz))
              go_meet
              refine ⟨_, HB7.out.setCell (Nat.le_refl _) _, by rw [set_at HN7.out]; rfl, ?_⟩
              rw [show up.length + 1 = (up ++ [g]).length by simp]
              exact ownsRow_setCell_below HO7.out (a := ⟨wy.heap.size, 1, none⟩) (by simp) _
            case rest =>
              obtain ⟨wu, rfl⟩ : ∃ wu, wu = wc := ⟨_, rfl⟩
              obtain ⟨v8, hb8, hn8, ho8⟩ := hcut
              obtain ⟨A8, c8, rfl, _, hr8⟩ := ho8.row
              obtain ⟨M8, hM8⟩ : ∃ M8, M8 = (up ++ [g]).length := ⟨_, rfl⟩
              rw [← hM8] at hn8 ho8
              have HMAY : Hid (∀ w', Below wu.heap.size wu w' → Calls Tryz.prog 27 #[docV id A8 M8 c8] w' fun e w'' => e = .returned (.int .i64 (mayD (up ++ [g]))) ∧ Below w'.heap.size w' w'') := Lib.hid fun w' h =>
                ref08_May id A8 _ c8 (up ++ [g]) w' hM8.symm (hr8.later h) (by rw [hM8]; simp; have := HM.out; omega) fun f hf => by
                  rcases List.mem_append.1 hf with hf | hf
                  · have a1 := goodUp_name l k f (by rw [← HUP.out]; exact hf)
                    have a2 := goodUp_text l k f (by rw [← HUP.out]; exact hf)
                    omega
                  · rw [List.mem_singleton.1 hf, HG.out]
                    have a1 := goodF_name k l[k]
                    have a2 := goodF_text k l[k]
                    omega
              have hz := two_cells hn8
              have n0 := hz.1
              have n1 := hz.2.1
              have HGS : Hid (goodUp l (k + 1) = if mayD (up ++ [g]) = 0 then up ++ [g] else up) := Lib.hid (by
                rw [goodUp, ← HUP.out, HG.out, List.getD_eq_getElem?_getD, List.getElem?_eq_getElem hkl]
                rfl)
              have HB8 := Lib.hid hb8
              have HO8 := Lib.hid ho8
              have hnlt8 := lt_of_block hn8
              have HN8 := Lib.hid hn8
              obtain ⟨e8, he8⟩ : ∃ e8, e8 = mayD (up ++ [g]) := ⟨_, rfl⟩
              rw [← he8] at HMAY HGS
              clear hb8 hn8 ho8 hr8 hz he8 hM8
              have hny := HG3.out.2.1
              by_cases h8 : e8 = 0
              · subst h8
                have HGT : Hid (goodUp l (k + 1) = up ++ [g]) := Lib.hid (by rw [HGS.out, if_pos rfl])
                go_wp2_with (first
                | (go_at_call 27; (with_reducible refine (HMAY.out _ (Below.refl _ _)).mono ?_); rintro e w9 ⟨rfl, hb9⟩
                   have hg9 : GoodW w id (some ⟨b1, o1, none⟩) n c (.slice Av m cv) w9 := HG3.out.below (HB8.out.trans (hb9.mono HB8.out.size))
                   have hn9 : w9.heap[wy.heap.size]? = some (.cells #[.int .i64 id, .slice A8 M8 c8] 30 (0, 0)) := (hb9.block _ hnlt8).trans HN8.out
                   have HO9 : Hid (OwnFd (wy.heap.size + 1) w9 (.slice A8 M8 c8) (up ++ [g])) := Lib.hid (HO8.out.below hb9)
                   have HU9 : Hid (OwnFd (w.heap.size + 4) w9 (.slice Av m cv) up) := Lib.hid (HM2.out.below (HB8.out.trans (hb9.mono HB8.out.size)))
                   have hz := two_cells hn9
                   have n0 := hz.1
                   have n1 := hz.2.1
                   have hz := two_cells hg9.2.2.2.2.1
                   have s0 := hz.1
                   have s1 := hz.2.1
                   have s2 := hz.2.2.1
                   have s3 := hz.2.2.2
                   have HG9 := Lib.hid hg9
                   clear hg9 hn9 hb9 hz))
                refine ⟨⟨k + 1, _, by omega, by omega, by go_num, HG9.out.put _, ?_⟩, by simp [intOf]; omega⟩
                rw [HGT.out]
                exact (show OwnFd (wy.heap.size + 1) _ _ _ from ownsRow_setCell_below (ownsRow_setCell_below HO9.out (a := ⟨w.heap.size + 1 + 1, 0, none⟩) (by simp; omega) _) (a := ⟨w.heap.size + 1 + 1, 1, none⟩) (by simp; omega) _).low (by omega)
              · have HGT : Hid (goodUp l (k + 1) = up) := Lib.hid (by rw [HGS.out, if_neg h8])
                go_wp2_with (first
                | (go_at_call 27; (with_reducible refine (HMAY.out _ (Below.refl _ _)).mono ?_); rintro e w9 ⟨rfl, hb9⟩
                   have hg9 : GoodW w id (some ⟨b1, o1, none⟩) n c (.slice Av m cv) w9 := HG3.out.below (HB8.out.trans (hb9.mono HB8.out.size))
                   have hn9 : w9.heap[wy.heap.size]? = some (.cells #[.int .i64 id, .slice A8 M8 c8] 30 (0, 0)) := (hb9.block _ hnlt8).trans HN8.out
                   have HO9 : Hid (OwnFd (wy.heap.size + 1) w9 (.slice A8 M8 c8) (up ++ [g])) := Lib.hid (HO8.out.below hb9)
                   have HU9 : Hid (OwnFd (w.heap.size + 4) w9 (.slice Av m cv) up) := Lib.hid (HM2.out.below (HB8.out.trans (hb9.mono HB8.out.size)))
                   have hz := two_cells hn9
                   have n0 := hz.1
                   have n1 := hz.2.1
                   have hz := two_cells hg9.2.2.2.2.1
                   have s0 := hz.1
                   have s1 := hz.2.1
                   have s2 := hz.2.2.1
                   have s3 := hz.2.2.2
                   have HG9 := Lib.hid hg9
                   clear hg9 hn9 hb9 hz))
                refine ⟨⟨k + 1, _, by omega, by omega, by go_num, HG9.out, ?_⟩, by simp [intOf]; omega⟩
                rw [HGT.out]
                exact HU9.out
    · have hend : min l.length 4 = k := by rw [HL.out]; omega
      have hup : goodD l = up := by rw [goodD, hend, HUP.out]
      have HEND := Lib.hid hup
      have hz := two_cells hgw.2.2.2.2.1
      have s0 := hz.1
      have s1 := hz.2.1
      have hz := two_cells hgw.2.2.2.1
      have r0 := hz.1
      have r1 := hz.2.1
      have r2 := hz.2.2.1
      have r3 := hz.2.2.2
      have h1 : (n : Int) ≤ k ∨ (k : Int) < n ∧ (4 : Int) ≤ k := by omega
      clear hlt hz hend hup
      rcases h1 with h1 | ⟨h1, h2⟩
      all_goals
        go_wp2
        obtain ⟨we, hwe⟩ : ∃ we, we = (wr.setCell ⟨w.heap.size + 1, 0, none⟩ (.int .i64 id)).setCell ⟨w.heap.size + 1, 1, none⟩ (.slice Av m cv) := ⟨_, rfl⟩
        have h3 : we.heap[w.heap.size + 1]? = some (.cells #[.int .i64 id, .slice Av m cv] 30 (0, 0)) := by rw [hwe, set_at (set_at hgw.2.2.2.1)]; rfl
        have hbe : Below w.heap.size w we := by rw [hwe]; exact (hgw.1.setCell (by simp) _).setCell (by simp) _
        have hoe : OwnFd w.heap.size we (.slice Av m cv) up := by
          rw [hwe]
          exact (show OwnFd (w.heap.size + 4) _ _ _ from ownsRow_setCell_below (ownsRow_setCell_below hown (a := ⟨w.heap.size + 1, 0, none⟩) (by simp) _) (a := ⟨w.heap.size + 1, 1, none⟩) (by simp) _).low (by omega)
        rw [← hwe]
        obtain ⟨d0, d1, _, _⟩ := two_cells h3
        exact bodyPost_ret (v := .agg #[.int .i64 id, .slice Av m cv]) (by simp [results, Tryz.results11, go_sem, d0, d1]) rfl ⟨_, rfl, by rw [HEND.out]; exact hoe, hbe⟩
end Go.Proofs.YtgcdekaceimdnaaGreat
