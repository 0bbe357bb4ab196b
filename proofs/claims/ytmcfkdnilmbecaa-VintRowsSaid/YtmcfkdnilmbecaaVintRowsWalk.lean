/- The walk of VintRows: it returns true for every input, and nothing that was there turns. -/
import Derived.Test.YtmcfkdnilmbecaaMade04
import Derived.Test.YtmcfkdnilmbecaaRises04
import Derived.Test.YtmcfkdnilmbecaaVars
namespace Go.Proofs.Ytmcfkdnilmbecaa
open Go Go.RowKit
set_option linter.unusedVariables false

/-- Numbers' bytes, one behind the other. -/
def catB : List Nat → List UInt8
  | [] => []
  | n :: r => putB n ++ catB r
theorem catB_append : ∀ a b : List Nat, catB (a ++ b) = catB a ++ catB b
  | [], _ => rfl
  | n :: r, b => by simp [catB, catB_append r b]
theorem catB_length : ∀ {ns : List Nat}, (∀ n ∈ ns, n < 9223372036854775808) → (catB ns).length ≤ 9 * ns.length
  | [], _ => by simp [catB]
  | n :: r, h => by
    have h1 := putB_nine (h n (by simp))
    have h2 := catB_length (ns := r) fun x hx => h x (by simp [hx])
    rw [catB, List.length_append, List.length_cons]
    omega
theorem getZ_cat {ns : List Nat} {j : Nat} (hj : j < ns.length) (h : ∀ n ∈ ns, n < 9223372036854775808) :
    getZ (catB ns) ((catB (ns.take j)).length : Int) = ((ns.getD j 0 : Int), ((catB (ns.take (j + 1))).length : Int), 0) ∧ (catB (ns.take (j + 1))).length = (catB (ns.take j)).length + (putB (ns.getD j 0)).length := by
  have e : ns = ns.take j ++ (ns.getD j 0 :: ns.drop (j + 1)) := by
    rw [List.getD_eq_getElem?_getD, List.getElem?_eq_getElem hj]
    simp
  have e2 : (catB (ns.take (j + 1))).length = (catB (ns.take j)).length + (putB (ns.getD j 0)).length := by
    rw [List.take_succ_eq_append_getElem hj, catB_append, List.length_append, List.getD_eq_getElem?_getD, List.getElem?_eq_getElem hj]
    simp [catB]
  have hn : ns.getD j 0 < 9223372036854775808 := h _ (by rw [List.getD_eq_getElem?_getD, List.getElem?_eq_getElem hj]; simp)
  refine ⟨?_, e2⟩
  have hz := getZ_put hn (catB (ns.take j)) (catB (ns.drop (j + 1)))
  rw [← e2] at hz
  rw [← hz]
  congr 1
  conv => lhs; rw [e, catB_append, catB]
theorem getZ_end (l : List UInt8) : getZ l (l.length : Int) = (0, 0, 2) := getZ_form (Nat.le_refl _) (by rw [List.drop_length]; rfl)

def nats (ns : List Nat) : List Int := ns.map fun (n : Nat) => (n : Int)
theorem nats_getD {ns : List Nat} {j : Nat} (hj : j < ns.length) : (nats ns).getD j 0 = ((ns.getD j 0 : Nat) : Int) := by
  simp [nats, List.getD_eq_getElem?_getD, hj]

theorem owned_grown_other {w w' : World} {base base' size size' : Nat} {e e' : TypeId} {v v' : Value} {n n' : Nat} {xs xs' : List Value} (h : w.ownsRow base e size v n xs) (h' : w.ownsRow base' e' size' v' n' xs') (ht : e' ≠ e) (hg : w.grownBy w' v'.ownBlock) : w'.ownsRow base e size v n xs :=
  owned_keep h fun g hgg => hg.block g (h.lt g hgg).2 fun e0 => owned_apart2 h' h ht hgg e0.symm
theorem catB_snoc (ns : List Nat) (n : Nat) : catB (ns ++ [n]) = catB ns ++ putB n := by rw [catB_append]; simp [catB]
theorem nats_snoc (ns : List Nat) (n : Nat) : ints (nats (ns ++ [n])) = ints (nats ns) ++ [.int .i64 (n : Int)] := by simp [nats, ints]
/-- Behind so many numbers: they lie in a list of the call's own, and their bytes behind one another. -/
def RowsRel (len : Nat) (w : World) (vb vo i : Value) (wr : World) : Prop :=
  ∃ ns : List Nat, ns.length ≤ 20 ∧ ns.length ≤ len ∧ i = .int .i64 (ns.length : Int) ∧ (∀ n ∈ ns, n < 9223372036854775808) ∧ Own w.heap.size wr vb (catB ns) ∧ wr.ownsRow w.heap.size 3 1 vo ns.length (ints (nats ns)) ∧ Below w.heap.size w wr
def RowsRel2 (ns : List Nat) (w : World) (r t i : Value) (wr : World) : Prop :=
  r = .bool false ∧ ∃ j : Nat, j ≤ ns.length ∧ i = .int .i64 (j : Int) ∧ t = .int .i64 ((catB (ns.take j)).length : Int) ∧ Below w.heap.size w wr

set_option maxHeartbeats 2000000 in
set_option maxRecDepth 100000 in
theorem walk_VintRows (a0 : Option Addr) (len0 cap0 : Nat) (z0 : List Int) (w : World) (w0 : InRow .i64 w a0 len0 cap0 z0) :
    Calls Try.prog 8 #[.slice a0 len0 cap0] w fun e w' => e = .returned (.bool true) ∧ Below w.heap.size w w' := by
  obtain ⟨hlc, hcx, hzl, hrz, hwz⟩ := w0
  obtain ⟨i0, hi0, hz0, hz1, hz2⟩ := info_parts info_int
  have HRZ : Hid (Row w w.heap.size a0 (ints z0)) := Lib.hid hrz
  have HWZ := Lib.hid hwz
  clear hrz hwz
  unfold maxLen at hcx
  go_enter Try.func8, Try.ntmps8
  go_wp2
  go_loopw [3, 4, 5] (fun vb vo i wr => RowsRel len0 w vb vo i wr) (fun _ _ i _ => len0 - (intOf i).toNat)
  case atStart => exact ⟨[], by simp, by simp, rfl, by simp, World.ownsRow_nil _ _ _ _, World.ownsRow_nil _ _ _ _, Below.refl _ _⟩
  case round =>
    obtain ⟨ns, hn20, hnl, rfl, hns, hob, hoo, hbw⟩ := hrel
    have hsz := hbw.size
    obtain ⟨k, hk⟩ : ∃ k, k = ns.length := ⟨_, rfl⟩
    rw [← hk] at hn20 hnl hoo
    rw [← hk]
    have HK := Lib.hid hk
    have HNS := Lib.hid hns
    clear hk hns
    by_cases hlt : k < len0 ∧ k < 20
    · obtain ⟨hkl, hk20⟩ := hlt
      have d1 : decide ((k : Int) < 20) = true := decide_eq_true (by omega)
      obtain ⟨b1, o1, e1, _, hc1⟩ := row_int' (HRZ.out.below hbw) (k := k) (by omega)
      subst e1
      obtain ⟨n, hn, hneg, hpos⟩ := made_nat (wf_bd (HWZ.out (z0.getD k 0) (by rw [List.getD_eq_getElem?_getD, List.getElem?_eq_getElem (by omega)]; simp)))
      have hbd := wf_bd (HWZ.out (z0.getD k 0) (by rw [List.getD_eq_getElem?_getD, List.getElem?_eq_getElem (by omega)]; simp))
      obtain ⟨x, hx⟩ : ∃ x, x = z0.getD k 0 := ⟨_, rfl⟩
      rw [← hx] at hc1 hneg hpos hbd
      have HN := Lib.hid hneg
      have HP := Lib.hid hpos
      have HOB := Lib.hid hob
      have HOO := Lib.hid hoo
      clear hneg hpos hx hob hoo
      have hcl := catB_length HNS.out
      rw [← HK.out] at hcl
      obtain ⟨Ab, cb, rfl, hcb, hcbx, _⟩ := HOB.out.room
      obtain ⟨Lb, hLb⟩ : ∃ Lb, Lb = (catB ns).length := ⟨_, rfl⟩
      rw [← hLb] at HOB hcb hcl
      rw [← hLb]
      have HLB := Lib.hid hLb
      clear hLb
      go_upto_if 30 with fail
      go_cut [6] from 29 to 33 (fun s wx => s = .int .i64 (n : Int) ∧ wr = wx)
      case first =>
        by_cases h0 : x < 0
        · have hng := HN.out h0
          go_wp2_with fail
          go_meet
          exact ⟨rfl, rfl⟩
        · have hng := HP.out h0
          subst hng
          go_wp2_with fail
          go_meet
          exact ⟨rfl, rfl⟩
      case rest =>
        obtain ⟨rfl, rfl⟩ := hcut
        clear hbd HN HP hc1
        go_wp2_with (at_builtin; refine wpList_append_own _ rfl (.tmp 34) (.tmp 36) 33 rfl w.heap.size 3 i0 _ 1 8 Try.underlying33 hi0 hz0 hz1 hz2 rfl (by omega) _ k (ints (nats ns)) rfl (HOO.out.alloc _) ⟨wr.heap.size, 0, none⟩ 1 1 [.int .i64 (n : Int)] rfl rfl (news_at wr [.int .i64 (n : Int)] 3) (by intro u hu; simp at hu; subst hu; rfl) (by unfold maxLen; omega) (by omega) (by simp; omega) ?_)
        intro v3 w3 hown3 hgrow3 _
        have hb3 : Below w.heap.size w w3 := (hbw.alloc hsz _).grown hgrow3 (by simp; omega) fun k hk => (HOO.out.lt k hk).1
        have hob3 : Own w.heap.size w3 (.slice Ab Lb cb) (catB ns) := owned_grown_other (HOB.out.alloc _) (HOO.out.alloc _) (by decide) hgrow3
        obtain ⟨A', c', he', _, _, hr3⟩ := hob3.room
        have hA' : A' = Ab := by injection he' with h1 h2 h3; exact h1.symm
        subst hA'
        have p1 := vint_Put A' Lb cb (catB ns) n w3 HLB.out.symm hcb hr3 hn (by rw [← HLB.out]; omega)
        rw [← catB_snoc] at p1
        have P1 := Lib.hid p1
        have HB3 := Lib.hid hb3
        have HOWN3 := Lib.hid hown3
        clear p1 hr3 he' hob3 hgrow3 hb3 hown3
        go_wp2_with (go_at_call 10; refine P1.out.mono ?_)
        rintro e w4 ⟨v4, rfl, hown4, hb4⟩
        have hrel2 : RowsRel len0 w v4 v3 (.int .i64 ((k : Int) + 1)) w4 := ⟨ns ++ [n], by rw [List.length_append, ← HK.out]; simp; omega, by rw [List.length_append, ← HK.out]; simp; omega, by rw [List.length_append, ← HK.out]; simp, fun y hy => by
            rcases List.mem_append.1 hy with h | h
            · exact HNS.out y h
            · simp at h; rw [h]; exact hn,
          hown4.low HB3.out.size, by
            rw [List.length_append, ← HK.out, nats_snoc]
            exact owned_below HOWN3.out hb4, HB3.out.trans (hb4.mono HB3.out.size)⟩
        have HREL2 := Lib.hid hrel2
        clear hown4 hb4 hrel2
        go_wp2
        go_roundw
        case rel => exact HREL2.out
        case measure => simp [intOf]; omega
    · obtain ⟨Ab, cb, rfl, hcb, hcbx, hrb⟩ := hob.room
      obtain ⟨Ao, co, rfl, hco, hro⟩ := owned_row hoo
      have hcl := catB_length HNS.out
      rw [← HK.out] at hcl
      obtain ⟨Lb, hLb⟩ : ∃ Lb, Lb = (catB ns).length := ⟨_, rfl⟩
      rw [← hLb] at hcb hcl
      rw [← hLb]
      have HRB := Lib.hid hrb
      have HRO := Lib.hid hro
      have HLB := Lib.hid hLb
      have HBW := Lib.hid hbw
      clear hrb hro hLb hob hoo hbw
      have hd : (k < len0 ∧ ¬ k < 20) ∨ ¬ k < len0 := by omega
      clear hlt
      rcases hd with ⟨h1, h2⟩ | h1
      all_goals
        go_wp2
        go_loopw [2, 7, 8] (fun r t i w2 => RowsRel2 ns wr r t i w2) (fun _ _ i _ => k - (intOf i).toNat)
        case atStart => exact ⟨rfl, 0, Nat.zero_le _, rfl, by simp [catB], Below.refl _ _⟩
        case round =>
          obtain ⟨rfl, j, hj, rfl, rfl, hb2⟩ := hrel
          rw [← HK.out] at hj
          have hs2 := hb2.size
          by_cases hjl : j < k
          · obtain ⟨b2, o2, e2, _, hc2⟩ := row_int' (HRO.out.below hb2) (k := j) (by simp [nats, ← HK.out]; exact hjl)
            subst e2
            rw [nats_getD (by rw [← HK.out]; exact hjl)] at hc2
            obtain ⟨hz, hlen⟩ := getZ_cat (ns := ns) (j := j) (by rw [← HK.out]; exact hjl) HNS.out
            have hq : ns.getD j 0 < 9223372036854775808 := HNS.out _ (by rw [List.getD_eq_getElem?_getD, List.getElem?_eq_getElem (by rw [← HK.out]; exact hjl)]; simp)
            have g1 := vint_Get Ab Lb cb ((catB (ns.take j)).length : Int) (catB ns) _ ((HRB.out.below hb2).more hs2) HLB.out.symm hcb hcbx (by omega)
            have s1 := fun w' => vint_Size (ns.getD j 0) w' hq
            have h9 := putB_nine hq
            have hTl : (catB (ns.take j)).length ≤ 9 * (ns.take j).length := catB_length fun x hx => HNS.out x (List.mem_of_mem_take hx)
            rw [List.length_take, ← HK.out] at hTl
            rw [hz] at g1
            obtain ⟨q, hq'⟩ : ∃ q, q = ns.getD j 0 := ⟨_, rfl⟩
            obtain ⟨T, hT⟩ : ∃ T, T = (catB (ns.take j)).length := ⟨_, rfl⟩
            obtain ⟨T2, hT2⟩ : ∃ T2, T2 = (catB (ns.take (j + 1))).length := ⟨_, rfl⟩
            rw [← hq'] at hc2 g1 s1 h9 hlen
            rw [← hT] at g1 hlen hTl
            rw [← hT2] at g1 hlen
            rw [← hT]
            obtain ⟨Z, hZ⟩ : ∃ Z, Z = (putB q).length := ⟨_, rfl⟩
            rw [← hZ] at s1 hlen h9
            have G1 := Lib.hid g1
            have S1 := Lib.hid s1
            have HT2 := Lib.hid hT2
            have hsum : (T : Int) + (Z : Int) = (T2 : Int) := by omega
            have HB2 := Lib.hid hb2
            have hT180 : T ≤ 180 := by omega
            clear g1 s1 hT hT2 hZ hq' hq hz hlen hb2 hTl
            go_wp2_with (first
              | (go_at_call 13; refine G1.out.mono ?_; rintro e w5 ⟨rfl, hb5⟩; have HB5 := Lib.hid (HB2.out.trans (hb5.mono hs2)); have hc5 := (hb5.cell (p := ⟨b2, o2 + j, none⟩) (World.block_lt_of_cell? _ _ hc2)).trans hc2; clear hb5)
              | (go_at_call 12; refine (S1.out _).mono ?_; rintro e w6 ⟨rfl, rfl⟩))
            go_wp2
            go_roundw
            case rel => exact ⟨rfl, j + 1, by rw [← HK.out]; omega, by go_num, by rw [← HT2.out], HB5.out⟩
            case measure => simp [intOf]; omega
          · have hjk : j = k := by omega
            have ht : (catB (ns.take j)).length = Lb := by rw [hjk, HK.out, List.take_length, HLB.out]
            rw [ht]
            have g1 := vint_Get Ab Lb cb (Lb : Int) (catB ns) _ ((HRB.out.below hb2).more hs2) HLB.out.symm hcb hcbx (by omega)
            rw [show getZ (catB ns) (Lb : Int) = (0, 0, 2) by rw [HLB.out]; exact getZ_end _] at g1
            have G1 := Lib.hid g1
            have HB2 := Lib.hid (HBW.out.trans (hb2.mono hsz))
            have HJ := Lib.hid hjk
            clear g1 ht hb2 hjk
            go_wp2_with (go_at_call 13; refine G1.out.mono ?_)
            rintro e w5 ⟨rfl, hb5⟩
            have HB5 := Lib.hid (HB2.out.trans (hb5.mono HB2.out.size))
            clear hb5
            go_wp2_with (go_at_call 14; refine (law04_lives _).mono ?_)
            rintro e w9 ⟨rfl, hb9⟩
            go_wp2
            go_ret
            exact ⟨rfl, HB5.out.trans (hb9.mono HB5.out.size)⟩
end Go.Proofs.Ytmcfkdnilmbecaa
