/- What New, the statements' own made and lives give. -/
import Derived.Test.YtkflmhpmnceniaaDoorRef03
import Derived.Test.YtkflmhpmnceniaaDoorPut03
import Derived.Test.YtkflmhpmnceniaaDoorNext03
set_option linter.unusedVariables false
namespace Go.Proofs.YtkflmhpmnceniaaDoor
open Go Go.RowKit
open Plain (Rep WS hasB mayB turnB turnedB ones nextB rankB)

theorem rep_none (n : Nat) : Rep (List.replicate n false) [] := by
  refine ⟨⟨List.Pairwise.nil, (fun p hp => absurd hp List.not_mem_nil), (fun p hp => absurd hp List.not_mem_nil), (fun p hp => absurd hp List.not_mem_nil)⟩, fun i => ?_⟩
  have : Plain.getW [] (i / 64) = 0 := rfl
  unfold Plain.memW
  rw [this, Nat.zero_testBit, List.getD_eq_getElem?_getD, List.getElem?_replicate]
  split <;> rfl
theorem newSet_at (w : World) (n : Nat) : SetIs (w.alloc (.cells #[.int .i64 n, .slice none 0 0] 56)) w.heap.size w.heap.size (List.replicate n false) :=
  ⟨[], ⟨Nat.le_refl _, .slice none 0 0, by rw [List.length_replicate]; exact heap_alloc_new w _, World.ownsRow_nil _ _ _ _⟩, rep_none n⟩

/-- What New gives. -/
def NewGot (n : Nat) (w : World) (e : Ending) (w' : World) : Prop := e = .returned (.pointer (some ⟨w.heap.size, 0, none⟩)) ∧ SetIs w' w.heap.size w.heap.size (List.replicate n false) ∧ Below w.heap.size w w'
set_option maxHeartbeats 1000000 in
theorem bits_New (n : Int) (w : World) (hn : n < 9223372036854775808) :
    Calls Tryd.prog 33 #[.int .i64 n] w (NewGot n.toNat w) := by
  have hmx : ∀ (w : World) (ts : Array TypeId) (t : TypeId), (Builtin.max_ ts t #[.int .i64 n, .int .i64 0]).run Tryd.prog w = .ok (.int .i64 (n.toNat : Int)) w := fun w ts t => by rw [run_max_int2]; congr 2; split <;> omega
  have HG := Lib.hid (newSet_at w n.toNat)
  obtain ⟨m, hm⟩ : ∃ m, m = n.toNat := ⟨_, rfl⟩
  rw [← hm] at hmx HG ⊢
  clear hm hn
  go_enter Tryd.func33, Tryd.ntmps33
  go_wp2
  go_ret
  exact ⟨rfl, HG.out, (Below.refl _ _).alloc (Nat.le_refl _) _⟩

/-! ## lives -/

/-- A law's own example gives true; nothing that was there turns. -/
def GaveTrue (w : World) (e : Ending) (w' : World) : Prop := e = .returned (.bool true) ∧ Below w.heap.size w w'
def r70 : List Bool := List.replicate 70 false
def r70a : List Bool := turnB r70 3 true
def r70b : List Bool := turnB r70a 69 true
theorem e70a : (mayB r70.length 3 && !hasB r70 3) = true := by decide +kernel
theorem e70b : (mayB r70a.length 69 && !hasB r70a 69) = true := by decide +kernel
theorem e70c : nextB r70b 4 = 69 := by decide +kernel
theorem e70d : rankB r70b 69 = 1 := by decide +kernel
theorem e70e : (ones r70b).length = 2 := by decide +kernel
theorem l70 : r70.length ≤ big := by decide +kernel
theorem l70a : r70a.length ≤ big := by decide +kernel
theorem l70b : r70b.length ≤ big := by decide +kernel

set_option maxHeartbeats 2000000 in
set_option maxRecDepth 100000 in
theorem law03_lives (w : World) (hT : Tab w) : Calls Tryd.prog 12 #[] w (GaveTrue w) := by
  have HN := Lib.hid (bits_New 70 w (by omega))
  have HP1 : Hid (∀ w1, SetIs w1 w.heap.size w.heap.size r70 → w.heap.size ≤ w1.heap.size → Calls Tryd.prog 26 #[.pointer (some ⟨w.heap.size, 0, none⟩), .int .i64 3] w1 (PutGot w.heap.size w.heap.size r70a true w1)) :=
    Lib.hid fun w1 h hb => by have := set_Put w.heap.size w.heap.size r70 3 w1 h l70 (by omega) (by omega) hb; rwa [e70a] at this
  have HP2 : Hid (∀ w1, SetIs w1 w.heap.size w.heap.size r70a → w.heap.size ≤ w1.heap.size → Calls Tryd.prog 26 #[.pointer (some ⟨w.heap.size, 0, none⟩), .int .i64 69] w1 (PutGot w.heap.size w.heap.size r70b true w1)) :=
    Lib.hid fun w1 h hb => by have := set_Put w.heap.size w.heap.size r70a 69 w1 h l70a (by omega) (by omega) hb; rwa [e70b] at this
  have HX : Hid (∀ w1, SetIs w1 w.heap.size w.heap.size r70b → Tab w1 → Calls Tryd.prog 29 #[.pointer (some ⟨w.heap.size, 0, none⟩), .int .i64 4] w1 (GaveI 69 w1)) :=
    Lib.hid fun w1 h hT => by have := set_Next w.heap.size w.heap.size r70b 4 w1 h l70b (by omega) (by omega) hT; rwa [e70c] at this
  have HR : Hid (∀ w1, SetIs w1 w.heap.size w.heap.size r70b → Calls Tryd.prog 30 #[.pointer (some ⟨w.heap.size, 0, none⟩), .int .i64 69] w1 (GaveI 1 w1)) :=
    Lib.hid fun w1 h => by have := set_Rank w.heap.size w.heap.size r70b 69 w1 h l70b (by omega) (by omega); rwa [e70d] at this
  have HC : Hid (∀ w1, SetIs w1 w.heap.size w.heap.size r70b → Calls Tryd.prog 23 #[.pointer (some ⟨w.heap.size, 0, none⟩)] w1 fun e w' => e = .returned (.int .i64 2) ∧ w1 = w') :=
    Lib.hid fun w1 h => by have := set_Count_is w.heap.size w.heap.size r70b w1 h l70b; rwa [e70e] at this
  have HT := Lib.hid hT
  clear hT
  go_enter Tryd.func12, Tryd.ntmps12
  go_wp2_with (go_at_call 33; (with_reducible refine HN.out.mono ?_))
  rintro e w1 ⟨rfl, hs1, hb1⟩
  have HS1 : Hid (SetIs w1 w.heap.size w.heap.size r70) := hs1
  have HB1 := Lib.hid hb1
  have hz1 := hb1.size
  clear hs1 hb1
  go_wp2_with (go_at_call 26; (with_reducible refine (HP1.out _ HS1.out hz1).mono ?_))
  rintro e w2 ⟨rfl, hs2, ht2⟩
  have HS2 := Lib.hid hs2
  have HB2 := Lib.hid (HB1.out.trans (HS1.out.turned_below ht2))
  have hz2 := HB2.out.size
  clear hs2 ht2
  go_wp2_with (go_at_call 26; (with_reducible refine (HP2.out _ HS2.out hz2).mono ?_))
  rintro e w3 ⟨rfl, hs3, ht3⟩
  have HS3 := Lib.hid hs3
  have HB3 := Lib.hid (HB2.out.trans (HS2.out.turned_below ht3))
  have HT3 := Lib.hid (HT.out.below HB3.out HT.out.lt)
  have hz3 := HB3.out.size
  clear hs3 ht3
  go_wp2_with (go_at_call 29; (with_reducible refine (HX.out _ HS3.out HT3.out).mono ?_))
  rintro e w4 ⟨rfl, hb4⟩
  have HS4 := Lib.hid (HS3.out.below hb4)
  have HB4 := Lib.hid (HB3.out.trans (hb4.mono hz3))
  have hz4 := HB4.out.size
  clear hb4
  go_wp2_with (go_at_call 30; (with_reducible refine (HR.out _ HS4.out).mono ?_))
  rintro e w5 ⟨rfl, hb5⟩
  have HS5 := Lib.hid (HS4.out.below hb5)
  have HB5 := Lib.hid (HB4.out.trans (hb5.mono hz4))
  clear hb5
  go_wp2_with (go_at_call 23; (with_reducible refine (HC.out _ HS5.out).mono ?_); rintro e w' ⟨rfl, rfl⟩)
  go_ret
  exact ⟨rfl, HB5.out⟩

/-! ## made -/

/-- The cells of deeds. -/
def dcells : List (Int × Int) → List Value
  | [] => []
  | d :: ds => .int .i64 d.1 :: .int .i64 d.2 :: dcells ds
theorem dcells_length : ∀ ds : List (Int × Int), (dcells ds).length = ds.length * 2
  | [] => rfl
  | p :: ds => by simp only [dcells, List.length_cons, dcells_length ds]; omega
theorem dcells_at : ∀ (ds : List (Int × Int)) (k : Nat) (p : Int × Int), ds[k]? = some p → (dcells ds)[k * 2]? = some (.int .i64 p.1) ∧ (dcells ds)[k * 2 + 1]? = some (.int .i64 p.2)
  | [], k, p, h => by simp at h
  | q :: ds, 0, p, h => by
    simp only [List.getElem?_cons_zero, Option.some.injEq] at h
    subst h
    exact ⟨rfl, rfl⟩
  | q :: ds, k + 1, p, h => by
    rw [List.getElem?_cons_succ] at h
    have ih := dcells_at ds k p h
    rw [dcells, show (k + 1) * 2 = k * 2 + 1 + 1 by omega]
    exact ih
theorem row_deed {w : World} {B : Nat} {A : Option Addr} {ds : List (Int × Int)} (h : Row w B A (dcells ds)) {k : Nat} (hk : k < ds.length) :
    ∃ b off, A = some ⟨b, off, none⟩ ∧ b < B ∧ w.cell? ⟨b, off + k * 2, none⟩ = some (.int .i64 (ds[k]'hk).1) ∧ w.cell? ⟨b, off + k * 2 + 1, none⟩ = some (.int .i64 (ds[k]'hk).2) := by
  obtain ⟨b, off, rfl, hb, hc⟩ := h.at_ (by rw [dcells_length]; omega)
  have h2 := dcells_at ds k _ (List.getElem?_eq_getElem hk)
  exact ⟨b, off, rfl, hb, hc _ _ h2.1, by rw [Nat.add_assoc]; exact hc _ _ h2.2⟩
/-- What a walk is told of a slice of deeds that came in. -/
def InDeeds (w : World) (a : Option Addr) (len cap : Nat) (ds : List (Int × Int)) : Prop :=
  len ≤ cap ∧ cap ≤ maxLen ∧ ds.length = len ∧ Row w w.heap.size a (dcells ds) ∧ ∀ d ∈ ds, (-9223372036854775808 ≤ d.1 ∧ d.1 < 9223372036854775808) ∧ (-9223372036854775808 ≤ d.2 ∧ d.2 < 9223372036854775808)
theorem InDeeds.below {w w' : World} {a : Option Addr} {len cap : Nat} {ds : List (Int × Int)} (h : InDeeds w a len cap ds) (hb : Below w.heap.size w w') : InDeeds w' a len cap ds :=
  ⟨h.1, h.2.1, h.2.2.1, (h.2.2.2.1.below hb).more hb.size, h.2.2.2.2⟩

/-- A set and the document's, behind deeds. -/
def Both (w w' : World) (B : Nat) (v : Value) (r : List Bool) : Prop :=
  SetIs w' w.heap.size B r ∧ w'.ownsRow w.heap.size 4 1 v r.length (bcells r) ∧ Below w.heap.size w w'
def MadeGot (n : Nat) (w : World) (e : Ending) (w' : World) : Prop :=
  ∃ B v r, e = .returned (.tuple #[.pointer (some ⟨B, 0, none⟩), v, .bool true]) ∧ r.length = n ∧ Both w w' B v r

theorem put_turned (r : List Bool) (i : Int) : (mayB r.length i && !hasB r i) = turnedB r i true := by
  unfold turnedB
  cases h : mayB r.length i
  · rfl
  · unfold mayB at h
    simp only [Bool.and_eq_true, decide_eq_true_eq] at h
    unfold hasB
    simp [h.1]
theorem cut_turned (r : List Bool) (i : Int) : hasB r i = turnedB r i false := by
  unfold turnedB hasB mayB
  by_cases h0 : 0 ≤ i
  · by_cases hl : i < r.length
    · simp [h0, hl]
    · have : r.getD i.toNat false = false := by rw [List.getD_eq_getElem?_getD, List.getElem?_eq_none (by omega)]; rfl
      rw [this]
      simp [hl]
  · simp [h0]

def MadeRel (len N B : Nat) (w1 : World) (v s i : Value) (wr : World) : Prop :=
  ∃ (m : Nat) (r : List Bool) (vo : Value), vo = v ∧ m ≤ len ∧ i = .int .i64 m ∧ s = .bool true ∧ r.length = N ∧ Both w1 wr B v r

set_option maxHeartbeats 8000000 in
set_option maxRecDepth 100000 in
theorem law03_made (n : Int) (a : Option Addr) (len cap : Nat) (ds : List (Int × Int)) (w : World) (hn : n ≤ 200) (hn0 : -9223372036854775808 ≤ n) (hd : InDeeds w a len cap ds) (hT : Tab w) :
    Calls Tryd.prog 9 #[.int .i64 n, .slice a len cap] w (MadeGot n.toNat w) := by
  obtain ⟨i0, hi0, hz0, hz1, hz2⟩ := info_parts info_bool
  have HN := Lib.hid (bits_New n w (by omega))
  have hmx : ∀ (w : World) (ts : Array TypeId) (t : TypeId), (Builtin.max_ ts t #[.int .i64 n, .int .i64 0]).run Tryd.prog w = .ok (.int .i64 (n.toNat : Int)) w := fun w ts t => by rw [run_max_int2]; congr 2; split <;> omega
  obtain ⟨hlc, hcm, hdl, hrow, hdr⟩ := hd
  subst hdl
  have HR := Lib.hid hrow
  have HD := Lib.hid hdr
  have HT := Lib.hid hT
  have hN : n.toNat ≤ 200 := by omega
  obtain ⟨N, hNe⟩ : ∃ N, N = n.toNat := ⟨_, rfl⟩
  rw [← hNe] at hmx HN hN ⊢
  have H0 := Lib.hid hn0
  have H1 := Lib.hid hn
  unfold maxLen at hcm
  clear hrow hdr hT hNe hn0 hn
  go_enter Tryd.func9, Tryd.ntmps9
  go_wp2_with (go_at_call 33; (with_reducible refine HN.out.mono ?_))
  rintro e w1 ⟨rfl, hs1, hb1⟩
  have HS1 := Lib.hid hs1
  have HB1 := Lib.hid hb1
  have hz1' := hb1.size
  clear hs1 hb1
  go_wp2_with (at_make; refine wpList_make_full _ rfl _ _ 24 rfl w.heap.size 4 i0 _ 1 Tryd.underlying24 hi0 hz0 hz1 _ _ _ _ N rfl rfl rfl rfl (by rw [hz2]; omega) (by unfold maxLen; omega) hz1' ?_)
  intro w2 hown hgrow
  have hrep : (madeCells #[Value.bool false] N).toList = bcells (List.replicate N false) := by
    rw [toList_madeCells_one, bcells, List.map_replicate]
  rw [hrep] at hown
  have hb2 : Below w1.heap.size w1 w2 := (Below.refl _ _).grown hgrow (Nat.le_refl _) (fun k hk => by cases hk)
  have HBOTH : Hid (Both w w2 w.heap.size (.slice (some ⟨w1.heap.size, 0, none⟩) N N) (List.replicate N false)) := Lib.hid ⟨HS1.out.below hb2, by rw [List.length_replicate]; exact hown, HB1.out.trans (hb2.mono hz1')⟩
  obtain ⟨B, hBe⟩ : ∃ B, B = w.heap.size := ⟨_, rfl⟩
  obtain ⟨V, hVe⟩ : ∃ V, V = Value.slice (some ⟨w1.heap.size, 0, none⟩) N N := ⟨_, rfl⟩
  have HBE := Lib.hid hBe
  have HVE := Lib.hid hVe
  clear hown hgrow hb2 hrep
  go_wp2
  rw [← hVe]
  have HBOTH2 : Hid (Both w w2 B V (List.replicate N false)) := by rw [HVE.out, HBE.out]; exact HBOTH
  rw [← hBe]
  clear hBe hVe HBOTH
  go_loopw [8, 9, 10] (MadeRel ds.length N B w) (fun _ _ i _ => ds.length - (intOf i).toNat)
  case atStart => exact ⟨0, _, _, rfl, Nat.zero_le _, rfl, rfl, by simp, HBOTH2.out⟩
  case round =>
    obtain ⟨m, r, v, rfl, hm, rfl, rfl, hrl, hboth⟩ := hrel
    obtain ⟨hset, hown, hbw⟩ := hboth
    have HRL := Lib.hid hrl
    have HSR := Lib.hid hset
    have HOR := Lib.hid hown
    have HBR := Lib.hid hbw
    have hzr := hbw.size
    have hrb : r.length ≤ big := by unfold big; omega
    have HRB := Lib.hid hrb
    clear hset hown hbw hrl hrb
    by_cases hlt : m < ds.length
    · by_cases h60 : m < 60
      · obtain ⟨b1, o1, e1, _, hc1, hc2⟩ := row_deed (HR.out.below HBR.out) hlt
        subst e1
        obtain ⟨⟨hx0, hx1⟩, hy0, hy1⟩ := HD.out _ (List.getElem_mem hlt)
        obtain ⟨x, hxe⟩ : ∃ x, x = (ds[m]'hlt).1 := ⟨_, rfl⟩
        obtain ⟨y, hye⟩ : ∃ y, y = (ds[m]'hlt).2 := ⟨_, rfl⟩
        rw [← hxe] at hc1 hx0 hx1
        rw [← hye] at hc2 hy0 hy1
        have HTR := Lib.hid (HT.out.below HBR.out HT.out.lt)
        have HTURN := Lib.hid (fun b => ref03_Turn w.heap.size v r.length r y b wr rfl HOR.out HRB.out hy1 hy0 hzr)
        have hd1 : decide (m < ds.length) = true := by simpa using hlt
        have hd2 : decide ((m : Int) < 60) = true := by simp; omega
        have hml : (m : Int) < ds.length := by omega
        have HX0 := Lib.hid hx0
        have HX1 := Lib.hid hx1
        have HY0 := Lib.hid hy0
        have HY1 := Lib.hid hy1
        clear hxe hye hx0 hx1 hy0 hy1
        by_cases hk0 : x = 0
        · subst hk0
          have HT1 := Lib.hid (HTURN.out true)
          have HP : Hid (∀ w2, SetIs w2 w.heap.size B r → w.heap.size ≤ w2.heap.size → Calls Tryd.prog 26 #[.pointer (some ⟨B, 0, none⟩), .int .i64 y] w2 (PutGot w.heap.size B (turnB r y true) (turnedB r y true) w2)) :=
            Lib.hid fun w2 h hb => by rw [← put_turned]; exact set_Put w.heap.size B r y w2 h HRB.out HY1.out HY0.out hb
          have hlen2 := Plain.turnB_length r y true
          have HL2 := Lib.hid hlen2
          obtain ⟨T, hT⟩ : ∃ T, T = turnedB r y true := ⟨_, rfl⟩
          rw [← hT] at HT1 HP
          obtain ⟨r2, hr2⟩ : ∃ r2, r2 = turnB r y true := ⟨_, rfl⟩
          rw [← hr2] at HT1 HP HL2
          clear hT hr2 hlen2 HTURN
          go_wp2_with (go_at_call 28; (with_reducible refine HT1.out.mono ?_))
          rintro e w2 ⟨v', rfl, hown2, hb2⟩
          have HS2 := Lib.hid (HSR.out.below hb2)
          have HO2 := Lib.hid hown2
          have HB2 := Lib.hid (HBR.out.trans (hb2.mono hzr))
          have hz2' := HB2.out.size
          clear hown2 hb2
          go_wp2_with (go_at_call 26; (with_reducible refine (HP.out _ HS2.out hz2').mono ?_))
          rintro e w3 ⟨rfl, hs3, ht3⟩
          have HBB : Hid (Both w w3 B v' r2) := Lib.hid ⟨hs3, HS2.out.row ht3 HO2.out (by decide) (by decide), HB2.out.trans (HS2.out.turned_below ht3)⟩
          clear hs3 ht3
          go_wp2
          go_roundw
          case rel => exact ⟨m + 1, r2, v', rfl, by omega, by go_num, rfl, by rw [HL2.out]; exact HRL.out, HBB.out⟩
          case measure => simp [intOf]; omega
        · by_cases hk1 : x = 1
          · subst hk1
            have HT1 := Lib.hid (HTURN.out false)
            have HP : Hid (∀ w2, SetIs w2 w.heap.size B r → w.heap.size ≤ w2.heap.size → Calls Tryd.prog 27 #[.pointer (some ⟨B, 0, none⟩), .int .i64 y] w2 (PutGot w.heap.size B (turnB r y false) (turnedB r y false) w2)) :=
              Lib.hid fun w2 h hb => by rw [← cut_turned]; exact set_Cut w.heap.size B r y w2 h HRB.out HY1.out HY0.out 
            have hlen2 := Plain.turnB_length r y false
            have HL2 := Lib.hid hlen2
            obtain ⟨T, hT⟩ : ∃ T, T = turnedB r y false := ⟨_, rfl⟩
            rw [← hT] at HT1 HP
            obtain ⟨r2, hr2⟩ : ∃ r2, r2 = turnB r y false := ⟨_, rfl⟩
            rw [← hr2] at HT1 HP HL2
            clear hT hr2 hlen2 HTURN
            go_wp2_with (go_at_call 28; (with_reducible refine HT1.out.mono ?_))
            rintro e w2 ⟨v', rfl, hown2, hb2⟩
            have HS2 := Lib.hid (HSR.out.below hb2)
            have HO2 := Lib.hid hown2
            have HB2 := Lib.hid (HBR.out.trans (hb2.mono hzr))
            have hz2' := HB2.out.size
            clear hown2 hb2
            go_wp2_with (go_at_call 27; (with_reducible refine (HP.out _ HS2.out hz2').mono ?_))
            rintro e w3 ⟨rfl, hs3, ht3⟩
            have HBB : Hid (Both w w3 B v' r2) := Lib.hid ⟨hs3, HS2.out.row ht3 HO2.out (by decide) (by decide), HB2.out.trans (HS2.out.turned_below ht3)⟩
            clear hs3 ht3
            go_wp2
            go_roundw
            case rel => exact ⟨m + 1, r2, v', rfl, by omega, by go_num, rfl, by rw [HL2.out]; exact HRL.out, HBB.out⟩
            case measure => simp [intOf]; omega
          · have e0 : (x == 0) = false := by simpa using hk0
            have e1 : (x == 1) = false := by simpa using hk1
            obtain ⟨A, c, rfl, hvc, hvr⟩ := owned_row HOR.out
            have HVR := Lib.hid hvr
            have HH := Lib.hid (fun w2 h => set_Has w.heap.size B r y w2 h HRB.out HY1.out HY0.out)
            have HRH := Lib.hid (fun w2 h => ref03_Has A r.length c r y w2 rfl h HRB.out HY1.out HY0.out)
            have HX := Lib.hid (fun w2 h hT => set_Next w.heap.size B r y w2 h HRB.out HY1.out HY0.out hT)
            have HRX := Lib.hid (fun w2 h => ref03_Next A r.length c r y w2 rfl h HRB.out HY1.out HY0.out)
            have HK := Lib.hid (fun w2 h => set_Rank w.heap.size B r y w2 h HRB.out HY1.out HY0.out)
            have HRK := Lib.hid (fun w2 h => ref03_Rank A r.length c r y w2 rfl h HRB.out HY1.out HY0.out)
            obtain ⟨T, hT⟩ : ∃ T, T = hasB r y := ⟨_, rfl⟩
            rw [← hT] at HH HRH
            obtain ⟨X, hX⟩ : ∃ X, X = nextB r y := ⟨_, rfl⟩
            rw [← hX] at HX HRX
            obtain ⟨K, hK⟩ : ∃ K, K = rankB r y := ⟨_, rfl⟩
            rw [← hK] at HK HRK
            clear hT hX hK hvr hvc HTURN hk0 hk1
            go_wp2_with (go_at_call 31; (with_reducible refine (HH.out _ HSR.out).mono ?_))
            rintro e w2 ⟨rfl, hb2⟩
            have HS2 := Lib.hid (HSR.out.below hb2)
            have HV2 := Lib.hid ((HVR.out.below hb2).more hb2.size)
            have HB2 := Lib.hid (HBR.out.trans (hb2.mono hzr))
            have HT2 := Lib.hid (HTR.out.below hb2 HTR.out.lt)
            have HO2 := Lib.hid (owned_below HOR.out hb2)
            have hz2' := HB2.out.size
            clear hb2
            go_wp2_with (first
              | (go_at_call 32; (with_reducible refine (HRH.out _ HV2.out).mono ?_); rintro e w' ⟨rfl, rfl⟩)
              | (go_at_call 29; (with_reducible refine (HX.out _ HS2.out HT2.out).mono ?_)))
            rintro e w3 ⟨rfl, hb3⟩
            have HS3 := Lib.hid (HS2.out.below hb3)
            have HV3 := Lib.hid ((HV2.out.below hb3).more hb3.size)
            have HB3 := Lib.hid (HB2.out.trans (hb3.mono hz2'))
            have HO3 := Lib.hid (owned_below HO2.out hb3)
            have hz3' := HB3.out.size
            clear hb3
            go_wp2_with (first
              | (go_at_call 34; (with_reducible refine (HRX.out _ HV3.out).mono ?_); rintro e w' ⟨rfl, rfl⟩)
              | (go_at_call 30; (with_reducible refine (HK.out _ HS3.out).mono ?_)))
            rintro e w4 ⟨rfl, hb4⟩
            have HS4 := Lib.hid (HS3.out.below hb4)
            have HV4 := Lib.hid ((HV3.out.below hb4).more hb4.size)
            have HB4 := Lib.hid (HB3.out.trans (hb4.mono hz3'))
            have HO4 := Lib.hid (owned_below HO3.out hb4)
            clear hb4
            go_wp2_with (go_at_call 35; (with_reducible refine (HRK.out _ HV4.out).mono ?_); rintro e w' ⟨rfl, rfl⟩)
            go_roundw
            case rel => exact ⟨m + 1, r, _, rfl, by omega, by go_num, rfl, HRL.out, HS4.out, HO4.out, HB4.out⟩
            case measure => simp [intOf]; omega
      · have hd1 : decide (m < ds.length) = true := by simpa using hlt
        have hd2 : decide ((m : Int) < 60) = false := by simp; omega
        go_wp2
        go_ret3
        exact ⟨B, v, r, rfl, HRL.out, HSR.out, HOR.out, HBR.out⟩
    · have hd1 : decide (m < ds.length) = false := by simpa using hlt
      go_wp2
      go_ret3
      exact ⟨B, v, r, rfl, HRL.out, HSR.out, HOR.out, HBR.out⟩
end Go.Proofs.YtkflmhpmnceniaaDoor
