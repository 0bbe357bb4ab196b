/- What the document's own Words answers: the words of the bytes, in new memory; nothing that was there turns. For every text of at most 2^28 bytes. -/
import Derived.Test.YthpecegifilgoaaRefText
import Derived.Test.YthpecegifilgoaaRefSigns
import Derived.Test.YthpecegifilgoaaWords
namespace Go.Proofs.Ythpecegifilgoaa
open Go Go.RowKit
set_option linter.unusedVariables false

theorem gather_at {o : List (List Int)} {n l : List Int} {k : Nat} (hk : k < l.length) : gather (o, n) (l.drop k) = gather (step (o, n) l[k]) (l.drop (k + 1)) := by
  rw [List.drop_eq_getElem_cons hk, gather_cons]
theorem gather_past {o : List (List Int)} {n l : List Int} {k : Nat} (hk : l.length ≤ k) (hn : n ≠ []) : gather (o, n) (l.drop k) = gather (o ++ [n], []) (l.drop (k + 1)) := by
  rw [List.drop_of_length_le hk, List.drop_of_length_le (by omega), gather_last hn, gather_done]
theorem gather_stop {o : List (List Int)} {n l : List Int} {k : Nat} (hn : n ≠ []) (h : (hk : k < l.length) → inWord l[k] = false) : gather (o, n) (l.drop k) = gather (o ++ [n], []) (l.drop (k + 1)) := by
  by_cases hk : k < l.length
  · rw [gather_at hk, step_end (h hk) hn]
  · exact gather_past (by omega) hn

def RefOut (l : List Int) (w1 : World) (o i : Value) (wr : World) : Prop :=
  ∃ (k : Nat) (out : List (List Int)) (vo : Value), vo = o ∧ k ≤ l.length + 1 ∧ i = .int .i64 k ∧ out.length ≤ k ∧ wr.ownsRow w1.heap.size 9 1 o out.length (strs (out.map text)) ∧ Below w1.heap.size w1 wr ∧ gather (out, []) (l.drop k) = wordSigns l
def RefIn (l : List Int) (w1 : World) (out : List (List Int)) (o : Value) (k0 : Nat) (i n : Value) (wr : World) : Prop :=
  ∃ (k : Nat) (own : List Int) (vn : Value), vn = n ∧ k ≤ l.length ∧ k0 ≤ k ∧ i = .int .i64 k ∧ own.length ≤ k ∧ (own = [] → k = k0) ∧ wr.ownsRow w1.heap.size 9 1 o out.length (strs (out.map text)) ∧ wr.ownsRow w1.heap.size 3 1 n own.length (ints own) ∧ Below w1.heap.size w1 wr ∧ gather (out, own) (l.drop k) = wordSigns l

set_option maxHeartbeats 2000000 in
set_option maxRecDepth 100000 in
theorem ref_Words (s : ByteArray) (w : World) (hs : s.size ≤ 268435456) :
    Calls Try.prog 46 #[.string s] w (GaveStrs (words s.data.toList) w) := by
  obtain ⟨i0, hi0, hz0, hz1, hz2⟩ := info_parts info_int
  obtain ⟨i1, hi1, hy0, hy1, hy2⟩ := info_parts info_string
  have hsl := signs_length s.data.toList
  have hsz : s.data.toList.length = s.size := Array.length_toList
  rw [hsz] at hsl
  have hwd : (wordSigns (signs s.data.toList)).map text = words s.data.toList := rfl
  go_enter Try.func46, Try.ntmps46
  go_wp2_with (go_at_call 58; refine (ref_Signs s _ (by omega)).mono ?_)
  rintro e w1 ⟨v, rfl, hown, hb⟩
  obtain ⟨A, c, rfl, _, hrow⟩ := owned_row hown
  obtain ⟨l, hl⟩ : ∃ l, l = signs s.data.toList := ⟨_, rfl⟩
  rw [← hl] at hrow hsl hwd
  rw [← hl]
  have HB := Lib.hid hb
  have HR := Lib.hid hrow
  have HWD := Lib.hid hwd
  clear hl hb hown hrow hwd
  go_wp2
  go_loopw [4, 5] (fun o i wr => RefOut l w1 o i wr) (fun _ i _ => l.length + 1 - (intOf i).toNat)
  case atStart => exact ⟨0, [], _, rfl, by omega, rfl, by simp, World.ownsRow_nil _ _ _ _, Below.refl _ _, rfl⟩
  case round =>
    obtain ⟨k, out, vo, rfl, hk, rfl, hok, hout, hbw, hga⟩ := hrel
    by_cases hlt : k < l.length
    · obtain ⟨b1, o1, e1, _, hc1⟩ := row_int (HR.out.below hbw) hlt
      subst e1
      by_cases hin : inWord l[k] = true
      · have r1 := fun w => ref_in l[k] w
        rw [hin] at r1
        have R1 := Lib.hid r1
        have HIN : Hid (inWord l[k] = true) := Lib.hid hin
        have HGA := Lib.hid hga
        have HOUT := Lib.hid hout
        obtain ⟨x, hx⟩ : ∃ x, x = l[k] := ⟨_, rfl⟩
        rw [← hx] at hc1 R1 HIN
        have HX := Lib.hid hx
        clear r1 hin hga hout hx
        go_wp2_with (go_at_call 59; refine (R1.out _).mono ?_; rintro e w' ⟨rfl, rfl⟩)
        go_loopw [5, 7] (fun i n wr => RefIn l w1 out vo k i n wr) (fun i _ _ => l.length - (intOf i).toNat)
        case atStart => exact ⟨k, [], _, rfl, by omega, by omega, rfl, by simp, fun _ => rfl, HOUT.out, World.ownsRow_nil _ _ _ _, hbw, HGA.out⟩
        case round =>
          obtain ⟨j, own, vn, rfl, hj, hkj, rfl, hoj, hne0, hout2, hown2, hbw2, hga2⟩ := hrel
          have hne : (k < j ∨ j = l.length ∨ (∃ h : j < l.length, inWord l[j] = false)) → own ≠ [] := by
            intro hh he
            have hjk := hne0 he
            subst hjk
            rcases hh with hh | hh | ⟨_, hh⟩
            · omega
            · omega
            · rw [← HX.out, HIN.out] at hh; cases hh
          by_cases hltj : j < l.length
          · obtain ⟨b2, o2, e2, _, hc2⟩ := row_int (HR.out.below hbw2) hltj
            simp at e2
            obtain ⟨rfl, rfl⟩ := e2
            by_cases hinj : inWord l[j] = true
            · have r2 := fun w => ref_in l[j] w
              rw [hinj] at r2
              have f2 := fun w => ref_Fold l[j] w
              have ga2 := gather_at (o := out) (n := own) hltj
              rw [hga2, step_in hinj] at ga2
              obtain ⟨y, hy⟩ : ∃ y, y = l[j] := ⟨_, rfl⟩
              rw [← hy] at hc2 r2 f2 ga2
              obtain ⟨z, hz⟩ : ∃ z, z = fold y := ⟨_, rfl⟩
              rw [← hz] at f2 ga2
              have R2 := Lib.hid r2
              have F2 := Lib.hid f2
              have GA2 := Lib.hid ga2
              have HO2 := Lib.hid hout2
              have hszj := hbw2.size
              clear r2 f2 ga2 hinj hga2 hy hz hne hne0 hout2 hc1
              go_wp2_with (first
                | (go_at_call 59; refine (R2.out _).mono ?_; rintro e w' ⟨rfl, rfl⟩)
                | (go_at_call 60; refine (F2.out _).mono ?_; rintro e w' ⟨rfl, rfl⟩)
                | (at_builtin; refine wpList_append_own _ rfl (.tmp 34) (.tmp 40) 45 rfl w1.heap.size 3 i0 _ 1 8 Try.underlying45 hi0 hz0 hz1 hz2 rfl (by omega) _ own.length (ints own) rfl (hown2.alloc _) ⟨_, 0, none⟩ 1 1 [.int .i64 z] rfl rfl (news_at _ [.int .i64 z] 3) (by intro u hu; simp at hu; subst hu; rfl) (by unfold maxLen; omega) (by omega) (by simp; omega) ?_))
              intro v' w5 hown5 hgrow5 _
              have hbw5 := (hbw2.alloc (by omega) _).grown hgrow5 (by simp; omega) (fun j hj => (hown2.lt j hj).1)
              have hout5 := (HO2.out.alloc _).kept hgrow5 (owned_other HO2.out hown2 (by decide))
              clear hgrow5
              go_wp2
              go_roundw
              case rel =>
                refine ⟨j + 1, own ++ [z], _, rfl, by omega, by omega, by go_num, by simp; omega, by simp, hout5, ?_, hbw5, GA2.out.symm⟩
                simpa [ints] using hown5
              case measure => simp [intOf]; omega
            · have hinj' : inWord l[j] = false := by simpa using hinj
              have r2 := fun w => ref_in l[j] w
              rw [hinj'] at r2
              have hne := hne (.inr (.inr ⟨hltj, hinj'⟩))
              have HIJ := Lib.hid hinj'
              obtain ⟨A3, c3, rfl, _, hrow3⟩ := owned_row hown2
              have HN := Lib.hid hrow3
              have R2 := Lib.hid r2
              have HG2 := Lib.hid hga2
              have HO2 := Lib.hid hout2
              have HBW2 := Lib.hid hbw2
              obtain ⟨y, hy⟩ : ∃ y, y = l[j] := ⟨_, rfl⟩
              rw [← hy] at hc2 R2
              clear r2 hinj hinj' hga2 hout2 hrow3 hown2 hne0 hc1 hy
              go_wp2_with (first
                | (go_at_call 59; refine (R2.out _).mono ?_; rintro e w' ⟨rfl, rfl⟩)
                | (go_at_call 61; refine (ref_Text_at _ _ _ own _ rfl HN.out (by omega)).mono ?_))
              rintro e w4 ⟨rfl, hb4⟩
              obtain ⟨tx, htx⟩ : ∃ tx : ByteArray, tx = ⟨(text own).toArray⟩ := ⟨_, rfl⟩
              rw [← htx]
              have hout4 := owned_below HO2.out hb4
              have hbw4 : Below w1.heap.size w1 w4 := HBW2.out.trans (hb4.mono HBW2.out.size)
              have HTX := Lib.hid htx
              clear htx hb4
              have hsz4 := hbw4.size
              go_wp2_with (at_builtin; refine wpList_append_own _ rfl (.tmp 44) (.tmp 47) 48 rfl w1.heap.size 9 i1 _ 1 16 Try.underlying48 hi1 hy0 hy1 hy2 rfl (by omega) _ out.length (strs (out.map text)) rfl (hout4.alloc _) ⟨w4.heap.size, 0, none⟩ 1 1 [.string tx] rfl rfl (news_at w4 [.string tx] 9) (by intro u hu; simp at hu; subst hu; rfl) (by unfold maxLen; omega) (by omega) (by simp; omega) ?_)
              intro v' w5 hown5 hgrow5 _
              have hbw5 := (hbw4.alloc (by omega) _).grown hgrow5 (by simp; omega) (fun j hj => (hout4.lt j hj).1)
              clear hgrow5 hout4 hbw4
              go_wp2
              go_roundw
              case rel =>
                refine ⟨j + 1, out ++ [own], _, rfl, by omega, by go_num, by simp; omega, ?_, hbw5, ?_⟩
                · rw [HTX.out] at hown5; simpa [strs] using hown5
                · rw [← gather_stop hne (fun _ => HIJ.out)]; exact HG2.out
              case measure => simp [intOf]; omega
          · have hne := hne (.inr (.inl (by omega)))
            obtain ⟨A3, c3, rfl, _, hrow3⟩ := owned_row hown2
            have HN := Lib.hid hrow3
            have HG2 := Lib.hid hga2
            have HO2 := Lib.hid hout2
            have HBW2 := Lib.hid hbw2
            clear hga2 hout2 hrow3 hown2 hne0 hc1
            go_wp2_with (first
              | (go_at_call 61; refine (ref_Text_at _ _ _ own _ rfl HN.out (by omega)).mono ?_))
            rintro e w4 ⟨rfl, hb4⟩
            obtain ⟨tx, htx⟩ : ∃ tx : ByteArray, tx = ⟨(text own).toArray⟩ := ⟨_, rfl⟩
            rw [← htx]
            have hout4 := owned_below HO2.out hb4
            have hbw4 : Below w1.heap.size w1 w4 := HBW2.out.trans (hb4.mono HBW2.out.size)
            have HTX := Lib.hid htx
            clear htx hb4
            have hsz4 := hbw4.size
            go_wp2_with (at_builtin; refine wpList_append_own _ rfl (.tmp 44) (.tmp 47) 48 rfl w1.heap.size 9 i1 _ 1 16 Try.underlying48 hi1 hy0 hy1 hy2 rfl (by omega) _ out.length (strs (out.map text)) rfl (hout4.alloc _) ⟨w4.heap.size, 0, none⟩ 1 1 [.string tx] rfl rfl (news_at w4 [.string tx] 9) (by intro u hu; simp at hu; subst hu; rfl) (by unfold maxLen; omega) (by omega) (by simp; omega) ?_)
            intro v' w5 hown5 hgrow5 _
            have hbw5 := (hbw4.alloc (by omega) _).grown hgrow5 (by simp; omega) (fun j hj => (hout4.lt j hj).1)
            clear hgrow5 hout4 hbw4
            go_wp2
            go_roundw
            case rel =>
              refine ⟨j + 1, out ++ [own], _, rfl, by omega, by go_num, by simp; omega, ?_, hbw5, ?_⟩
              · rw [HTX.out] at hown5; simpa [strs] using hown5
              · rw [← gather_stop hne (fun h => absurd h hltj)]; exact HG2.out
            case measure => simp [intOf]; omega
      · have hin' : inWord l[k] = false := by simpa using hin
        have r1 := fun w => ref_in l[k] w
        rw [hin'] at r1
        have ga := gather_at (o := out) (n := []) hlt
        rw [hga, step_skip hin'] at ga
        have R1 := Lib.hid r1
        have HOUT := Lib.hid hout
        have GA := Lib.hid ga
        obtain ⟨x, hx⟩ : ∃ x, x = l[k] := ⟨_, rfl⟩
        rw [← hx] at hc1 R1
        clear r1 hin hin' hga hout hx ga
        go_wp2_with (go_at_call 59; refine (R1.out _).mono ?_; rintro e w' ⟨rfl, rfl⟩)
        go_roundw
        case rel => exact ⟨k + 1, out, _, rfl, by omega, by go_num, by omega, HOUT.out, hbw, GA.out.symm⟩
        case measure => simp [intOf]; omega
    · rw [List.drop_of_length_le (by omega), gather_done] at hga
      have HGA := Lib.hid hga
      clear hga
      go_wp2
      go_ret
      refine ⟨_, rfl, ?_, HB.out.trans (hbw.mono HB.out.size)⟩
      have := HWD.out
      rw [← HGA.out] at this
      rw [← this, List.length_map]
      exact owned_low hout HB.out.size
end Go.Proofs.Ythpecegifilgoaa
