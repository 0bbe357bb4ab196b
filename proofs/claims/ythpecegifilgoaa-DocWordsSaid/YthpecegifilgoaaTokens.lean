/- What package word's Tokens answers: each word with its place, or the first error; in new memory; nothing that was there turns. -/
import Derived.Test.YthpecegifilgoaaQ07
namespace Go.Proofs.Ythpecegifilgoaa
open Go Go.RowKit
set_option linter.unusedVariables false

set_option maxHeartbeats 2000000 in
set_option maxRecDepth 100000 in
theorem word_Tokens (s : ByteArray) (w : World) (hs : s.size ≤ 268435456) :
    Calls Try.prog 49 #[.string s] w (GaveToks (words s.data.toList) w) := by
  obtain ⟨i0, hi0, hz0, hz1, hz2⟩ := info_parts info_token
  have hwl := words_length s.data.toList
  have hsz : s.data.toList.length = s.size := Array.length_toList
  rw [hsz] at hwl
  go_enter Try.func49, Try.ntmps49
  go_wp2_with (go_at_call 50; refine (word_Words s _ (by omega)).mono ?_)
  rintro e w1 ⟨v, rfl, hown, hb⟩
  obtain ⟨A, c, rfl, _, hrow⟩ := owned_row hown
  obtain ⟨ws, hl⟩ : ∃ ws, ws = words s.data.toList := ⟨_, rfl⟩
  rw [← hl] at hrow hwl
  rw [← hl]
  have FIN : Hid (∀ e w', GaveToks ws w e w' → GaveToks (words s.data.toList) w e w') := by rw [← hl]; exact fun _ _ h => h
  have HB := Lib.hid hb
  have HR := Lib.hid hrow
  clear hl hb hown hrow
  go_wp2
  go_loopw [2, 3, 4, 10] (fun a b o i wr => ToksRel ws w1 a b o i wr) (fun _ _ _ i _ => ws.length - (intOf i).toNat)
  case atStart => exact ⟨0, _, rfl, rfl, rfl, Nat.zero_le _, by omega, rfl, World.ownsRow_nil _ _ _ _, Below.refl _ _, rfl⟩
  case round =>
    obtain ⟨k, vo, rfl, rfl, rfl, hk, hk5, rfl, hown, hbw, her⟩ := hrel
    by_cases hlt : k < ws.length
    · obtain ⟨b1, o1, e1, _, hc1⟩ := row_str (HR.out.below hbw) hlt
      subst e1
      have hat := errFrom_at hlt
      have htk := tokCells_take hlt
      obtain ⟨tx, htx⟩ : ∃ tx : ByteArray, tx = ⟨ws[k].toArray⟩ := ⟨_, rfl⟩
      have htl : ws[k].length = tx.size := by rw [htx]; simp [ByteArray.size]
      rw [← htx] at hc1 htk
      rw [htl, her] at hat
      clear htx htl her
      have HTK := Lib.hid htk
      clear htk
      have hszj := hbw.size
      by_cases h30 : 30 < tx.size
      · rw [if_pos h30] at hat
        have HAT := Lib.hid hat
        clear hat
        go_wp2
        go_ret2
        exact FIN.out _ _ ⟨_, by rw [HAT.out]; rfl, fun h => by rw [HAT.out] at h; omega, fun _ => rfl, HB.out.trans (hbw.mono HB.out.size)⟩
      · rw [if_neg h30] at hat
        by_cases h500 : k = 500
        · rw [if_pos (by omega)] at hat
          have HAT := Lib.hid hat
          subst h500
          clear hat
          go_wp2
          go_ret2
          exact FIN.out _ _ ⟨_, by rw [HAT.out]; rfl, fun h => by rw [HAT.out] at h; omega, fun _ => rfl, HB.out.trans (hbw.mono HB.out.size)⟩
        · rw [if_neg (by omega)] at hat
          have HAT := Lib.hid hat
          clear hat
          have h5 : (k : Int) < 500 := by omega
          go_wp2_with (at_builtin; refine wpList_append_own _ rfl (.tmp 20) (.tmp 24) 59 rfl w1.heap.size 82 i0 _ 2 24 Try.underlying59 hi0 hz0 hz1 hz2 rfl (by omega) _ k (tokCells 0 (ws.take k)) rfl (hown.alloc _) ⟨wr.heap.size, 0, none⟩ 1 1 [.string tx, .int .i64 k] rfl rfl (news_at wr [.string tx, .int .i64 k] 82) (by intro u hu; simp at hu; rcases hu with hu | hu <;> (subst hu; rfl)) (by unfold maxLen; omega) (by omega) (by simp; omega) ?_)
          intro v' w5 hown5 hgrow5 _
          have hbw5 := (hbw.alloc (by omega) _).grown hgrow5 (by simp; omega) (fun j hj => (hown.lt j hj).1)
          rw [← HTK.out] at hown5
          clear hgrow5
          go_wp2
          go_roundw
          case rel => exact ⟨k + 1, _, rfl, rfl, rfl, by omega, by omega, by go_num, hown5, hbw5, HAT.out.symm⟩
          case measure => simp [intOf]; omega
    · have hkl : k = ws.length := by omega
      have her0 : errFrom 0 ws = 0 := by rw [← her, List.drop_of_length_le (by omega)]; rfl
      rw [hkl, List.take_length] at hown
      have HE := Lib.hid her0
      clear her her0 hkl
      go_wp2
      go_ret2
      exact FIN.out _ _ ⟨_, by rw [HE.out]; rfl, fun _ => owned_low hown HB.out.size, fun h => absurd HE.out h, HB.out.trans (hbw.mono HB.out.size)⟩
end Go.Proofs.Ythpecegifilgoaa
