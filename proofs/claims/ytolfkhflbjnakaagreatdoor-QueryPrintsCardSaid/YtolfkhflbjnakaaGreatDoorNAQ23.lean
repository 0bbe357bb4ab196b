/- Texts laid together: Join12, FoldS12, TermX12, TextK12, PrintK12, PrintW12. -/
import Derived.Shelf.Strings.OnBuilder
import Derived.Lib.Join
import Derived.Test.YtolfkhflbjnakaaGreatDoorNAQ21
import Derived.Test.YtolfkhflbjnakaaGreatDoorNAQ13
import Derived.Test.YtolfkhflbjnakaaGreatDoorNAQ06
import Derived.Laws.Concat
import Derived.BigCall
import Derived.Test.YtolfkhflbjnakaaGreatDoorNAQ07
import Derived.Deep.RegionWith

/- What strings.Join answers of texts, with a blank between. -/
set_option linter.unusedVariables false
namespace Go.Proofs.YtolfkhflbjnakaaGreatDoor
open Go Go.Shelf Go.RowKit
def layJoin_ren : Go.Shelf.Ren := ⟨fun | 156 => 104 | 165 => 139 | 166 => 140 | 169 => 141 | 240 => 160 | 241 => 161 | 276 => 174 | 277 => 175 | n => n, fun | 0 => 0 | 3 => 3 | 4 => 4 | 5 => 5 | 9 => 9 | 20 => 20 | 31 => 24 | 37 => 40 | 70 => 159 | 72 => 161 | 75 => 164 | 76 => 165 | 80 => 100 | 127 => 183 | 164 => 102 | n => n, fun | n => n⟩
theorem layJoin : Lays.n156 Tryz.prog layJoin_ren := {
  mixed := by kernel_rfl
  f156 := Tryz.func104.trans (congrArg some (by kernel_rfl))
  f165 := Tryz.func139.trans (congrArg some (by kernel_rfl))
  f166 := Tryz.func140.trans (congrArg some (by kernel_rfl))
  f169 := Tryz.func141.trans (congrArg some (by kernel_rfl))
  f240 := Tryz.func160.trans (congrArg some (by kernel_rfl))
  f241 := Tryz.func161.trans (congrArg some (by kernel_rfl))
  f276 := Tryz.func174.trans (congrArg some (by kernel_rfl))
  f277 := Tryz.func175.trans (congrArg some (by kernel_rfl))
  t0 := Tryz.underlying0
  a0 := Tryz.isAgg0
  z0 := Tryz.sizeOf0
  v0 := Tryz.zeroValue0
  t3 := Tryz.underlying3
  a3 := Tryz.isAgg3
  z3 := Tryz.sizeOf3
  v3 := Tryz.zeroValue3
  t4 := Tryz.underlying4
  a4 := Tryz.isAgg4
  z4 := Tryz.sizeOf4
  v4 := Tryz.zeroValue4
  t9 := Tryz.underlying9
  a9 := Tryz.isAgg9
  z9 := Tryz.sizeOf9
  v9 := Tryz.zeroValue9
  t20 := Tryz.underlying20
  a20 := Tryz.isAgg20
  z20 := Tryz.sizeOf20
  v20 := Tryz.zeroValue20
  t31 := Tryz.underlying24
  a31 := Tryz.isAgg24
  z31 := Tryz.sizeOf24
  v31 := Tryz.zeroValue24
  t37 := Tryz.underlying40
  a37 := Tryz.isAgg40
  z37 := Tryz.sizeOf40
  v37 := Tryz.zeroValue40
  t70 := Tryz.underlying159
  a70 := Tryz.isAgg159
  z70 := Tryz.sizeOf159
  v70 := Tryz.zeroValue159
  t72 := Tryz.underlying161
  a72 := Tryz.isAgg161
  z72 := Tryz.sizeOf161
  v72 := Tryz.zeroValue161
  t75 := Tryz.underlying164
  a75 := Tryz.isAgg164
  z75 := Tryz.sizeOf164
  v75 := Tryz.zeroValue164
  t76 := Tryz.underlying165
  a76 := Tryz.isAgg165
  z76 := Tryz.sizeOf165
  v76 := Tryz.zeroValue165
  t127 := Tryz.underlying183
  a127 := Tryz.isAgg183
  z127 := Tryz.sizeOf183
  v127 := Tryz.zeroValue183
  t164 := Tryz.underlying102
  a164 := Tryz.isAgg102
  z164 := Tryz.sizeOf102
  v164 := Tryz.zeroValue102 }
theorem extraJoin : Builder.Extra Tryz.prog layJoin_ren := {
  sizeBuilder := by kernel_rfl
  liesBuilder := by kernel_rfl
  t5 := Tryz.underlying5
  a5 := Tryz.isAgg5
  z5 := Tryz.sizeOf5
  v5 := Tryz.zeroValue5
  infoByte := by kernel_rfl
  cellsByte := by kernel_rfl
  sizeByte := by kernel_rfl
  neB5 := by decide }
theorem join_words : ∀ ws : List Nm, Lib.join ws [32] = joinW ws
  | [] => rfl
  | [w] => by rw [Lib.join_one, joinW]
  | w :: w' :: ws => by
    rw [Lib.join_cons, joinW_cons _ (by simp), ← join_words (w' :: ws), Lib.join_cons]
    simp [Lib.joinTail]
theorem str_join (ws : List Nm) (A : Option Addr) (n c : Nat) (w : World) (hn : ws.length = n) (hr : Row w w.heap.size A (strs ws)) (hc : n ≤ c) (h9 : n ≤ 1000) (hlen : (joinW ws).length ≤ 140737488355328) :
    Calls Tryz.prog 104 #[.slice A n c, .string ⟨#[32]⟩] w fun e w' => e = .returned (.string ⟨(joinW ws).toArray⟩) ∧ Below w.heap.size w w' := by
  subst hn
  match ws, hr, hc, h9, hlen with
  | [], hr, hc, h9, hlen => exact (Any.strings_Join_none layJoin extraJoin A c ⟨#[32]⟩ w).mono fun e w' ⟨h1, h2⟩ => ⟨by rw [h1]; rfl, by rw [h2]; exact Below.refl _ _⟩
  | [x], hr, hc, h9, hlen =>
    obtain ⟨b, off, rfl, hb, hcell⟩ := row_nm hr (k := 0) (by simp)
    exact (Any.strings_Join_one layJoin extraJoin b off c ⟨x.toArray⟩ ⟨#[32]⟩ w (by simpa using hcell)).mono fun e w' ⟨h1, h2⟩ => ⟨by rw [h1, joinW], by rw [h2]; exact Below.refl _ _⟩
  | x :: y :: r, hr, hc, h9, hlen =>
    obtain ⟨b, off, rfl, hb, -⟩ := row_nm hr (k := 0) (by simp)
    have hm : ((x :: y :: r).map fun (z : Nm) => (⟨z.toArray⟩ : ByteArray)).map (·.data.toList) = x :: y :: r := by
      rw [List.map_map]
      exact (List.map_congr_left fun z _ => rfl).trans (List.map_id _)
    have hj : Lib.join (((x :: y :: r).map fun (z : Nm) => (⟨z.toArray⟩ : ByteArray)).map (·.data.toList)) (⟨#[32]⟩ : ByteArray).data.toList = joinW (x :: y :: r) := by rw [hm]; exact join_words _
    have := Any.strings_Join_many layJoin extraJoin b off c ((x :: y :: r).map fun (z : Nm) => (⟨z.toArray⟩ : ByteArray)) ⟨#[32]⟩ w (fun j z hz => by
      rw [List.getElem?_map] at hz
      obtain ⟨z', hz', rfl⟩ := Option.map_eq_some_iff.1 hz
      obtain ⟨hj', e⟩ := List.getElem?_eq_some_iff.1 hz'
      obtain ⟨b', off', e', hb', hcell⟩ := row_nm hr hj'
      injection e' with e'
      injection e' with e1 e2
      subst e1 e2
      rw [← e]
      exact hcell) hb (by simp) (by rw [List.length_map]; omega) (by rw [List.length_map]; exact hc) (by rw [hj]; exact hlen)
    rw [hj, List.length_map] at this
    exact this
end Go.Proofs.YtolfkhflbjnakaaGreatDoor

/- A fold over a query, of texts: what is made of it, of what was made of its kids. -/
namespace Go.Proofs.YtolfkhflbjnakaaGreatDoor
open Go Go.RowKit
set_option linter.unusedVariables false

/-- A text is answered. -/
def GaveS (t : Nm) (w : World) (e : Ending) (w' : World) : Prop := e = .returned (.string ⟨t.toArray⟩) ∧ Below w.heap.size w w'
def OneS (nm : Nat) (cm : Array Value) (P : Qy → Prop) (G : Qy → Nm) (w0 : World) : Prop := ∀ q v wr A c, P q → Below w0.heap.size w0 wr → QIn wr q v → Row wr wr.heap.size A (strs ((kidsOf q).map G)) → (kidsOf q).length ≤ c →
  Calls Tryz.prog nm (#[v, .slice A (kidsOf q).length c] ++ cm) wr (GaveS (G q) wr)
def FoldSRel (G : Qy → Nm) (ks : List Qy) (base : Nat) (w1 : World) (u i : Value) (wr : World) : Prop :=
  ∃ j : Nat, j ≤ ks.length ∧ i = .int .i64 (j : Int) ∧ OwnNm base wr u ((ks.take j).map G) ∧ Below w1.heap.size w1 wr

set_option maxHeartbeats 4000000 in
set_option maxRecDepth 100000 in
theorem fold_text (nm : Nat) (em : ∀ args w, (callFunc nm args).run Tryz.prog w = .ok (.enter nm args) w) (cm : Array Value) (P : Qy → Prop) (G : Qy → Nm) (w0 : World) (hP : Inner P) (hone : OneS nm cm P G w0) (n : Nat) : ∀ (q : Qy) (v : Value) (w : World), deepQ q ≤ n → P q → Below w0.heap.size w0 w → QIn w q v →
    Calls Tryz.prog 36 #[v, .func (.func nm) #[] cm] w (GaveS (G q) w) := by
  induction n with
  | zero => intro q v w h; have := deepQ_pos q; omega
  | succ n ih =>
    intro q v w hd hp hw hq
    have hq0 := hq
    obtain ⟨k, t, ws, ks, f, x, A, c, K, d, ds, rfl, rfl, hf, hx, hc, hdd, hA, hK, hks⟩ := hq.open_
    obtain ⟨h9, hkp⟩ := hP _ hp
    have h9 : ks.length ≤ 9 := h9
    obtain ⟨w1, hw1⟩ : ∃ w1, w1 = boxQ w k f x A ws.length c K ks.length d := ⟨_, rfl⟩
    have hb1 : Below w.heap.size w w1 := by rw [hw1]; exact boxQ_below
    have hs1 : w1.heap.size = w.heap.size + 1 := by rw [hw1, boxQ_size]
    have HB : Hid (∀ wr, Below w1.heap.size w1 wr → Below w.heap.size w wr ∧ wr.cell? ⟨w.heap.size, 0, none⟩ = some (.int .i64 k) ∧ wr.cell? ⟨w.heap.size, 1, none⟩ = some (.string f) ∧ wr.cell? ⟨w.heap.size, 2, none⟩ = some (.string x) ∧ wr.cell? ⟨w.heap.size, 3, none⟩ = some (.slice A ws.length c) ∧ wr.cell? ⟨w.heap.size, 4, none⟩ = some (.slice K ks.length d)) := Lib.hid fun wr h => by
      rw [hw1] at h
      exact boxQ_of h
    have HK := Lib.hid (kids_at hK hks hb1)
    have HIH : Hid (∀ (i : Nat) (hi : i < ks.length) (v : Value) (wr : World), Below w.heap.size w wr → QIn wr ks[i] v → Calls Tryz.prog 36 #[v, .func (.func nm) #[] cm] wr (GaveS (G ks[i]) wr)) :=
      Lib.hid fun i hi v wr hb hv => ih ks[i] v wr (deep_kid hd hi) (hkp _ (List.getElem_mem hi)) (hw.trans (hb.mono hw.size)) hv
    have HONE : Hid (∀ wr, Below w.heap.size w wr → ∀ B c', Row wr wr.heap.size B (strs (ks.map G)) → ks.length ≤ c' → Calls Tryz.prog nm (#[qV k f x A ws.length c K ks.length d, .slice B ks.length c'] ++ cm) wr (GaveS (G (.mk k t ws ks)) wr)) :=
      Lib.hid fun wr hb B c' hr hc' => hone (.mk k t ws ks) _ wr B c' hp (hw.trans (hb.mono hw.size)) (hq0.later hb) hr hc'
    obtain ⟨g, hg⟩ : ∃ g, g = G (.mk k t ws ks) := ⟨_, rfl⟩
    rw [← hg] at HONE ⊢
    have HW1 := Lib.hid hw1
    obtain ⟨j0, hj0, hj1, hj2, hj3⟩ := info_parts info_string
    obtain ⟨hb0, a0, a1, a2, a3, a4⟩ := HB.out _ (Below.refl _ _)
    have HS1 := Lib.hid hs1
    clear hw1 hg hb1 hq hq0 hf hx hc hdd hA hK hks hkp hd ih hone hP hp hw hb0 hs1
    go_enter Tryz.func36, Tryz.ntmps36
    go_upto_region 1 with fail
    rw [show w.alloc _ = w1 from HW1.out.symm]
    go_wp2_with fail
    clear a0 a1 a2 a3 a4
    go_loopw [5, 11] (fun u i wr => FoldSRel G ks (w.heap.size + 1) w1 u i wr) (fun _ i _ => ks.length - (intOf i).toNat)
    case atStart => exact ⟨0, by omega, rfl, World.ownsRow_nil _ _ _ _, Below.refl _ _⟩
    case round =>
      obtain ⟨j, hj, rfl, hown, hbw⟩ := hrel
      obtain ⟨hb0, a0, a1, a2, a3, a4⟩ := HB.out _ hbw
      have HB0 := Lib.hid hb0
      clear hb0
      by_cases hlt : j < ks.length
      · obtain ⟨b, off, k', f', x', A', n', c', K', m', d', e', hbl, hv, c0, c1, c2, c3, c4⟩ := HK.out _ hbw j hlt
        subst e'
        have hln : ((ks.take j).map G).length = j := by rw [List.length_map, List.length_take]; omega
        have hown' := hown
        unfold OwnNm at hown'
        rw [hln] at hown'
        obtain ⟨A5, c5, rfl, -⟩ := owned_row hown'
        obtain ⟨g1, hg1⟩ : ∃ g1 : ByteArray, g1 = ⟨(G ks[j]).toArray⟩ := ⟨_, rfl⟩
        have HC : Hid (∀ w2, Below wr.heap.size wr w2 → Calls Tryz.prog 36 #[qV k' f' x' A' n' c' K' m' d', .func (.func nm) #[] cm] w2 fun e w' => e = .returned (.string g1) ∧ Below w2.heap.size w2 w') := Lib.hid fun w2 h => by
          rw [hg1]
          exact HIH.out j hlt _ w2 (HB0.out.trans (h.mono HB0.out.size)) (hv.later h)
        obtain ⟨cs, hcs⟩ : ∃ cs, cs = strs ((ks.take j).map G) := ⟨_, rfl⟩
        rw [← hcs] at hown'
        have HT : Hid (∀ wx vx, wx.ownsRow (w.heap.size + 1) 9 1 vx (j + 1) (cs ++ [.string g1]) → OwnNm (w.heap.size + 1) wx vx ((ks.take (j + 1)).map G)) := Lib.hid fun wx vx h => by
          have htk : (ks.take (j + 1)).map G = (ks.take j).map G ++ [G ks[j]] := by rw [List.take_succ_eq_append_getElem hlt, List.map_append]; rfl
          unfold OwnNm
          rw [htk, List.length_append, hln, List.length_singleton, show strs ((ks.take j).map G ++ [G ks[j]]) = strs ((ks.take j).map G) ++ [.string ⟨(G ks[j]).toArray⟩] by simp [strs], ← hcs, ← hg1]
          exact h
        have HO := Lib.hid hown'
        have HBW := Lib.hid hbw
        have i0 : (0 : Int) ≤ j := by omega
        have i3 : (j : Int) < ks.length := by omega
        have hz : w.heap.size + 1 ≤ wr.heap.size := by have := hbw.size; have := HS1.out; omega
        clear hv hbw hown hown' hg1 hcs hln
        go_wp2_with (first
          | (go_at_call 36; (with_reducible refine (HC.out _ ((Below.refl _ _).alloc (Nat.le_refl _) _)).mono ?_); rintro e w3 ⟨rfl, hb3⟩
             have HB3 : Hid (Below wr.heap.size wr w3) := Lib.hid (((Below.refl _ _).alloc (Nat.le_refl _) _).trans (hb3.mono (by simp)))
             clear hb3)
          | (at_builtin; refine wpList_append_lies _ rfl (.tmp 15) (.tmp 19) 24 rfl (w.heap.size + 1) 9 j0 _ 1 16 Tryz.underlying24 hj0 hj1 hj2 hj3 rfl (by omega) (.slice A5 j c5) j cs rfl ((owned_below HO.out HB3.out).alloc _)
               ⟨w3.heap.size, 0, none⟩ 1 1 [.string g1] rfl rfl (World.news_of_block (cs := #[.string g1]) (t := 9) (fr := (0, 0)) (heap_alloc_new w3 _)) (by intro y hy; simp only [List.mem_cons, List.mem_nil_iff, or_false] at hy; subst hy; rfl)
               (by omega) (by unfold maxLen; omega) (by omega) (by have := HB3.out.size; simp; omega) (w3.heap.size + 1) (by simp) ?_
             intro gg cap w8 hown8 hgrow hat8 hlt8
             have hb8 : Below (w.heap.size + 1) wr w8 := ((HB3.out.mono hz).alloc (by have := HB3.out.size; omega) _).grown hgrow (by have := HB3.out.size; simp; omega) (fun k hk => (HO.out.lt k hk).1)
             have HB8 := Lib.hid hb8
             have HO8 := Lib.hid (HT.out _ _ hown8)
             clear hb8 hown8 hgrow hat8 hlt8))
        go_roundw
        case rel => exact ⟨j + 1, by omega, by go_num, HO8.out, by rw [HS1.out] at HBW ⊢; exact HBW.out.trans HB8.out⟩
        case measure => simp [intOf]; omega
      · obtain rfl : j = ks.length := by omega
        rw [List.take_length] at hown
        have hown' := hown
        unfold OwnNm at hown'
        rw [List.length_map] at hown'
        obtain ⟨B5, c5, rfl, hc5, hr5⟩ := owned_row hown'
        have HC : Hid (Calls Tryz.prog nm (#[qV k f x A ws.length c K ks.length d, .slice B5 ks.length c5] ++ cm) wr (GaveS g wr)) := Lib.hid (HONE.out wr HB0.out B5 c5 hr5 hc5)
        clear hr5 hown hown' hbw
        go_wp2_with (go_at_fn nm; (with_reducible refine HC.out.mono ?_); rintro e w3 ⟨rfl, hb3⟩; have HB3 := Lib.hid (HB0.out.trans (hb3.mono HB0.out.size)); clear hb3)
        go_ret
        exact ⟨rfl, HB3.out⟩
end Go.Proofs.YtolfkhflbjnakaaGreatDoor

/- Package query: a term's text. -/
namespace Go.Proofs.YtolfkhflbjnakaaGreatDoor
open Go Go.RowKit
set_option linter.unusedVariables false

set_option maxHeartbeats 1000000 in
set_option maxRecDepth 100000 in
theorem query_termText (k : Int) (f x : ByteArray) (A K : Option Addr) (n c m d : Nat) (v : Value) (w : World) (hf : f.size ≤ 100000000) (hx : x.size ≤ 100000000) :
    Calls Tryz.prog 59 #[qV k f x A n c K m d, v] w fun e w' => e = .returned (.string ⟨(f.data.toList ++ 58 :: x.data.toList).toArray⟩) ∧ Below w.heap.size w w' := by
  have h58 : (⟨#[58]⟩ : ByteArray).size = 1 := rfl
  have h1 : ∀ w : World, (Op.stringOp .add f ⟨#[58]⟩).run Tryz.prog w = .ok (.string (f ++ ⟨#[58]⟩)) w := fun w => run_string_add_sum w _ _ (by omega)
  have h2 : ∀ w : World, (Op.stringOp .add (f ++ ⟨#[58]⟩) x).run Tryz.prog w = .ok (.string (f ++ ⟨#[58]⟩ ++ x)) w := fun w => run_string_add_sum w _ _ (by rw [ByteArray.size_append']; omega)
  have h3 : (f ++ ⟨#[58]⟩ ++ x : ByteArray) = ⟨(f.data.toList ++ 58 :: x.data.toList).toArray⟩ := by
    apply ByteArray.ext
    apply Array.toList_inj.1
    simp [ByteArray.data_append]
  have HB : Hid (Below w.heap.size w (boxQ w k f x A n c K m d)) := Lib.hid boxQ_below
  have H3 := Lib.hid h3
  clear h3 h58
  go_enter Tryz.func59, Tryz.ntmps59
  go_wp2
  go_ret
  exact ⟨by rw [← H3.out]; rfl, HB.out⟩
set_option maxHeartbeats 1000000 in
set_option maxRecDepth 100000 in
theorem query_termTerms (k : Int) (f x : ByteArray) (A K : Option Addr) (n c m d : Nat) (w : World) :
    Calls Tryz.prog 60 #[qV k f x A n c K m d] w fun e w' => e = .returned (.slice (some ⟨w.heap.size + 1, 0, none⟩) 1 1) ∧ w' = (boxQ w k f x A n c K m d).alloc (.cells #[.string f, .string x] 23) := by
  go_enter Tryz.func60, Tryz.ntmps60
  go_wp2
  go_ret
  exact ⟨rfl, rfl⟩
set_option maxHeartbeats 1000000 in
set_option maxRecDepth 100000 in
theorem query_noTerms (k : Int) (f x : ByteArray) (A K : Option Addr) (n c m d : Nat) (w : World) : Calls Tryz.prog 70 #[qV k f x A n c K m d] w fun e w' => e = .returned (.slice none 0 0) ∧ w' = boxQ w k f x A n c K m d := by
  go_enter Tryz.func70, Tryz.ntmps70
  go_wp2
  go_ret
  exact ⟨rfl, rfl⟩
end Go.Proofs.YtolfkhflbjnakaaGreatDoor

/- Package query's Print: a query's text, of those of its kids; of one that may not be there is none. -/
namespace Go.Proofs.YtolfkhflbjnakaaGreatDoor
open Go Go.RowKit
set_option linter.unusedVariables false

theorem textL_join : ∀ {ks : List Qy}, ks ≠ [] → textL ks = 32 :: joinW (ks.map textQ)
  | [], h => absurd rfl h
  | [q], _ => by simp [textL, joinW]
  | q :: q' :: ks, _ => by
    have h := textL_join (ks := q' :: ks) (by simp)
    rw [show (q :: q' :: ks).map textQ = textQ q :: (q' :: ks).map textQ from rfl, joinW_cons (textQ q) (l := (q' :: ks).map textQ) (by simp), ← h]
    simp [textL]
set_option maxHeartbeats 2000000 in
set_option maxRecDepth 100000 in
theorem query_phraseText (k : Int) (f x : ByteArray) (A : Option Addr) (ws : List Nm) (n c : Nat) (K : Option Addr) (m d : Nat) (v : Value) (w : World) (hn : ws.length = n) (hw : Row w w.heap.size A (strs ws)) (hc : n ≤ c) (h9 : n ≤ 1000) (hf : f.size ≤ 100) (hj : (joinW ws).length ≤ 100000) :
    Calls Tryz.prog 64 #[qV k f x A n c K m d, v] w (GaveS (f.data.toList ++ 58 :: 34 :: (joinW ws ++ [34])) w) := by
  obtain ⟨J, hJ⟩ : ∃ J : ByteArray, J = ⟨(joinW ws).toArray⟩ := ⟨_, rfl⟩
  have hJl : J.data.toList = joinW ws := by rw [hJ]
  have hJs : J.data.toList.length = J.size := Array.length_toList
  have hJz : J.size ≤ 100000 := by rw [← hJs, hJl]; exact hj
  have h2 : (⟨#[58, 34]⟩ : ByteArray).size = 2 := rfl
  have h1 : (⟨#[34]⟩ : ByteArray).size = 1 := rfl
  have r1 : ∀ w : World, (Op.stringOp .add f ⟨#[58, 34]⟩).run Tryz.prog w = .ok (.string (f ++ ⟨#[58, 34]⟩)) w := fun w => run_string_add_sum w _ _ (by omega)
  have r2 : ∀ w : World, (Op.stringOp .add (f ++ ⟨#[58, 34]⟩) J).run Tryz.prog w = .ok (.string (f ++ ⟨#[58, 34]⟩ ++ J)) w := fun w => run_string_add_sum w _ _ (by rw [ByteArray.size_append']; omega)
  have r3 : ∀ w : World, (Op.stringOp .add (f ++ ⟨#[58, 34]⟩ ++ J) ⟨#[34]⟩).run Tryz.prog w = .ok (.string (f ++ ⟨#[58, 34]⟩ ++ J ++ ⟨#[34]⟩)) w := fun w => run_string_add_sum w _ _ (by rw [ByteArray.size_append', ByteArray.size_append']; omega)
  have HFIN : Hid ((f ++ ⟨#[58, 34]⟩ ++ J ++ ⟨#[34]⟩ : ByteArray) = ⟨(f.data.toList ++ 58 :: 34 :: (joinW ws ++ [34])).toArray⟩) := Lib.hid (bytes_list12 (by rw [cat_list, cat_list, cat_list, hJl]; simp))
  obtain ⟨w1, hw1⟩ : ∃ w1, w1 = boxQ w k f x A n c K m d := ⟨_, rfl⟩
  have hb1 : Below w.heap.size w w1 := by rw [hw1]; exact boxQ_below
  obtain ⟨-, a0, a1, a2, a3, a4⟩ := boxQ_of (w := w) (k := k) (f := f) (x := x) (A := A) (n := n) (c := c) (K := K) (m := m) (d := d) (wr := w1) (by rw [hw1]; exact Below.refl _ _)
  have hbd : Below w.heap.size w w1.drew := hb1.drew
  have HC : Hid (Calls Tryz.prog 104 #[.slice A n c, .string ⟨#[32]⟩] w1.drew fun e w' => e = .returned (.string J) ∧ Below w1.drew.heap.size w1.drew w') := Lib.hid (by rw [hJ]; exact str_join ws A n c w1.drew hn ((Row.below hw hbd).more hbd.size) hc h9 (by omega))
  have HBD := Lib.hid hbd
  have HW1 := Lib.hid hw1
  have HK : Hid (∀ w', Below w1.drew.heap.size w1.drew w' → w'.cell? ⟨w.heap.size, 1, none⟩ = some (.string f) ∧ w'.cell? ⟨w.heap.size, 3, none⟩ = some (.slice A n c)) := Lib.hid fun w' h => by
    have hb : Below (boxQ w k f x A n c K m d).heap.size (boxQ w k f x A n c K m d) w' := by
      rw [← hw1]
      exact (Below.refl _ w1).drew.trans h
    exact ⟨(boxQ_of hb).2.2.1, (boxQ_of hb).2.2.2.2.1⟩
  clear hw1 hb1 hbd hw hJ hJl hJs hj hn hc h9 hf
  go_enter Tryz.func64, Tryz.ntmps64
  go_upto_region 1 with fail
  rw [show w.alloc _ = w1 from HW1.out.symm]
  go_region_held3 (fun w' => w'.cell? ⟨w.heap.size, 1, none⟩ = some (.string f) ∧ w'.cell? ⟨w.heap.size, 3, none⟩ = some (.slice A n c))
    (first | exact HK.out _ HK2.out | exact ⟨a1, a3⟩)
    (first | (go_at_call 104; (with_reducible refine HC.out.mono ?_); rintro e w2 ⟨rfl, hb2⟩; have HK2 := Lib.hid hb2; have HB2 : Hid (Below w.heap.size w w2) := Lib.hid (HBD.out.trans (hb2.mono HBD.out.size)); clear hb2))
  all_goals
    go_wp2_with fail
    go_ret
    exact ⟨by rw [← HFIN.out]; rfl, HB2.out⟩
set_option maxHeartbeats 2000000 in
set_option maxRecDepth 100000 in
theorem query_kidsText (k : Int) (hk : k = 2 ∨ k = 3 ∨ k = 4) (f x : ByteArray) (A : Option Addr) (n c : Nat) (K : Option Addr) (m d : Nat) (B : Option Addr) (bn bc : Nat) (ts : List Nm) (w : World) (hg : Glob w) (hn : ts.length = bn) (hw : Row w w.heap.size B (strs ts)) (hc : bn ≤ bc) (h9 : bn ≤ 1000) (hj : (joinW ts).length ≤ 1000000000) :
    Calls Tryz.prog 69 #[qV k f x A n c K m d, .slice B bn bc] w (GaveS (40 :: (kindN k ++ 32 :: (joinW ts ++ [41]))) w) := by
  obtain ⟨kn, hkn⟩ : ∃ kn : ByteArray, kn = ⟨(kindN k).toArray⟩ := ⟨_, rfl⟩
  have hkl : kn.data.toList = kindN k := by rw [hkn]
  have hks : kn.data.toList.length = kn.size := Array.length_toList
  have hkz : kn.size ≤ 3 := by rw [← hks, hkl]; rcases hk with rfl | rfl | rfl <;> decide
  obtain ⟨kk, hkk, hkk5⟩ : ∃ kk : Nat, k = (kk : Int) ∧ kk < 5 := ⟨k.toNat, by omega, by omega⟩
  have hgn : ∀ w', Glob w' → w'.cell? ⟨0, kk, none⟩ = some (.string kn) := fun w' h => by
    rcases hk with hk | hk | hk
    · obtain rfl : kk = 2 := by omega
      rw [hkn, hk]; exact h.n2
    · obtain rfl : kk = 3 := by omega
      rw [hkn, hk]; exact h.n3
    · obtain rfl : kk = 4 := by omega
      rw [hkn, hk]; exact h.n4
  obtain ⟨J, hJ⟩ : ∃ J : ByteArray, J = ⟨(joinW ts).toArray⟩ := ⟨_, rfl⟩
  have hJl : J.data.toList = joinW ts := by rw [hJ]
  have hJs : J.data.toList.length = J.size := Array.length_toList
  have hJz : J.size ≤ 1000000000 := by rw [← hJs, hJl]; exact hj
  have h0 : (⟨#[40]⟩ : ByteArray).size = 1 := rfl
  have h1 : (⟨#[41]⟩ : ByteArray).size = 1 := rfl
  have h2 : (⟨#[32]⟩ : ByteArray).size = 1 := rfl
  have r1 : ∀ w : World, (Op.stringOp .add ⟨#[40]⟩ kn).run Tryz.prog w = .ok (.string (⟨#[40]⟩ ++ kn)) w := fun w => run_string_add_sum w _ _ (by omega)
  have r2 : ∀ w : World, (Op.stringOp .add (⟨#[40]⟩ ++ kn) ⟨#[32]⟩).run Tryz.prog w = .ok (.string (⟨#[40]⟩ ++ kn ++ ⟨#[32]⟩)) w := fun w => run_string_add_sum w _ _ (by rw [ByteArray.size_append']; omega)
  have r3 : ∀ w : World, (Op.stringOp .add (⟨#[40]⟩ ++ kn ++ ⟨#[32]⟩) J).run Tryz.prog w = .ok (.string (⟨#[40]⟩ ++ kn ++ ⟨#[32]⟩ ++ J)) w := fun w => run_string_add_sum w _ _ (by rw [ByteArray.size_append', ByteArray.size_append']; omega)
  have r4 : ∀ w : World, (Op.stringOp .add (⟨#[40]⟩ ++ kn ++ ⟨#[32]⟩ ++ J) ⟨#[41]⟩).run Tryz.prog w = .ok (.string (⟨#[40]⟩ ++ kn ++ ⟨#[32]⟩ ++ J ++ ⟨#[41]⟩)) w := fun w => run_string_add_sum w _ _ (by rw [ByteArray.size_append', ByteArray.size_append', ByteArray.size_append']; omega)
  have HFIN : Hid ((⟨#[40]⟩ ++ kn ++ ⟨#[32]⟩ ++ J ++ ⟨#[41]⟩ : ByteArray) = ⟨(40 :: (kindN k ++ 32 :: (joinW ts ++ [41]))).toArray⟩) := Lib.hid (bytes_list12 (by rw [cat_list, cat_list, cat_list, cat_list, hkl, hJl]; simp))
  obtain ⟨w1, hw1⟩ : ∃ w1, w1 = boxQ w k f x A n c K m d := ⟨_, rfl⟩
  have hb1 : Below w.heap.size w w1 := by rw [hw1]; exact boxQ_below
  obtain ⟨-, a0, a1, a2, a3, a4⟩ := boxQ_of (w := w) (k := k) (f := f) (x := x) (A := A) (n := n) (c := c) (K := K) (m := m) (d := d) (wr := w1) (by rw [hw1]; exact Below.refl _ _)
  have hbd : Below w.heap.size w w1.drew := hb1.drew
  have HC : Hid (Calls Tryz.prog 104 #[.slice B bn bc, .string ⟨#[32]⟩] w1.drew fun e w' => e = .returned (.string J) ∧ Below w1.drew.heap.size w1.drew w') := Lib.hid (by rw [hJ]; exact str_join ts B bn bc w1.drew hn ((Row.below hw hbd).more hbd.size) hc h9 (by omega))
  have c0 := hgn w1 (hg.below hb1 hg.size)
  have HGN : Hid (∀ w', Below w.heap.size w w' → w'.cell? ⟨0, kk, none⟩ = some (.string kn)) := Lib.hid fun w' h => hgn w' (hg.below h hg.size)
  have HBD := Lib.hid hbd
  have HW1 := Lib.hid hw1
  have HKV : Hid (∀ w', Below w1.drew.heap.size w1.drew w' → w'.cell? ⟨w.heap.size, 0, none⟩ = some (.int .i64 (kk : Int))) := Lib.hid fun w' h => by
    have hb : Below (boxQ w k f x A n c K m d).heap.size (boxQ w k f x A n c K m d) w' := by
      rw [← hw1]
      exact (Below.refl _ w1).drew.trans h
    have := (boxQ_of hb).2.1
    rwa [hkk] at this
  have i5 : (kk : Int) < 5 := by omega
  have i0 : (0 : Int) ≤ (kk : Int) := by omega
  obtain ⟨R, hR⟩ : ∃ R, R = 40 :: (kindN k ++ 32 :: (joinW ts ++ [41])) := ⟨_, rfl⟩
  rw [← hR] at HFIN ⊢
  subst hkk
  clear hw1 hb1 hbd hw hJ hJl hJs hj hn hc h9 hkn hkl hks hk hgn hg hR
  go_enter Tryz.func69, Tryz.ntmps69
  go_upto_region 1 with fail
  rw [show w.alloc _ = w1 from HW1.out.symm]
  go_region_held3 (fun w' => w'.cell? ⟨0, kk, none⟩ = some (.string kn) ∧ w'.cell? ⟨w.heap.size, 0, none⟩ = some (.int .i64 (kk : Int)))
    (first | exact ⟨HGN.out _ HB2.out, HKV.out _ HK2.out⟩ | exact ⟨c0, a0⟩)
    (first | (go_at_call 104; (with_reducible refine HC.out.mono ?_); rintro e w2 ⟨rfl, hb2⟩; have HK2 := Lib.hid hb2; have HB2 : Hid (Below w.heap.size w w2) := Lib.hid (HBD.out.trans (hb2.mono HBD.out.size)); clear hb2))
  all_goals
    go_wp2_with fail
    go_ret
    exact ⟨by rw [← HFIN.out]; rfl, HB2.out⟩
end Go.Proofs.YtolfkhflbjnakaaGreatDoor

/- Package query's Print: what is written of a query, of what is written of its kids. -/
namespace Go.Proofs.YtolfkhflbjnakaaGreatDoor
open Go Go.RowKit
set_option linter.unusedVariables false

/-- What the closure sees: the map of kinds in a variable. -/
structure PAt12 (w : World) (V B b2 g2 b3 g3 b4 g4 : Nat) : Prop where
  kinds : KindsAt w B b2 g2 b3 g3 b4 g4
  var : w.heap[V]? = some (.cells #[.map (some B)] 55 (0, 0))
  glob : Glob w
section
variable {w w' : World} {V B b2 g2 b3 g3 b4 g4 : Nat}
theorem PAt12.below (h : PAt12 w V B b2 g2 b3 g3 b4 g4) (hb : Below w.heap.size w w') : PAt12 w' V B b2 g2 b3 g3 b4 g4 :=
  ⟨h.kinds.below hb, (hb.block V (Array.getElem?_eq_some_iff.1 h.var).1).trans h.var, h.glob.below hb h.glob.size⟩
theorem PAt12.cell (h : PAt12 w V B b2 g2 b3 g3 b4 g4) : w.cell? ⟨V, 0, none⟩ = some (.map (some B)) := by simp [World.cell?, h.var]
end
set_option maxHeartbeats 2000000 in
set_option maxRecDepth 100000 in
theorem print1_kind {w : World} {V B b2 g2 b3 g3 b4 g4 : Nat} (ha : PAt12 w V B b2 g2 b3 g3 b4 g4) (k : Int) (f x : ByteArray) (A : Option Addr) (n c : Nat) (K : Option Addr) (m d : Nat) (G : Option Addr) (gn gc : Nat) (nb nm n2 n3 n4 : Nat) (cm c4 : Array Value) (t : Nm)
    (hl : ∀ wr, Below w.heap.size w wr → (Instr.lookup 55 (.map (some B)) (.int .i64 k) false).run Tryz.prog wr = .ok (kindV nb nm n2 n3 n4 cm c4) wr)
    (e2 : ∀ args w, (callFunc n2 args).run Tryz.prog w = .ok (.enter n2 args) w)
    (hc : ∀ wr, Below w.heap.size w wr → Calls Tryz.prog n2 #[qV k f x A n c K m d, .slice G gn gc] wr (GaveS t wr)) :
    Calls Tryz.prog 37 #[qV k f x A n c K m d, .slice G gn gc, .pointer (some ⟨V, 0, none⟩)] w (GaveS t w) := by
  obtain ⟨w1, hw1⟩ : ∃ w1, w1 = boxQ w k f x A n c K m d := ⟨_, rfl⟩
  have hb1 : Below w.heap.size w w1 := by rw [hw1]; exact boxQ_below
  obtain ⟨-, a0, a1, a2, a3, a4⟩ := boxQ_of (w := w) (k := k) (f := f) (x := x) (A := A) (n := n) (c := c) (K := K) (m := m) (d := d) (wr := w1) (by rw [hw1]; exact Below.refl _ _)
  have b0 := (ha.below hb1).cell
  have hl1 := hl w1 hb1
  have hf1 := fld_text nb nm n2 n3 n4 cm c4
  have HC := Lib.hid (hc w1 hb1)
  have HW1 := Lib.hid hw1
  have HB1 := Lib.hid hb1
  clear hw1 hb1 hc hl ha
  go_enter Tryz.func37, Tryz.ntmps37
  go_upto_region 1 with fail
  rw [show w.alloc _ = w1 from HW1.out.symm]
  go_wp2_with (go_at_fn n2; (with_reducible refine HC.out.mono ?_); rintro e w3 ⟨rfl, hb3⟩; have HB3 : Hid (Below w.heap.size w w3) := Lib.hid (HB1.out.trans (hb3.mono HB1.out.size)); clear hb3)
  go_ret
  exact ⟨rfl, HB3.out⟩

set_option maxRecDepth 100000 in
theorem print_one {w : World} {V B b2 g2 b3 g3 b4 g4 : Nat} (ha : PAt12 w V B b2 g2 b3 g3 b4 g4) :
    OneS 37 #[.pointer (some ⟨V, 0, none⟩)] MayH textQ w := by
  intro q v wr G gc hp hb hq hr hgc
  obtain ⟨k, t, ws, ks, f, x, A, c, K, d, ds, rfl, rfl, hf, hx, hcc, hdd, hA, hK, hks⟩ := hq.open_
  have har := ha.below hb
  obtain ⟨D0, hD0, hm⟩ := hp
  obtain ⟨h1, ho, h3⟩ := mayQ_zero hm
  have hdp := mayQ_deep hm
  have hws : ∀ w', Below wr.heap.size wr w' → Row w' w'.heap.size A (strs ws) := fun w' h => (Row.below (RowP.row hA fun _ h => h) h).more h.size
  have hgr : ∀ w', Below wr.heap.size wr w' → Row w' w'.heap.size G (strs (ks.map textQ)) := fun w' h => (Row.below hr h).more h.size
  have hln : (ks.map textQ).length = ks.length := List.length_map _
  show Calls Tryz.prog 37 #[qV k f x A ws.length c K ks.length d, .slice G ks.length gc, .pointer (some ⟨V, 0, none⟩)] wr (GaveS (textQ (.mk k t ws ks)) wr)
  have hkid : 2 ≤ k → k ≤ 4 → 0 < ks.length → ks.length ≤ 8 → ∀ w', Below wr.heap.size wr w' → Calls Tryz.prog 69 #[qV k f x A ws.length c K ks.length d, .slice G ks.length gc] w' (GaveS (textQ (.mk k t ws ks)) w') := by
    intro h2 h4 h0 h8 w' hb'
    have hj := joinW_length (ws := ks.map textQ) (b := 25000000) fun u hu => by
      obtain ⟨q, hq, rfl⟩ := List.mem_map.1 hu
      have hmq := mayL_zero h3 q hq
      have := mayQ_deep hmq
      exact textQ_length 5 (by omega) hmq
    rw [hln] at hj
    have hj2 : ks.length * (25000000 + 1) ≤ 8 * (25000000 + 1) := Nat.mul_le_mul_right _ h8
    have := query_kidsText k (by omega) f x A ws.length c K ks.length d G ks.length gc (ks.map textQ) w' (har.below hb').glob hln (hgr w' hb') hgc (by omega) (by omega)
    have e : textQ (.mk k t ws ks) = 40 :: (kindN k ++ 32 :: (joinW (ks.map textQ) ++ [41])) := by
      rw [textQ, if_neg (by omega), if_neg (by omega), textL_join (by rintro rfl; exact Nat.lt_irrefl _ h0)]
      simp
    rw [e]
    exact this
  rcases own_zero ho with ⟨rfl, _, _, h4, h5⟩ | ⟨rfl, _, _, h4, _, h5, h6⟩ | ⟨h2, h4, _, _, h0, h8, _⟩
  · refine print1_kind har 1 f x A ws.length c K ks.length d G ks.length gc _ _ _ _ _ _ _ (textQ (.mk 1 t ws ks)) (fun w' hb => run_lookup_ki (har.kinds.below hb) find_kind.1 false) (enters_of Tryz.func59 (by kernel_rfl) rfl) fun w' hb => ?_
    have a := (name_bytes h4).2.2
    have b := (word_len h5).2
    have hfs : f.size ≤ 100000000 := by have e : f.data.toList.length = f.size := Array.length_toList; rw [hf] at e; omega
    have hxs : x.size ≤ 100000000 := by have e : x.data.toList.length = x.size := Array.length_toList; rw [hx] at e; omega
    have := query_termText 1 f x A K ws.length c ks.length d (.slice G ks.length gc) w' hfs hxs
    rw [hf, hx] at this
    rw [textQ, if_pos rfl]
    exact this
  · refine print1_kind har 5 f x A ws.length c K ks.length d G ks.length gc _ _ _ _ _ _ _ (textQ (.mk 5 t ws ks)) (fun w' hb => run_lookup_ki (har.kinds.below hb) find_kind.2.1 false) (enters_of Tryz.func64 (by kernel_rfl) rfl) fun w' hb => ?_
    have a := (name_bytes h4).2.2
    have b := joinW_length (ws := ws) (b := 30) fun w hw => (word_len (badW_false.1 h5 w hw)).2
    have hfs : f.size ≤ 100 := by have e : f.data.toList.length = f.size := Array.length_toList; rw [hf] at e; omega
    have := query_phraseText 5 f x A ws ws.length c K ks.length d (.slice G ks.length gc) w' rfl (hws w' hb) hcc (by omega) hfs (by omega)
    rw [hf] at this
    rw [textQ, if_neg (by decide), if_pos rfl]
    exact this
  · have hk' : k = 2 ∨ k = 3 ∨ k = 4 := by omega
    have hkid := hkid h2 h4 h0 h8
    rcases hk' with rfl | rfl | rfl
    · exact print1_kind har 2 f x A ws.length c K ks.length d G ks.length gc _ _ _ _ _ _ _ _ (fun w' hb => run_lookup_ki (har.kinds.below hb) find_kind.2.2.1 false) (enters_of Tryz.func69 (by kernel_rfl) rfl) hkid
    · exact print1_kind har 3 f x A ws.length c K ks.length d G ks.length gc _ _ _ _ _ _ _ _ (fun w' hb => run_lookup_ki (har.kinds.below hb) find_kind.2.2.2.1 false) (enters_of Tryz.func69 (by kernel_rfl) rfl) hkid
    · exact print1_kind har 4 f x A ws.length c K ks.length d G ks.length gc _ _ _ _ _ _ _ _ (fun w' hb => run_lookup_ki (har.kinds.below hb) find_kind.2.2.2.2 false) (enters_of Tryz.func69 (by kernel_rfl) rfl) hkid
end Go.Proofs.YtolfkhflbjnakaaGreatDoor

/- Package query's Print: the text of a query that may be; of another none, and why. -/
namespace Go.Proofs.YtolfkhflbjnakaaGreatDoor
open Go Go.RowKit
set_option linter.unusedVariables false

/-- A query's text, if it may be. -/
def printQ (q : Qy) : Nm := if mayQ 1 q = 0 then textQ q else []
set_option maxHeartbeats 2000000 in
set_option maxRecDepth 100000 in
theorem query_Print (q : Qy) (v : Value) (w : World) (hg : Glob w) (hd : deepQ q ≤ 1000) (hq : QIn w q v) (hf : FineQ q) :
    Calls Tryz.prog 19 #[v] w fun e w' => e = .returned (.tuple #[.string ⟨(printQ q).toArray⟩, .int .i64 (mayQ 1 q)]) ∧ Below w.heap.size w w' := by
  have hq0 := hq
  obtain ⟨k, t, ws, ks, f, x, A, c, K, d, ds, e1, rfl, -⟩ := hq.open_
  obtain ⟨w1, hw1⟩ : ∃ w1, w1 = boxQ w k f x A ws.length c K ks.length d := ⟨_, rfl⟩
  have HB : Hid (∀ wr, Below w1.heap.size w1 wr → Below w.heap.size w wr ∧ wr.cell? ⟨w.heap.size, 0, none⟩ = some (.int .i64 k) ∧ wr.cell? ⟨w.heap.size, 1, none⟩ = some (.string f) ∧ wr.cell? ⟨w.heap.size, 2, none⟩ = some (.string x) ∧ wr.cell? ⟨w.heap.size, 3, none⟩ = some (.slice A ws.length c) ∧ wr.cell? ⟨w.heap.size, 4, none⟩ = some (.slice K ks.length d)) := Lib.hid fun wr h => by
    rw [hw1] at h
    exact boxQ_of h
  obtain ⟨hb0, a0, a1, a2, a3, a4⟩ := HB.out _ (Below.refl _ _)
  have HM := Lib.hid (query_May q _ w1 hd (hq0.later hb0) hf)
  obtain ⟨S, hS⟩ : ∃ S : ByteArray, S = ⟨(printQ q).toArray⟩ := ⟨_, rfl⟩
  have HF : Hid (∀ w4 V B b2 g2 b3 g3 b4 g4, mayQ 1 q = 0 → Below w1.heap.size w1 w4 → KindsAt w4 B b2 g2 b3 g3 b4 g4 → w4.heap[V]? = some (.cells #[.map (some B)] 55 (0, 0)) →
      Calls Tryz.prog 36 #[qV k f x A ws.length c K ks.length d, .func (.func 37) #[] #[.pointer (some ⟨V, 0, none⟩)]] w4 fun e w' => e = .returned (.string S) ∧ Below w4.heap.size w4 w') := Lib.hid fun w4 V B b2 g2 b3 g3 b4 g4 hm hb hk hv => by
    have hdeep : deepQ q ≤ 7 := by have := mayQ_deep hm; omega
    have hw4 : Below w.heap.size w w4 := (HB.out _ hb).1
    rw [hS, printQ, if_pos hm]
    exact fold_text _ (enters_of Tryz.func37 (by kernel_rfl) rfl) _ MayH textQ w4 mayH_inner (print_one ⟨hk, hv, hg.below hw4 hg.size⟩) 7 q _ w4 hdeep ⟨1, Nat.le_refl _, hm⟩ (Below.refl _ _) (hq0.later hw4)
  have HS0 : Hid (mayQ 1 q ≠ 0 → S = ⟨#[]⟩) := Lib.hid fun h => by rw [hS, printQ, if_neg h]
  have HW1 := Lib.hid hw1
  rw [← hS]
  obtain ⟨R, hR⟩ : ∃ R, R = mayQ 1 q := ⟨_, rfl⟩
  rw [← hR] at HM HF HS0 ⊢
  clear hw1 hq0 e1 hf hd hb0 hS hR hg hq
  go_enter Tryz.func19, Tryz.ntmps19
  go_upto_region 1 with fail
  rw [show w.alloc _ = w1 from HW1.out.symm]
  by_cases h0 : R = 0
  · subst h0
    go_wp2_with (first
      | (go_at_call 14; (with_reducible refine HM.out.mono ?_); rintro e w2 ⟨rfl, hb2⟩; have HB2 : Hid (Below w1.heap.size w1 w2) := Lib.hid hb2; clear hb2 a0 a1 a2 a3 a4; obtain ⟨-, a0, a1, a2, a3, a4⟩ := HB.out _ HB2.out)
      | (go_at_call 34; (with_reducible refine (query_kinds _).mono ?_); rintro e w3 ⟨B, b2, g2, b3, g3, b4, g4, rfl, hk, hb3⟩
         have HB4 : Hid (Below w1.heap.size w1 (w3.alloc (.cells #[.map (some B)] 55))) := Lib.hid ((HB2.out.trans (hb3.mono HB2.out.size)).alloc (by have := HB2.out.size; have := hb3.size; omega) _)
         have HC := Lib.hid (HF.out (w3.alloc (.cells #[.map (some B)] 55)) w3.heap.size B b2 g2 b3 g3 b4 g4 (by first | trivial | rfl) HB4.out (hk.below ((Below.refl _ _).alloc (Nat.le_refl _) _)) (heap_alloc_new _ _))
         clear hk hb3 a0 a1 a2 a3 a4
         obtain ⟨-, a0, a1, a2, a3, a4⟩ := HB.out _ HB4.out)
      | (go_at_call 36; (with_reducible refine HC.out.mono ?_); rintro e w5 ⟨rfl, hb5⟩; have HB5 := Lib.hid (HB4.out.trans (hb5.mono HB4.out.size)); clear hb5))
    exact bodyPost_ret (v := .tuple #[.string S, .int .i64 0]) (by simp [results, Tryz.results19, go_sem]) rfl ⟨rfl, (HB.out _ HB5.out).1⟩
  · obtain rfl := HS0.out h0
    go_wp2_with (go_at_call 14; (with_reducible refine HM.out.mono ?_); rintro e w2 ⟨rfl, hb2⟩; have HB2 : Hid (Below w1.heap.size w1 w2) := Lib.hid hb2; clear hb2 a0 a1 a2 a3 a4)
    exact bodyPost_ret (v := .tuple #[.string ⟨#[]⟩, .int .i64 R]) (by simp [results, Tryz.results19, go_sem]) rfl ⟨rfl, (HB.out _ HB2.out).1⟩
end Go.Proofs.YtolfkhflbjnakaaGreatDoor
