import Derived.Test.YtldcadpemnpbmaaGreatDoorMLQ01
import Derived.Test.YtldcadpemnpbmaaGreatDoorMLQ02
import Derived.Deep.RegionHeld3
import Derived.Deep.RegionLaw
import Derived.Deep.AppendLies
import Derived.Test.YtldcadpemnpbmaaGreatDoorProg
import Derived.Lib.Hide
import Derived.BigQuiet
import Derived.Deep.QuietTactic
import Derived.Sort.Walk0
import Derived.Lib.RowBridge
import Derived.Lib.SlicesCompact
import Derived.Lib.BitFns
import Derived.Lib.Strings
namespace Go.Proofs.YtldcadpemnpbmaaGreatDoor
open Go Go.RowKit
set_option linter.unusedVariables false
set_option maxHeartbeats 1000000 in
theorem word_within (c:Int) (w:World):
  Calls Tryz.prog 194 #[.int .i64 c] w fun e w'=>e= .returned (.bool (inWord c))∧w=w':=by
 have l1:=fun w=>sign_Letter c w
 have d1:=fun w=>sign_Digit c w
 unfold inWord
 cases hL:isLetter c<;>cases hD:isDigit c<;>rw [hL] at l1<;>rw [hD] at d1
 all_goals
  have L1:=Lib.hid l1
  have D1:=Lib.hid d1
  clear l1 d1 hL hD
  go_enter Tryz.func194,Tryz.ntmps194
  go_wp2_with (first
   |(go_at_call 244;refine (L1.out _).mono ?_;rintro e w' ⟨rfl,rfl⟩)
   |(go_at_call 245;refine (D1.out _).mono ?_;rintro e w' ⟨rfl,rfl⟩))
  go_ret
  exact ⟨rfl,rfl⟩
set_option maxHeartbeats 1000000 in
theorem ref_in (c:Int) (w:World):
  Calls Tryz.prog 61 #[.int .i64 c] w fun e w'=>e= .returned (.bool (inWord c))∧w=w':=by
 have l1:=fun w=>ref_Letter c w
 cases hL:isLetter c<;>rw [hL] at l1
 all_goals
  have L1:=Lib.hid l1
  have hin:inWord c=(isLetter c || isDigit c):=rfl
  rw [hL] at hin
  have HIN:=Lib.hid hin
  clear l1 hL hin
  go_enter Tryz.func61,Tryz.ntmps61
  go_wp2_with (go_at_call 124;refine (L1.out _).mono ?_;rintro e w' ⟨rfl,rfl⟩)
  all_goals
   go_ret
   refine ⟨ret_bool ?_,rfl⟩
   rw [HIN.out,Bool.eq_iff_iff]
   simp [isDigit]
   try omega
def Told02 (base B:Nat) (xs:List Value) (w:World) (e:Ending) (w':World):Prop:=
 e= .returned (.tuple #[])∧RowVar 24 9 base B xs w'∧Touched B w w'
set_option maxHeartbeats 1000000 in
set_option maxRecDepth 100000 in
theorem words_tell (base B:Nat) (xs:List Value) (s:ByteArray) (w:World) (h:RowVar 24 9 base B xs w) (hl:xs.length≤1073741824) (hbase:base≤w.heap.size):
  Calls Tryz.prog 263 #[.string s,.pointer (some ⟨B,0,none⟩)] w (Told02 base B (xs++[.string s]) w):=by
 obtain ⟨i0,hi0,hz0,hz1,hz2⟩:=info_parts info_string
 obtain ⟨v,hv,hown⟩:=h
 have cB:=cell_of_one hv
 have fB:=free_of_one hv
 go_enter Tryz.func263,Tryz.ntmps263
 go_wp2_with (at_builtin;refine wpList_append_own _ rfl (.tmp 3) (.tmp 5) 24 rfl base 9 i0 _ 1 16 Tryz.underlying24 hi0 hz0 hz1 hz2 rfl (by omega) _ xs.length xs rfl (hown.alloc _) ⟨w.heap.size,0,none⟩ 1 1 [.string s] rfl rfl (news_at w [.string s] 9) (by intro u hu;simp at hu;subst hu;rfl) (by unfold maxLen;omega) (by omega) (by simp;omega) ?_)
 intro v' w1 hown1 hgrow1 _
 obtain ⟨g',cap',rfl,_,_⟩:=hown1.form (by omega)
 obtain ⟨cB1,fB1,hrv,htc⟩:=pushed (by decide) hv rfl hown ((Below.refl _ w).alloc (Nat.le_refl _) _) hgrow1 hown1 rfl
 go_wp2
 go_end0
 exact ⟨rfl,hrv,htc⟩
structure Gath (base Bl Bt Bn:Nat) (st:List (List Int) × List Int) (w:World):Prop where
 base_le:base≤w.heap.size
 outs:RowVar 24 9 base Bl (strs (st.1.map text)) w
 tell:w.heap[Bt]?=some (.cells #[.func (.func 263) #[] #[.pointer (some ⟨Bl,0,none⟩)]] 327 (0,0))
 own:RowVar 88 3 base Bn (ints st.2) w
theorem Gath.keep {base Bl Bt Bn:Nat} {st:List (List Int) × List Int} {w w':World} (h:Gath base Bl Bt Bn st w) (hb:Below w.heap.size w w'):Gath base Bl Bt Bn st w':=
 ⟨Nat.le_trans h.base_le hb.size,h.outs.below hb,(hb.block Bt (lt_of_block h.tell)).trans h.tell,h.own.below hb⟩
theorem Gath.owned {base Bl Bt Bn:Nat} {st st':List (List Int) × List Int} {w w':World} (h:Gath base Bl Bt Bn st w) (ht:Touched Bn w w') (h1:st'.1=st.1) (ho:RowVar 88 3 base Bn (ints st'.2) w'):Gath base Bl Bt Bn st' w':=
 ⟨Nat.le_trans h.base_le ht.2.2.2.1,by rw [h1];exact h.outs.other h.own ht (by decide) (by decide) (by decide) (by decide),Touched.block h.own ht h.tell (by decide) (by decide),ho⟩
theorem Gath.told {base Bl Bt Bn:Nat} {st st':List (List Int) × List Int} {w w':World} (h:Gath base Bl Bt Bn st w) (ht:Touched Bl w w') (h1:st'.2=st.2) (ho:RowVar 24 9 base Bl (strs (st'.1.map text)) w'):Gath base Bl Bt Bn st' w':=
 ⟨Nat.le_trans h.base_le ht.2.2.2.1,ho,Touched.block h.outs ht h.tell (by decide) (by decide),by rw [h1];exact h.own.other h.outs ht (by decide) (by decide) (by decide) (by decide)⟩
def TookG (base Bl Bt Bn:Nat) (st:List (List Int) × List Int) (w:World) (e:Ending) (w':World):Prop:=
 e= .returned (.tuple #[])∧Gath base Bl Bt Bn st w'∧Aside base Bl Bn w w'
theorem took_in {base Bl Bt Bn:Nat} {st:List (List Int) × List Int} {c:Int} {w w':World} (h:Gath base Bl Bt Bn st w) (hc:inWord c=true) (ht:Touched Bn w w')
  (ho:RowVar 88 3 base Bn (ints st.2++[.int .i64 (fold c)]) w'):TookG base Bl Bt Bn (step st c) w (.returned (.tuple #[])) w':=by
 have e:step st c=(st.1,st.2++[fold c]):=step_in hc
 rw [e]
 refine ⟨rfl,h.owned ht rfl ?_,(ht.aside h.own h.base_le).swap⟩
 simpa [ints] using ho
set_option maxHeartbeats 1000000 in
set_option maxRecDepth 100000 in
theorem take_in (base Bl Bt Bn:Nat) (st:List (List Int) × List Int) (c:Int) (w:World) (h:Gath base Bl Bt Bn st w) (hl:st.2.length≤1073741824) (hc:inWord c=true):
    Calls Tryz.prog 291 #[.int .i64 c,.pointer (some ⟨Bn,0,none⟩),.pointer (some ⟨Bt,0,none⟩)] w (TookG base Bl Bt Bn (step st c) w):=by
  obtain ⟨i0,hi0,hz0,hz1,hz2⟩:=info_parts info_int
  have hbase:=h.base_le
  obtain ⟨v,hv,hown⟩:=h.own
  have cB:=cell_of_one hv
  have fB:=free_of_one hv
  have f1:=fun w=>sign_Fold c w
  have w1:=fun w=>word_within c w
  have tk:=fun (w':World)=>took_in (w':=w') h hc
  generalize fold c=y at f1 tk
  rw [hc] at w1
  rw [ints_length] at hown
  have hal:(w.alloc (.cells #[.int .i64 y] 3)).cell? ⟨Bn,0,none⟩=some v:=(((Below.refl _ w).alloc (Nat.le_refl _) _).cell (p:=⟨Bn,0,none⟩) (lt_of_block hv)).trans cB
  have F1:=Lib.hid f1
  have W1:=Lib.hid w1
  have TK:=Lib.hid tk
  have HC:=Lib.hid hc
  clear f1 w1 tk hc
  go_enter Tryz.func291,Tryz.ntmps291
  go_wp2_with (go_at_call 194;refine (W1.out _).mono ?_;rintro e w' ⟨rfl,rfl⟩)
  go_region_law (first
      | (refine step_append_lies _ (by rfl) _ _ _ (by rfl) base 3 i0 _ 1 8 Tryz.underlying88 hi0 hz0 hz1 hz2 rfl (by omega) v st.2.length (ints st.2) (by rfl) ((hown.alloc _).drew)
          ⟨w.heap.size,0,none⟩ 1 1 [.int .i64 y] (by rfl) (by rfl) (World.news_of_block (cs:=#[.int .i64 y]) (t:=3) (fr:=(0,0)) (heap_alloc_new w _)) (by simp [Value.oneCell'])
          (by omega) (by unfold maxLen;omega) (by omega) (by simp;omega) (w.heap.size+1) (by simp) ?_
         intro gg cap w1 hown1 hgrow hat hlt
         obtain ⟨cB1,fB1,hrv,htc⟩:=pushed (by decide) hv (ints_length _) hown (((Below.refl _ w).alloc (Nat.le_refl _) _).drew) hgrow hown1 rfl)
      |(go_simp;go_at_call 195;refine (F1.out _).mono ?_;rintro e w' ⟨rfl,rfl⟩))
  all_goals
    go_wp2
    go_end0
    exact TK.out _ htc hrv
set_option maxHeartbeats 1000000 in
set_option maxRecDepth 100000 in
theorem take_skip (base Bl Bt Bn:Nat) (out:List (List Int)) (c:Int) (w:World) (h:Gath base Bl Bt Bn (out,[]) w) (hc:inWord c=false):
  Calls Tryz.prog 291 #[.int .i64 c,.pointer (some ⟨Bn,0,none⟩),.pointer (some ⟨Bt,0,none⟩)] w (TookG base Bl Bt Bn (out,[]) w):=by
 obtain ⟨v,hv,hown⟩:=h.own
 have cB:=cell_of_one hv
 have w1:=fun w=>word_within c w
 rw [hc] at w1
 have W1:=Lib.hid w1
 clear w1
 obtain ⟨A,k,rfl,_,_⟩:=owned_row hown
 go_enter Tryz.func291,Tryz.ntmps291
 go_wp2_with (go_at_call 194;refine (W1.out _).mono ?_;rintro e w' ⟨rfl,rfl⟩)
 go_end0
 exact ⟨rfl,h,Aside.refl _ _ _ _⟩
theorem took_end {base Bl Bt Bn:Nat} {out:List (List Int)} {own:List Int} {w w2 w3:World} (h:Gath base Bl Bt Bn (out,own) w) (hb:Below w.heap.size w w2)
  (hr:RowVar 24 9 base Bl (strs (out.map text)++[.string ⟨(text own).toArray⟩]) w3) (ht:Touched Bl w2 w3):
  Gath base Bl Bt Bn (out++[own],own) w3∧Aside base Bl Bn w w3:=by
 have h2:=h.keep hb
 refine ⟨h2.told ht rfl (by simpa [strs] using hr),(Aside.of (hb.mono h.base_le)).trans (ht.aside h2.outs h2.base_le)⟩
set_option maxHeartbeats 1000000 in
set_option maxRecDepth 100000 in
theorem take_end (base Bl Bt Bn:Nat) (out:List (List Int)) (own:List Int) (c:Int) (w:World) (h:Gath base Bl Bt Bn (out,own) w) (hl:own.length≤1073741824) (ho:out.length≤1073741824) (hc:inWord c=false) (hn:own≠[]):
    Calls Tryz.prog 291 #[.int .i64 c,.pointer (some ⟨Bn,0,none⟩),.pointer (some ⟨Bt,0,none⟩)] w (TookG base Bl Bt Bn (out++[own],[]) w):=by
  have hpos:0<own.length:=List.length_pos_iff.2 hn
  obtain ⟨v,hv,hown⟩:=h.own
  rw [ints_length] at hown
  obtain ⟨g,cap,rfl,_,_⟩:=hown.form hpos
  obtain ⟨A,k,he,_,hrow⟩:=owned_row hown
  have hA:A=some ⟨g,0,none⟩:=by injection he with h1 h2 h3;exact h1.symm
  rw [hA] at hrow
  have cN:=cell_of_one hv
  have cT:=cell_of_one h.tell
  have hltN:=lt_of_block hv
  have hltT:=lt_of_block h.tell
  have w1:=fun w=>word_within c w
  rw [hc] at w1
  have W1:=Lib.hid w1
  have HR:=Lib.hid hrow
  have HG:=Lib.hid h
  clear w1 he hA hrow h
  go_enter Tryz.func291,Tryz.ntmps291
  go_wp2_with (go_at_call 194;refine (W1.out _).mono ?_;rintro e w' ⟨rfl,rfl⟩)
  go_region_held3 (fun w'=>w'.cell? ⟨Bt,0,none⟩=some (.func (.func 263) #[] #[.pointer (some ⟨Bl,0,none⟩)])∧w'.cell? ⟨Bn,0,none⟩=some (.slice (some ⟨g,0,none⟩) own.length cap))
    (first|go_keep|exact ⟨cT2,cN2⟩|exact ⟨cT3,cN3⟩)
    (first
      | (go_at_call 292; refine (sign_Text _ _ own w.drew (HR.out.below (Below.refl _ w).drew) hl).mono ?_; rintro e w2 ⟨rfl, hb0⟩
         have hb2:Below w.heap.size w w2:=(Below.refl _ w).drew.trans hb0
         have HB2:=Lib.hid hb2
         have cT2:=(hb2.cell (p:=⟨Bt,0,none⟩) hltT).trans cT
         have cN2:=(hb2.cell (p:=⟨Bn,0,none⟩) hltN).trans cN
         have hrv2:=(HG.out.keep hb2).outs
         clear hb2 hb0)
      | (go_at_call 263; refine (words_tell base Bl (strs (out.map text)) _ _ hrv2 (by rw [strs_length, List.length_map]; exact ho) (HG.out.keep HB2.out).base_le).mono ?_; rintro e w3 ⟨rfl, hrv3, ht3⟩
         have cT3:=cell_of_one (Touched.block hrv2 ht3 ((HB2.out.block Bt hltT).trans HG.out.tell) (by decide) (by decide))
         have hv3:=Touched.block hrv2 ht3 ((HB2.out.block Bn hltN).trans hv) (by decide) (by decide)
         have cN3:=cell_of_one hv3
         have fN3:=free_of_one hv3))
  obtain ⟨hg3,hb3⟩:=took_end HG.out HB2.out hrv3 ht3
  have hown3:w3.ownsRow base 3 1 (.slice (some ⟨g,0,none⟩) own.length cap) own.length (ints own):=by
    obtain ⟨v3,hv3',hown3⟩:=hg3.own
    rw [hv3] at hv3'
    simp at hv3'
    rw [← hv3',ints_length] at hown3
    exact hown3
  obtain ⟨hrN,htN⟩:=emptied (T:=88) (E:=3) (by decide) hv3 hown3
  have hfin:TookG base Bl Bt Bn (out++[own],[]) w (.returned (.tuple #[])) (w3.setCell ⟨Bn,0,none⟩ (.slice (some ⟨g,0,none⟩) 0 cap)):=
    ⟨rfl,hg3.owned htN rfl hrN,hb3.trans (htN.aside hg3.own hg3.base_le).swap⟩
  have HF:=Lib.hid hfin
  clear hg3 hb3 hown3 hrN htN hfin
  go_wp2
  go_end0
  exact HF.out
theorem take_any (base Bl Bt Bn:Nat) (st:List (List Int) × List Int) (c:Int) (w:World) (h:Gath base Bl Bt Bn st w) (hl:st.2.length≤1073741824) (ho:st.1.length≤1073741824):
  Calls Tryz.prog 291 #[.int .i64 c,.pointer (some ⟨Bn,0,none⟩),.pointer (some ⟨Bt,0,none⟩)] w (TookG base Bl Bt Bn (step st c) w):=by
 by_cases hc:inWord c=true
 ·exact take_in base Bl Bt Bn st c w h hl hc
 ·have hc':inWord c=false:=by simpa using hc
  obtain ⟨out,own⟩:=st
  by_cases hn:own=[]
  ·subst hn
   rw [step_skip hc']
   exact take_skip base Bl Bt Bn out c w h hc'
  ·rw [step_end hc' hn]
   exact take_end base Bl Bt Bn out own c w h hl ho hc' hn
end Go.Proofs.YtldcadpemnpbmaaGreatDoor
namespace Go.Proofs.YtldcadpemnpbmaaGreatDoor
open Go Go.RowKit
set_option linter.unusedVariables false
def GaveStrs (l:List (List UInt8)) (w:World) (e:Ending) (w':World):Prop:=∃ v,e= .returned v∧w'.ownsRow w.heap.size 9 1 v l.length (strs l)∧Below w.heap.size w w'
def upto (l:List Int) (k:Nat):List (List Int) × List Int:=(l.take k).foldl step ([],[])
theorem upto_succ {l:List Int} {k:Nat} (hk:k<l.length):upto l (k+1)=step (upto l k) l[k]:=by
 unfold upto
 rw [List.take_succ_eq_append_getElem hk,List.foldl_append]
 rfl
theorem upto_end (l:List Int):(step (upto l l.length) 32).1=wordSigns l:=by
 unfold upto wordSigns gather
 rw [List.take_length,List.foldl_append]
 rfl
theorem step_bd (st:List (List Int) × List Int) (c:Int):(step st c).1.length+(step st c).2.length≤st.1.length+st.2.length+1:=by
 unfold step
 split
 ·simp;omega
 ·split
  ·omega
  ·simp
theorem upto_bd (l:List Int):∀ k,k≤l.length→(upto l k).1.length+(upto l k).2.length≤k
 |0,_=>by simp [upto]
 |k+1,hk=>by
  have h1:=upto_bd l k (by omega)
  have h2:=step_bd (upto l k) l[k]
  rw [upto_succ (by omega)]
  omega
def WordsRel (l:List Int) (base B:Nat) (w1:World) (i:Value) (wr:World):Prop:=
 ∃ k:Nat,k≤l.length∧i= .int .i64 k∧Gath base B (B+1) (B+2) (upto l k) wr∧Aside base B (B+2) w1 wr
def made (w:World):World:=
 ((w.alloc (.cells #[.slice none 0 0] 24)).alloc (.cells #[.func (.func 263) #[] #[.pointer (some ⟨w.heap.size,0,none⟩)]] 327)).alloc (.cells #[.slice none 0 0] 88)
theorem made_size (w:World):(made w).heap.size=w.heap.size+3:=by simp [made]
theorem made_below (w:World):Below w.heap.size w (made w):=(((Below.refl _ w).alloc (Nat.le_refl _) _).alloc (by simp) _).alloc (by simp;omega) _
theorem made_gath (w w1:World) (hb:Below (made w).heap.size (made w) w1):Gath w1.heap.size w.heap.size (w.heap.size+1) (w.heap.size+2) ([],[]) w1:=by
 have hs:=made_size w
 have h1:(made w).heap[w.heap.size]?=some (.cells #[.slice none 0 0] 24 (0,0)):=by
  unfold made
  rw [Below.heap_alloc _ _ _ (by simp;omega),Below.heap_alloc _ _ _ (by simp)]
  exact heap_alloc_new w _
 have h2:(made w).heap[w.heap.size+1]?=some (.cells #[.func (.func 263) #[] #[.pointer (some ⟨w.heap.size,0,none⟩)]] 327 (0,0)):=by
  unfold made
  rw [Below.heap_alloc _ _ _ (by simp)]
  have :=heap_alloc_new (w.alloc (.cells #[.slice none 0 0] 24)) (.cells #[.func (.func 263) #[] #[.pointer (some ⟨w.heap.size,0,none⟩)]] 327)
  simpa using this
 have h3:(made w).heap[w.heap.size+2]?=some (.cells #[.slice none 0 0] 88 (0,0)):=by
  unfold made
  have :=heap_alloc_new ((w.alloc (.cells #[.slice none 0 0] 24)).alloc (.cells #[.func (.func 263) #[] #[.pointer (some ⟨w.heap.size,0,none⟩)]] 327)) (.cells #[.slice none 0 0] 88)
  simpa using this
 exact ⟨Nat.le_refl _,⟨_,(hb.block _ (by omega)).trans h1,World.ownsRow_nil _ _ _ _⟩,(hb.block _ (by omega)).trans h2,⟨_,(hb.block _ (by omega)).trans h3,World.ownsRow_nil _ _ _ _⟩⟩
set_option maxHeartbeats 1000000 in
set_option maxRecDepth 100000 in
theorem word_Words (s:ByteArray) (w:World) (hs:s.size≤1073741824):
  Calls Tryz.prog 221 #[.string s] w (GaveStrs (words s.data.toList) w):=by
 have hsl:=signs_length s.data.toList
 have hsz:s.data.toList.length=s.size:=Array.length_toList
 rw [hsz] at hsl
 have hwd:(step (upto (signs s.data.toList) (signs s.data.toList).length) 32).1.map text=words s.data.toList:=by rw [upto_end];rfl
 go_enter Tryz.func221,Tryz.ntmps221
 go_wp2_with (first
  |(go_at_call 262;go_in)
  |(go_at_call 193;refine (sign_Signs s _ hs).mono ?_))
 rintro e w1 ⟨v,rfl,hown,hb⟩
 have hms:=made_size w
 have hg1:=made_gath w w1 hb
 have hbm:Below w.heap.size w w1:=(made_below w).trans (hb.mono (made_below w).size)
 have hown:w1.ownsRow (w.heap.size+3) 3 1 v (signs s.data.toList).length (ints (signs s.data.toList)):=by rw [← hms];exact hown
 have hszm:w.heap.size+3≤w1.heap.size:=by rw [← hms];exact hb.size
 obtain ⟨A,c,rfl,_,_⟩:=owned_row hown
 obtain ⟨l,hl⟩:∃ l,l=signs s.data.toList:=⟨_,rfl⟩
 rw [← hl] at hown hsl hwd
 rw [← hl]
 have HG1:=Lib.hid hg1
 have HBM:=Lib.hid hbm
 have HO:=Lib.hid hown
 have HWD:=Lib.hid hwd
 clear hl hms hg1 hbm hb hown hwd
 go_wp2
 go_loopw [12] (fun i wr=>WordsRel l w1.heap.size w.heap.size w1 i wr) (fun i _=>l.length-(intOf i).toNat)
 case atStart=>exact ⟨0,Nat.zero_le _,rfl,HG1.out,Aside.refl _ _ _ _⟩
 case round=>
  obtain ⟨k,hk,rfl,hg,ha⟩:=hrel
  have hbd:=upto_bd l k hk
  have HR:=Lib.hid (owned_row_of (owned_aside HO.out (by omega) (by omega) (Nat.le_refl _) ha))
  have HA:=Lib.hid ha
  have cL:=hg.outs
  by_cases hlt:k<l.length
  ·obtain ⟨b1,o1,e1,_,hc1⟩:=row_int HR.out hlt
   subst e1
   have HU:=Lib.hid (upto_succ hlt)
   obtain ⟨x,hx⟩:∃ x,x=l[k]:=⟨_,rfl⟩
   rw [← hx] at hc1 HU
   clear hx ha cL
   go_wp2_with (go_at_call 291;refine (take_any w1.heap.size w.heap.size (w.heap.size+1) (w.heap.size+2) (upto l k) x _ hg (by omega) (by omega)).mono ?_;rintro e w2 ⟨rfl,hg2,ha2⟩)
   go_roundw
   case rel=>exact ⟨k+1,by omega,by go_num,by rw [HU.out];exact hg2,HA.out.trans ha2⟩
   case measure=>simp [intOf];omega
  ·have hkl:k=l.length:=by omega
   clear cL ha
   go_wp2_with (go_at_call 291;refine (take_any w1.heap.size w.heap.size (w.heap.size+1) (w.heap.size+2) (upto l k) 32 _ hg (by omega) (by omega)).mono ?_;rintro e w2 ⟨rfl,hg2,ha2⟩;obtain ⟨v2,hv2,hown2⟩:=hg2.outs;have c2:=cell_of_one hv2)
   go_ret
   subst hkl
   rw [HWD.out] at hown2
   refine ⟨_,rfl,?_,HBM.out.trans ((HA.out.trans ha2).below HBM.out.size (Nat.le_refl _) (by omega))⟩
   rw [strs_length] at hown2
   exact owned_low hown2 HBM.out.size
end Go.Proofs.YtldcadpemnpbmaaGreatDoor
namespace Go.Proofs.YtldcadpemnpbmaaGreatDoor
open Go Go.RowKit
set_option linter.unusedVariables false
theorem gather_at {o:List (List Int)} {n l:List Int} {k:Nat} (hk:k<l.length):gather (o,n) (l.drop k)=gather (step (o,n) l[k]) (l.drop (k+1)):=by
 rw [List.drop_eq_getElem_cons hk,gather_cons]
theorem gather_past {o:List (List Int)} {n l:List Int} {k:Nat} (hk:l.length≤k) (hn:n≠[]):gather (o,n) (l.drop k)=gather (o++[n],[]) (l.drop (k+1)):=by
 rw [List.drop_of_length_le hk,List.drop_of_length_le (by omega),gather_last hn,gather_done]
theorem gather_stop {o:List (List Int)} {n l:List Int} {k:Nat} (hn:n≠[]) (h:(hk:k<l.length)→inWord l[k]=false):gather (o,n) (l.drop k)=gather (o++[n],[]) (l.drop (k+1)):=by
 by_cases hk:k<l.length
 ·rw [gather_at hk,step_end (h hk) hn]
 ·exact gather_past (by omega) hn
def RefOut (l:List Int) (w1:World) (o i:Value) (wr:World):Prop:=
 ∃ (k:Nat) (out:List (List Int)) (vo:Value),vo=o∧k≤l.length+1∧i= .int .i64 k∧out.length≤k∧wr.ownsRow w1.heap.size 9 1 o out.length (strs (out.map text))∧Below w1.heap.size w1 wr∧gather (out,[]) (l.drop k)=wordSigns l
def RefIn (l:List Int) (w1:World) (out:List (List Int)) (o:Value) (k0:Nat) (i n:Value) (wr:World):Prop:=
 ∃ (k:Nat) (own:List Int) (vn:Value),vn=n∧k≤l.length∧k0≤k∧i= .int .i64 k∧own.length≤k∧(own=[]→k=k0)∧wr.ownsRow w1.heap.size 9 1 o out.length (strs (out.map text))∧wr.ownsRow w1.heap.size 3 1 n own.length (ints own)∧Below w1.heap.size w1 wr∧gather (out,own) (l.drop k)=wordSigns l
set_option maxHeartbeats 2000000 in
set_option maxRecDepth 100000 in
theorem ref_Words (s:ByteArray) (w:World) (hs:s.size≤268435456):
  Calls Tryz.prog 212 #[.string s] w (GaveStrs (words s.data.toList) w):=by
 obtain ⟨i0,hi0,hz0,hz1,hz2⟩:=info_parts info_int
 obtain ⟨i1,hi1,hy0,hy1,hy2⟩:=info_parts info_string
 have hsl:=signs_length s.data.toList
 have hsz:s.data.toList.length=s.size:=Array.length_toList
 rw [hsz] at hsl
 have hwd:(wordSigns (signs s.data.toList)).map text=words s.data.toList:=rfl
 go_enter Tryz.func212,Tryz.ntmps212
 go_wp2_with (go_at_call 59;refine (ref_Signs s _ (by omega)).mono ?_)
 rintro e w1 ⟨v,rfl,hown,hb⟩
 obtain ⟨A,c,rfl,_,hrow⟩:=owned_row hown
 obtain ⟨l,hl⟩:∃ l,l=signs s.data.toList:=⟨_,rfl⟩
 rw [← hl] at hrow hsl hwd
 rw [← hl]
 have HB:=Lib.hid hb
 have HR:=Lib.hid hrow
 have HWD:=Lib.hid hwd
 clear hl hb hown hrow hwd
 go_wp2
 go_loopw [4,5] (fun o i wr=>RefOut l w1 o i wr) (fun _ i _=>l.length+1-(intOf i).toNat)
 case atStart=>exact ⟨0,[],_,rfl,by omega,rfl,by simp,World.ownsRow_nil _ _ _ _,Below.refl _ _,rfl⟩
 case round=>
  obtain ⟨k,out,vo,rfl,hk,rfl,hok,hout,hbw,hga⟩:=hrel
  by_cases hlt:k<l.length
  ·obtain ⟨b1,o1,e1,_,hc1⟩:=row_int (HR.out.below hbw) hlt
   subst e1
   by_cases hin:inWord l[k]=true
   ·have r1:=fun w=>ref_in l[k] w
    rw [hin] at r1
    have R1:=Lib.hid r1
    have HIN:Hid (inWord l[k]=true):=Lib.hid hin
    have HGA:=Lib.hid hga
    have HOUT:=Lib.hid hout
    obtain ⟨x,hx⟩:∃ x,x=l[k]:=⟨_,rfl⟩
    rw [← hx] at hc1 R1 HIN
    have HX:=Lib.hid hx
    clear r1 hin hga hout hx
    go_wp2_with (go_at_call 61;refine (R1.out _).mono ?_;rintro e w' ⟨rfl,rfl⟩)
    go_loopw [5,7] (fun i n wr=>RefIn l w1 out vo k i n wr) (fun i _ _=>l.length-(intOf i).toNat)
    case atStart=>exact ⟨k,[],_,rfl,by omega,by omega,rfl,by simp,fun _=>rfl,HOUT.out,World.ownsRow_nil _ _ _ _,hbw,HGA.out⟩
    case round=>
     obtain ⟨j,own,vn,rfl,hj,hkj,rfl,hoj,hne0,hout2,hown2,hbw2,hga2⟩:=hrel
     have hne:(k<j∨j=l.length∨(∃ h:j<l.length,inWord l[j]=false))→own≠[]:=by
      intro hh he
      have hjk:=hne0 he
      subst hjk
      rcases hh with hh|hh|⟨_,hh⟩
      ·omega
      ·omega
      ·rw [← HX.out,HIN.out] at hh;cases hh
     by_cases hltj:j<l.length
     ·obtain ⟨b2,o2,e2,_,hc2⟩:=row_int (HR.out.below hbw2) hltj
      simp at e2
      obtain ⟨rfl,rfl⟩:=e2
      by_cases hinj:inWord l[j]=true
      ·have r2:=fun w=>ref_in l[j] w
       rw [hinj] at r2
       have f2:=fun w=>ref_Fold l[j] w
       have ga2:=gather_at (o:=out) (n:=own) hltj
       rw [hga2,step_in hinj] at ga2
       obtain ⟨y,hy⟩:∃ y,y=l[j]:=⟨_,rfl⟩
       rw [← hy] at hc2 r2 f2 ga2
       obtain ⟨z,hz⟩:∃ z,z=fold y:=⟨_,rfl⟩
       rw [← hz] at f2 ga2
       have R2:=Lib.hid r2
       have F2:=Lib.hid f2
       have GA2:=Lib.hid ga2
       have HO2:=Lib.hid hout2
       have hszj:=hbw2.size
       clear r2 f2 ga2 hinj hga2 hy hz hne hne0 hout2 hc1
       go_wp2_with (first
        |(go_at_call 61;refine (R2.out _).mono ?_;rintro e w' ⟨rfl,rfl⟩)
        |(go_at_call 122;refine (F2.out _).mono ?_;rintro e w' ⟨rfl,rfl⟩)
        |(at_builtin;refine wpList_append_own _ rfl (.tmp 34) (.tmp 40) 88 rfl w1.heap.size 3 i0 _ 1 8 Tryz.underlying88 hi0 hz0 hz1 hz2 rfl (by omega) _ own.length (ints own) rfl (hown2.alloc _) ⟨_,0,none⟩ 1 1 [.int .i64 z] rfl rfl (news_at _ [.int .i64 z] 3) (by intro u hu;simp at hu;subst hu;rfl) (by unfold maxLen;omega) (by omega) (by simp;omega) ?_))
       intro v' w5 hown5 hgrow5 _
       have hbw5:=(hbw2.alloc (by omega) _).grown hgrow5 (by simp;omega) (fun j hj=>(hown2.lt j hj).1)
       have hout5:=(HO2.out.alloc _).kept hgrow5 (owned_other HO2.out hown2 (by decide))
       clear hgrow5
       go_wp2
       go_roundw
       case rel=>
        refine ⟨j+1,own++[z],_,rfl,by omega,by omega,by go_num,by simp;omega,by simp,hout5,?_,hbw5,GA2.out.symm⟩
        simpa [ints] using hown5
       case measure=>simp [intOf];omega
      ·have hinj':inWord l[j]=false:=by simpa using hinj
       have r2:=fun w=>ref_in l[j] w
       rw [hinj'] at r2
       have hne:=hne (.inr (.inr ⟨hltj,hinj'⟩))
       have HIJ:=Lib.hid hinj'
       obtain ⟨A3,c3,rfl,_,hrow3⟩:=owned_row hown2
       have HN:=Lib.hid hrow3
       have R2:=Lib.hid r2
       have HG2:=Lib.hid hga2
       have HO2:=Lib.hid hout2
       have HBW2:=Lib.hid hbw2
       obtain ⟨y,hy⟩:∃ y,y=l[j]:=⟨_,rfl⟩
       rw [← hy] at hc2 R2
       clear r2 hinj hinj' hga2 hout2 hrow3 hown2 hne0 hc1 hy
       go_wp2_with (first
        |(go_at_call 61;refine (R2.out _).mono ?_;rintro e w' ⟨rfl,rfl⟩)
        |(go_at_call 123;refine (ref_Text_at _ _ _ own _ rfl HN.out (by omega)).mono ?_))
       rintro e w4 ⟨rfl,hb4⟩
       obtain ⟨tx,htx⟩:∃ tx:ByteArray,tx=⟨(text own).toArray⟩:=⟨_,rfl⟩
       rw [← htx]
       have hout4:=owned_below HO2.out hb4
       have hbw4:Below w1.heap.size w1 w4:=HBW2.out.trans (hb4.mono HBW2.out.size)
       have HTX:=Lib.hid htx
       clear htx hb4
       have hsz4:=hbw4.size
       go_wp2_with (at_builtin;refine wpList_append_own _ rfl (.tmp 44) (.tmp 47) 24 rfl w1.heap.size 9 i1 _ 1 16 Tryz.underlying24 hi1 hy0 hy1 hy2 rfl (by omega) _ out.length (strs (out.map text)) rfl (hout4.alloc _) ⟨w4.heap.size,0,none⟩ 1 1 [.string tx] rfl rfl (news_at w4 [.string tx] 9) (by intro u hu;simp at hu;subst hu;rfl) (by unfold maxLen;omega) (by omega) (by simp;omega) ?_)
       intro v' w5 hown5 hgrow5 _
       have hbw5:=(hbw4.alloc (by omega) _).grown hgrow5 (by simp;omega) (fun j hj=>(hout4.lt j hj).1)
       clear hgrow5 hout4 hbw4
       go_wp2
       go_roundw
       case rel=>
        refine ⟨j+1,out++[own],_,rfl,by omega,by go_num,by simp;omega,?_,hbw5,?_⟩
        ·rw [HTX.out] at hown5;simpa [strs] using hown5
        ·rw [← gather_stop hne (fun _=>HIJ.out)];exact HG2.out
       case measure=>simp [intOf];omega
     ·have hne:=hne (.inr (.inl (by omega)))
      obtain ⟨A3,c3,rfl,_,hrow3⟩:=owned_row hown2
      have HN:=Lib.hid hrow3
      have HG2:=Lib.hid hga2
      have HO2:=Lib.hid hout2
      have HBW2:=Lib.hid hbw2
      clear hga2 hout2 hrow3 hown2 hne0 hc1
      go_wp2_with (first
       |(go_at_call 123;refine (ref_Text_at _ _ _ own _ rfl HN.out (by omega)).mono ?_))
      rintro e w4 ⟨rfl,hb4⟩
      obtain ⟨tx,htx⟩:∃ tx:ByteArray,tx=⟨(text own).toArray⟩:=⟨_,rfl⟩
      rw [← htx]
      have hout4:=owned_below HO2.out hb4
      have hbw4:Below w1.heap.size w1 w4:=HBW2.out.trans (hb4.mono HBW2.out.size)
      have HTX:=Lib.hid htx
      clear htx hb4
      have hsz4:=hbw4.size
      go_wp2_with (at_builtin;refine wpList_append_own _ rfl (.tmp 44) (.tmp 47) 24 rfl w1.heap.size 9 i1 _ 1 16 Tryz.underlying24 hi1 hy0 hy1 hy2 rfl (by omega) _ out.length (strs (out.map text)) rfl (hout4.alloc _) ⟨w4.heap.size,0,none⟩ 1 1 [.string tx] rfl rfl (news_at w4 [.string tx] 9) (by intro u hu;simp at hu;subst hu;rfl) (by unfold maxLen;omega) (by omega) (by simp;omega) ?_)
      intro v' w5 hown5 hgrow5 _
      have hbw5:=(hbw4.alloc (by omega) _).grown hgrow5 (by simp;omega) (fun j hj=>(hout4.lt j hj).1)
      clear hgrow5 hout4 hbw4
      go_wp2
      go_roundw
      case rel=>
       refine ⟨j+1,out++[own],_,rfl,by omega,by go_num,by simp;omega,?_,hbw5,?_⟩
       ·rw [HTX.out] at hown5;simpa [strs] using hown5
       ·rw [← gather_stop hne (fun h=>absurd h hltj)];exact HG2.out
      case measure=>simp [intOf];omega
   ·have hin':inWord l[k]=false:=by simpa using hin
    have r1:=fun w=>ref_in l[k] w
    rw [hin'] at r1
    have ga:=gather_at (o:=out) (n:=[]) hlt
    rw [hga,step_skip hin'] at ga
    have R1:=Lib.hid r1
    have HOUT:=Lib.hid hout
    have GA:=Lib.hid ga
    obtain ⟨x,hx⟩:∃ x,x=l[k]:=⟨_,rfl⟩
    rw [← hx] at hc1 R1
    clear r1 hin hin' hga hout hx ga
    go_wp2_with (go_at_call 61;refine (R1.out _).mono ?_;rintro e w' ⟨rfl,rfl⟩)
    go_roundw
    case rel=>exact ⟨k+1,out,_,rfl,by omega,by go_num,by omega,HOUT.out,hbw,GA.out.symm⟩
    case measure=>simp [intOf];omega
  ·rw [List.drop_of_length_le (by omega),gather_done] at hga
   have HGA:=Lib.hid hga
   clear hga
   go_wp2
   go_ret
   refine ⟨_,rfl,?_,HB.out.trans (hbw.mono HB.out.size)⟩
   have :=HWD.out
   rw [← HGA.out] at this
   rw [← this,List.length_map]
   exact owned_low hout HB.out.size
end Go.Proofs.YtldcadpemnpbmaaGreatDoor
namespace Go.Proofs.YtldcadpemnpbmaaGreatDoor
open Go Go.RowKit
set_option linter.unusedVariables false
def errFrom:Nat→List (List UInt8)→Int
 |_,[]=>0
 |i,w::ws=>if 30<w.length then 3 else if 500≤i then 7 else errFrom (i+1) ws
def tokCells:Nat→List (List UInt8)→List Value
 |_,[]=>[]
 |i,w::ws=> .string ⟨w.toArray⟩:: .int .i64 i::tokCells (i+1) ws
theorem tokCells_append:∀ (a:List (List UInt8)) (i:Nat) (b:List (List UInt8)),tokCells i (a++b)=tokCells i a++tokCells (i+a.length) b
 |[],i,b=>by simp [tokCells]
 |w::a,i,b=>by
  simp only [List.cons_append,tokCells,tokCells_append a,List.length_cons]
  rw [show i+1+a.length=i+(a.length+1) by omega]
theorem tokCells_take {ws:List (List UInt8)} {k:Nat} (hk:k<ws.length):tokCells 0 (ws.take (k+1))=tokCells 0 (ws.take k)++[.string ⟨ws[k].toArray⟩,.int .i64 k]:=by
 rw [List.take_succ_eq_append_getElem hk,tokCells_append,List.length_take,Nat.zero_add,Nat.min_eq_left (by omega)]
 rfl
theorem errFrom_at {ws:List (List UInt8)} {k:Nat} (hk:k<ws.length):errFrom k (ws.drop k)=if 30<ws[k].length then 3 else if 500≤k then 7 else errFrom (k+1) (ws.drop (k+1)):=by
 rw [List.drop_eq_getElem_cons hk,errFrom]
theorem info_token:(Tryz.prog.info? 286).map (fun i=>(i.zero,i.size,i.bytes))=some (some (.agg #[.string ByteArray.empty,.int .i64 0]),2,24):=by kernel_rfl
def GaveToks (ws:List (List UInt8)) (w:World) (e:Ending) (w':World):Prop:=
 ∃ v,e= .returned (.tuple #[v,.int .i64 (errFrom 0 ws)])∧(errFrom 0 ws=0→w'.ownsRow w.heap.size 286 2 v ws.length (tokCells 0 ws))∧(errFrom 0 ws≠0→v= .slice none 0 0)∧Below w.heap.size w w'
def ToksRel (ws:List (List UInt8)) (w1:World) (a b o i:Value) (wr:World):Prop:=
 ∃ (k:Nat) (vo:Value),vo=o∧a= .slice none 0 0∧b= .int .i64 0∧k≤ws.length∧k≤500∧i= .int .i64 k∧wr.ownsRow w1.heap.size 286 2 o k (tokCells 0 (ws.take k))∧Below w1.heap.size w1 wr∧errFrom k (ws.drop k)=errFrom 0 ws
end Go.Proofs.YtldcadpemnpbmaaGreatDoor
namespace Go.Proofs.YtldcadpemnpbmaaGreatDoor
open Go Go.RowKit
set_option linter.unusedVariables false
def keyL (f g:List UInt8):List UInt8:=f++0::g
theorem keyL_inj {f g f' g':List UInt8} (h:keyL f g=keyL f' g') (h0:(0:UInt8)∉f) (h1:(0:UInt8)∉f'):f=f'∧g=g':=by
 induction f generalizing f' with
 |nil=>
  cases f' with
  |nil=>simp [keyL] at h;exact ⟨rfl,h⟩
  |cons b f'=>simp [keyL] at h;exact absurd (by rw [← h.1];exact List.mem_cons_self ..) h1
 |cons a f ih=>
  cases f' with
  |nil=>simp [keyL] at h;exact absurd (by rw [h.1];exact List.mem_cons_self ..) h0
  |cons b f'=>
   simp only [keyL,List.cons_append,List.cons.injEq] at h
   obtain ⟨h2,h3⟩:=ih (f':=f') h.2 (fun e=>h0 (List.mem_cons_of_mem _ e)) (fun e=>h1 (List.mem_cons_of_mem _ e))
   exact ⟨by rw [h.1,h2],h3⟩
def keyB (f g:ByteArray):ByteArray:=f++⟨#[0]⟩++g
theorem keyB_list (f g:ByteArray):(keyB f g).data.toList=keyL f.data.toList g.data.toList:=by simp [keyB,keyL]
end Go.Proofs.YtldcadpemnpbmaaGreatDoor
set_option linter.unusedVariables false
namespace Go.Proofs.YtldcadpemnpbmaaGreatDoor
abbrev Nm:=List UInt8
theorem nm_nil_lt {a:UInt8} {x:Nm}:([]:Nm)<a::x:=by simp
theorem nm_lt_nil {x:Nm}:¬ x<([]:Nm):=by simp
theorem nm_cons {a b:UInt8} {x y:Nm}:a::x<b::y↔a<b∨a=b∧x<y:=List.cons_lt_cons_iff
theorem by_irr (a:UInt8):¬ a<a:=by rw [UInt8.lt_iff_toNat_lt];omega
theorem nm_irrefl:∀ x:Nm,¬ x<x
 |[]=>nm_lt_nil
 |a::x=>by
  rw [nm_cons]
  rintro (h|⟨_,h⟩)
  ·exact by_irr a h
  ·exact nm_irrefl x h
theorem nm_trans:∀ {x y z:Nm},x<y→y<z→x<z
 |_,[],_,h,_=>absurd h nm_lt_nil
 |_,_::_,[],_,h=>absurd h nm_lt_nil
 |[],_::_,_::_,_,_=>nm_nil_lt
 |a::x,b::y,c::z,h,k=>by
  rw [nm_cons] at h k ⊢
  rcases h with h|⟨rfl,h⟩
  ·rcases k with k|⟨rfl,k⟩
   ·left;rw [UInt8.lt_iff_toNat_lt] at*;omega
   ·exact .inl h
  ·rcases k with k|⟨rfl,k⟩
   ·exact .inl k
   ·exact .inr ⟨rfl,nm_trans h k⟩
theorem nm_tri:∀ x y:Nm,x<y∨x=y∨y<x
 |[],[]=> .inr (.inl rfl)
 |[],_::_=> .inl nm_nil_lt
 |_::_,[]=> .inr (.inr nm_nil_lt)
 |a::x,b::y=>by
  rw [nm_cons,nm_cons]
  by_cases h1:a<b
  ·exact .inl (.inl h1)
  ·by_cases h2:b<a
   ·exact .inr (.inr (.inl h2))
   ·have e:a=b:=by
     rw [UInt8.lt_iff_toNat_lt] at h1 h2
     exact UInt8.toNat_inj.1 (by omega)
    subst e
    rcases nm_tri x y with h|rfl|h
    ·exact .inl (.inr ⟨rfl,h⟩)
    ·exact .inr (.inl rfl)
    ·exact .inr (.inr (.inr ⟨rfl,h⟩))
theorem nm_asym {x y:Nm} (h:x<y):¬ y<x:=fun k=>nm_irrefl x (nm_trans h k)
theorem nm_ne {x y:Nm} (h:x<y):x≠y:=fun e=>nm_irrefl y (e▸h)
def Rise (l:List Nm):Prop:=l.Pairwise (· <·)
instance (l:List Nm):Decidable (Rise l):=inferInstanceAs (Decidable (l.Pairwise (· <·)))
def risesN (l:List Nm):Bool:=decide (Rise l)
theorem risesN_iff {l:List Nm}:risesN l=true↔Rise l:=by simp [risesN]
theorem rise_at {l:List Nm} (h:Rise l) {i j:Nat} (hj:j<l.length) (hij:i<j):l[i]<l[j]:=List.pairwise_iff_getElem.1 h i j (by omega) hj hij
theorem rise_adj {l:List Nm} (h:∀ i,(hi:i+1<l.length)→l[i]<l[i+1]):Rise l:=by
 refine List.pairwise_iff_getElem.2 fun i j hi hj hij=> ?_
 induction j with
 |zero=>omega
 |succ j ih=>
  by_cases e:i=j
  ·subst e;exact h i hj
  ·exact nm_trans (ih (by omega) (by omega)) (h j hj)
theorem rise_bad {l:List Nm} {k:Nat} (hk:k<l.length) (h0:0<k) (h:¬ l[k-1]<l[k]):risesN l=false:=by
 rw [← Bool.not_eq_true,risesN_iff]
 exact fun hr=>h (rise_at hr hk (by omega))
theorem rise_good {l:List Nm} (h:∀ i,(hi:i<l.length)→0<i→l[i-1]<l[i]):risesN l=true:=by
 rw [risesN_iff]
 exact rise_adj fun i hi=>by have :=h (i+1) hi (by omega);simpa using this
def placeN:List Nm→Nm→Nat
 |[],_=>0
 |x::l,s=>if x<s then placeN l s+1 else 0
def isN:List Nm→Nm→Bool
 |[],_=>false
 |x::l,s=>if x<s then isN l s else x==s
def putN:List Nm→Nm→List Nm
 |[],s=>[s]
 |x::l,s=>if x<s then x::putN l s else if x=s then x::l else s::x::l
theorem placeN_le:∀ (l:List Nm) (s:Nm),placeN l s≤l.length
 |[],_=>Nat.le_refl _
 |x::l,s=>by
  have :=placeN_le l s
  simp only [placeN,List.length_cons]
  split<;>omega
theorem placeN_below:∀ {l:List Nm} {s:Nm} {j:Nat} (hj:j<l.length),j<placeN l s→l[j]<s
 |[],_,_,h,_=>by simp at h
 |x::l,s,j,hj,h=>by
  simp only [placeN] at h
  split at h
  ·rename_i hx
   cases j with
   |zero=>exact hx
   |succ j=>exact placeN_below (l:=l) (by simpa using hj) (by omega)
  ·omega
theorem placeN_stop:∀ {l:List Nm} {s:Nm} (h:placeN l s<l.length),¬ l[placeN l s]<s
 |[],_,h=>by simp at h
 |x::l,s,h=>by
  by_cases hx:x<s
  ·have e:placeN (x::l) s=placeN l s+1:=by simp [placeN,hx]
   have :=placeN_stop (l:=l) (s:=s) (by rw [e] at h;simpa using h)
   simpa [e] using this
  ·have e:placeN (x::l) s=0:=by simp [placeN,hx]
   simpa [e] using hx
theorem place_of {l:List Nm} {s:Nm} {k:Nat} (hk:k≤l.length) (h1:∀ j (hj:j<l.length),j<k→l[j]<s) (h2:∀ h:k<l.length,¬ l[k]<s):placeN l s=k:=by
 have a:=placeN_le l s
 rcases Nat.lt_trichotomy (placeN l s) k with h|h|h
 ·exact absurd (h1 _ (by omega) h) (placeN_stop (by omega))
 ·exact h
 ·exact absurd (placeN_below (by omega) h) (h2 (by omega))
theorem isN_at:∀ {l:List Nm} {s:Nm} (h:placeN l s<l.length),isN l s=(l[placeN l s]==s)
 |[],_,h=>by simp at h
 |x::l,s,h=>by
  by_cases hx:x<s
  ·have e:placeN (x::l) s=placeN l s+1:=by simp [placeN,hx]
   have e2:isN (x::l) s=isN l s:=by simp [isN,hx]
   have :=isN_at (l:=l) (s:=s) (by rw [e] at h;simpa using h)
   rw [e2,this]
   simp [e]
  ·have e:placeN (x::l) s=0:=by simp [placeN,hx]
   simp [e,isN,hx]
theorem isN_end:∀ {l:List Nm} {s:Nm},placeN l s=l.length→isN l s=false
 |[],_,_=>rfl
 |x::l,s,h=>by
  by_cases hx:x<s
  ·have e:placeN (x::l) s=placeN l s+1:=by simp [placeN,hx]
   rw [e] at h
   simpa [isN,hx] using isN_end (l:=l) (s:=s) (by simpa using h)
  ·have e:placeN (x::l) s=0:=by simp [placeN,hx]
   rw [e] at h
   simp at h
theorem found_of {l:List Nm} {s:Nm} {k:Nat} (hk:k<l.length) (h1:∀ j (hj:j<l.length),j<k→l[j]<s) (h2:l[k]=s):placeN l s=k∧isN l s=true:=by
 have e:=place_of (s:=s) (by omega) h1 (fun _=>by rw [h2];exact nm_irrefl s)
 subst e
 exact ⟨rfl,by rw [isN_at hk,h2];simp⟩
theorem missed_of {l:List Nm} {s:Nm} {k:Nat} (hk:k≤l.length) (h1:∀ j (hj:j<l.length),j<k→l[j]<s) (h2:∀ h:k<l.length,s<l[k]):placeN l s=k∧isN l s=false:=by
 have e:=place_of (s:=s) hk h1 (fun h=>nm_asym (h2 h))
 subst e
 refine ⟨rfl,?_⟩
 by_cases h:placeN l s<l.length
 ·rw [isN_at h]
  simpa using (nm_ne (h2 h)).symm
 ·exact isN_end (by have :=placeN_le l s;omega)
theorem isN_found {l:List Nm} {s:Nm} (h:isN l s=true):∃ hk:placeN l s<l.length,l[placeN l s]=s:=by
 by_cases hk:placeN l s<l.length
 ·rw [isN_at hk] at h
  exact ⟨hk,by simpa using h⟩
 ·rw [isN_end (by have :=placeN_le l s;omega)] at h
  cases h
theorem isN_own {l:List Nm} (hr:Rise l) {i:Nat} (hi:i<l.length):placeN l l[i]=i∧isN l l[i]=true:=
 found_of hi (fun j hj hji=>rise_at hr hi hji) rfl
def cmpN (x s:Nm):Int:=if x<s then-1 else if x=s then 0 else 1
theorem putN_is:∀ {l:List Nm} {s:Nm},isN l s=true→putN l s=l
 |[],_,h=>by cases h
 |x::l,s,h=>by
  by_cases hx:x<s
  ·rw [isN,if_pos hx] at h
   rw [putN,if_pos hx,putN_is h]
  ·rw [isN,if_neg hx] at h
   rw [putN,if_neg hx,if_pos (by simpa using h)]
theorem putN_not:∀ {l:List Nm} {s:Nm},isN l s=false→putN l s=l.take (placeN l s)++[s]++l.drop (placeN l s)
 |[],_,h=>rfl
 |x::l,s,h=>by
  by_cases hx:x<s
  ·rw [isN,if_pos hx] at h
   rw [putN,if_pos hx,putN_not h,placeN,if_pos hx]
   simp
  ·rw [isN,if_neg hx] at h
   rw [putN,if_neg hx,if_neg (by simpa using h),placeN,if_neg hx]
   simp
theorem mem_putN:∀ {l:List Nm} {s x:Nm},x∈putN l s↔x=s∨x∈l
 |[],s,x=>by simp [putN]
 |y::l,s,x=>by
  rw [putN]
  split
  ·rw [List.mem_cons,mem_putN,List.mem_cons];exact or_left_comm
  ·split
   ·rename_i e
    subst e
    rw [List.mem_cons]
    exact ⟨fun h=> .inr h,fun h=>h.elim .inl id⟩
   ·rw [List.mem_cons,List.mem_cons]
theorem rise_putN:∀ {l:List Nm} {s:Nm},Rise l→Rise (putN l s)
 |[],s,_=>by simp [putN,Rise]
 |y::l,s,h=>by
  have h':=List.pairwise_cons.1 h
  rw [putN]
  split
  ·rename_i hy
   refine List.pairwise_cons.2 ⟨fun a ha=> ?_,rise_putN h'.2⟩
   rcases mem_putN.1 ha with rfl|ha
   ·exact hy
   ·exact h'.1 a ha
  ·rename_i hy
   split
   ·exact h
   ·rename_i hne
    have hs:s<y:=((nm_tri y s).resolve_left hy).resolve_left hne
    refine List.pairwise_cons.2 ⟨fun a ha=> ?_,h⟩
    rcases List.mem_cons.1 ha with rfl|ha
    ·exact hs
    ·exact nm_trans hs (h'.1 a ha)
theorem putN_length (l:List Nm) (s:Nm):(putN l s).length≤l.length+1:=by
 cases h:isN l s with
 |true=>rw [putN_is h];omega
 |false=>rw [putN_not h];have :=placeN_le l s;simp;omega
theorem rise_ext:∀ {a b:List Nm},Rise a→Rise b→(∀ x,x∈a↔x∈b)→a=b
 |[],[],_,_,_=>rfl
 |[],y::b,_,_,h=>absurd ((h y).2 (List.mem_cons_self ..)) (by simp)
 |x::a,[],_,_,h=>absurd ((h x).1 (List.mem_cons_self ..)) (by simp)
 |x::a,y::b,ha,hb,h=>by
  have ha':=List.pairwise_cons.1 ha
  have hb':=List.pairwise_cons.1 hb
  have e:x=y:=by
   rcases List.mem_cons.1 ((h x).1 (List.mem_cons_self ..)) with e|h1
   ·exact e
   ·rcases List.mem_cons.1 ((h y).2 (List.mem_cons_self ..)) with e|h2
    ·exact e.symm
    ·exact absurd (ha'.1 y h2) (nm_asym (hb'.1 x h1))
  subst e
  congr 1
  refine rise_ext ha'.2 hb'.2 fun z=>⟨fun hz=> ?_,fun hz=> ?_⟩
  ·rcases List.mem_cons.1 ((h z).1 (List.mem_cons_of_mem _ hz)) with rfl|h1
   ·exact absurd (ha'.1 z hz) (nm_irrefl z)
   ·exact h1
  ·rcases List.mem_cons.1 ((h z).2 (List.mem_cons_of_mem _ hz)) with rfl|h1
   ·exact absurd (hb'.1 z hz) (nm_irrefl z)
   ·exact h1
structure Good (g:List Nm):Prop where
 rise:Rise g
 eight:∀ x∈g,x.length≤8
theorem mem_foldl_putN:∀ (xs:List Nm) (a:List Nm) (x:Nm),x∈xs.foldl putN a↔x∈xs∨x∈a
 |[],a,x=>by simp
 |y::xs,a,x=>by
  rw [List.foldl_cons,mem_foldl_putN xs,mem_putN,List.mem_cons]
  constructor
  ·rintro (h|h|h)
   ·exact .inl (.inr h)
   ·exact .inl (.inl h)
   ·exact .inr h
  ·rintro ((h|h)|h)
   ·exact .inr (.inl h)
   ·exact .inl h
   ·exact .inr (.inr h)
theorem rise_foldl_putN:∀ (xs:List Nm) (a:List Nm),Rise a→Rise (xs.foldl putN a)
 |[],a,h=>h
 |y::xs,a,h=>rise_foldl_putN xs _ (rise_putN h)
theorem foldl_putN_length:∀ (xs a:List Nm),(xs.foldl putN a).length≤xs.length+a.length
 |[],a=>by simp
 |y::xs,a=>by
  rw [List.foldl_cons,List.length_cons]
  have :=foldl_putN_length xs (putN a y)
  have :=putN_length a y
  omega
end Go.Proofs.YtldcadpemnpbmaaGreatDoor
set_option linter.unusedVariables false
namespace Go.Proofs.YtldcadpemnpbmaaGreatDoor
open Go
abbrev Fd:=Nm × Nm
abbrev Tm:=Nm × Nm
def smallB (c:UInt8):Bool:=decide (97≤c.toNat)&&decide (c.toNat≤122)
def nameB (s:Nm):Bool:=s.all smallB&&(decide (1≤s.length)&&decide (s.length≤12))
theorem nameB_bad {s:Nm} {k:Nat} (hk:k<s.length) (h:smallB s[k]=false):nameB s=false:=by
 rw [← Bool.not_eq_true,nameB,Bool.and_eq_true]
 intro hh
 rw [List.all_eq_true.1 hh.1 _ (List.getElem_mem hk)] at h
 cases h
theorem nameB_good {s:Nm} (h:∀ k (hk:k<s.length),smallB s[k]=true):nameB s=(decide (1≤s.length)&&decide (s.length≤12)):=by
 rw [nameB,List.all_eq_true.2 fun c hc=>by obtain ⟨k,hk,rfl⟩:=List.getElem_of_mem hc;exact h k hk,Bool.true_and]
theorem nameB_zero {s:Nm} (h:nameB s=true):(0:UInt8)∉s:=fun h0=>by
 rw [nameB,Bool.and_eq_true] at h
 exact absurd (List.all_eq_true.1 h.1 _ h0) (by decide)
def mayF:List Nm→Nat→List Fd→Int
 |_,n,[]=>if 500<n then 7 else 0
 |seen,n,f::fs=>if nameB f.1=false then 4 else if f.1∈seen then 5 else if errFrom 0 (words f.2)≠0 then errFrom 0 (words f.2) else mayF (seen++[f.1]) (n+(words f.2).length) fs
def mayD (l:List Fd):Int:=if 8<l.length then 7 else mayF [] 0 l
def wordsD:List Fd→Nm→List Nm
 |[],_=>[]
 |f::fs,s=>if f.1=s then words f.2 else wordsD fs s
def placesW:Nat→List Nm→Nm→List Int
 |_,[],_=>[]
 |i,y::l,x=>if y=x then (i:Int)::placesW (i+1) l x else placesW (i+1) l x
def placesD (l:List Fd) (t:Tm):List Int:=placesW 0 (wordsD l t.1) t.2
theorem placesW_length (x:Nm):∀ (l:List Nm) (i:Nat),(placesW i l x).length≤l.length
 |[],_=>Nat.le_refl _
 |y::l,i=>by
  have :=placesW_length x l (i+1)
  rw [placesW]
  split<;>simp <;>omega
def keyT (t:Tm):Nm:=keyL t.1 t.2
def atT (l:List Tm) (k:Nat):Tm:=l.getD k ([],[])
def backT (l:List Tm) (t:Tm):Nat→Nat
 |0=>0
 |k+1=>if keyT t<keyT (atT l k) then backT l t k else k+1
theorem backT_le (l:List Tm) (t:Tm):∀ k,backT l t k≤k
 |0=>Nat.le_refl _
 |k+1=>by
  have :=backT_le l t k
  rw [backT]
  split<;>omega
theorem backT_stop {l:List Tm} {t:Tm}:∀ {k:Nat},0<backT l t k→¬ keyT t<keyT (atT l (backT l t k-1))
 |0,h=>by simp [backT] at h
 |k+1,h=>by
  by_cases hk:keyT t<keyT (atT l k)
  ·have e:backT l t (k+1)=backT l t k:=by rw [backT,if_pos hk]
   rw [e] at h ⊢
   exact backT_stop h
  ·have e:backT l t (k+1)=k+1:=by rw [backT,if_neg hk]
   rw [e]
   exact hk
theorem backT_above {l:List Tm} {t:Tm}:∀ {k j:Nat},backT l t k≤j→j<k→keyT t<keyT (atT l j)
 |0,j,_,h=>by omega
 |k+1,j,h1,h2=>by
  by_cases hk:keyT t<keyT (atT l k)
  ·have e:backT l t (k+1)=backT l t k:=by rw [backT,if_pos hk]
   rw [e] at h1
   by_cases e:j=k
   ·subst e;exact hk
   ·exact backT_above h1 (by omega)
  ·have e:backT l t (k+1)=k+1:=by rw [backT,if_neg hk]
   omega
def hereT (l:List Tm) (t:Tm) (k:Nat):Bool:=decide (0<k)&&decide (atT l (k-1)=t)
def putT (l:List Tm) (t:Tm):List Tm:=if hereT l t (backT l t l.length)=true then l else l.take (backT l t l.length)++t::l.drop (backT l t l.length)
def termsD (l:List Fd):List Tm:=l.foldl (fun a f=>(wordsD l f.1).foldl (fun b x=>putT b (f.1,x)) a) []
def RiseT (l:List Tm):Prop:=Rise (l.map keyT)
theorem atT_lt {l:List Tm} {k:Nat} (hk:k<l.length):atT l k=l[k]:=by rw [atT,List.getD_eq_getElem?_getD,List.getElem?_eq_getElem hk];rfl
theorem keyT_inj {s t:Tm} (h:keyT s=keyT t) (h0:(0:UInt8)∉s.1) (h1:(0:UInt8)∉t.1):s=t:=by
 obtain ⟨e1,e2⟩:=keyL_inj h h0 h1
 exact Prod.ext e1 e2
theorem mem_putT {l:List Tm} {s t:Tm}:s∈putT l t↔s∈l∨s=t:=by
 unfold putT
 split
 ·rename_i h
  rw [hereT,Bool.and_eq_true,decide_eq_true_iff,decide_eq_true_iff] at h
  have :=backT_le l t l.length
  have hk:backT l t l.length-1<l.length:=by omega
  rw [atT_lt hk] at h
  constructor
  ·exact .inl
  ·rintro (h1|rfl)
   ·exact h1
   ·rw [← h.2];exact List.getElem_mem hk
 ·rw [List.mem_append,List.mem_cons]
  conv=>rhs;rw [← List.take_append_drop (backT l t l.length) l,List.mem_append]
  constructor
  ·rintro (h|h|h)
   ·exact .inl (.inl h)
   ·exact .inr h
   ·exact .inl (.inr h)
  ·rintro ((h|h)|h)
   ·exact .inl h
   ·exact .inr (.inr h)
   ·exact .inr (.inl h)
theorem riseT_at {l:List Tm} (h:RiseT l) {i j:Nat} (hj:j<l.length) (hij:i<j):keyT (atT l i)<keyT (atT l j):=by
 have :=rise_at h (i:=i) (j:=j) (by simpa using hj) hij
 rwa [atT_lt hj,atT_lt (by omega),← List.getElem_map keyT,← List.getElem_map keyT]
 all_goals simp <;>omega
theorem riseT_put {l:List Tm} {t:Tm} (h:RiseT l) (h0:∀ s∈l,(0:UInt8)∉s.1) (h1:(0:UInt8)∉t.1):RiseT (putT l t):=by
 unfold putT
 split
 ·exact h
 ·rename_i hh
  obtain ⟨k,hk⟩:∃ k,k=backT l t l.length:=⟨_,rfl⟩
  have hle:=backT_le l t l.length
  have habove:∀ j,k≤j→j<l.length→keyT t<keyT (atT l j):=fun j a b=>backT_above (k:=l.length) (by omega) b
  have hstop:0<k→¬ keyT t<keyT (atT l (k-1)):=fun a=>by rw [hk];exact backT_stop (by omega)
  rw [← hk] at hh hle
  rw [← hk]
  have hlow:0<k→keyT (atT l (k-1))<keyT t:=fun a=>by
   rcases nm_tri (keyT (atT l (k-1))) (keyT t) with e|e|e
   ·exact e
   ·refine absurd ?_ hh
    rw [hereT,Bool.and_eq_true,decide_eq_true_iff,decide_eq_true_iff]
    have hk1:k-1<l.length:=by omega
    exact ⟨a,keyT_inj e (by rw [atT_lt hk1];exact h0 _ (List.getElem_mem hk1)) h1⟩
   ·exact absurd e (hstop a)
  unfold RiseT Rise
  rw [List.map_append,List.map_cons]
  have hp:List.Pairwise (· <·) (l.map keyT):=h
  refine List.pairwise_append.2 ⟨?_,List.pairwise_cons.2 ⟨?_,?_⟩,?_⟩
  ·exact hp.sublist ((List.take_sublist k l).map keyT)
  ·intro x hx
   obtain ⟨s,hs,rfl⟩:=List.mem_map.1 hx
   obtain ⟨j,hj,rfl⟩:=List.getElem_of_mem hs
   rw [List.length_drop] at hj
   have :=habove (k+j) (by omega) (by omega)
   rw [atT_lt (by omega)] at this
   rwa [List.getElem_drop]
  ·exact hp.sublist ((List.drop_sublist k l).map keyT)
  ·intro x hx y hy
   obtain ⟨s,hs,rfl⟩:=List.mem_map.1 hx
   obtain ⟨i,hi,rfl⟩:=List.getElem_of_mem hs
   rw [List.length_take] at hi
   have hx:keyT (atT l i)<keyT t:=by
    by_cases e:i=k-1
    ·subst e;exact hlow (by omega)
    ·exact nm_trans (riseT_at h (i:=i) (j:=k-1) (by omega) (by omega)) (hlow (by omega))
   rw [atT_lt (by omega)] at hx
   rw [List.getElem_take]
   rcases List.mem_cons.1 hy with rfl|hy
   ·exact hx
   ·obtain ⟨s,hs,rfl⟩:=List.mem_map.1 hy
    obtain ⟨j,hj,rfl⟩:=List.getElem_of_mem hs
    rw [List.length_drop] at hj
    have :=habove (k+j) (by omega) (by omega)
    rw [atT_lt (by omega)] at this
    rw [List.getElem_drop]
    exact nm_trans hx this
def phraseW (ws:List Nm):List Nm→Nat
 |[]=>0
 |y::l=>(if ws≠[]∧(y::l).take ws.length=ws then 1 else 0)+phraseW ws l
def phraseD (l:List Fd) (s:Nm) (ws:List Nm):Nat:=phraseW ws (wordsD l s)
theorem phraseW_one (x:Nm):∀ (l:List Nm) (i:Nat),phraseW [x] l=(placesW i l x).length
 |[],_=>rfl
 |y::l,i=>by
  rw [phraseW,placesW,phraseW_one x l (i+1)]
  by_cases h:y=x
  ·subst h;simp;omega
  ·rw [if_neg (by simpa using h),if_neg h];omega
def weightD (l:List Fd):Nat:=(l.map fun f=>(wordsD l f.1).length).sum
def poolN (i:Nat):Nm:=[116+UInt8.ofNat i]
def goodF (i:Nat) (f:Fd):Fd:=(if nameB f.1=true then f.1 else poolN i,f.2.take 40)
def goodUp (l:List Fd):Nat→List Fd
 |0=>[]
 |k+1=>if mayD (goodUp l k++[goodF k (l.getD k ([],[]))])=0 then goodUp l k++[goodF k (l.getD k ([],[]))] else goodUp l k
def goodD (l:List Fd):List Fd:=goodUp l (min l.length 4)
theorem goodUp_may (l:List Fd):∀ k,mayD (goodUp l k)=0
 |0=>rfl
 |k+1=>by
  rw [goodUp]
  split
  ·rename_i h;exact h
  ·exact goodUp_may l k
theorem goodD_may (l:List Fd):mayD (goodD l)=0:=goodUp_may _ _
theorem goodUp_length (l:List Fd):∀ k,(goodUp l k).length≤k
 |0=>Nat.le_refl _
 |k+1=>by
  have :=goodUp_length l k
  rw [goodUp]
  split
  ·simp;omega
  ·omega
theorem goodF_text (i:Nat) (f:Fd):(goodF i f).2.length≤40:=by simp [goodF];omega
theorem goodUp_text (l:List Fd):∀ k,∀ f∈goodUp l k,f.2.length≤40
 |0,f,h=>by cases h
 |k+1,f,h=>by
  rw [goodUp] at h
  split at h
  ·rcases List.mem_append.1 h with h|h
   ·exact goodUp_text l k f h
   ·rw [List.mem_singleton.1 h];exact goodF_text _ _
  ·exact goodUp_text l k f h
end Go.Proofs.YtldcadpemnpbmaaGreatDoor
