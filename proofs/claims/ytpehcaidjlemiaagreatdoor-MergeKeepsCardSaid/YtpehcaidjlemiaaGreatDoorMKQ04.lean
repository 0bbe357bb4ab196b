import Derived.Test.YtpehcaidjlemiaaGreatDoorMKZz
import Derived.Test.YtpehcaidjlemiaaGreatDoorMKQ02
import Derived.Test.YtpehcaidjlemiaaGreatDoorMKQ01
import Derived.Test.YtpehcaidjlemiaaGreatDoorMKQ03
import Derived.Deep.RegionHeld3
import Derived.Deep.RegionLaw
import Derived.Deep.AppendLies
import Derived.Test.YtpehcaidjlemiaaGreatDoorProg
import Derived.Lib.Hide
import Derived.BigQuiet
import Derived.Deep.QuietTactic
import Derived.Sort.Walk0
import Derived.Lib.RowBridge
import Derived.Lib.SlicesCompact
import Derived.Lib.BitFns
import Derived.Lib.Strings
set_option maxHeartbeats 2000000
set_option maxRecDepth 100000
set_option linter.unusedVariables false
namespace Go.Proofs.YtpehcaidjlemiaaGreatDoor
open Go Go.RowKit
theorem qip (c:Int) (w:World):
  Calls Tryz.prog 223 #[.int .i64 c] w fun e w'=>e= .returned (.bool (qba c))/\w=w':=by
 have l1:=fun w=>qrd c w
 have d1:=fun w=>qrf c w
 unfold qba;cases hL:qdW c<;>cases hD:qex c<;>rw [hL] at l1<;>rw [hD] at d1
 all_goals
  have L1:=qH l1;have D1:=qH d1;clear l1 d1 hL hD
  go_enter Tryz.func223,Tryz.ntmps223
  go_wp2_with (first
   |(go_at_call 241;refine (L1.out _).mono ?_;rintro e w' ⟨rfl,rfl⟩)
   |(go_at_call 242;refine (D1.out _).mono ?_;rintro e w' ⟨rfl,rfl⟩))
  go_ret;exact ⟨rfl,rfl⟩
theorem qg3 (c:Int) (w:World):
  Calls Tryz.prog 180 #[.int .i64 c] w fun e w'=>e= .returned (.bool (qba c))/\w=w':=by
 have l1:=fun w=>qre c w
 cases hL:qdW c<;>rw [hL] at l1
 all_goals
  have L1:=qH l1;have hin:qba c=(qdW c || qex c):=rfl;rw [hL] at hin;have HIN:=qH hin;clear l1 hL hin
  go_enter Tryz.func180,Tryz.ntmps180
  go_wp2_with (go_at_call 219;refine (L1.out _).mono ?_;rintro e w' ⟨rfl,rfl⟩)
  all_goals
   go_ret;refine ⟨qdM ?_,rfl⟩;rw [HIN.out,Bool.eq_iff_iff];simp [qex]
   try omega
def qrR (base B:Nat) (xs:List Value) (w:World) (e:Ending) (w':World):Prop:=
 e= .returned (.tuple #[])/\qbq 40 9 base B xs w'/\qbV B w w'
theorem qrS (base B:Nat) (xs:List Value) (s:ByteArray) (w:World) (h:qbq 40 9 base B xs w) (hl:xs.length<=1073741824) (hbase:base<=w.heap.size):
  Calls Tryz.prog 190 #[.string s,.pointer (some ⟨B,0,none⟩)] w (qrR base B (xs++[.string s]) w):=by
 obtain ⟨i0,hi0,hz0,hz1,hz2⟩:=info_parts qeW;obtain ⟨v,hv,hown⟩:=h;have cB:=cell_of_one hv;have fB:=free_of_one hv
 go_enter Tryz.func190,Tryz.ntmps190
 go_wp2_with (at_builtin;refine wpList_append_own _ rfl (.tmp 3) (.tmp 5) 40 rfl base 9 i0 _ 1 16 Tryz.underlying40 hi0 hz0 hz1 hz2 rfl (by omega) _ xs.length xs rfl (hown.alloc _) ⟨w.heap.size,0,none⟩ 1 1 [.string s] rfl rfl (qaN w [.string s] 9) (by intro u hu;simp at hu;subst hu;rfl) (by unfold maxLen;omega) (by omega) (by simp;omega) ?_)
 intro v' w1 hown1 hgrow1 _;obtain ⟨g',cap',rfl,_,_⟩:=hown1.form (by omega);obtain ⟨cB1,fB1,hrv,htc⟩:=pushed (by decide) hv rfl hown ((Below.refl _ w).alloc (Nat.le_refl _) _) hgrow1 hown1 rfl;go_wp2
 go_end0
 exact ⟨rfl,hrv,htc⟩
structure qcx (base Bl Bt Bn:Nat) (st:List (List Int) × List Int) (w:World):Prop where
 base_le:base<=w.heap.size
 outs:qbq 40 9 base Bl (qae (st.1.map text)) w
 tell:w.heap[Bt]?=some (.cells #[.func (.func 190) #[] #[.pointer (some ⟨Bl,0,none⟩)]] 287 (0,0))
 own:qbq 23 3 base Bn (qab st.2) w
theorem qcx.keep {base Bl Bt Bn:Nat} {st:List (List Int) × List Int} {w w':World} (h:qcx base Bl Bt Bn st w) (hb:Below w.heap.size w w'):qcx base Bl Bt Bn st w':=
 ⟨Nat.le_trans h.base_le hb.size,h.outs.below hb,(hb.block Bt (lt_of_block h.tell)).trans h.tell,h.own.below hb⟩
theorem qcx.owned {base Bl Bt Bn:Nat} {st st':List (List Int) × List Int} {w w':World} (h:qcx base Bl Bt Bn st w) (ht:qbV Bn w w') (h1:st'.1=st.1) (ho:qbq 23 3 base Bn (qab st'.2) w'):qcx base Bl Bt Bn st' w':=
 ⟨Nat.le_trans h.base_le ht.2.2.2.1,by rw [h1];exact h.outs.other h.own ht (by decide) (by decide) (by decide) (by decide),qbV.block h.own ht h.tell (by decide) (by decide),ho⟩
theorem qcx.told {base Bl Bt Bn:Nat} {st st':List (List Int) × List Int} {w w':World} (h:qcx base Bl Bt Bn st w) (ht:qbV Bl w w') (h1:st'.2=st.2) (ho:qbq 40 9 base Bl (qae (st'.1.map text)) w'):qcx base Bl Bt Bn st' w':=
 ⟨Nat.le_trans h.base_le ht.2.2.2.1,ho,qbV.block h.outs ht h.tell (by decide) (by decide),by rw [h1];exact h.own.other h.outs ht (by decide) (by decide) (by decide) (by decide)⟩
def qfS (base Bl Bt Bn:Nat) (st:List (List Int) × List Int) (w:World) (e:Ending) (w':World):Prop:=
 e= .returned (.tuple #[])/\qcx base Bl Bt Bn st w'/\qbl base Bl Bn w w'
theorem qrT {base Bl Bt Bn:Nat} {st:List (List Int) × List Int} {c:Int} {w w':World} (h:qcx base Bl Bt Bn st w) (hc:qba c=true) (ht:qbV Bn w w')
  (ho:qbq 23 3 base Bn (qab st.2++[.int .i64 (qbW c)]) w'):qfS base Bl Bt Bn (step st c) w (.returned (.tuple #[])) w':=by
 have e:step st c=(st.1,st.2++[qbW c]):=qgY hc;rw [e];refine ⟨rfl,h.owned ht rfl ?_,(ht.aside h.own h.base_le).swap⟩;simpa [qab] using ho
theorem qrU (base Bl Bt Bn:Nat) (st:List (List Int) × List Int) (c:Int) (w:World) (h:qcx base Bl Bt Bn st w) (hl:st.2.length<=1073741824) (hc:qba c=true):
    Calls Tryz.prog 222 #[.int .i64 c,.pointer (some ⟨Bn,0,none⟩),.pointer (some ⟨Bt,0,none⟩)] w (qfS base Bl Bt Bn (step st c) w):=by
  obtain ⟨i0,hi0,hz0,hz1,hz2⟩:=info_parts qc7;have hbase:=h.base_le;obtain ⟨v,hv,hown⟩:=h.own;have cB:=cell_of_one hv;have fB:=free_of_one hv;have f1:=fun w=>qrg c w
  have w1:=fun w=>qip c w
  have tk:=fun (w':World)=>qrT (w':=w') h hc
  generalize qbW c=y at f1 tk;rw [hc] at w1;rw [qgl] at hown;have hal:(w.alloc (.cells #[.int .i64 y] 3)).cell? ⟨Bn,0,none⟩=some v:=(((Below.refl _ w).alloc (Nat.le_refl _) _).cell (p:=⟨Bn,0,none⟩) (lt_of_block hv)).trans cB;have F1:=qH f1;have W1:=qH w1;have TK:=qH tk;have HC:=qH hc;clear f1 w1 tk hc
  go_enter Tryz.func222,Tryz.ntmps222
  go_wp2_with (go_at_call 223;refine (W1.out _).mono ?_;rintro e w' ⟨rfl,rfl⟩)
  go_region_law (first
      | (refine step_append_lies _ (by rfl) _ _ _ (by rfl) base 3 i0 _ 1 8 Tryz.underlying23 hi0 hz0 hz1 hz2 rfl (by omega) v st.2.length (qab st.2) (by rfl) ((hown.alloc _).drew)
          ⟨w.heap.size,0,none⟩ 1 1 [.int .i64 y] (by rfl) (by rfl) (World.news_of_block (cs:=#[.int .i64 y]) (t:=3) (fr:=(0,0)) (heap_alloc_new w _)) (by simp [Value.oneCell'])
          (by omega) (by unfold maxLen;omega) (by omega) (by simp;omega) (w.heap.size+1) (by simp) ?_
         intro gg cap w1 hown1 hgrow hat hlt;obtain ⟨cB1,fB1,hrv,htc⟩:=pushed (by decide) hv (qgl _) hown (((Below.refl _ w).alloc (Nat.le_refl _) _).drew) hgrow hown1 rfl)
      |(go_simp;go_at_call 224;refine (F1.out _).mono ?_;rintro e w' ⟨rfl,rfl⟩))
  all_goals
    go_wp2
    go_end0
    exact TK.out _ htc hrv
theorem qrV (base Bl Bt Bn:Nat) (out:List (List Int)) (c:Int) (w:World) (h:qcx base Bl Bt Bn (out,[]) w) (hc:qba c=false):
  Calls Tryz.prog 222 #[.int .i64 c,.pointer (some ⟨Bn,0,none⟩),.pointer (some ⟨Bt,0,none⟩)] w (qfS base Bl Bt Bn (out,[]) w):=by
 obtain ⟨v,hv,hown⟩:=h.own;have cB:=cell_of_one hv;have w1:=fun w=>qip c w
 rw [hc] at w1;have W1:=qH w1;clear w1;obtain ⟨A,k,rfl,_,_⟩:=qaR hown
 go_enter Tryz.func222,Tryz.ntmps222
 go_wp2_with (go_at_call 223;refine (W1.out _).mono ?_;rintro e w' ⟨rfl,rfl⟩)
 go_end0
 exact ⟨rfl,h,qbl.refl _ _ _ _⟩
theorem qrW {base Bl Bt Bn:Nat} {out:List (List Int)} {own:List Int} {w w2 w3:World} (h:qcx base Bl Bt Bn (out,own) w) (hb:Below w.heap.size w w2)
  (hr:qbq 40 9 base Bl (qae (out.map text)++[.string ⟨(text own).toArray⟩]) w3) (ht:qbV Bl w2 w3):
  qcx base Bl Bt Bn (out++[own],own) w3/\qbl base Bl Bn w w3:=by
 have h2:=h.keep hb;refine ⟨h2.told ht rfl (by simpa [qae] using hr),(qbl.of (hb.mono h.base_le)).trans (ht.aside h2.outs h2.base_le)⟩
theorem qrX (base Bl Bt Bn:Nat) (out:List (List Int)) (own:List Int) (c:Int) (w:World) (h:qcx base Bl Bt Bn (out,own) w) (hl:own.length<=1073741824) (ho:out.length<=1073741824) (hc:qba c=false) (hn:own≠[]):
    Calls Tryz.prog 222 #[.int .i64 c,.pointer (some ⟨Bn,0,none⟩),.pointer (some ⟨Bt,0,none⟩)] w (qfS base Bl Bt Bn (out++[own],[]) w):=by
  have hpos:0<own.length:=List.length_pos_iff.2 hn;obtain ⟨v,hv,hown⟩:=h.own;rw [qgl] at hown;obtain ⟨g,cap,rfl,_,_⟩:=hown.form hpos;obtain ⟨A,k,he,_,hrow⟩:=qaR hown;have hA:A=some ⟨g,0,none⟩:=by injection he with h1 h2 h3;exact h1.symm
  rw [hA] at hrow;have cN:=cell_of_one hv;have cT:=cell_of_one h.tell;have hltN:=lt_of_block hv;have hltT:=lt_of_block h.tell;have w1:=fun w=>qip c w
  rw [hc] at w1;have W1:=qH w1;have HR:=qH hrow;have HG:=qH h;clear w1 he hA hrow h
  go_enter Tryz.func222,Tryz.ntmps222
  go_wp2_with (go_at_call 223;refine (W1.out _).mono ?_;rintro e w' ⟨rfl,rfl⟩)
  go_region_held3 (fun w'=>w'.cell? ⟨Bt,0,none⟩=some (.func (.func 190) #[] #[.pointer (some ⟨Bl,0,none⟩)])/\w'.cell? ⟨Bn,0,none⟩=some (.slice (some ⟨g,0,none⟩) own.length cap))
    (first|go_keep|exact ⟨cT2,cN2⟩|exact ⟨cT3,cN3⟩)
    (first
      | (go_at_call 225; refine (qrl _ _ own w.drew (HR.out.below (Below.refl _ w).drew) hl).mono ?_; rintro e w2 ⟨rfl, hb0⟩
         have hb2:Below w.heap.size w w2:=(Below.refl _ w).drew.trans hb0;have HB2:=qH hb2;have cT2:=(hb2.cell (p:=⟨Bt,0,none⟩) hltT).trans cT;have cN2:=(hb2.cell (p:=⟨Bn,0,none⟩) hltN).trans cN;have hrv2:=(HG.out.keep hb2).outs;clear hb2 hb0)
      | (go_at_call 190; refine (qrS base Bl (qae (out.map text)) _ _ hrv2 (by rw [qeV, List.length_map]; exact ho) (HG.out.keep HB2.out).base_le).mono ?_; rintro e w3 ⟨rfl, hrv3, ht3⟩
         have cT3:=cell_of_one (qbV.block hrv2 ht3 ((HB2.out.block Bt hltT).trans HG.out.tell) (by decide) (by decide));have hv3:=qbV.block hrv2 ht3 ((HB2.out.block Bn hltN).trans hv) (by decide) (by decide);have cN3:=cell_of_one hv3;have fN3:=free_of_one hv3))
  obtain ⟨hg3,hb3⟩:=qrW HG.out HB2.out hrv3 ht3;have hown3:w3.ownsRow base 3 1 (.slice (some ⟨g,0,none⟩) own.length cap) own.length (qab own):=by
    obtain ⟨v3,hv3',hown3⟩:=hg3.own;rw [hv3] at hv3';simp at hv3';rw [<- hv3',qgl] at hown3;exact hown3
  obtain ⟨hrN,htN⟩:=qqp (T:=23) (E:=3) (by decide) hv3 hown3;have hfin:qfS base Bl Bt Bn (out++[own],[]) w (.returned (.tuple #[])) (w3.setCell ⟨Bn,0,none⟩ (.slice (some ⟨g,0,none⟩) 0 cap)):=
    ⟨rfl,hg3.owned htN rfl hrN,hb3.trans (htN.aside hg3.own hg3.base_le).swap⟩
  have HF:=qH hfin;clear hg3 hb3 hown3 hrN htN hfin;go_wp2
  go_end0
  exact HF.out
theorem qlt (base Bl Bt Bn:Nat) (st:List (List Int) × List Int) (c:Int) (w:World) (h:qcx base Bl Bt Bn st w) (hl:st.2.length<=1073741824) (ho:st.1.length<=1073741824):
  Calls Tryz.prog 222 #[.int .i64 c,.pointer (some ⟨Bn,0,none⟩),.pointer (some ⟨Bt,0,none⟩)] w (qfS base Bl Bt Bn (step st c) w):=by
 by_cases hc:qba c=true
 ·exact qrU base Bl Bt Bn st c w h hl hc
 ·have hc':qba c=false:=by simpa using hc
  obtain ⟨out,own⟩:=st;by_cases hn:own=[]
  ·subst hn
   rw [qgn hc'];exact qrV base Bl Bt Bn out c w h hc'
  ·rw [qgo hc' hn]
   exact qrX base Bl Bt Bn out own c w h hl ho hc' hn
def qiq (l:List (List UInt8)) (w:World) (e:Ending) (w':World):Prop:=∃ v,e= .returned v/\w'.ownsRow w.heap.size 9 1 v l.length (qae l)/\Below w.heap.size w w'
def qdC (l:List Int) (k:Nat):List (List Int) × List Int:=(l.take k).foldl step ([],[])
theorem qlu {l:List Int} {k:Nat} (hk:k<l.length):qdC l (k+1)=step (qdC l k) l[k]:=by
 unfold qdC;rw [List.take_succ_eq_append_getElem hk,List.foldl_append];rfl
theorem qrY (l:List Int):(step (qdC l l.length) 32).1=qee l:=by
 unfold qdC qee qcw;rw [List.take_length,List.foldl_append];rfl
theorem qrZ (st:List (List Int) × List Int) (c:Int):(step st c).1.length+(step st c).2.length<=st.1.length+st.2.length+1:=by
 unfold step;split
 ·simp;omega
 ·split
  ·omega
  ·simp
theorem qlv (l:List Int):∀ k,k<=l.length->(qdC l k).1.length+(qdC l k).2.length<=k
 |0,_=>by simp [qdC]
 |k+1,hk=>by
  have h1:=qlv l k (by omega);have h2:=qrZ (qdC l k) l[k];rw [qlu (by omega)];omega
def qr0 (l:List Int) (base B:Nat) (w1:World) (i:Value) (wr:World):Prop:=
 ∃ k:Nat,k<=l.length/\i= .int .i64 k/\qcx base B (B+1) (B+2) (qdC l k) wr/\qbl base B (B+2) w1 wr
def made (w:World):World:=
 ((w.alloc (.cells #[.slice none 0 0] 40)).alloc (.cells #[.func (.func 190) #[] #[.pointer (some ⟨w.heap.size,0,none⟩)]] 287)).alloc (.cells #[.slice none 0 0] 23)
theorem qlw (w:World):(made w).heap.size=w.heap.size+3:=by simp [made]
theorem qlx (w:World):Below w.heap.size w (made w):=(((Below.refl _ w).alloc (Nat.le_refl _) _).alloc (by simp) _).alloc (by simp;omega) _
theorem qr1 (w w1:World) (hb:Below (made w).heap.size (made w) w1):qcx w1.heap.size w.heap.size (w.heap.size+1) (w.heap.size+2) ([],[]) w1:=by
 have hs:=qlw w;have h1:(made w).heap[w.heap.size]?=some (.cells #[.slice none 0 0] 40 (0,0)):=by
  unfold made;rw [Below.heap_alloc _ _ _ (by simp;omega),Below.heap_alloc _ _ _ (by simp)];exact heap_alloc_new w _
 have h2:(made w).heap[w.heap.size+1]?=some (.cells #[.func (.func 190) #[] #[.pointer (some ⟨w.heap.size,0,none⟩)]] 287 (0,0)):=by
  unfold made;rw [Below.heap_alloc _ _ _ (by simp)];have :=heap_alloc_new (w.alloc (.cells #[.slice none 0 0] 40)) (.cells #[.func (.func 190) #[] #[.pointer (some ⟨w.heap.size,0,none⟩)]] 287);simpa using this
 have h3:(made w).heap[w.heap.size+2]?=some (.cells #[.slice none 0 0] 23 (0,0)):=by
  unfold made;have :=heap_alloc_new ((w.alloc (.cells #[.slice none 0 0] 40)).alloc (.cells #[.func (.func 190) #[] #[.pointer (some ⟨w.heap.size,0,none⟩)]] 287)) (.cells #[.slice none 0 0] 23);simpa using this
 exact ⟨Nat.le_refl _,⟨_,(hb.block _ (by omega)).trans h1,World.ownsRow_nil _ _ _ _⟩,(hb.block _ (by omega)).trans h2,⟨_,(hb.block _ (by omega)).trans h3,World.ownsRow_nil _ _ _ _⟩⟩
theorem qly (s:ByteArray) (w:World) (hs:s.size<=1073741824):
  Calls Tryz.prog 155 #[.string s] w (qiq (qaM s.data.toList) w):=by
 have hsl:=qgW s.data.toList;have hsz:s.data.toList.length=s.size:=Array.length_toList;rw [hsz] at hsl;have hwd:(step (qdC (qcm s.data.toList) (qcm s.data.toList).length) 32).1.map text=qaM s.data.toList:=by rw [qrY];rfl
 go_enter Tryz.func155,Tryz.ntmps155
 go_wp2_with (first
  |(go_at_call 189;go_in)
  |(go_at_call 191;refine (qrc s _ hs).mono ?_))
 rintro e w1 ⟨v,rfl,hown,hb⟩;have hms:=qlw w;have hg1:=qr1 w w1 hb;have hbm:Below w.heap.size w w1:=(qlx w).trans (hb.mono (qlx w).size);have hown:w1.ownsRow (w.heap.size+3) 3 1 v (qcm s.data.toList).length (qab (qcm s.data.toList)):=by rw [<- hms];exact hown
 have hszm:w.heap.size+3<=w1.heap.size:=by rw [<- hms];exact hb.size
 obtain ⟨A,c,rfl,_,_⟩:=qaR hown;obtain ⟨l,hl⟩:∃ l,l=qcm s.data.toList:=⟨_,rfl⟩;rw [<- hl] at hown hsl hwd;rw [<- hl];have HG1:=qH hg1;have HBM:=qH hbm;have HO:=qH hown;have HWD:=qH hwd;clear hl hms hg1 hbm hb hown hwd;go_wp2
 go_loopw [12] (fun i wr=>qr0 l w1.heap.size w.heap.size w1 i wr) (fun i _=>l.length-(intOf i).toNat)
 case atStart=>exact ⟨0,Nat.zero_le _,rfl,HG1.out,qbl.refl _ _ _ _⟩
 case round=>
  obtain ⟨k,hk,rfl,hg,ha⟩:=hrel;have hbd:=qlv l k hk;have HR:=qH (qbv (qkY HO.out (by omega) (by omega) (Nat.le_refl _) ha));have HA:=qH ha;have cL:=hg.outs;by_cases hlt:k<l.length
  ·obtain ⟨b1,o1,e1,_,hc1⟩:=qcF HR.out hlt
   subst e1;have HU:=qH (qlu hlt);obtain ⟨x,hx⟩:∃ x,x=l[k]:=⟨_,rfl⟩;rw [<- hx] at hc1 HU;clear hx ha cL
   go_wp2_with (go_at_call 222;refine (qlt w1.heap.size w.heap.size (w.heap.size+1) (w.heap.size+2) (qdC l k) x _ hg (by omega) (by omega)).mono ?_;rintro e w2 ⟨rfl,hg2,ha2⟩)
   go_roundw
   case rel=>exact ⟨k+1,by omega,by go_num,by rw [HU.out];exact hg2,HA.out.trans ha2⟩
   case measure=>simp [intOf];omega
  ·have hkl:k=l.length:=by omega
   clear cL ha
   go_wp2_with (go_at_call 222;refine (qlt w1.heap.size w.heap.size (w.heap.size+1) (w.heap.size+2) (qdC l k) 32 _ hg (by omega) (by omega)).mono ?_;rintro e w2 ⟨rfl,hg2,ha2⟩;obtain ⟨v2,hv2,hown2⟩:=hg2.outs;have c2:=cell_of_one hv2)
   go_ret;subst hkl;rw [HWD.out] at hown2;refine ⟨_,rfl,?_,HBM.out.trans ((HA.out.trans ha2).below HBM.out.size (Nat.le_refl _) (by omega))⟩;rw [qeV] at hown2;exact qbk hown2 HBM.out.size
theorem qir {o:List (List Int)} {n l:List Int} {k:Nat} (hk:k<l.length):qcw (o,n) (l.drop k)=qcw (step (o,n) l[k]) (l.drop (k+1)):=by
 rw [List.drop_eq_getElem_cons hk,qin]
theorem qr2 {o:List (List Int)} {n l:List Int} {k:Nat} (hk:l.length<=k) (hn:n≠[]):qcw (o,n) (l.drop k)=qcw (o++[n],[]) (l.drop (k+1)):=by
 rw [List.drop_of_length_le hk,List.drop_of_length_le (by omega),qio hn,qgZ]
theorem qlz {o:List (List Int)} {n l:List Int} {k:Nat} (hn:n≠[]) (h:(hk:k<l.length)->qba l[k]=false):qcw (o,n) (l.drop k)=qcw (o++[n],[]) (l.drop (k+1)):=by
 by_cases hk:k<l.length
 ·rw [qir hk,qgo (h hk) hn]
 ·exact qr2 (by omega) hn
def qr3 (l:List Int) (w1:World) (o i:Value) (wr:World):Prop:=
 ∃ (k:Nat) (out:List (List Int)) (vo:Value),vo=o/\k<=l.length+1/\i= .int .i64 k/\out.length<=k/\wr.ownsRow w1.heap.size 9 1 o out.length (qae (out.map text))/\Below w1.heap.size w1 wr/\qcw (out,[]) (l.drop k)=qee l
def qr4 (l:List Int) (w1:World) (out:List (List Int)) (o:Value) (k0:Nat) (i n:Value) (wr:World):Prop:=
 ∃ (k:Nat) (own:List Int) (vn:Value),vn=n/\k<=l.length/\k0<=k/\i= .int .i64 k/\own.length<=k/\(own=[]->k=k0)/\wr.ownsRow w1.heap.size 9 1 o out.length (qae (out.map text))/\wr.ownsRow w1.heap.size 3 1 n own.length (qab own)/\Below w1.heap.size w1 wr/\qcw (out,own) (l.drop k)=qee l
theorem qr5 (s:ByteArray) (w:World) (hs:s.size<=268435456):
  Calls Tryz.prog 144 #[.string s] w (qiq (qaM s.data.toList) w):=by
 obtain ⟨i0,hi0,hz0,hz1,hz2⟩:=info_parts qc7;obtain ⟨i1,hi1,hy0,hy1,hy2⟩:=info_parts qeW;have hsl:=qgW s.data.toList;have hsz:s.data.toList.length=s.size:=Array.length_toList;rw [hsz] at hsl;have hwd:(qee (qcm s.data.toList)).map text=qaM s.data.toList:=rfl
 go_enter Tryz.func144,Tryz.ntmps144
 go_wp2_with (go_at_call 179;refine (qrK s _ (by omega)).mono ?_)
 rintro e w1 ⟨v,rfl,hown,hb⟩;obtain ⟨A,c,rfl,_,hrow⟩:=qaR hown;obtain ⟨l,hl⟩:∃ l,l=qcm s.data.toList:=⟨_,rfl⟩;rw [<- hl] at hrow hsl hwd;rw [<- hl];have HB:=qH hb;have HR:=qH hrow;have HWD:=qH hwd;clear hl hb hown hrow hwd;go_wp2
 go_loopw [4,5] (fun o i wr=>qr3 l w1 o i wr) (fun _ i _=>l.length+1-(intOf i).toNat)
 case atStart=>exact ⟨0,[],_,rfl,by omega,rfl,by simp,World.ownsRow_nil _ _ _ _,Below.refl _ _,rfl⟩
 case round=>
  obtain ⟨k,out,vo,rfl,hk,rfl,hok,hout,hbw,hga⟩:=hrel;by_cases hlt:k<l.length
  ·obtain ⟨b1,o1,e1,_,hc1⟩:=qcF (HR.out.below hbw) hlt
   subst e1;by_cases hin:qba l[k]=true
   ·have r1:=fun w=>qg3 l[k] w
    rw [hin] at r1;have R1:=qH r1;have HIN:Hid (qba l[k]=true):=qH hin;have HGA:=qH hga;have HOUT:=qH hout;obtain ⟨x,hx⟩:∃ x,x=l[k]:=⟨_,rfl⟩;rw [<- hx] at hc1 R1 HIN;have HX:=qH hx;clear r1 hin hga hout hx
    go_wp2_with (go_at_call 180;refine (R1.out _).mono ?_;rintro e w' ⟨rfl,rfl⟩)
    go_loopw [5,7] (fun i n wr=>qr4 l w1 out vo k i n wr) (fun i _ _=>l.length-(intOf i).toNat)
    case atStart=>exact ⟨k,[],_,rfl,by omega,by omega,rfl,by simp,fun _=>rfl,HOUT.out,World.ownsRow_nil _ _ _ _,hbw,HGA.out⟩
    case round=>
     obtain ⟨j,own,vn,rfl,hj,hkj,rfl,hoj,hne0,hout2,hown2,hbw2,hga2⟩:=hrel;have hne:(k<j∨j=l.length∨(∃ h:j<l.length,qba l[j]=false))->own≠[]:=by
      intro hh he;have hjk:=hne0 he;subst hjk;rcases hh with hh|hh|⟨_,hh⟩
      ·omega
      ·omega
      ·rw [<- HX.out,HIN.out] at hh;cases hh
     by_cases hltj:j<l.length
     ·obtain ⟨b2,o2,e2,_,hc2⟩:=qcF (HR.out.below hbw2) hltj
      simp at e2;obtain ⟨rfl,rfl⟩:=e2;by_cases hinj:qba l[j]=true
      ·have r2:=fun w=>qg3 l[j] w
       rw [hinj] at r2;have f2:=fun w=>qrh l[j] w
       have ga2:=qir (o:=out) (n:=own) hltj;rw [hga2,qgY hinj] at ga2;obtain ⟨y,hy⟩:∃ y,y=l[j]:=⟨_,rfl⟩;rw [<- hy] at hc2 r2 f2 ga2;obtain ⟨z,hz⟩:∃ z,z=qbW y:=⟨_,rfl⟩;rw [<- hz] at f2 ga2;have R2:=qH r2;have F2:=qH f2;have GA2:=qH ga2;have HO2:=qH hout2;have hszj:=hbw2.size;clear r2 f2 ga2 hinj hga2 hy hz hne hne0 hout2 hc1
       go_wp2_with (first
        |(go_at_call 180;refine (R2.out _).mono ?_;rintro e w' ⟨rfl,rfl⟩)
        |(go_at_call 181;refine (F2.out _).mono ?_;rintro e w' ⟨rfl,rfl⟩)
        |(at_builtin;refine wpList_append_own _ rfl (.tmp 34) (.tmp 40) 23 rfl w1.heap.size 3 i0 _ 1 8 Tryz.underlying23 hi0 hz0 hz1 hz2 rfl (by omega) _ own.length (qab own) rfl (hown2.alloc _) ⟨_,0,none⟩ 1 1 [.int .i64 z] rfl rfl (qaN _ [.int .i64 z] 3) (by intro u hu;simp at hu;subst hu;rfl) (by unfold maxLen;omega) (by omega) (by simp;omega) ?_))
       intro v' w5 hown5 hgrow5 _;have hbw5:=(hbw2.alloc (by omega) _).grown hgrow5 (by simp;omega) (fun j hj=>(hown2.lt j hj).1);have hout5:=(HO2.out.alloc _).kept hgrow5 (qkX HO2.out hown2 (by decide));clear hgrow5;go_wp2;go_roundw
       case rel=>
        refine ⟨j+1,own++[z],_,rfl,by omega,by omega,by go_num,by simp;omega,by simp,hout5,?_,hbw5,GA2.out.symm⟩;simpa [qab] using hown5
       case measure=>simp [intOf];omega
      ·have hinj':qba l[j]=false:=by simpa using hinj
       have r2:=fun w=>qg3 l[j] w
       rw [hinj'] at r2;have hne:=hne (.inr (.inr ⟨hltj,hinj'⟩));have HIJ:=qH hinj';obtain ⟨A3,c3,rfl,_,hrow3⟩:=qaR hown2;have HN:=qH hrow3;have R2:=qH r2;have HG2:=qH hga2;have HO2:=qH hout2;have HBW2:=qH hbw2;obtain ⟨y,hy⟩:∃ y,y=l[j]:=⟨_,rfl⟩;rw [<- hy] at hc2 R2;clear r2 hinj hinj' hga2 hout2 hrow3 hown2 hne0 hc1 hy
       go_wp2_with (first
        |(go_at_call 180;refine (R2.out _).mono ?_;rintro e w' ⟨rfl,rfl⟩)
        |(go_at_call 182;refine (qlh _ _ _ own _ rfl HN.out (by omega)).mono ?_))
       rintro e w4 ⟨rfl,hb4⟩;obtain ⟨tx,htx⟩:∃ tx:ByteArray,tx=⟨(text own).toArray⟩:=⟨_,rfl⟩;rw [<- htx];have hout4:=qao HO2.out hb4;have hbw4:Below w1.heap.size w1 w4:=HBW2.out.trans (hb4.mono HBW2.out.size);have HTX:=qH htx;clear htx hb4;have hsz4:=hbw4.size
       go_wp2_with (at_builtin;refine wpList_append_own _ rfl (.tmp 44) (.tmp 47) 40 rfl w1.heap.size 9 i1 _ 1 16 Tryz.underlying40 hi1 hy0 hy1 hy2 rfl (by omega) _ out.length (qae (out.map text)) rfl (hout4.alloc _) ⟨w4.heap.size,0,none⟩ 1 1 [.string tx] rfl rfl (qaN w4 [.string tx] 9) (by intro u hu;simp at hu;subst hu;rfl) (by unfold maxLen;omega) (by omega) (by simp;omega) ?_)
       intro v' w5 hown5 hgrow5 _;have hbw5:=(hbw4.alloc (by omega) _).grown hgrow5 (by simp;omega) (fun j hj=>(hout4.lt j hj).1);clear hgrow5 hout4 hbw4;go_wp2;go_roundw
       case rel=>
        refine ⟨j+1,out++[own],_,rfl,by omega,by go_num,by simp;omega,?_,hbw5,?_⟩
        ·rw [HTX.out] at hown5;simpa [qae] using hown5
        ·rw [<- qlz hne (fun _=>HIJ.out)];exact HG2.out
       case measure=>simp [intOf];omega
     ·have hne:=hne (.inr (.inl (by omega)))
      obtain ⟨A3,c3,rfl,_,hrow3⟩:=qaR hown2;have HN:=qH hrow3;have HG2:=qH hga2;have HO2:=qH hout2;have HBW2:=qH hbw2;clear hga2 hout2 hrow3 hown2 hne0 hc1
      go_wp2_with (first
       |(go_at_call 182;refine (qlh _ _ _ own _ rfl HN.out (by omega)).mono ?_))
      rintro e w4 ⟨rfl,hb4⟩;obtain ⟨tx,htx⟩:∃ tx:ByteArray,tx=⟨(text own).toArray⟩:=⟨_,rfl⟩;rw [<- htx];have hout4:=qao HO2.out hb4;have hbw4:Below w1.heap.size w1 w4:=HBW2.out.trans (hb4.mono HBW2.out.size);have HTX:=qH htx;clear htx hb4;have hsz4:=hbw4.size
      go_wp2_with (at_builtin;refine wpList_append_own _ rfl (.tmp 44) (.tmp 47) 40 rfl w1.heap.size 9 i1 _ 1 16 Tryz.underlying40 hi1 hy0 hy1 hy2 rfl (by omega) _ out.length (qae (out.map text)) rfl (hout4.alloc _) ⟨w4.heap.size,0,none⟩ 1 1 [.string tx] rfl rfl (qaN w4 [.string tx] 9) (by intro u hu;simp at hu;subst hu;rfl) (by unfold maxLen;omega) (by omega) (by simp;omega) ?_)
      intro v' w5 hown5 hgrow5 _;have hbw5:=(hbw4.alloc (by omega) _).grown hgrow5 (by simp;omega) (fun j hj=>(hout4.lt j hj).1);clear hgrow5 hout4 hbw4;go_wp2;go_roundw
      case rel=>
       refine ⟨j+1,out++[own],_,rfl,by omega,by go_num,by simp;omega,?_,hbw5,?_⟩
       ·rw [HTX.out] at hown5;simpa [qae] using hown5
       ·rw [<- qlz hne (fun h=>absurd h hltj)];exact HG2.out
      case measure=>simp [intOf];omega
   ·have hin':qba l[k]=false:=by simpa using hin
    have r1:=fun w=>qg3 l[k] w
    rw [hin'] at r1;have ga:=qir (o:=out) (n:=[]) hlt;rw [hga,qgn hin'] at ga;have R1:=qH r1;have HOUT:=qH hout;have GA:=qH ga;obtain ⟨x,hx⟩:∃ x,x=l[k]:=⟨_,rfl⟩;rw [<- hx] at hc1 R1;clear r1 hin hin' hga hout hx ga
    go_wp2_with (go_at_call 180;refine (R1.out _).mono ?_;rintro e w' ⟨rfl,rfl⟩)
    go_roundw
    case rel=>exact ⟨k+1,out,_,rfl,by omega,by go_num,by omega,HOUT.out,hbw,GA.out.symm⟩
    case measure=>simp [intOf];omega
  ·rw [List.drop_of_length_le (by omega),qgZ] at hga
   have HGA:=qH hga;clear hga;go_wp2;go_ret;refine ⟨_,rfl,?_,HB.out.trans (hbw.mono HB.out.size)⟩;have :=HWD.out;rw [<- HGA.out] at this;rw [<- this,List.length_map];exact qbk hout HB.out.size
def qbD:Nat->List (List UInt8)->Int
 |_,[]=>0
 |i,w::ws=>if 30<w.length then 3 else if 500<=i then 7 else qbD (i+1) ws
def qdO:Nat->List (List UInt8)->List Value
 |_,[]=>[]
 |i,w::ws=> .string ⟨w.toArray⟩:: .int .i64 i::qdO (i+1) ws
theorem qlA:∀ (a:List (List UInt8)) (i:Nat) (b:List (List UInt8)),qdO i (a++b)=qdO i a++qdO (i+a.length) b
 |[],i,b=>by simp [qdO]
 |w::a,i,b=>by
  simp only [List.cons_append,qdO,qlA a,List.length_cons];rw [show i+1+a.length=i+(a.length+1) by omega]
theorem qlB {ws:List (List UInt8)} {k:Nat} (hk:k<ws.length):qdO 0 (ws.take (k+1))=qdO 0 (ws.take k)++[.string ⟨ws[k].toArray⟩,.int .i64 k]:=by
 rw [List.take_succ_eq_append_getElem hk,qlA,List.length_take,Nat.zero_add,Nat.min_eq_left (by omega)];rfl
theorem qlC {ws:List (List UInt8)} {k:Nat} (hk:k<ws.length):qbD k (ws.drop k)=if 30<ws[k].length then 3 else if 500<=k then 7 else qbD (k+1) (ws.drop (k+1)):=by
 rw [List.drop_eq_getElem_cons hk,qbD]
theorem qlD:(Tryz.prog.info? 245).map (fun i=>(i.zero,i.size,i.bytes))=some (some (.agg #[.string ByteArray.empty,.int .i64 0]),2,24):=by kernel_rfl
def qeX (ws:List (List UInt8)) (w:World) (e:Ending) (w':World):Prop:=
 ∃ v,e= .returned (.tuple #[v,.int .i64 (qbD 0 ws)])/\(qbD 0 ws=0->w'.ownsRow w.heap.size 245 2 v ws.length (qdO 0 ws))/\(qbD 0 ws≠0->v= .slice none 0 0)/\Below w.heap.size w w'
def qlE (ws:List (List UInt8)) (w1:World) (a b o i:Value) (wr:World):Prop:=
 ∃ (k:Nat) (vo:Value),vo=o/\a= .slice none 0 0/\b= .int .i64 0/\k<=ws.length/\k<=500/\i= .int .i64 k/\wr.ownsRow w1.heap.size 245 2 o k (qdO 0 (ws.take k))/\Below w1.heap.size w1 wr/\qbD k (ws.drop k)=qbD 0 ws
def qdD (f g:List UInt8):List UInt8:=f++0::g
theorem qr6 {f g f' g':List UInt8} (h:qdD f g=qdD f' g') (h0:(0:UInt8)∉f) (h1:(0:UInt8)∉f'):f=f'/\g=g':=by
 induction f generalizing f' with
 |nil=>
  cases f' with
  |nil=>simp [qdD] at h;exact ⟨rfl,h⟩
  |cons b f'=>simp [qdD] at h;exact absurd (by rw [<- h.1];exact List.mem_cons_self ..) h1
 |cons a f ih=>
  cases f' with
  |nil=>simp [qdD] at h;exact absurd (by rw [h.1];exact List.mem_cons_self ..) h0
  |cons b f'=>
   simp only [qdD,List.cons_append,List.cons.injEq] at h;obtain ⟨h2,h3⟩:=ih (f':=f') h.2 (fun e=>h0 (List.mem_cons_of_mem _ e)) (fun e=>h1 (List.mem_cons_of_mem _ e));exact ⟨by rw [h.1,h2],h3⟩
def qez (f g:ByteArray):ByteArray:=f++⟨#[0]⟩++g
theorem qis (f g:ByteArray):(qez f g).data.toList=qdD f.data.toList g.data.toList:=by simp [qez,qdD]
abbrev Nm:=List UInt8
theorem qit {a:UInt8} {x:Nm}:([]:Nm)<a::x:=by simp
theorem qiu {x:Nm}:¬ x<([]:Nm):=by simp
theorem qg4 {a b:UInt8} {x y:Nm}:a::x<b::y↔a<b∨a=b/\x<y:=List.cons_lt_cons_iff
theorem qr7 (a:UInt8):¬ a<a:=by rw [UInt8.lt_iff_toNat_lt];omega
theorem qeA:∀ x:Nm,¬ x<x
 |[]=>qiu
 |a::x=>by
  rw [qg4];rintro (h|⟨_,h⟩)
  ·exact qr7 a h
  ·exact qeA x h
theorem qcX:∀ {x y z:Nm},x<y->y<z->x<z
 |_,[],_,h,_=>absurd h qiu
 |_,_::_,[],_,h=>absurd h qiu
 |[],_::_,_::_,_,_=>qit
 |a::x,b::y,c::z,h,k=>by
  rw [qg4] at h k ⊢;rcases h with h|⟨rfl,h⟩
  ·rcases k with k|⟨rfl,k⟩
   ·left;rw [UInt8.lt_iff_toNat_lt] at*;omega
   ·exact .inl h
  ·rcases k with k|⟨rfl,k⟩
   ·exact .inl k
   ·exact .inr ⟨rfl,qcX h k⟩
theorem qdY:∀ x y:Nm,x<y∨x=y∨y<x
 |[],[]=> .inr (.inl rfl)
 |[],_::_=> .inl qit
 |_::_,[]=> .inr (.inr qit)
 |a::x,b::y=>by
  rw [qg4,qg4];by_cases h1:a<b
  ·exact .inl (.inl h1)
  ·by_cases h2:b<a
   ·exact .inr (.inr (.inl h2))
   ·have e:a=b:=by
     rw [UInt8.lt_iff_toNat_lt] at h1 h2;exact UInt8.toNat_inj.1 (by omega)
    subst e;rcases qdY x y with h|rfl|h
    ·exact .inl (.inr ⟨rfl,h⟩)
    ·exact .inr (.inl rfl)
    ·exact .inr (.inr (.inr ⟨rfl,h⟩))
theorem qgp {x y:Nm} (h:x<y):¬ y<x:=fun k=>qeA x (qcX h k)
theorem qiv {x y:Nm} (h:x<y):x≠y:=fun e=>qeA y (e▸h)
theorem qr8 {x y z:Nm} (h:¬ y<x) (k:y<z):x<z:=by
 rcases qdY x y with h1|rfl|h1
 ·exact qcX h1 k
 ·exact k
 ·exact absurd h1 h
theorem qr9 {x y z:Nm} (h:x<y) (k:¬ z<y):x<z:=by
 rcases qdY y z with h1|rfl|h1
 ·exact qcX h h1
 ·exact h
 ·exact absurd h1 k
def qaI (l:List Nm):Prop:=l.Pairwise (· <·)
instance (l:List Nm):Decidable (qaI l):=inferInstanceAs (Decidable (l.Pairwise (· <·)))
def qc8 (l:List Nm):Bool:=decide (qaI l)
theorem qfT {l:List Nm}:qc8 l=true↔qaI l:=by simp [qc8]
theorem qef {l:List Nm} (h:qaI l) {i j:Nat} (hj:j<l.length) (hij:i<j):l[i]<l[j]:=List.pairwise_iff_getElem.1 h i j (by omega) hj hij
theorem qsa {l:List Nm} (h:∀ i,(hi:i+1<l.length)->l[i]<l[i+1]):qaI l:=by
 refine List.pairwise_iff_getElem.2 fun i j hi hj hij=> ?_
 induction j with
 |zero=>omega
 |succ j ih=>
  by_cases e:i=j
  ·subst e;exact h i hj
  ·exact qcX (ih (by omega) (by omega)) (h j hj)
theorem qsb {l:List Nm} {k:Nat} (hk:k<l.length) (h0:0<k) (h:¬ l[k-1]<l[k]):qc8 l=false:=by
 rw [<- Bool.not_eq_true,qfT];exact fun hr=>h (qef hr hk (by omega))
theorem qsc {l:List Nm} (h:∀ i,(hi:i<l.length)->0<i->l[i-1]<l[i]):qc8 l=true:=by
 rw [qfT];exact qsa fun i hi=>by have :=h (i+1) hi (by omega);simpa using this
def qay:List Nm->Nm->Nat
 |[],_=>0
 |x::l,s=>if x<s then qay l s+1 else 0
def isN:List Nm->Nm->Bool
 |[],_=>false
 |x::l,s=>if x<s then isN l s else x==s
def qbX:List Nm->Nm->List Nm
 |[],s=>[s]
 |x::l,s=>if x<s then x::qbX l s else if x=s then x::l else s::x::l
theorem qgq:∀ (l:List Nm) (s:Nm),qay l s<=l.length
 |[],_=>Nat.le_refl _
 |x::l,s=>by
  have :=qgq l s;simp only [qay,List.length_cons];split<;>omega
theorem qlF:∀ {l:List Nm} {s:Nm} {j:Nat} (hj:j<l.length),j<qay l s->l[j]<s
 |[],_,_,h,_=>by simp at h
 |x::l,s,j,hj,h=>by
  simp only [qay] at h;split at h
  ·rename_i hx
   cases j with
   |zero=>exact hx
   |succ j=>exact qlF (l:=l) (by simpa using hj) (by omega)
  ·omega
theorem qlG:∀ {l:List Nm} {s:Nm} (h:qay l s<l.length),¬ l[qay l s]<s
 |[],_,h=>by simp at h
 |x::l,s,h=>by
  by_cases hx:x<s
  ·have e:qay (x::l) s=qay l s+1:=by simp [qay,hx]
   have :=qlG (l:=l) (s:=s) (by rw [e] at h;simpa using h);simpa [e] using this
  ·have e:qay (x::l) s=0:=by simp [qay,hx]
   simpa [e] using hx
theorem qlH {l:List Nm} {s:Nm} {k:Nat} (hk:k<=l.length) (h1:∀ j (hj:j<l.length),j<k->l[j]<s) (h2:∀ h:k<l.length,¬ l[k]<s):qay l s=k:=by
 have a:=qgq l s;rcases Nat.lt_trichotomy (qay l s) k with h|h|h
 ·exact absurd (h1 _ (by omega) h) (qlG (by omega))
 ·exact h
 ·exact absurd (qlF (by omega) h) (h2 (by omega))
theorem qg5:∀ {l:List Nm} {s:Nm} (h:qay l s<l.length),isN l s=(l[qay l s]==s)
 |[],_,h=>by simp at h
 |x::l,s,h=>by
  by_cases hx:x<s
  ·have e:qay (x::l) s=qay l s+1:=by simp [qay,hx]
   have e2:isN (x::l) s=isN l s:=by simp [isN,hx]
   have :=qg5 (l:=l) (s:=s) (by rw [e] at h;simpa using h);rw [e2,this];simp [e]
  ·have e:qay (x::l) s=0:=by simp [qay,hx]
   simp [e,isN,hx]
theorem qiw:∀ {l:List Nm} {s:Nm},qay l s=l.length->isN l s=false
 |[],_,_=>rfl
 |x::l,s,h=>by
  by_cases hx:x<s
  ·have e:qay (x::l) s=qay l s+1:=by simp [qay,hx]
   rw [e] at h;simpa [isN,hx] using qiw (l:=l) (s:=s) (by simpa using h)
  ·have e:qay (x::l) s=0:=by simp [qay,hx]
   rw [e] at h;simp at h
theorem qix {l:List Nm} {s:Nm} {k:Nat} (hk:k<l.length) (h1:∀ j (hj:j<l.length),j<k->l[j]<s) (h2:l[k]=s):qay l s=k/\isN l s=true:=by
 have e:=qlH (s:=s) (by omega) h1 (fun _=>by rw [h2];exact qeA s);subst e;exact ⟨rfl,by rw [qg5 hk,h2];simp⟩
theorem qlI {l:List Nm} {s:Nm} {k:Nat} (hk:k<=l.length) (h1:∀ j (hj:j<l.length),j<k->l[j]<s) (h2:∀ h:k<l.length,s<l[k]):qay l s=k/\isN l s=false:=by
 have e:=qlH (s:=s) hk h1 (fun h=>qgp (h2 h));subst e;refine ⟨rfl,?_⟩;by_cases h:qay l s<l.length
 ·rw [qg5 h]
  simpa using (qiv (h2 h)).symm
 ·exact qiw (by have :=qgq l s;omega)
theorem qiy {l:List Nm} {s:Nm} (h:isN l s=true):∃ hk:qay l s<l.length,l[qay l s]=s:=by
 by_cases hk:qay l s<l.length
 ·rw [qg5 hk] at h
  exact ⟨hk,by simpa using h⟩
 ·rw [qiw (by have :=qgq l s;omega)] at h
  cases h
theorem qlJ {l:List Nm} (hr:qaI l) {i:Nat} (hi:i<l.length):qay l l[i]=i/\isN l l[i]=true:=
 qix hi (fun j hj hji=>qef hr hi hji) rfl
def qaC (x s:Nm):Int:=if x<s then-1 else if x=s then 0 else 1
theorem qlK:∀ {l:List Nm} {s:Nm},isN l s=true->qbX l s=l
 |[],_,h=>by cases h
 |x::l,s,h=>by
  by_cases hx:x<s
  ·rw [isN,if_pos hx] at h
   rw [qbX,if_pos hx,qlK h]
  ·rw [isN,if_neg hx] at h
   rw [qbX,if_neg hx,if_pos (by simpa using h)]
theorem qlL:∀ {l:List Nm} {s:Nm},isN l s=false->qbX l s=l.take (qay l s)++[s]++l.drop (qay l s)
 |[],_,h=>rfl
 |x::l,s,h=>by
  by_cases hx:x<s
  ·rw [isN,if_pos hx] at h
   rw [qbX,if_pos hx,qlL h,qay,if_pos hx];simp
  ·rw [isN,if_neg hx] at h
   rw [qbX,if_neg hx,if_neg (by simpa using h),qay,if_neg hx];simp
theorem qg6:∀ {l:List Nm} {s x:Nm},x∈qbX l s↔x=s∨x∈l
 |[],s,x=>by simp [qbX]
 |y::l,s,x=>by
  rw [qbX];split
  ·rw [List.mem_cons,qg6,List.mem_cons];exact or_left_comm
  ·split
   ·rename_i e
    subst e;rw [List.mem_cons];exact ⟨fun h=> .inr h,fun h=>h.elim .inl id⟩
   ·rw [List.mem_cons,List.mem_cons]
theorem qiz:∀ {l:List Nm} {s:Nm},qaI l->qaI (qbX l s)
 |[],s,_=>by simp [qbX,qaI]
 |y::l,s,h=>by
  have h':=List.pairwise_cons.1 h;rw [qbX];split
  ·rename_i hy
   refine List.pairwise_cons.2 ⟨fun a ha=> ?_,qiz h'.2⟩;rcases qg6.1 ha with rfl|ha
   ·exact hy
   ·exact h'.1 a ha
  ·rename_i hy
   split
   ·exact h
   ·rename_i hne
    have hs:s<y:=((qdY y s).resolve_left hy).resolve_left hne;refine List.pairwise_cons.2 ⟨fun a ha=> ?_,h⟩;rcases List.mem_cons.1 ha with rfl|ha
    ·exact hs
    ·exact qcX hs (h'.1 a ha)
theorem qlM (l:List Nm) (s:Nm):(qbX l s).length<=l.length+1:=by
 cases h:isN l s with
 |true=>rw [qlK h];omega
 |false=>rw [qlL h];have :=qgq l s;simp;omega
theorem qg7:∀ {a b:List Nm},qaI a->qaI b->(∀ x,x∈a↔x∈b)->a=b
 |[],[],_,_,_=>rfl
 |[],y::b,_,_,h=>absurd ((h y).2 (List.mem_cons_self ..)) (by simp)
 |x::a,[],_,_,h=>absurd ((h x).1 (List.mem_cons_self ..)) (by simp)
 |x::a,y::b,ha,hb,h=>by
  have ha':=List.pairwise_cons.1 ha;have hb':=List.pairwise_cons.1 hb;have e:x=y:=by
   rcases List.mem_cons.1 ((h x).1 (List.mem_cons_self ..)) with e|h1
   ·exact e
   ·rcases List.mem_cons.1 ((h y).2 (List.mem_cons_self ..)) with e|h2
    ·exact e.symm
    ·exact absurd (ha'.1 y h2) (qgp (hb'.1 x h1))
  subst e;congr 1;refine qg7 ha'.2 hb'.2 fun z=>⟨fun hz=> ?_,fun hz=> ?_⟩
  ·rcases List.mem_cons.1 ((h z).1 (List.mem_cons_of_mem _ hz)) with rfl|h1
   ·exact absurd (ha'.1 z hz) (qeA z)
   ·exact h1
  ·rcases List.mem_cons.1 ((h z).2 (List.mem_cons_of_mem _ hz)) with rfl|h1
   ·exact absurd (hb'.1 z hz) (qeA z)
   ·exact h1
def qdr (l:List Nm) (n:Nat):List Nm:=(l.take n).foldl (fun a x=>qbX a (x.take 8)) []
theorem qsd {l:List Nm} {k:Nat} (hk:k<l.length):qdr l (k+1)=qbX (qdr l k) (l[k].take 8):=by
 rw [qdr,List.take_succ_eq_append_getElem hk,List.foldl_append];rfl
theorem qse {l:List Nm} {k n:Nat} (hk:l.length<=k) (hn:k<=n):qdr l k=qdr l n:=by
 rw [qdr,qdr,List.take_of_length_le hk,List.take_of_length_le (by omega)]
theorem qsf (l:List Nm) (n:Nat):qdr l (min n l.length)=qdr l n:=by
 rcases Nat.le_total n l.length with h|h
 ·rw [Nat.min_eq_left h]
 ·rw [Nat.min_eq_right h];exact qse (Nat.le_refl _) h
structure qlN (g:List Nm):Prop where
 rise:qaI g
 eight:∀ x∈g,x.length<=8
theorem qzC (l:List Nm) (n:Nat):qlN (qdr l n)/\(qdr l n).length<=n:=by
 have :∀ k,k<=l.length->qlN (qdr l k)/\(qdr l k).length<=k:=by
  intro k
  induction k with
  |zero=>intro _;exact ⟨⟨List.Pairwise.nil,fun x hx=>by cases hx⟩,Nat.le_refl _⟩
  |succ k ih=>
   intro hk;obtain ⟨h1,h2⟩:=ih (by omega);rw [qsd (by omega)];refine ⟨⟨qiz h1.rise,fun x hx=> ?_⟩,by have :=qlM (qdr l k) (l[k].take 8);omega⟩;rcases qg6.1 hx with rfl|hx
   ·rw [List.length_take];omega
   ·exact h1.eight x hx
 have h:=this (min n l.length) (by omega);rw [qsf] at h;exact ⟨h.1,by omega⟩
def qbw (ls:List (List Nm)):List Nm:=ls.flatten.foldl qbX []
theorem qiA:∀ (xs:List Nm) (a:List Nm) (x:Nm),x∈xs.foldl qbX a↔x∈xs∨x∈a
 |[],a,x=>by simp
 |y::xs,a,x=>by
  rw [List.foldl_cons,qiA xs,qg6,List.mem_cons];constructor
  ·rintro (h|h|h)
   ·exact .inl (.inr h)
   ·exact .inl (.inl h)
   ·exact .inr h
  ·rintro ((h|h)|h)
   ·exact .inr (.inl h)
   ·exact .inl h
   ·exact .inr (.inr h)
theorem qiB:∀ (xs:List Nm) (a:List Nm),qaI a->qaI (xs.foldl qbX a)
 |[],a,h=>h
 |y::xs,a,h=>qiB xs _ (qiz h)
theorem qfU (ls:List (List Nm)):qaI (qbw ls):=qiB _ _ List.Pairwise.nil
theorem qgr {ls:List (List Nm)} {x:Nm}:x∈qbw ls↔∃ a∈ls,x∈a:=by
 rw [qbw,qiA];simp [List.mem_flatten]
theorem qlO {ls:List (List Nm)} {r:List Nm} (h:qaI r) (hm:∀ x,x∈r↔∃ a∈ls,x∈a):r=qbw ls:=
 qg7 h (qfU ls) fun x=>by rw [hm,qgr]
theorem qgs:∀ (xs a:List Nm),(xs.foldl qbX a).length<=xs.length+a.length
 |[],a=>by simp
 |y::xs,a=>by
  rw [List.foldl_cons,List.length_cons];have :=qgs xs (qbX a y);have :=qlM a y;omega
def qgt (l:List Nm):List Nm:=Lib.compact (l.mergeSort fun x y=>decide (x<=y))
theorem qsg (l:List Nm):(l.mergeSort fun x y=>decide (x<=y)).Pairwise (fun x y=>¬ y<x):=by
 have h:=List.pairwise_mergeSort (le:=fun x y:Nm=>decide (x<=y)) (fun a b c h1 h2=>decide_eq_true (show ¬ c<a from fun h=>(of_decide_eq_true h2:¬ c<b) (qr9 h (of_decide_eq_true h1:¬ b<a)))) (fun a b=>by
  by_cases h:b<a
  ·rw [Bool.or_eq_true];exact .inr (decide_eq_true (show ¬ a<b from qgp h))
  ·rw [Bool.or_eq_true];exact .inl (decide_eq_true (show ¬ b<a from h))) l
 exact h.imp fun {a b} hab=>(of_decide_eq_true hab:¬ b<a)
theorem qsh {l:List Nm} (x:Nm):x∈Lib.compact l↔x∈l:=by
 unfold Lib.compact;have :∀ m,m<=l.length->(x∈Lib.compactUpTo l.toArray m↔x∈l.take m):=by
  intro m
  induction m with
  |zero=>intro _;simp [Lib.compactUpTo]
  |succ m ih=>
   intro hm;have hg:l.toArray[m]! =l[m]:=by rw [getElem!_pos l.toArray m (by simp;omega)];simp
   rw [Lib.compactUpTo_succ,List.mem_append,ih (by omega),List.take_succ_eq_append_getElem (by omega),List.mem_append,hg];by_cases hk:Lib.keeps l.toArray m=true
   ·rw [if_pos hk]
   ·rw [if_neg hk]
    have hk':m≠0/\l.toArray[m]! =l.toArray[m-1]! :=by
     simp only [Lib.keeps,decide_eq_true_eq,not_or,Decidable.not_not] at hk;exact hk
    have hg1:l.toArray[m-1]! =l[m-1]:=by rw [getElem!_pos l.toArray (m-1) (by simp;omega)];simp
    rw [hg,hg1] at hk';constructor
    ·rintro (h|h)
     ·exact .inl h
     ·cases h
    ·rintro (h|h)
     ·exact .inl h
     ·rw [List.mem_singleton] at h
      left;rw [h,hk'.2];exact List.mem_take_iff_getElem.2 ⟨m-1,by omega,rfl⟩
 have h:=this l.length (Nat.le_refl _);rwa [List.take_length] at h
theorem qsi {l:List Nm} (hl:l.Pairwise (fun x y=>¬ y<x)):qaI (Lib.compact l):=by
 unfold Lib.compact;have :∀ m,m<=l.length->qaI (Lib.compactUpTo l.toArray m)/\∀ x∈Lib.compactUpTo l.toArray m,∃ j,j<m/\l[j]?=some x:=by
  intro m
  induction m with
  |zero=>intro _;simp [Lib.compactUpTo,qaI]
  |succ m ih=>
   intro hm;obtain ⟨h1,h2⟩:=ih (by omega);have hg:l.toArray[m]! =l[m]:=by rw [getElem!_pos l.toArray m (by simp;omega)];simp
   rw [Lib.compactUpTo_succ,hg];by_cases hk:Lib.keeps l.toArray m=true
   ·rw [if_pos hk]
    refine ⟨List.pairwise_append.2 ⟨h1,List.pairwise_singleton _ _,fun a ha b hb=> ?_⟩,fun x hx=> ?_⟩
    ·rw [List.mem_singleton] at hb
     subst hb;obtain ⟨j,hj,hja⟩:=h2 a ha;obtain ⟨hjl,rfl⟩:=List.getElem?_eq_some_iff.1 hja;have hm0:m≠0:=by omega
     have hg1:l.toArray[m-1]! =l[m-1]:=by rw [getElem!_pos l.toArray (m-1) (by simp;omega)];simp
     have hne:l[m]≠l[m-1]:=by
      simp only [Lib.keeps,decide_eq_true_eq] at hk;have :=hk.resolve_left hm0;rwa [hg,hg1] at this
     have hlt:l[m-1]<l[m]:=by
      have h3:=List.pairwise_iff_getElem.1 hl (m-1) m (by omega) (by omega) (by omega);rcases qdY l[m-1] l[m] with h|h|h
      ·exact h
      ·exact absurd h.symm hne
      ·exact absurd h h3
     by_cases e:j=m-1
     ·subst e;exact hlt
     ·exact qr8 (List.pairwise_iff_getElem.1 hl j (m-1) (by omega) (by omega) (by omega)) hlt
    ·rcases List.mem_append.1 hx with hx|hx
     ·obtain ⟨j,hj,hja⟩:=h2 x hx
      exact ⟨j,by omega,hja⟩
     ·rw [List.mem_singleton] at hx
      subst hx;exact ⟨m,by omega,by simp⟩
   ·rw [if_neg hk,List.append_nil]
    exact ⟨h1,fun x hx=>by obtain ⟨j,hj,hja⟩:=h2 x hx;exact ⟨j,by omega,hja⟩⟩
 exact (this l.length (Nat.le_refl _)).1
theorem qsj (l:List Nm):qaI (qgt l):=qsi (qsg l)
theorem qsk {l:List Nm} (x:Nm):x∈qgt l↔x∈l:=by rw [qgt,qsh,List.mem_mergeSort]
def qcn:List Nm->List Nm->List Nm
 |[],b=>b
 |a,[]=>a
 |x::a,y::b=>if x<y then x::qcn a (y::b) else if x=y then qcn a (y::b) else y::qcn (x::a) b
termination_by a b=>a.length+b.length
theorem qlP (a:List Nm):qcn a []=a:=by cases a<;>simp [qcn]
theorem qlQ (b:List Nm):qcn [] b=b:=by simp [qcn]
theorem qfV:∀ (a b:List Nm) (x:Nm),x∈qcn a b↔x∈a∨x∈b
 |[],b,x=>by simp [qcn]
 |y::a,[],x=>by simp [qcn]
 |y::a,z::b,x=>by
  rw [qcn];split
  ·rw [List.mem_cons,qfV a (z::b),List.mem_cons (a:=x) (b:=y),or_assoc]
  ·split
   ·rename_i e
    subst e;rw [qfV a (y::b)];simp only [List.mem_cons];exact ⟨fun h=>h.elim (fun h=> .inl (.inr h)) .inr,fun h=>h.elim (fun h=>h.elim (fun h=> .inr (.inl h)) .inl) .inr⟩
   ·rw [List.mem_cons,qfV (y::a) b,List.mem_cons (a:=x) (b:=z)]
    exact or_left_comm
termination_by a b=>a.length+b.length
theorem qg8:∀ {a b:List Nm},qaI a->qaI b->qaI (qcn a b)
 |[],b,_,h=>by rw [qlQ];exact h
 |y::a,[],h,_=>by rw [qlP];exact h
 |y::a,z::b,ha,hb=>by
  have ha':=List.pairwise_cons.1 ha;have hb':=List.pairwise_cons.1 hb;rw [qcn];split
  ·rename_i h
   refine List.pairwise_cons.2 ⟨fun x hx=> ?_,qg8 ha'.2 hb⟩;rcases (qfV _ _ _).1 hx with hx|hx
   ·exact ha'.1 x hx
   ·rcases List.mem_cons.1 hx with rfl|hx
    ·exact h
    ·exact qcX h (hb'.1 x hx)
  ·rename_i h
   split
   ·exact qg8 ha'.2 hb
   ·rename_i hne
    have hz:z<y:=((qdY y z).resolve_left h).resolve_left hne;refine List.pairwise_cons.2 ⟨fun x hx=> ?_,qg8 ha hb'.2⟩;rcases (qfV _ _ _).1 hx with hx|hx
    ·rcases List.mem_cons.1 hx with rfl|hx
     ·exact hz
     ·exact qcX hz (ha'.1 x hx)
    ·exact hb'.1 x hx
termination_by a b=>a.length+b.length
end Go.Proofs.YtpehcaidjlemiaaGreatDoor
