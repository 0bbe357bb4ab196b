import Derived.Test.YtldcadpemnpbmaaGreatDoorMLQ21
import Derived.BigCall
import Derived.Test.YtldcadpemnpbmaaGreatDoorMLQ05
import Derived.Laws.Small
import Derived.Laws.EntriesVeiled
import Derived.Shelf.Abstract
import Derived.Deep.RegionWith
import Derived.Test.YtldcadpemnpbmaaGreatDoorMLQ10
namespace Go.Proofs.YtldcadpemnpbmaaGreatDoor
open Go Go.RowKit
set_option linter.unusedVariables false
def goodSign (c:Int):Prop:=inWord c=true∧fold c=c
theorem mayWord_iff (w:List UInt8):mayWord w=true↔w≠[]∧w.length≤30∧∀ c∈signs w,goodSign c:=by simp [mayWord,goodSign]
theorem mayWord_bad {w:List UInt8} {k:Nat} (hk:k<(signs w).length) (h:¬ goodSign (signs w)[k]):mayWord w=false:=by
 rw [← Bool.not_eq_true,mayWord_iff]
 exact fun hh=>h (hh.2.2 _ (List.getElem_mem hk))
theorem good_all {l:List Int} (h:∀ j (hj:j<l.length),goodSign l[j]):∀ c∈l,goodSign c:=by
 intro c hc
 obtain ⟨j,hj,rfl⟩:=List.getElem_of_mem hc
 exact h j hj
def MayRel (l:List Int) (w1:World) (a i:Value) (wr:World):Prop:=∃ k:Nat,k≤l.length∧a= .bool false∧i= .int .i64 k∧Below w1.heap.size w1 wr∧∀ j (hj:j<l.length),j<k→goodSign l[j]
set_option maxHeartbeats 2000000 in
set_option maxRecDepth 100000 in
theorem word_May (s:ByteArray) (w:World) (hs:s.size≤1073741824):
  Calls Tryz.prog 126 #[.string s] w fun e w'=>e= .returned (.bool (mayWord s.data.toList))∧Below w.heap.size w w':=by
 have hsz:s.data.toList.length=s.size:=Array.length_toList
 have hsl:=signs_length s.data.toList
 rw [hsz] at hsl
 by_cases h0:s.size=0
 ·have he:s=ByteArray.empty:=by
   have :s.data.toList=[]:=List.eq_nil_of_length_eq_zero (by omega)
   cases s with|mk d=>cases d with|mk l=>simp at this;subst this;rfl
  have hm:mayWord s.data.toList=false:=by rw [he];rfl
  rw [hm]
  subst he
  clear hm hsz hsl h0
  go_enter Tryz.func126,Tryz.ntmps126
  go_wp2
  go_ret
  exact ⟨rfl,Below.refl _ _⟩
 ·have hne:s.data.toList≠[]:=fun h=>h0 (by rw [← hsz,h];rfl)
  have HM:=Lib.hid (mayWord_iff s.data.toList)
  have HBAD:Hid (∀ k (hk:k<(signs s.data.toList).length),¬ goodSign (signs s.data.toList)[k]→mayWord s.data.toList=false):=Lib.hid (fun k hk h=>mayWord_bad hk h)
  have hs0:(s.toList==[])=false:=by
   rw [Lib.toList_data]
   simpa using hne
  by_cases h30:30<s.size
  ·have hm:mayWord s.data.toList=false:=by rw [← Bool.not_eq_true,HM.out];intro h;omega
   have HF:=Lib.hid hm
   have HSZ:=Lib.hid hsz
   clear hm hsz
   go_enter Tryz.func126,Tryz.ntmps126
   go_wp2
   go_ret
   exact ⟨ret_bool HF.out.symm,Below.refl _ _⟩
  ·have HALL:Hid ((∀ c∈signs s.data.toList,goodSign c)→mayWord s.data.toList=true):=Lib.hid (fun h=>HM.out.2 ⟨hne,by omega,h⟩)
   clear hsz
   go_enter Tryz.func126,Tryz.ntmps126
   go_wp2_with (go_at_call 193;refine (sign_Signs s _ (by omega)).mono ?_)
   rintro e w1 ⟨v,rfl,hown,hb⟩
   obtain ⟨A,c,rfl,_,hrow⟩:=owned_row hown
   obtain ⟨l,hl⟩:∃ l,l=signs s.data.toList:=⟨_,rfl⟩
   rw [← hl] at hrow hsl
   rw [← hl]
   have HBAD2:Hid (∀ k (hk:k<l.length),¬ goodSign l[k]→mayWord s.data.toList=false):=by subst hl;exact HBAD
   have HALL2:Hid ((∀ c∈l,goodSign c)→mayWord s.data.toList=true):=by subst hl;exact HALL
   have HB:=Lib.hid hb
   have HR:=Lib.hid hrow
   clear hl hb hown hrow HBAD HALL hne
   go_wp2
   go_loopw [2,15] (fun a i wr=>MayRel l w1 a i wr) (fun _ i _=>l.length-(intOf i).toNat)
   case atStart=>exact ⟨0,Nat.zero_le _,rfl,rfl,Below.refl _ _,fun j _ hj=>absurd hj (by omega)⟩
   case round=>
    obtain ⟨k,hk,rfl,rfl,hbw,hall⟩:=hrel
    have HA:=Lib.hid hall
    clear hall
    by_cases hlt:k<l.length
    ·obtain ⟨b1,o1,e1,_,hc1⟩:=row_int (HR.out.below hbw) hlt
     subst e1
     have hbad:=HBAD2.out k hlt
     have HG:Hid (goodSign l[k]→∀ j (hj:j<l.length),j<k+1→goodSign l[j]):=Lib.hid (fun h j hj hjk=>by
      by_cases e:j=k
      ·subst e;exact h
      ·exact HA.out j hj (by omega))
     obtain ⟨x,hx⟩:∃ x,x=l[k]:=⟨_,rfl⟩
     rw [← hx] at hc1 hbad HG
     clear hx
     by_cases hin:inWord x=true
     ·have r1:=fun w=>word_within x w
      rw [hin] at r1
      have f1:=fun w=>sign_Fold x w
      by_cases hf:fold x=x
      ·have HG2:=Lib.hid (HG.out ⟨hin,hf⟩)
       rw [hf] at f1
       have R1:=Lib.hid r1
       have F1:=Lib.hid f1
       clear r1 f1 hin hf hbad HG
       go_wp2_with (first
        |(go_at_call 194;refine (R1.out _).mono ?_;rintro e w' ⟨rfl,rfl⟩)
        |(go_at_call 195;refine (F1.out _).mono ?_;rintro e w' ⟨rfl,rfl⟩))
       go_roundw
       case rel=>exact ⟨k+1,by omega,rfl,by go_num,hbw,HG2.out⟩
       case measure=>simp [intOf];omega
      ·have HM:=Lib.hid (hbad (fun h=>hf h.2))
       obtain ⟨y,hy⟩:∃ y,y=fold x:=⟨_,rfl⟩
       rw [← hy] at f1 hf
       have hf2:(y==x)=false:=by simpa using hf
       have R1:=Lib.hid r1
       have F1:=Lib.hid f1
       clear r1 f1 hin hf hbad HG hy
       go_wp2_with (first
        |(go_at_call 194;refine (R1.out _).mono ?_;rintro e w' ⟨rfl,rfl⟩)
        |(go_at_call 195;refine (F1.out _).mono ?_;rintro e w' ⟨rfl,rfl⟩))
       go_ret
       exact ⟨ret_bool HM.out.symm,HB.out.trans (hbw.mono HB.out.size)⟩
     ·have hin':inWord x=false:=by simpa using hin
      have r1:=fun w=>word_within x w
      rw [hin'] at r1
      have R1:=Lib.hid r1
      have HM:=Lib.hid (hbad (fun h=>hin h.1))
      clear r1 hin hin' hbad HG
      go_wp2_with (go_at_call 194;refine (R1.out _).mono ?_;rintro e w' ⟨rfl,rfl⟩)
      go_ret
      exact ⟨ret_bool HM.out.symm,HB.out.trans (hbw.mono HB.out.size)⟩
    ·have HM:=Lib.hid (HALL2.out (good_all fun j hj=>HA.out j hj (by omega)))
     go_wp2
     go_ret
     exact ⟨ret_bool HM.out.symm,HB.out.trans (hbw.mono HB.out.size)⟩
theorem signs_none {l:List UInt8} (h:signs l=[]):l=[]:=by
 by_cases e:l=[]
 ·exact e
 ·rw [signs_step l e] at h;cases h
theorem mayWord_folds {w:List UInt8} (h:mayWord w=true):foldText w=w:=by
 have :=((mayWord_iff w).1 h).2.2
 exact (foldText_same (fun c hc=>(this c hc).1)).2 (fun c hc=>(this c hc).2)
theorem mayWord_of_fold {w:List UInt8} (h0:w≠[]) (h1:w.length≤30) (h2:foldText w=w) (h3:∀ c∈signs w,inWord c=true):mayWord w=true:=
 (mayWord_iff w).2 ⟨h0,h1,fun c hc=>⟨h3 c hc,(foldText_same h3).1 h2 c hc⟩⟩
theorem bytes_of_list {s t:ByteArray} (h:s.data.toList=t.data.toList):s=t:=by
 cases s with|mk a=>cases t with|mk b=>cases a with|mk a=>cases b with|mk b=>simp at h;rw [h]
def RefMayRel (l:List Int) (w1:World) (a i:Value) (wr:World):Prop:=∃ k:Nat,k≤l.length∧a= .bool false∧i= .int .i64 k∧Below w1.heap.size w1 wr∧∀ j (hj:j<l.length),j<k→inWord l[j]=true
set_option maxHeartbeats 2000000 in
set_option maxRecDepth 100000 in
theorem ref_May (s:ByteArray) (w:World) (hs:s.size≤268435456):
  Calls Tryz.prog 25 #[.string s] w fun e w'=>e= .returned (.bool (mayWord s.data.toList))∧Below w.heap.size w w':=by
 have hsz:s.data.toList.length=s.size:=Array.length_toList
 have hsl:=signs_length s.data.toList
 rw [hsz] at hsl
 have HM:=Lib.hid (mayWord_iff s.data.toList)
 have HNO:=Lib.hid (@signs_none s.data.toList)
 have HFO:=Lib.hid (@mayWord_folds s.data.toList)
 have HOF:=Lib.hid (@mayWord_of_fold s.data.toList)
 have HBAD:Hid (∀ k (hk:k<(signs s.data.toList).length),¬ goodSign (signs s.data.toList)[k]→mayWord s.data.toList=false):=Lib.hid (fun k hk h=>mayWord_bad hk h)
 have HSZ:=Lib.hid hsz
 clear hsz
 go_enter Tryz.func25,Tryz.ntmps25
 go_wp2_with (go_at_call 59;refine (ref_Signs s _ (by omega)).mono ?_)
 rintro e w1 ⟨v,rfl,hown,hb⟩
 obtain ⟨A,c,rfl,_,hrow⟩:=owned_row hown
 obtain ⟨l,hl⟩:∃ l,l=signs s.data.toList:=⟨_,rfl⟩
 rw [← hl] at hrow hsl
 rw [← hl]
 have HBAD2:Hid (∀ k (hk:k<l.length),¬ goodSign l[k]→mayWord s.data.toList=false):=by subst hl;exact HBAD
 have HNO2:Hid (l=[]→s.data.toList=[]):=by subst hl;exact HNO
 have HOF2:Hid (s.data.toList≠[]→s.data.toList.length≤30→foldText s.data.toList=s.data.toList→(∀ c∈l,inWord c=true)→mayWord s.data.toList=true):=by subst hl;exact HOF
 have HB:=Lib.hid hb
 have HR:=Lib.hid hrow
 have hszb:=hb.size
 clear hl hb hown hrow HBAD HNO HOF
 by_cases h0:l.length=0
 ·have hm:mayWord s.data.toList=false:=by
   rw [← Bool.not_eq_true,HM.out]
   exact fun h=>h.1 (HNO2.out (List.eq_nil_of_length_eq_zero h0))
  have HF:=Lib.hid hm
  obtain rfl:l=[]:=List.eq_nil_of_length_eq_zero h0
  clear hm h0
  go_wp2
  go_ret
  exact ⟨ret_bool HF.out.symm,HB.out⟩
 ·have hl0:0<l.length:=by omega
  by_cases h30:30<s.size
  ·have hm:mayWord s.data.toList=false:=by
    have :=HSZ.out
    rw [← Bool.not_eq_true,HM.out];intro h;omega
   have HF:=Lib.hid hm
   clear hm
   go_wp2
   go_ret
   exact ⟨ret_bool HF.out.symm,HB.out⟩
  ·have d30:decide ((30:Int)<(s.size:Int))=false:=by simp;omega
   have d0:((l.length:Int)==0)=false:=by rw [beq_eq_false_iff_ne];omega
   obtain ⟨u,hu⟩:∃ u:ByteArray,u=⟨(foldText s.data.toList).toArray⟩:=⟨_,rfl⟩
   have hul:u.data.toList=foldText s.data.toList:=by rw [hu]
   have f1:∀ w,Calls Tryz.prog 60 #[.string s] w fun e w'=>e= .returned (.string u)∧Below w.heap.size w w':=by
    intro w;rw [hu];exact ref_FoldText s w (by omega)
   have HU:=Lib.hid hul
   clear hu hul
   by_cases hf:u=s
   ·have hfo:foldText s.data.toList=s.data.toList:=by rw [← HU.out,hf]
    rw [hf] at f1
    have HFS:=Lib.hid hfo
    have F1:=Lib.hid f1
    clear HU hf hfo f1
    go_wp2_with (go_at_call 60;refine (F1.out _).mono ?_;rintro e w2 ⟨rfl,hb2⟩)
    have HB2:=Lib.hid (HB.out.trans (hb2.mono hszb))
    have HR2:=Lib.hid ((HR.out.below hb2).more hb2.size)
    clear hb2 HB HR hszb
    go_wp2
    go_loopw [2,4] (fun a i wr=>RefMayRel l w2 a i wr) (fun _ i _=>l.length-(intOf i).toNat)
    case atStart=>exact ⟨0,Nat.zero_le _,rfl,rfl,Below.refl _ _,fun j _ hj=>absurd hj (by omega)⟩
    case round=>
     obtain ⟨k,hk,rfl,rfl,hbw,hall⟩:=hrel
     have HA:=Lib.hid hall
     clear hall
     by_cases hlt:k<l.length
     ·obtain ⟨b1,o1,e1,_,hc1⟩:=row_int (HR2.out.below hbw) hlt
      subst e1
      have hbad:=HBAD2.out k hlt
      have HG:Hid (inWord l[k]=true→∀ j (hj:j<l.length),j<k+1→inWord l[j]=true):=Lib.hid (fun h j hj hjk=>by
       by_cases e:j=k
       ·subst e;exact h
       ·exact HA.out j hj (by omega))
      obtain ⟨x,hx⟩:∃ x,x=l[k]:=⟨_,rfl⟩
      rw [← hx] at hc1 hbad HG
      clear hx
      by_cases hin:inWord x=true
      ·have r1:=fun w=>ref_in x w
       rw [hin] at r1
       have HG2:=Lib.hid (HG.out hin)
       have R1:=Lib.hid r1
       clear r1 hin hbad HG
       go_wp2_with (go_at_call 61;refine (R1.out _).mono ?_;rintro e w' ⟨rfl,rfl⟩)
       go_roundw
       case rel=>exact ⟨k+1,by omega,rfl,by go_num,hbw,HG2.out⟩
       case measure=>simp [intOf];omega
      ·have hin':inWord x=false:=by simpa using hin
       have r1:=fun w=>ref_in x w
       rw [hin'] at r1
       have R1:=Lib.hid r1
       have HM:=Lib.hid (hbad (fun h=>hin h.1))
       clear r1 hin hin' hbad HG
       go_wp2_with (go_at_call 61;refine (R1.out _).mono ?_;rintro e w' ⟨rfl,rfl⟩)
       go_ret
       exact ⟨ret_bool HM.out.symm,HB2.out.trans (hbw.mono HB2.out.size)⟩
     ·have HM:=Lib.hid (HOF2.out (fun h=>by have :=HSZ.out;rw [h] at this;simp at this;omega) (by have :=HSZ.out;omega) HFS.out (fun c hc=>by
       obtain ⟨j,hj,rfl⟩:=List.getElem_of_mem hc
       exact HA.out j hj (by omega)))
      go_wp2
      go_ret
      exact ⟨ret_bool HM.out.symm,HB2.out.trans (hbw.mono HB2.out.size)⟩
   ·have hm:mayWord s.data.toList=false:=by
     rw [← Bool.not_eq_true]
     intro h
     exact hf (bytes_of_list (by rw [HU.out,HFO.out h]))
    have hne:(u.toList==s.toList)=false:=by
     rw [Lib.toList_data,Lib.toList_data]
     simpa using fun h=>hf (bytes_of_list (by rw [h]))
    have HF:=Lib.hid hm
    have F1:=Lib.hid f1
    clear hm f1 hf
    go_wp2_with (go_at_call 60;refine (F1.out _).mono ?_;rintro e w2 ⟨rfl,hb2⟩)
    go_ret
    exact ⟨ret_bool HF.out.symm,HB.out.trans (hb2.mono hszb)⟩
end Go.Proofs.YtldcadpemnpbmaaGreatDoor
namespace Go.Proofs.YtldcadpemnpbmaaGreatDoor
open Go Go.RowKit
set_option linter.unusedVariables false
def mayTv (t:Tm):Int:=if nameB t.1=false then 4 else if mayWord t.2=true then 0 else 9
def mayPv (t:Tm) (ws:List Nm):Int:=if nameB t.1=false then 4 else if ws=[]∨badW ws=true then 9 else if 6<ws.length then 7 else 0
def mayKv (most m:Nat):Int:=if m=0 then 9 else if most<m then 7 else 0
set_option maxRecDepth 100000 in
theorem mayPhrase_not (x:ByteArray) (w:World) (hx:x.size≤1073741824):Calls Tryz.prog 129 #[.string x] w fun e w'=>e= .returned (.bool (!mayWord x.data.toList))∧Below w.heap.size w w':=by
 have H:=Lib.hid (word_May x w hx)
 go_enter Tryz.func129,Tryz.ntmps129
 go_wp2_with (go_at_call 126;(with_reducible refine H.out.mono ?_);rintro e w2 ⟨rfl,hb2⟩)
 go_ret
 exact ⟨rfl,hb2⟩
def IdxRel (ws:List Nm) (B:Bool) (w:World) (i j:Value) (wr:World):Prop:=∃ k:Nat,k≤ws.length∧j= .int .i64 (k:Int)∧Below w.heap.size w wr∧badW (ws.drop k)=B
def GaveIdx (B:Bool) (w:World) (e:Ending) (w':World):Prop:=∃ r:Int,e= .returned (.int .i64 r)∧decide (0≤r)=B∧Below w.heap.size w w'
set_option maxHeartbeats 1000000 in
set_option maxRecDepth 100000 in
theorem index_bad (A:Option Addr) (ws:List Nm) (n c:Nat) (w:World) (hn:ws.length=n) (hA:Row w w.heap.size A (strs ws)) (hws:ws.length≤9∧∀ w∈ws,w.length≤100000000):
  Calls Tryz.prog 197 #[.slice A n c,.func (.func 129) #[] #[]] w (GaveIdx (badW ws) w):=by
 subst hn
 have HA:=Lib.hid hA
 have HWS:=Lib.hid hws
 have h9:=hws.1
 obtain ⟨B,hB⟩:∃ B,B=badW ws:=⟨_,rfl⟩
 rw [← hB]
 have HB0:Hid (badW (ws.drop 0)=B):=Lib.hid (by rw [List.drop_zero,hB])
 clear hA hws hB
 go_enter Tryz.func197,Tryz.ntmps197
 go_wp2
 go_loopw [5,8] (fun i j wr=>IdxRel ws B w i j wr) (fun _ j _=>ws.length-(intOf j).toNat)
 case atStart=>exact ⟨0,by omega,rfl,Below.refl _ _,HB0.out⟩
 case round=>
  obtain ⟨k,hk,rfl,hbw,hgo⟩:=hrel
  by_cases hlt:k<ws.length
  ·obtain ⟨b1,o1,e1,hb1,hc1⟩:=row_str (HA.out.below hbw) hlt
   subst e1
   rw [badW_at hlt] at hgo
   obtain ⟨u,hu,hu2⟩:=as_text ws[k]
   rw [← hu] at hc1
   have hul:=HWS.out.2 _ (List.getElem_mem hlt)
   have HT3:Hid (∀ w',Calls Tryz.prog 129 #[.string u] w' fun e w''=>e= .returned (.bool (!mayWord ws[k]))∧Below w'.heap.size w' w''):=Lib.hid fun w'=>by rw [← hu2];exact mayPhrase_not u w' (by rw [hu,size_nm];omega)
   have HBW:=Lib.hid hbw
   clear hu hu2 hul hbw
   have i0:(0:Int)≤k:=by omega
   have i1:(k:Int)<ws.length:=by omega
   cases hmw:mayWord ws[k] with
   |false=>
    rw [hmw] at HT3 hgo
    have H:Hid (true=B):=Lib.hid (by rw [← hgo];rfl)
    have H2:Hid (decide ((0:Int)≤(k:Int))=true):=Lib.hid (by simp)
    clear hgo hmw
    go_wp2_with (go_at_call 129;(with_reducible refine (HT3.out _).mono ?_);rintro e w4 ⟨rfl,hb4⟩;have HB4:=Lib.hid (HBW.out.trans (hb4.mono HBW.out.size));clear hb4)
    go_ret
    exact ⟨_,rfl,H2.out.trans H.out,HB4.out⟩
   |true=>
    rw [hmw] at HT3 hgo
    have HG:Hid (badW (ws.drop (k+1))=B):=Lib.hid (by rw [← hgo];rfl)
    clear hgo hmw
    go_wp2_with (go_at_call 129;(with_reducible refine (HT3.out _).mono ?_);rintro e w4 ⟨rfl,hb4⟩;have HB4:=Lib.hid (HBW.out.trans (hb4.mono HBW.out.size));clear hb4)
    go_roundw
    case rel=>exact ⟨k+1,by omega,by go_num,HB4.out,HG.out⟩
    case measure=>simp [intOf];omega
  ·have :k=ws.length:=by omega
   subst this
   rw [List.drop_length,badW] at hgo
   have H:=Lib.hid hgo
   clear hgo
   have HBW:=Lib.hid hbw
   clear hbw
   go_wp2
   go_ret
   exact ⟨_,rfl,H.out,HBW.out⟩
set_option maxRecDepth 100000 in
theorem contains_bad (A:Option Addr) (ws:List Nm) (n c:Nat) (w:World) (hn:ws.length=n) (hA:Row w w.heap.size A (strs ws)) (hws:ws.length≤9∧∀ w∈ws,w.length≤100000000):
  Calls Tryz.prog 128 #[.slice A n c,.func (.func 129) #[] #[]] w fun e w'=>e= .returned (.bool (badW ws))∧Below w.heap.size w w':=by
 have H:=Lib.hid (index_bad A ws n c w hn hA hws)
 clear hn hA hws
 go_enter Tryz.func128,Tryz.ntmps128
 go_wp2_with (go_at_call 197;(with_reducible refine H.out.mono ?_);rintro e w2 ⟨r,rfl,hr,hb2⟩;have HR:=Lib.hid hr;clear hr)
 go_ret
 exact ⟨ret_bool HR.out,hb2⟩
section
variable (k:Int) (t:Tm) (f x:ByteArray) (A:Option Addr) (n c:Nat) (K:Option Addr) (m d:Nat) (w:World)
set_option maxHeartbeats 1000000 in
set_option maxRecDepth 100000 in
theorem query_mayTerm (hf:f.data.toList=t.1) (hx:x.data.toList=t.2) (hs:f.size≤100000000∧x.size≤100000000):Calls Tryz.prog 64 #[qV k f x A n c K m d] w fun e w'=>e= .returned (.int .i64 (mayTv t))∧Below w.heap.size w w':=by
 obtain ⟨w1,hw1⟩:∃ w1,w1=boxQ w k f x A n c K m d:=⟨_,rfl⟩
 have HW1:=Lib.hid hw1
 have HB:Hid (∀ wr,Below w1.heap.size w1 wr→Below w.heap.size w wr∧wr.cell? ⟨w.heap.size,1,none⟩=some (.string f)∧wr.cell? ⟨w.heap.size,2,none⟩=some (.string x)):=Lib.hid fun wr h=>by
  rw [hw1] at h
  have :=boxQ_of h
  exact ⟨this.1,this.2.2.1,this.2.2.2.1⟩
 have HT1:Hid (∀ w',Calls Tryz.prog 125 #[.string f] w' fun e w''=>e= .returned (.bool (nameB t.1))∧Below w'.heap.size w' w''):=Lib.hid fun w'=>by rw [← hf];exact doc_Name f w' (by omega)
 have HT2:Hid (∀ w',Calls Tryz.prog 126 #[.string x] w' fun e w''=>e= .returned (.bool (mayWord t.2))∧Below w'.heap.size w' w''):=Lib.hid fun w'=>by rw [← hx];exact word_May x w' (by omega)
 obtain ⟨R,hR⟩:∃ R,R=mayTv t:=⟨_,rfl⟩
 rw [← hR]
 unfold mayTv at hR
 obtain ⟨y,hy⟩:∃ y,y=nameB t.1:=⟨_,rfl⟩
 obtain ⟨z,hz⟩:∃ z,z=mayWord t.2:=⟨_,rfl⟩
 rw [← hy] at HT1 hR
 rw [← hz] at HT2 hR
 have HR:=Lib.hid hR
 obtain ⟨hb0,a1,a2⟩:=HB.out _ (Below.refl _ _)
 clear hf hx hs hw1 hR hy hz hb0
 cases y with
 |false=>
  have H:Hid (4=R):=Lib.hid (by rw [HR.out,if_pos rfl])
  go_enter Tryz.func64,Tryz.ntmps64
  go_wp2_with fail
  rw [show w.alloc _=w1 from HW1.out.symm]
  go_wp2_with (go_at_call 125;(with_reducible refine (HT1.out _).mono ?_);rintro e w2 ⟨rfl,hb2⟩;clear a1 a2;obtain ⟨hb0,a1,a2⟩:=HB.out _ hb2;have HB2:=Lib.hid hb2;have HB0:=Lib.hid hb0;clear hb2 hb0)
  go_ret
  exact ⟨ret_int H.out,HB0.out⟩
 |true=>
  cases z with
  |false=>
   have H:Hid (9=R):=Lib.hid (by rw [HR.out,if_neg (by decide),if_neg (by decide)])
   go_enter Tryz.func64,Tryz.ntmps64
   go_wp2_with fail
   rw [show w.alloc _=w1 from HW1.out.symm]
   go_wp2_with (go_at_call 125;(with_reducible refine (HT1.out _).mono ?_);rintro e w2 ⟨rfl,hb2⟩;clear a1 a2;obtain ⟨hb0,a1,a2⟩:=HB.out _ hb2;have HB2:=Lib.hid hb2;have HB0:=Lib.hid hb0;clear hb2 hb0)
   go_wp2_with (go_at_call 126;(with_reducible refine (HT2.out _).mono ?_);rintro e w3 ⟨rfl,hb3⟩;have HB3:=Lib.hid (HB0.out.trans (hb3.mono HB0.out.size));clear hb3)
   go_ret
   exact ⟨ret_int H.out,HB3.out⟩
  |true=>
   have H:Hid (0=R):=Lib.hid (by rw [HR.out,if_neg (by decide),if_pos rfl])
   go_enter Tryz.func64,Tryz.ntmps64
   go_wp2_with fail
   rw [show w.alloc _=w1 from HW1.out.symm]
   go_wp2_with (go_at_call 125;(with_reducible refine (HT1.out _).mono ?_);rintro e w2 ⟨rfl,hb2⟩;clear a1 a2;obtain ⟨hb0,a1,a2⟩:=HB.out _ hb2;have HB2:=Lib.hid hb2;have HB0:=Lib.hid hb0;clear hb2 hb0)
   go_wp2_with (go_at_call 126;(with_reducible refine (HT2.out _).mono ?_);rintro e w3 ⟨rfl,hb3⟩;have HB3:=Lib.hid (HB0.out.trans (hb3.mono HB0.out.size));clear hb3)
   go_ret
   exact ⟨ret_int H.out,HB3.out⟩
set_option maxHeartbeats 2000000 in
set_option maxRecDepth 100000 in
theorem query_mayPhrase (ws:List Nm) (hf:f.data.toList=t.1) (hs:f.size≤100000000) (hn:ws.length=n) (hA:Row w w.heap.size A (strs ws)) (hws:ws.length≤9∧∀ w∈ws,w.length≤100000000):
  Calls Tryz.prog 69 #[qV k f x A n c K m d] w fun e w'=>e= .returned (.int .i64 (mayPv t ws))∧Below w.heap.size w w':=by
 obtain ⟨w1,hw1⟩:∃ w1,w1=boxQ w k f x A n c K m d:=⟨_,rfl⟩
 have HW1:=Lib.hid hw1
 have HB:Hid (∀ wr,Below w1.heap.size w1 wr→Below w.heap.size w wr∧wr.cell? ⟨w.heap.size,1,none⟩=some (.string f)∧wr.cell? ⟨w.heap.size,3,none⟩=some (.slice A n c)):=Lib.hid fun wr h=>by
  rw [hw1] at h
  have :=boxQ_of h
  exact ⟨this.1,this.2.2.1,this.2.2.2.2.1⟩
 have HT1:Hid (∀ w',Calls Tryz.prog 125 #[.string f] w' fun e w''=>e= .returned (.bool (nameB t.1))∧Below w'.heap.size w' w''):=Lib.hid fun w'=>by rw [← hf];exact doc_Name f w' (by omega)
 have HT2:Hid (∀ w',Below w.heap.size w w'→Calls Tryz.prog 128 #[.slice A n c,.func (.func 129) #[] #[]] w' fun e w''=>e= .returned (.bool (badW ws))∧Below w'.heap.size w' w''):=
  Lib.hid fun w' h=>contains_bad A ws n c w' hn ((hA.below h).more h.size) hws
 obtain ⟨R,hR⟩:∃ R,R=mayPv t ws:=⟨_,rfl⟩
 rw [← hR]
 unfold mayPv at hR
 obtain ⟨y,hy⟩:∃ y,y=nameB t.1:=⟨_,rfl⟩
 obtain ⟨z,hz⟩:∃ z,z=badW ws:=⟨_,rfl⟩
 rw [← hy] at HT1 hR
 rw [← hz] at HT2 hR
 have hw0:ws=[]↔n=0:=by rw [← hn];exact List.length_eq_zero_iff.symm
 simp only [hn,hw0] at hR
 have HR:=Lib.hid hR
 have hn9:n≤9:=by omega
 obtain ⟨hb0,a1,a3⟩:=HB.out _ (Below.refl _ _)
 clear hf hs hw1 hR hy hz hb0 hA hws hn hw0
 cases y with
 |false=>
  have H:Hid (4=R):=Lib.hid (by rw [HR.out,if_pos rfl])
  go_enter Tryz.func69,Tryz.ntmps69
  go_wp2_with fail
  rw [show w.alloc _=w1 from HW1.out.symm]
  go_wp2_with (go_at_call 125;(with_reducible refine (HT1.out _).mono ?_);rintro e w2 ⟨rfl,hb2⟩;clear a1 a3;obtain ⟨hb0,a1,a3⟩:=HB.out _ hb2;have HB2:=Lib.hid hb2;have HB0:=Lib.hid hb0;clear hb2 hb0)
  go_ret
  exact ⟨ret_int H.out,HB0.out⟩
 |true=>
  by_cases hn0:n=0
  ·have H:Hid (9=R):=Lib.hid (by rw [HR.out,if_neg (by decide),if_pos (.inl hn0)])
   subst hn0
   go_enter Tryz.func69,Tryz.ntmps69
   go_wp2_with fail
   rw [show w.alloc _=w1 from HW1.out.symm]
   go_wp2_with (go_at_call 125;(with_reducible refine (HT1.out _).mono ?_);rintro e w2 ⟨rfl,hb2⟩;clear a1 a3;obtain ⟨hb0,a1,a3⟩:=HB.out _ hb2;have HB2:=Lib.hid hb2;have HB0:=Lib.hid hb0;clear hb2 hb0)
   go_ret
   exact ⟨ret_int H.out,HB0.out⟩
  ·have e0:((n:Int)==0)=false:=by rw [beq_eq_false_iff_ne];omega
   cases z with
   |true=>
    have H:Hid (9=R):=Lib.hid (by rw [HR.out,if_neg (by decide),if_pos (.inr rfl)])
    clear hn0
    go_enter Tryz.func69,Tryz.ntmps69
    go_wp2_with fail
    rw [show w.alloc _=w1 from HW1.out.symm]
    go_wp2_with (go_at_call 125;(with_reducible refine (HT1.out _).mono ?_);rintro e w2 ⟨rfl,hb2⟩;clear a1 a3;obtain ⟨hb0,a1,a3⟩:=HB.out _ hb2;have HB2:=Lib.hid hb2;have HB0:=Lib.hid hb0;clear hb2 hb0)
    go_wp2_with (go_at_call 128;(with_reducible refine (HT2.out _ HB0.out).mono ?_);rintro e w3 ⟨rfl,hb3⟩;have HB3:=Lib.hid (HB2.out.trans (hb3.mono HB2.out.size));clear hb3 a1 a3;obtain ⟨hb0,a1,a3⟩:=HB.out _ HB3.out;have HB4:=Lib.hid hb0;clear hb0)
    go_ret
    exact ⟨ret_int H.out,HB4.out⟩
   |false=>
    have HR2:Hid (R=if 6<n then 7 else 0):=Lib.hid (by rw [HR.out,if_neg (by decide),if_neg (fun h=>h.elim hn0 (fun h=>by cases h))])
    clear hn0
    by_cases h6:6<n
    ·have H:Hid (7=R):=Lib.hid (by rw [HR2.out,if_pos h6])
     have e6:decide ((6:Int)<(n:Int))=true:=by simp;omega
     clear h6
     go_enter Tryz.func69,Tryz.ntmps69
     go_wp2_with fail
     rw [show w.alloc _=w1 from HW1.out.symm]
     go_wp2_with (go_at_call 125;(with_reducible refine (HT1.out _).mono ?_);rintro e w2 ⟨rfl,hb2⟩;clear a1 a3;obtain ⟨hb0,a1,a3⟩:=HB.out _ hb2;have HB2:=Lib.hid hb2;have HB0:=Lib.hid hb0;clear hb2 hb0)
     go_wp2_with (go_at_call 128;(with_reducible refine (HT2.out _ HB0.out).mono ?_);rintro e w3 ⟨rfl,hb3⟩;have HB3:=Lib.hid (HB2.out.trans (hb3.mono HB2.out.size));clear hb3 a1 a3;obtain ⟨hb0,a1,a3⟩:=HB.out _ HB3.out;have HB4:=Lib.hid hb0;clear hb0)
     go_ret
     exact ⟨ret_int H.out,HB4.out⟩
    ·have H:Hid (0=R):=Lib.hid (by rw [HR2.out,if_neg h6])
     have e6:decide ((6:Int)<(n:Int))=false:=by simp;omega
     clear h6
     go_enter Tryz.func69,Tryz.ntmps69
     go_wp2_with fail
     rw [show w.alloc _=w1 from HW1.out.symm]
     go_wp2_with (go_at_call 125;(with_reducible refine (HT1.out _).mono ?_);rintro e w2 ⟨rfl,hb2⟩;clear a1 a3;obtain ⟨hb0,a1,a3⟩:=HB.out _ hb2;have HB2:=Lib.hid hb2;have HB0:=Lib.hid hb0;clear hb2 hb0)
     go_wp2_with (go_at_call 128;(with_reducible refine (HT2.out _ HB0.out).mono ?_);rintro e w3 ⟨rfl,hb3⟩;have HB3:=Lib.hid (HB2.out.trans (hb3.mono HB2.out.size));clear hb3 a1 a3;obtain ⟨hb0,a1,a3⟩:=HB.out _ HB3.out;have HB4:=Lib.hid hb0;clear hb0)
     go_ret
     exact ⟨ret_int H.out,HB4.out⟩
set_option maxHeartbeats 1000000 in
set_option maxRecDepth 100000 in
theorem query_mayKids1 (most b:Nat) (h9:m≤9) (hm9:most≤9) (hb:w.heap[b]?=some (.cells #[.int .i64 (most:Int)] 3 (0,0))):Calls Tryz.prog 132 #[qV k f x A n c K m d,.pointer (some ⟨b,0,none⟩)] w fun e w'=>e= .returned (.int .i64 (mayKv most m))∧Below w.heap.size w w':=by
 have hbl:b<w.heap.size:=(Array.getElem?_eq_some_iff.1 hb).1
 have hc:w.cell? ⟨b,0,none⟩=some (.int .i64 (most:Int)):=by simp [World.cell?,hb]
 obtain ⟨R,hR⟩:∃ R,R=mayKv most m:=⟨_,rfl⟩
 rw [← hR]
 unfold mayKv at hR
 have HB:Hid (Below w.heap.size w (boxQ w k f x A n c K m d)):=Lib.hid boxQ_below
 clear hb
 by_cases h0:m=0
 ·rw [if_pos h0] at hR
  subst h0 hR
  go_enter Tryz.func132,Tryz.ntmps132
  go_wp2
  go_ret
  exact ⟨rfl,HB.out⟩
 ·rw [if_neg h0] at hR
  have e0:((m:Int)==0)=false:=by rw [beq_eq_false_iff_ne];omega
  clear h0
  by_cases hm:most<m
  ·rw [if_pos hm] at hR
   subst hR
   have e1:decide ((most:Int)<(m:Int))=true:=by simp;omega
   go_enter Tryz.func132,Tryz.ntmps132
   go_wp2
   go_ret
   exact ⟨rfl,HB.out⟩
  ·rw [if_neg hm] at hR
   subst hR
   have e1:decide (most<m)=false:=by simp;omega
   have e2:m≤most:=by omega
   clear hm
   go_enter Tryz.func132,Tryz.ntmps132
   go_wp2
   go_ret
   exact ⟨rfl,HB.out⟩
end
end Go.Proofs.YtldcadpemnpbmaaGreatDoor
namespace Go.Proofs.YtldcadpemnpbmaaGreatDoor
open Go Go.RowKit
set_option linter.unusedVariables false
theorem own_leaf {k:Int} {t:Tm} {ws:List Nm} {m:Nat} (h:k=1∨k=5):ownQ k t ws m=if 0<m∨(k=1∧ws≠[])∨(k=5∧t.2≠[]) then 9 else if nameB t.1=false then 4 else if k=1 then if mayWord t.2=true then 0 else 9 else if ws=[]∨badW ws=true then 9 else if 6<ws.length then 7 else 0:=by
 rw [ownQ,if_neg (by omega),if_neg (by omega)]
end Go.Proofs.YtldcadpemnpbmaaGreatDoor
namespace Go.Proofs.YtldcadpemnpbmaaGreatDoor
open Go Go.RowKit
set_option linter.unusedVariables false
def KidsAt (w w1:World) (ks:List Qy) (K:Option Addr):Prop:=∀ wr,Below w1.heap.size w1 wr→∀ (i:Nat) (hi:i<ks.length),∃ b off k f x A n c K' m d,K=some ⟨b,off,none⟩∧b<w.heap.size∧QIn wr ks[i] (qV k f x A n c K' m d)∧
 wr.cell? ⟨b,off+i*5,none⟩=some (.int .i64 k)∧wr.cell? ⟨b,off+i*5+1,none⟩=some (.string f)∧wr.cell? ⟨b,off+i*5+2,none⟩=some (.string x)∧wr.cell? ⟨b,off+i*5+3,none⟩=some (.slice A n c)∧wr.cell? ⟨b,off+i*5+4,none⟩=some (.slice K' m d)
theorem kids_at {w w1:World} {ks:List Qy} {K:Option Addr} {ds:List Value} (hK:RowP (fun b=>b<w.heap.size) w K ds) (hks:QsAt (fun b=>b<w.heap.size) w ks ds) (h1:Below w.heap.size w w1):KidsAt w w1 ks K:=fun wr hr i hi=>by
 have hb:=h1.trans (hr.mono h1.size)
 have hblk:∀ b,b<w.heap.size→wr.heap[b]?=w.heap[b]?:=fun b h=>hb.block b h
 obtain ⟨b,off,k,f,x,A,n,c,K',m,d,e,hp,hv,hc⟩:=kid_at (hK.keep hblk) (hks.keep hblk) hi
 exact ⟨b,off,k,f,x,A,n,c,K',m,d,e,hp,hv.imp fun b h=>Nat.lt_of_lt_of_le h hb.size,hc⟩
end Go.Proofs.YtldcadpemnpbmaaGreatDoor
namespace Go.Proofs.YtldcadpemnpbmaaGreatDoor
open Go Go.RowKit
set_option linter.unusedVariables false
def MayQRel (ks:List Qy) (D:Nat) (R:Int) (w1:World) (r i:Value) (wr:World):Prop:=
 r= .int .i64 0∧∃ j:Nat,j≤ks.length∧i= .int .i64 (j:Int)∧Below w1.heap.size w1 wr∧mayKs D (ks.drop j)=R
end Go.Proofs.YtldcadpemnpbmaaGreatDoor
namespace Go.Proofs.YtldcadpemnpbmaaGreatDoor
open Go Go.RowKit
set_option linter.unusedVariables false
abbrev kindV (nb nm n2 n3 n4:Nat) (cm c4:Array Value):Value:= .agg #[.func (.func nb) #[] #[],.func (.func nm) #[] cm,.func (.func n2) #[] #[],.func (.func n3) #[] #[],.func (.func n4) #[] c4]
def Goes (n:Nat):Prop:=∀ args w,(callFunc n args).run Tryz.prog w= .ok (.enter n args) w
def FindsAt (w:World) (B:Nat) (k:Int) (v:Value):Prop:=∀ wr,Below w.heap.size w wr→(Instr.lookup 59 (.map (some B)) (.int .i64 k) true).run Tryz.prog wr= .ok v wr
def KidsMay (w:World) (B D:Nat) (ks:List Qy):Prop:=∀ (i:Nat) (hi:i<ks.length) (v:Value) (wr:World),Below w.heap.size w wr→QIn wr ks[i] v→
 Calls Tryz.prog 62 #[.map (some B),v,.int .i64 ((D:Int)+1)] wr fun e w'=>e= .returned (.int .i64 (mayQ (D+1) ks[i]))∧Below wr.heap.size wr w'
theorem two_blocks {w wr:World} {k:Int} {f x:ByteArray} {A K:Option Addr} {n c m d:Nat} {nb nm n2 n3 n4:Nat} {cm c4:Array Value} (h:Below (w.heap.size+2) ((boxQ w k f x A n c K m d).alloc (.cells #[.func (.func nb) #[] #[],.func (.func nm) #[] cm,.func (.func n2) #[] #[],.func (.func n3) #[] #[],.func (.func n4) #[] c4] 66)) wr):
  Below w.heap.size w wr∧(wr.cell? ⟨w.heap.size,0,none⟩=some (.int .i64 k)∧wr.cell? ⟨w.heap.size,1,none⟩=some (.string f)∧wr.cell? ⟨w.heap.size,2,none⟩=some (.string x)∧wr.cell? ⟨w.heap.size,3,none⟩=some (.slice A n c)∧wr.cell? ⟨w.heap.size,4,none⟩=some (.slice K m d))∧
  wr.cell? ⟨w.heap.size+1,0,none⟩=some (.func (.func nb) #[] #[])∧wr.cell? ⟨w.heap.size+1,1,none⟩=some (.func (.func nm) #[] cm):=by
 have hs:(boxQ w k f x A n c K m d).heap.size=w.heap.size+1:=boxQ_size
 have h1:Below (boxQ w k f x A n c K m d).heap.size (boxQ w k f x A n c K m d) wr:=((Below.refl _ _).alloc (Nat.le_refl _) _).trans (h.mono (by rw [hs];omega))
 have hb:wr.heap[w.heap.size+1]?=some (.cells #[.func (.func nb) #[] #[],.func (.func nm) #[] cm,.func (.func n2) #[] #[],.func (.func n3) #[] #[],.func (.func n4) #[] c4] 66 (0,0)):=
  (h.block (w.heap.size+1) (by omega)).trans (by have :=heap_alloc_new (boxQ w k f x A n c K m d) (.cells #[.func (.func nb) #[] #[],.func (.func nm) #[] cm,.func (.func n2) #[] #[],.func (.func n3) #[] #[],.func (.func n4) #[] c4] 66);rwa [hs] at this)
 have h0:=boxQ_of h1
 exact ⟨h0.1,h0.2,by simp [World.cell?,hb],by simp [World.cell?,hb]⟩
set_option maxHeartbeats 4000000 in
set_option maxRecDepth 100000 in
theorem mayAt_kind (B D:Nat) (k:Int) (f x:ByteArray) (A:Option Addr) (n c:Nat) (K:Option Addr) (ks:List Qy) (d:Nat) (ds:List Value) (w:World) (nb nm n2 n3 n4:Nat) (cm c4:Array Value) (bv:Bool) (E:Int) (hD:D≤6) (h9:ks.length≤9)
  (hl:FindsAt w B k (.tuple #[kindV nb nm n2 n3 n4 cm c4,.bool true])) (eb:Goes nb) (em:Goes nm)
  (hb:∀ wr,Below w.heap.size w wr→Calls Tryz.prog nb #[qV k f x A n c K ks.length d] wr fun e w'=>e= .returned (.bool bv)∧Below wr.heap.size wr w')
  (hm:bv=true→∀ wr,Below w.heap.size w wr→Calls Tryz.prog nm (#[qV k f x A n c K ks.length d]++cm) wr fun e w'=>e= .returned (.int .i64 E)∧Below wr.heap.size wr w')
  (hK:RowP (fun b=>b<w.heap.size) w K ds) (hks:QsAt (fun b=>b<w.heap.size) w ks ds) (hkids:KidsMay w B D ks):
  Calls Tryz.prog 62 #[.map (some B),qV k f x A n c K ks.length d,.int .i64 (D:Int)] w fun e w'=>e= .returned (.int .i64 (if bv=false then 9 else if E≠0 then E else mayKs (D+1) ks))∧Below w.heap.size w w':=by
 have e6:decide ((6:Int)<(D:Int))=false:=by simp;omega
 unfold Goes at eb em
 obtain ⟨R,hR⟩:∃ R,R=if bv=false then 9 else if E≠0 then E else mayKs (D+1) ks:=⟨_,rfl⟩
 rw [← hR]
 have hl1:=hl _ (boxQ_below (w:=w) (k:=k) (f:=f) (x:=x) (A:=A) (n:=n) (c:=c) (K:=K) (m:=ks.length) (d:=d))
 unfold boxQ at hl1
 obtain ⟨w1,hw1⟩:∃ w1,w1=(boxQ w k f x A n c K ks.length d).alloc (.cells #[.func (.func nb) #[] #[],.func (.func nm) #[] cm,.func (.func n2) #[] #[],.func (.func n3) #[] #[],.func (.func n4) #[] c4] 66):=⟨_,rfl⟩
 have hs1:w1.heap.size=w.heap.size+2:=by rw [hw1];simp [boxQ]
 have HB:Hid (∀ wr,Below w1.heap.size w1 wr→Below w.heap.size w wr∧(wr.cell? ⟨w.heap.size,0,none⟩=some (.int .i64 k)∧wr.cell? ⟨w.heap.size,1,none⟩=some (.string f)∧wr.cell? ⟨w.heap.size,2,none⟩=some (.string x)∧wr.cell? ⟨w.heap.size,3,none⟩=some (.slice A n c)∧wr.cell? ⟨w.heap.size,4,none⟩=some (.slice K ks.length d))∧
  wr.cell? ⟨w.heap.size+1,0,none⟩=some (.func (.func nb) #[] #[])∧wr.cell? ⟨w.heap.size+1,1,none⟩=some (.func (.func nm) #[] cm)):=Lib.hid fun wr h=>by
  rw [hs1,hw1] at h
  exact two_blocks h
 have HBL:=Lib.hid hb
 have HM:=Lib.hid hm
 have HK:=Lib.hid (kids_at hK hks (HB.out _ (Below.refl _ _)).1)
 have HKM:Hid (∀ (i:Nat) (hi:i<ks.length) (v:Value) (wr:World),Below w.heap.size w wr→QIn wr ks[i] v→Calls Tryz.prog 62 #[.map (some B),v,.int .i64 ((D:Int)+1)] wr fun e w'=>e= .returned (.int .i64 (mayQ (D+1) ks[i]))∧Below wr.heap.size wr w'):=Lib.hid hkids
 have HW1:=Lib.hid hw1
 have HR:=Lib.hid hR
 have HS1:=Lib.hid hs1
 obtain ⟨hb0,⟨a0,a1,a2,a3,a4⟩,b0,b1⟩:=HB.out _ (Below.refl _ _)
 have HB0:=Lib.hid hb0
 clear hw1 hR hs1 hb hm hl hK hks hkids hb0
 cases bv with
 |false=>
  have H:Hid (9=R):=Lib.hid (by rw [HR.out,if_pos rfl])
  clear HM
  go_enter Tryz.func62,Tryz.ntmps62
  go_wp2_with (go_at_fn nb;rw [show (w.alloc _).alloc _=w1 from HW1.out.symm];(with_reducible refine (HBL.out _ HB0.out).mono ?_);rintro e w2 ⟨rfl,hb2⟩;have HB2:=Lib.hid (HB0.out.trans (hb2.mono HB0.out.size));clear hb2)
  go_ret
  exact ⟨ret_int H.out,HB2.out⟩
 |true=>
  have HR2:Hid (R=if E≠0 then E else mayKs (D+1) ks):=Lib.hid (by rw [HR.out,if_neg (by decide)])
  have HM2:=Lib.hid (HM.out rfl)
  clear HR HM
  by_cases hE:E=0
  ·subst hE
   have HG:Hid (mayKs (D+1) (ks.drop 0)=R):=Lib.hid (by rw [List.drop_zero,HR2.out,if_neg (fun h=>h rfl)])
   go_enter Tryz.func62,Tryz.ntmps62
   go_wp2_with (first
    |(go_at_fn nb;rw [show (w.alloc _).alloc _=w1 from HW1.out.symm];(with_reducible refine (HBL.out _ HB0.out).mono ?_);rintro e w2 ⟨rfl,hb2⟩;have HB2:=Lib.hid hb2;clear hb2 a0 a1 a2 a3 a4 b0 b1;obtain ⟨hb0,⟨a0,a1,a2,a3,a4⟩,b0,b1⟩:=HB.out _ HB2.out;have HB3:=Lib.hid hb0;clear hb0)
    |(go_at_fn nm;(with_reducible refine (HM2.out _ HB3.out).mono ?_);rintro e w3 ⟨rfl,hb3⟩;have HB4:=Lib.hid (HB2.out.trans (hb3.mono HB2.out.size));clear hb3 a0 a1 a2 a3 a4 b0 b1;obtain ⟨hb0,⟨a0,a1,a2,a3,a4⟩,b0,b1⟩:=HB.out _ HB4.out;clear hb0))
   clear a0 a1 a2 a3 a4 b0 b1
   go_loopw [6,41] (fun r i wr=>MayQRel ks (D+1) R w1 r i wr) (fun _ i _=>ks.length-(intOf i).toNat)
   case atStart=>exact ⟨rfl,0,by omega,rfl,HB4.out,HG.out⟩
   case round=>
    obtain ⟨rfl,j,hj,rfl,hbw,hgo⟩:=hrel
    obtain ⟨hb0,⟨_,_,_,_,a4⟩,_,_⟩:=HB.out _ hbw
    have HBX:=Lib.hid hb0
    clear hb0
    by_cases hlt:j<ks.length
    ·obtain ⟨b,off,k',f',x',A',n',c',K',m',d',e',hbl,hv,c0,c1,c2,c3,c4⟩:=HK.out _ hbw j hlt
     subst e'
     rw [mayKs_at hlt] at hgo
     obtain ⟨M,hM⟩:∃ M,M=mayQ (D+1) ks[j]:=⟨_,rfl⟩
     have HC:Hid (∀ w2,Below wr.heap.size wr w2→Calls Tryz.prog 62 #[.map (some B),qV k' f' x' A' n' c' K' m' d',.int .i64 ((D:Int)+1)] w2 fun e w'=>e= .returned (.int .i64 M)∧Below w2.heap.size w2 w'):=
      Lib.hid fun w2 h=>by rw [hM];exact HKM.out j hlt _ w2 (HBX.out.trans (h.mono HBX.out.size)) (hv.later h)
     rw [← hM] at hgo
     have HBW:=Lib.hid hbw
     have i0:(0:Int)≤j:=by omega
     have i3:(j:Int)<ks.length:=by omega
     clear hM hv hbw
     by_cases hM0:M=0
     ·subst hM0
      rw [if_neg (fun h=>h rfl)] at hgo
      have HGO:=Lib.hid hgo
      clear hgo
      go_wp2_with (go_at_call 62;(with_reducible refine (HC.out _ ((Below.refl _ _).alloc (Nat.le_refl _) _)).mono ?_);rintro e w2 ⟨rfl,hb2⟩;have HB5:=Lib.hid (HBW.out.trans ((((Below.refl _ _).alloc (Nat.le_refl _) _).trans (hb2.mono (by simp))).mono HBW.out.size));clear hb2)
      go_roundw
      case rel=>exact ⟨rfl,j+1,by omega,by go_num,HB5.out,HGO.out⟩
      case measure=>simp [intOf];omega
     ·rw [if_pos hM0] at hgo
      have HGO:=Lib.hid hgo
      have em1:(M==0)=false:=by rw [beq_eq_false_iff_ne];exact hM0
      have em2:(M != 0)=true:=by simp [hM0]
      clear hgo hM0
      go_wp2_with (go_at_call 62;(with_reducible refine (HC.out _ ((Below.refl _ _).alloc (Nat.le_refl _) _)).mono ?_);rintro e w2 ⟨rfl,hb2⟩;have HB5:=Lib.hid (HBX.out.trans ((((Below.refl _ _).alloc (Nat.le_refl _) _).trans (hb2.mono (by simp))).mono HBX.out.size));clear hb2)
      go_ret
      exact ⟨ret_int HGO.out,HB5.out⟩
    ·have :j=ks.length:=by omega
     subst this
     rw [List.drop_length,mayKs] at hgo
     subst hgo
     go_wp2
     go_ret
     exact ⟨rfl,HBX.out⟩
  ·have H:Hid (E=R):=Lib.hid (by rw [HR2.out,if_pos hE])
   have em1:(E==0)=false:=by rw [beq_eq_false_iff_ne];exact hE
   have em2:(E != 0)=true:=by simp [hE]
   clear hE
   go_enter Tryz.func62,Tryz.ntmps62
   go_wp2_with (first
    |(go_at_fn nb;rw [show (w.alloc _).alloc _=w1 from HW1.out.symm];(with_reducible refine (HBL.out _ HB0.out).mono ?_);rintro e w2 ⟨rfl,hb2⟩;have HB2:=Lib.hid hb2;clear hb2 a0 a1 a2 a3 a4 b0 b1;obtain ⟨hb0,⟨a0,a1,a2,a3,a4⟩,b0,b1⟩:=HB.out _ HB2.out;have HB3:=Lib.hid hb0;clear hb0)
    |(go_at_fn nm;(with_reducible refine (HM2.out _ HB3.out).mono ?_);rintro e w3 ⟨rfl,hb3⟩;have HB4:=Lib.hid (HB2.out.trans (hb3.mono HB2.out.size));clear hb3 a0 a1 a2 a3 a4 b0 b1;obtain ⟨hb0,⟨a0,a1,a2,a3,a4⟩,b0,b1⟩:=HB.out _ HB4.out;clear hb0))
   go_ret
   exact ⟨ret_int H.out,(HB.out _ HB4.out).1⟩
end Go.Proofs.YtldcadpemnpbmaaGreatDoor
namespace Go.Proofs.YtldcadpemnpbmaaGreatDoor
open Go Go.RowKit
set_option linter.unusedVariables false
theorem below_drew {w w':World} (h:Below w.drew.heap.size w.drew w'):Below w.heap.size w w':=⟨h.os,h.tape,h.output,h.size,h.block⟩
theorem own_is_term {t:Tm} {ws:List Nm} {m:Nat}:ownQ 1 t ws m=if bareT ws.length m=false then 9 else mayTv t:=by
 rw [own_leaf (.inl rfl)]
 unfold bareT mayTv
 by_cases h1:m=0
 ·by_cases h2:ws=[]
  ·subst h1 h2;simp
  ·have :ws.length≠0:=fun h=>h2 (List.eq_nil_of_length_eq_zero h)
   simp [h1,h2,this]
 ·have :0<m:=by omega
  simp [h1,this]
theorem own_is_phrase {t:Tm} {ws:List Nm} {m:Nat} {x:ByteArray} (hx:x.data.toList=t.2):ownQ 5 t ws m=if bareP x m=false then 9 else mayPv t ws:=by
 rw [own_leaf (.inr rfl)]
 unfold bareP mayPv
 rw [hx]
 by_cases h1:m=0
 ·by_cases h2:t.2=[]
  ·subst h1;simp [h2]
  ·simp [h1,h2]
 ·have :0<m:=by omega
  simp [h1,this]
theorem own_is_kids {k:Int} {t:Tm} {ws:List Nm} {m:Nat} {f x:ByteArray} (hf:f.data.toList=t.1) (hx:x.data.toList=t.2) (h1:2≤k) (h2:k≤4):ownQ k t ws m=if bareK f x ws.length=false then 9 else mayKv (if k=4 then 1 else 8) m:=by
 obtain ⟨t1,t2⟩:=t
 rw [ownQ,if_neg (by omega),if_pos ⟨h1,h2⟩]
 unfold bareK mayKv
 rw [hf,hx]
 by_cases h3:ws=[]
 ·subst h3
  by_cases h4:t1=[]∧t2=[]
  ·obtain ⟨rfl,rfl⟩:=h4
   by_cases h5:m=0
   ·simp [h5]
   ·by_cases h6:k=4
    ·subst h6
     by_cases h7:1<m
     ·simp [h5,h7]
     ·have :¬ 8<m:=by omega
      simp [h5,h7,this]
    ·simp [h5,h6]
  ·simp [h4]
 ·have :ws.length≠0:=fun h=>h3 (List.eq_nil_of_length_eq_zero h)
  simp [h3,this]
theorem mayQ_by {D:Nat} {k:Int} {t:Tm} {ws:List Nm} {ks:List Qy} {bv:Bool} {E:Int} (hD:D≤6) (h:ownQ k t ws ks.length=if bv=false then 9 else E):(if bv=false then 9 else if E≠0 then E else mayKs (D+1) ks)=mayQ D (.mk k t ws ks):=by
 have h6:¬ 6<D:=by omega
 rw [mayQ,if_neg h6,h]
 cases bv with
 |false=>simp
 |true=>simp
set_option maxHeartbeats 4000000 in
set_option maxRecDepth 100000 in
theorem query_mayAt (n:Nat):∀ (q:Qy) (D:Nat) (v:Value) (w:World) (B b2 g2 b3 g3 b4 g4:Nat),deepQ q≤n→D≤1000→FineQ q→QIn w q v→KindsAt w B b2 g2 b3 g3 b4 g4→
  Calls Tryz.prog 62 #[.map (some B),v,.int .i64 (D:Int)] w fun e w'=>e= .returned (.int .i64 (mayQ D q))∧Below w.heap.size w w':=by
 induction n with
 |zero=>intro q D v w B b2 g2 b3 g3 b4 g4 h;have :=deepQ_pos q;omega
 |succ n ih=>
  intro q D v w B b2 g2 b3 g3 b4 g4 hd hD hfine hq hkd
  obtain ⟨k,t,ws,ks,f,x,A,c,K,d,ds,rfl,rfl,hf,hx,hc,hdd,hA,hK,hks⟩:=hq.open_
  rw [FineQ] at hfine
  obtain ⟨hft,hfw,h9,hfl⟩:=hfine
  have hfs:f.data.toList.length=f.size:=Array.length_toList
  have hxs:x.data.toList.length=x.size:=Array.length_toList
  have hs:f.size≤100000000∧x.size≤100000000:=⟨by rw [← hfs,hf];exact hft.1,by rw [← hxs,hx];exact hft.2⟩
  by_cases h6:6<D
  ·have hR:mayQ D (.mk k t ws ks)=8:=by rw [mayQ,if_pos h6]
   rw [hR]
   have e6:decide ((6:Int)<(D:Int))=true:=by simp;omega
   clear hR hf hx hc hdd hA hK hks hft hfw hfl hd hq ih hfs hxs hs
   go_enter Tryz.func62,Tryz.ntmps62
   go_wp2_with fail
   go_ret
   exact ⟨rfl,(Below.refl _ _).alloc (Nat.le_refl _) _⟩
  ·have hD6:D≤6:=by omega
   have hkids:KidsMay w B D ks:=fun i hi v wr hb hv=>by
    have :=ih ks[i] (D+1) v wr B b2 g2 b3 g3 b4 g4 (deep_kid hd hi) (by omega) (fineL_mem hfl (List.getElem_mem hi)) hv (hkd.below hb)
    rwa [show ((D+1:Nat):Int)=(D:Int)+1 by omega] at this
   have hrow:∀ wr,Below w.heap.size w wr→Row wr wr.heap.size A (strs ws):=fun wr h=>(Row.below (RowP.row hA fun _ h=>h) h).more h.size
   by_cases hk:k<1∨5<k
   ·have hR:mayQ D (.mk k t ws ks)=9:=by rw [mayQ,if_neg h6,ownQ,if_pos hk];rfl
    rw [hR]
    have e6:decide ((6:Int)<(D:Int))=false:=by simp;omega
    have hl1:=run_lookup_ki (hkd.below (boxQ_below (w:=w) (k:=k) (f:=f) (x:=x) (A:=A) (n:=ws.length) (c:=c) (K:=K) (m:=ks.length) (d:=d))) (find_kind_no (b2:=b2) (g2:=g2) (b3:=b3) (g3:=g3) (b4:=b4) (g4:=g4) hk) true
    simp only [if_true] at hl1
    unfold boxQ at hl1
    clear hR hf hx hc hdd hA hK hks hft hfw hfl hd hq ih hfs hxs hs hk hkids hrow hkd h6
    go_enter Tryz.func62,Tryz.ntmps62
    go_wp2_with fail
    go_ret
    exact ⟨rfl,((Below.refl _ _).alloc (Nat.le_refl _) _).alloc (by simp) _⟩
   ·have hk':k=1∨k=5∨k=2∨k=3∨k=4:=by omega
    rcases hk' with rfl|rfl|rfl|rfl|rfl
    ·refine (mayAt_kind B D 1 f x A ws.length c K ks d ds w _ _ _ _ _ _ _ (bareT ws.length ks.length) (mayTv t) hD6 h9 (fun wr hb=>run_lookup_ki (hkd.below hb) find_kind.1 true)
      (enters_of Tryz.func63 (by kernel_rfl) rfl) (enters_of Tryz.func64 (by kernel_rfl) rfl)
      (fun wr hb=>query_bareTerm 1 f x A _ c K _ d wr) (fun _ wr hb=>query_mayTerm 1 t f x A _ c K _ d wr hf hx hs) hK hks hkids).mono fun e w' ⟨he,hb⟩=>⟨?_,hb⟩
     rw [he,mayQ_by hD6 own_is_term]
    ·refine (mayAt_kind B D 5 f x A ws.length c K ks d ds w _ _ _ _ _ _ _ (bareP x ks.length) (mayPv t ws) hD6 h9 (fun wr hb=>run_lookup_ki (hkd.below hb) find_kind.2.1 true)
      (enters_of Tryz.func68 (by kernel_rfl) rfl) (enters_of Tryz.func69 (by kernel_rfl) rfl)
      (fun wr hb=>query_barePhrase 5 f x A _ c K _ d wr) (fun _ wr hb=>query_mayPhrase 5 t f x A _ c K _ d wr ws hf hs.1 rfl (hrow wr hb) hfw) hK hks hkids).mono fun e w' ⟨he,hb⟩=>⟨?_,hb⟩
     rw [he,mayQ_by hD6 (own_is_phrase hx)]
    ·have ho:ownQ 2 t ws ks.length=if bareK f x ws.length=false then 9 else mayKv 8 ks.length:=own_is_kids hf hx (by omega) (by omega)
     refine (mayAt_kind B D 2 f x A ws.length c K ks d ds w _ _ _ _ _ _ _ (bareK f x ws.length) (mayKv 8 ks.length) hD6 h9 (fun wr hb=>run_lookup_ki (hkd.below hb) find_kind.2.2.1 true)
      (enters_of Tryz.func73 (by kernel_rfl) rfl) (enters_of Tryz.func132 (by kernel_rfl) rfl)
      (fun wr hb=>query_bareKids 2 f x A _ c K _ d wr) (fun _ wr hb=>query_mayKids1 2 f x A _ c K _ d wr 8 b2 h9 (by omega) (hkd.below hb).m2) hK hks hkids).mono fun e w' ⟨he,hb⟩=>⟨?_,hb⟩
     rw [he,mayQ_by hD6 ho]
    ·have ho:ownQ 3 t ws ks.length=if bareK f x ws.length=false then 9 else mayKv 8 ks.length:=own_is_kids hf hx (by omega) (by omega)
     refine (mayAt_kind B D 3 f x A ws.length c K ks d ds w _ _ _ _ _ _ _ (bareK f x ws.length) (mayKv 8 ks.length) hD6 h9 (fun wr hb=>run_lookup_ki (hkd.below hb) find_kind.2.2.2.1 true)
      (enters_of Tryz.func73 (by kernel_rfl) rfl) (enters_of Tryz.func132 (by kernel_rfl) rfl)
      (fun wr hb=>query_bareKids 3 f x A _ c K _ d wr) (fun _ wr hb=>query_mayKids1 3 f x A _ c K _ d wr 8 b3 h9 (by omega) (hkd.below hb).m3) hK hks hkids).mono fun e w' ⟨he,hb⟩=>⟨?_,hb⟩
     rw [he,mayQ_by hD6 ho]
    ·have ho:ownQ 4 t ws ks.length=if bareK f x ws.length=false then 9 else mayKv 1 ks.length:=own_is_kids hf hx (by omega) (by omega)
     refine (mayAt_kind B D 4 f x A ws.length c K ks d ds w _ _ _ _ _ _ _ (bareK f x ws.length) (mayKv 1 ks.length) hD6 h9 (fun wr hb=>run_lookup_ki (hkd.below hb) find_kind.2.2.2.2 true)
      (enters_of Tryz.func73 (by kernel_rfl) rfl) (enters_of Tryz.func132 (by kernel_rfl) rfl)
      (fun wr hb=>query_bareKids 4 f x A _ c K _ d wr) (fun _ wr hb=>query_mayKids1 4 f x A _ c K _ d wr 1 b4 h9 (by omega) (hkd.below hb).m4) hK hks hkids).mono fun e w' ⟨he,hb⟩=>⟨?_,hb⟩
     rw [he,mayQ_by hD6 ho]
end Go.Proofs.YtldcadpemnpbmaaGreatDoor
namespace Go.Proofs.YtldcadpemnpbmaaGreatDoor
open Go Go.RowKit
set_option linter.unusedVariables false
set_option maxHeartbeats 2000000 in
set_option maxRecDepth 100000 in
theorem query_May (q:Qy) (v:Value) (w:World) (hd:deepQ q≤1000) (hq:QIn w q v) (hf:FineQ q):
  Calls Tryz.prog 26 #[v] w fun e w'=>e= .returned (.int .i64 (mayQ 1 q))∧Below w.heap.size w w':=by
 have HC:Hid (∀ w1 B b2 g2 b3 g3 b4 g4,Below w.heap.size w w1→KindsAt w1 B b2 g2 b3 g3 b4 g4→Calls Tryz.prog 62 #[.map (some B),v,.int .i64 1] w1 fun e w'=>e= .returned (.int .i64 (mayQ 1 q))∧Below w1.heap.size w1 w'):=Lib.hid fun w1 B b2 g2 b3 g3 b4 g4 h hk=>query_mayAt 1000 q 1 v w1 B b2 g2 b3 g3 b4 g4 hd (by omega) hf (hq.later h) hk
 obtain ⟨k,t,ws,ks,f,x,A,c,K,d,ds,e1,rfl,_⟩:=hq.open_
 obtain ⟨w1,hw1⟩:∃ w1,w1=boxQ w k f x A ws.length c K ks.length d:=⟨_,rfl⟩
 have HB:Hid (∀ wr,Below w1.heap.size w1 wr→Below w.heap.size w wr∧wr.cell? ⟨w.heap.size,0,none⟩=some (.int .i64 k)∧wr.cell? ⟨w.heap.size,1,none⟩=some (.string f)∧wr.cell? ⟨w.heap.size,2,none⟩=some (.string x)∧wr.cell? ⟨w.heap.size,3,none⟩=some (.slice A ws.length c)∧wr.cell? ⟨w.heap.size,4,none⟩=some (.slice K ks.length d)):=Lib.hid fun wr h=>by
  rw [hw1] at h
  exact boxQ_of h
 have HW1:=Lib.hid hw1
 obtain ⟨R,hR⟩:∃ R,R=mayQ 1 q:=⟨_,rfl⟩
 rw [← hR] at HC ⊢
 obtain ⟨hb0,a0,a1,a2,a3,a4⟩:=HB.out _ (Below.refl _ _)
 have HB0:=Lib.hid hb0
 clear hq e1 hw1 hR hf hd hb0
 go_enter Tryz.func26,Tryz.ntmps26
 go_wp2_with fail
 rw [show w.alloc _=w1 from HW1.out.symm]
 go_region_with (first
  |(go_at_call 27;(with_reducible refine (query_kinds _).mono ?_);rintro e w2 ⟨B,b2,g2,b3,g3,b4,g4,rfl,hk,hb2⟩;have HB2:Hid (Below w1.heap.size w1 w2):=Lib.hid (below_drew hb2);have HKD:=Lib.hid hk;clear hk hb2;obtain ⟨hb0,a0,a1,a2,a3,a4⟩:=HB.out _ HB2.out;have HB3:=Lib.hid hb0;clear hb0)
  |(go_at_call 62;(with_reducible refine (HC.out _ _ _ _ _ _ _ _ HB3.out HKD.out).mono ?_);rintro e w3 ⟨rfl,hb3⟩;have HB4:=Lib.hid (HB3.out.trans (hb3.mono HB3.out.size));clear hb3))
 all_goals
  go_wp2
  go_ret
  exact ⟨rfl,HB4.out⟩
end Go.Proofs.YtldcadpemnpbmaaGreatDoor
set_option linter.unusedVariables false
namespace Go.Proofs.YtldcadpemnpbmaaGreatDoor
open Go Go.RowKit
def matchP (D:List (List Fd)) (q:Qy):List Fo:=if mayQ 1 q=0 then foundP D q else []
set_option maxHeartbeats 4000000 in
set_option maxRecDepth 100000 in
theorem match_Match {G:List En} (hG:AddOk G) {S:Nat} (q:Qy) (v:Value) (w:World) (hdeep:deepQ q≤1000) (hfine:FineQ q) (hq:QIn w q v) (hseg:SegAt w S (buildP G)):
  Calls Tryz.prog 18 #[.pointer (some ⟨S,0,none⟩),v] w (GaveFo (matchP (docsE G) q) w):=by
 obtain ⟨k,t,ws,ks,f,x,A,c,K,d,ds,e1,rfl, -⟩:=hq.open_
 obtain ⟨w1,hw1⟩:∃ w1,w1=boxQ w k f x A ws.length c K ks.length d:=⟨_,rfl⟩
 have hb1:Below w.heap.size w w1:=by rw [hw1];exact boxQ_below
 have HB:Hid (∀ w2,Below w1.heap.size w1 w2→Below w.heap.size w w2∧w2.cell? ⟨w.heap.size,0,none⟩=some (.int .i64 k)∧w2.cell? ⟨w.heap.size,1,none⟩=some (.string f)∧w2.cell? ⟨w.heap.size,2,none⟩=some (.string x)∧w2.cell? ⟨w.heap.size,3,none⟩=some (.slice A ws.length c)∧w2.cell? ⟨w.heap.size,4,none⟩=some (.slice K ks.length d)):=Lib.hid fun w2 h=>by
  rw [hw1] at h
  exact boxQ_of h
 have HM:=Lib.hid (query_May q _ w1 hdeep (hq.later hb1) hfine)
 have HF:Hid (∀ w2,Below w1.heap.size w1 w2→mayQ 1 q=0→Calls Tryz.prog 49 #[.pointer (some ⟨S,0,none⟩),qV k f x A ws.length c K ks.length d] w2 (GaveFo (foundP (docsE G) q) w2)):=Lib.hid fun w2 h hm=>
  match_found hG 1000 q _ w2 hdeep ⟨1,Nat.le_refl _,hm⟩ (hq.later (HB.out w2 h).1) (hseg.below (HB.out w2 h).1)
 have HW1:=Lib.hid hw1
 have HB1:=Lib.hid hb1
 obtain ⟨nw,hnw⟩:∃ nw,nw=ws.length:=⟨_,rfl⟩
 obtain ⟨nk,hnk⟩:∃ nk,nk=ks.length:=⟨_,rfl⟩
 rw [← hnw,← hnk] at HB HM HF HW1
 rw [← hnw,← hnk]
 clear hq hw1 hb1 hseg e1 hnw hnk hdeep hfine
 obtain ⟨m,hm⟩:∃ m,m=mayQ 1 q:=⟨_,rfl⟩
 unfold matchP
 rw [← hm] at HM HF ⊢
 clear hm
 by_cases h0:m=0
 ·subst h0
  rw [if_pos rfl]
  go_enter Tryz.func18,Tryz.ntmps18
  go_wp2_with (first
   |(go_at_call 26;rw [show w.alloc _=w1 from HW1.out.symm];(with_reducible refine HM.out.mono ?_);rintro e w2 ⟨rfl,hb2⟩;have HF2:=Lib.hid (HF.out w2 hb2 rfl);have HB2:=Lib.hid hb2;obtain ⟨-,a0,a1,a2,a3,a4⟩:=HB.out w2 hb2;clear hb2)
   |(go_at_call 49;(with_reducible refine HF2.out.mono ?_);rintro e w3 ⟨v,rfl,ho3,hb3⟩))
  go_ret
  have hb:=(HB.out w2 HB2.out).1
  exact ⟨_,rfl,ho3.low hb.size,hb.trans (hb3.mono hb.size)⟩
 ·rw [if_neg h0]
  have hd:decide (m=0)=false:=decide_eq_false h0
  go_enter Tryz.func18,Tryz.ntmps18
  go_wp2_with (go_at_call 26;rw [show w.alloc _=w1 from HW1.out.symm];(with_reducible refine HM.out.mono ?_);rintro e w2 ⟨rfl,hb2⟩;have HB2:=Lib.hid hb2;obtain ⟨-,a0,a1,a2,a3,a4⟩:=HB.out w2 hb2;clear hb2)
  go_ret
  exact ⟨_,rfl,OwnFo.nil,(HB.out w2 HB2.out).1⟩
end Go.Proofs.YtldcadpemnpbmaaGreatDoor
set_option linter.unusedVariables false
