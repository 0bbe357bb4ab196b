import Derived.Shelf.Strings.Builder2
import Derived.Shelf.Strings.BuilderK
import Derived.Shelf.Strings.BuilderRune
import Derived.Shelf.Utf8.RuneCount
import Derived.Test.YtldcadpemnpbmaaGreatDoorProg
import Derived.Lib.RuneBytes
import Derived.Lib.RuneCount
import Derived.WalkKit
import Derived.Below
import Derived.OwnWalk
import Derived.Lib.OthersKept
import Derived.Deep.AppendLies
import Derived.Lib.Hide
import Derived.BigCall
import Derived.Laws.IdiomStrings
import Derived.Laws.BytesArg
namespace Go.Proofs.YtldcadpemnpbmaaGreatDoor
open Go.Shelf Go.RowKit
def layCount_ren:Go.Shelf.Ren:=⟨fun |195=>243|n=>n,fun |0=>0|3=>3|4=>4|9=>9|n=>n,fun |n=>n⟩
theorem layCount:Lays.n195 Tryz.prog layCount_ren:={
 mixed:=by kernel_rfl
 f195:=Tryz.func243.trans (congrArg some (by kernel_rfl))
 t0:=Tryz.underlying0
 a0:=Tryz.isAgg0
 z0:=Tryz.sizeOf0
 v0:=Tryz.zeroValue0
 t3:=Tryz.underlying3
 a3:=Tryz.isAgg3
 z3:=Tryz.sizeOf3
 v3:=Tryz.zeroValue3
 t4:=Tryz.underlying4
 a4:=Tryz.isAgg4
 z4:=Tryz.sizeOf4
 v4:=Tryz.zeroValue4
 t9:=Tryz.underlying9
 a9:=Tryz.isAgg9
 z9:=Tryz.sizeOf9
 v9:=Tryz.zeroValue9}
def layString_ren:Go.Shelf.Ren:=⟨fun |169=>200|n=>n,fun |0=>0|3=>3|5=>5|9=>9|37=>231|70=>263|72=>265|127=>313|n=>n,fun |n=>n⟩
theorem layString:Lays.n169 Tryz.prog layString_ren:={
 mixed:=by kernel_rfl
 f169:=Tryz.func200.trans (congrArg some (by kernel_rfl))
 t0:=Tryz.underlying0
 a0:=Tryz.isAgg0
 z0:=Tryz.sizeOf0
 v0:=Tryz.zeroValue0
 t3:=Tryz.underlying3
 a3:=Tryz.isAgg3
 z3:=Tryz.sizeOf3
 v3:=Tryz.zeroValue3
 t9:=Tryz.underlying9
 a9:=Tryz.isAgg9
 z9:=Tryz.sizeOf9
 v9:=Tryz.zeroValue9
 t37:=Tryz.underlying231
 a37:=Tryz.isAgg231
 z37:=Tryz.sizeOf231
 v37:=Tryz.zeroValue231
 t70:=Tryz.underlying263
 a70:=Tryz.isAgg263
 z70:=Tryz.sizeOf263
 v70:=Tryz.zeroValue263
 t72:=Tryz.underlying265
 a72:=Tryz.isAgg265
 z72:=Tryz.sizeOf265
 v72:=Tryz.zeroValue265
 t127:=Tryz.underlying313
 a127:=Tryz.isAgg313
 z127:=Tryz.sizeOf313
 v127:=Tryz.zeroValue313}
theorem extraString:Builder.Extra Tryz.prog layString_ren:={
 sizeBuilder:=by kernel_rfl
 liesBuilder:=by kernel_rfl
 t5:=Tryz.underlying5
 a5:=Tryz.isAgg5
 z5:=Tryz.sizeOf5
 v5:=Tryz.zeroValue5
 infoByte:=by kernel_rfl
 cellsByte:=by kernel_rfl
 sizeByte:=by kernel_rfl
 neB5:=by decide}
def layRune_ren:Go.Shelf.Ren:=⟨fun |168=>314|240=>247|242=>330|276=>278|278=>333|n=>n,fun |0=>0|3=>3|4=>4|5=>5|9=>9|20=>20 |21=>21|37=>231|46=>128|51=>198|70=>263|72=>265|75=>268|80=>211|164=>119|n=>n,fun |n=>n⟩
theorem layRune:Lays.n168 Tryz.prog layRune_ren:={
 mixed:=by kernel_rfl
 f168:=Tryz.func314.trans (congrArg some (by kernel_rfl))
 f240:=Tryz.func247.trans (congrArg some (by kernel_rfl))
 f242:=Tryz.func330.trans (congrArg some (by kernel_rfl))
 f276:=Tryz.func278.trans (congrArg some (by kernel_rfl))
 f278:=Tryz.func333.trans (congrArg some (by kernel_rfl))
 t0:=Tryz.underlying0
 a0:=Tryz.isAgg0
 z0:=Tryz.sizeOf0
 v0:=Tryz.zeroValue0
 t3:=Tryz.underlying3
 a3:=Tryz.isAgg3
 z3:=Tryz.sizeOf3
 v3:=Tryz.zeroValue3
 t4:=Tryz.underlying4
 a4:=Tryz.isAgg4
 z4:=Tryz.sizeOf4
 v4:=Tryz.zeroValue4
 t5:=Tryz.underlying5
 a5:=Tryz.isAgg5
 z5:=Tryz.sizeOf5
 v5:=Tryz.zeroValue5
 t9:=Tryz.underlying9
 a9:=Tryz.isAgg9
 z9:=Tryz.sizeOf9
 v9:=Tryz.zeroValue9
 t20:=Tryz.underlying20
 a20:=Tryz.isAgg20
 z20:=Tryz.sizeOf20
 v20:=Tryz.zeroValue20
 t21:=Tryz.underlying21
 a21:=Tryz.isAgg21
 z21:=Tryz.sizeOf21
 v21:=Tryz.zeroValue21
 t37:=Tryz.underlying231
 a37:=Tryz.isAgg231
 z37:=Tryz.sizeOf231
 v37:=Tryz.zeroValue231
 t46:=Tryz.underlying128
 a46:=Tryz.isAgg128
 z46:=Tryz.sizeOf128
 v46:=Tryz.zeroValue128
 t51:=Tryz.underlying198
 a51:=Tryz.isAgg198
 z51:=Tryz.sizeOf198
 v51:=Tryz.zeroValue198
 t70:=Tryz.underlying263
 a70:=Tryz.isAgg263
 z70:=Tryz.sizeOf263
 v70:=Tryz.zeroValue263
 t72:=Tryz.underlying265
 a72:=Tryz.isAgg265
 z72:=Tryz.sizeOf265
 v72:=Tryz.zeroValue265
 t75:=Tryz.underlying268
 a75:=Tryz.isAgg268
 z75:=Tryz.sizeOf268
 v75:=Tryz.zeroValue268
 t164:=Tryz.underlying119
 a164:=Tryz.isAgg119
 z164:=Tryz.sizeOf119
 v164:=Tryz.zeroValue119}
theorem extraRune:Builder.Extra Tryz.prog layRune_ren:={
 sizeBuilder:=by kernel_rfl
 liesBuilder:=by kernel_rfl
 t5:=Tryz.underlying5
 a5:=Tryz.isAgg5
 z5:=Tryz.sizeOf5
 v5:=Tryz.zeroValue5
 infoByte:=by kernel_rfl
 cellsByte:=by kernel_rfl
 sizeByte:=by kernel_rfl
 neB5:=by decide}
theorem run_count (s:ByteArray) (w:World) (hs:s.size<9223372036854775807):
  Calls Tryz.prog 243 #[.string s] w fun e w'=>e= .returned (.int .i64 (Lib.runeCount s))∧∃ pos,w'=w.iter s pos:=Any.utf8_RuneCountInString layCount s w hs
theorem builder_String (B b:Nat) (l:List UInt8) (w:World) (h:Lib.IsBuilderF 265 5 B b (Lib.byteCells l) w) (hBw:B≤w.heap.size):
  Calls Tryz.prog 200 #[.pointer (some ⟨b,0,none⟩)] w fun e w'=>e= .returned (.string ⟨l.toArray⟩)∧(Lib.IsBuilderF 265 5 B b (Lib.byteCells l) w'∧Below B w w'∧Lib.OthersKept 5 (some b) w w'):=Any.Builder_String_any_k layString extraString B b l w h hBw
theorem builder_WriteRune (B b:Nat) (bs:List Value) (r:Int) (hr0: -2147483648≤r) (hr1:r≤2147483647) (w:World) (h:Lib.IsBuilderF 265 5 B b bs w) (hlen:bs.length+4≤140737488355328) (hBw:B≤w.heap.size):
  Calls Tryz.prog 314 #[.pointer (some ⟨b,0,none⟩),.int .i32 r] w fun e w'=>e= .returned (.tuple #[.int .i64 (Lib.runeCells r).length,.nilIface])∧(Lib.BuilderAtF 265 5 B b (.pointer (some ⟨b,0,none⟩)) (bs++Lib.runeCells r) w'∧Below B w w'∧Lib.OthersKept 5 (some b) w w'):=Any.Builder_WriteRune_k layRune extraRune B b bs r hr0 hr1 w h hlen hBw
end Go.Proofs.YtldcadpemnpbmaaGreatDoor
set_option linter.unusedVariables false
namespace Go.Proofs.YtldcadpemnpbmaaGreatDoor
open Go
def dec (l:List UInt8):Nat × Nat:=
 let at' (k:Nat):Nat:=(l.getD k 0).toNat
 let cont (k:Nat):Bool:=k<l.length&&at' k/64==2
 let b0:=at' 0
 if b0<0x80 then (b0,1)
 else if b0/32==6&&cont 1 then
  let c:=(b0%32)*64+at' 1%64
  if c≥0x80 then (c,2) else (65533,1)
 else if b0/16==14&&cont 1&&cont 2 then
  let c:=(b0%16)*4096+(at' 1%64)*64+at' 2%64
  if c≥0x800&&Utf8.valid c then (c,3) else (65533,1)
 else if b0/8==30&&cont 1&&cont 2&&cont 3 then
  let c:=(b0%8)*262144+(at' 1%64)*4096+(at' 2%64)*64+at' 3%64
  if c≥0x10000&&Utf8.valid c then (c,4) else (65533,1)
 else (65533,1)
theorem get_drop (s:ByteArray) (i k:Nat):(s.get! (i+k))=(s.data.toList.drop i).getD k 0:=by
 cases s with
 |mk a=>
  simp only [ByteArray.get!,List.getD,List.getElem?_drop,Array.getElem?_toList]
  rw [getElem!_def]
  cases a[i+k]?<;>rfl
theorem decode_dec (s:ByteArray) (i:Nat):Utf8.decode s i=dec (s.data.toList.drop i):=by
 unfold Utf8.decode dec
 simp only [get_drop s i]
 have hc:∀ k,decide (i+k<s.size)=decide (k<(s.data.toList.drop i).length):=by
  intro k
  have :s.size=s.data.toList.length:=(Array.length_toList (xs:=s.data)).symm
  rw [decide_eq_decide,List.length_drop,this]
  omega
 simp only [hc]
 rfl
theorem dec_width (l:List UInt8) (h:l≠[]):1≤(dec l).2∧(dec l).2≤l.length:=by
 have hl:1≤l.length:=by cases l<;>simp_all
 unfold dec
 simp only []
 repeat' split
 all_goals (simp_all;try omega)
theorem dec_valid (l:List UInt8):Utf8.valid ((dec l).1:Int)=true:=by
 unfold dec
 simp only []
 have hb:∀ k,(l.getD k 0).toNat<256:=fun k=>(l.getD k 0).toNat_lt
 repeat' split
 all_goals simp_all [Utf8.valid]
 all_goals (try omega)
 all_goals (have h0:=hb 0;have h1:=hb 1;try omega)
def signsF:Nat→List UInt8→List Int
 |0,_=>[]
 |f+1,l=>if l=[] then [] else ((dec l).1:Int)::signsF f (l.drop (dec l).2)
def signs (l:List UInt8):List Int:=signsF l.length l
theorem signsF_nil (f:Nat):signsF f []=[]:=by cases f<;>simp [signsF]
theorem signsF_more:∀ (f g:Nat) (l:List UInt8),l.length≤f→l.length≤g→signsF f l=signsF g l
 |0,g,l,hf,_=>by
  have :l=[]:=List.eq_nil_of_length_eq_zero (by omega)
  subst this
  rw [signsF_nil,signsF_nil]
 |f+1,0,l,_,hg=>by
  have :l=[]:=List.eq_nil_of_length_eq_zero (by omega)
  subst this
  rw [signsF_nil,signsF_nil]
 |f+1,g+1,l,hf,hg=>by
  by_cases h:l=[]
  ·subst h;rw [signsF_nil,signsF_nil]
  ·have hw:=dec_width l h
   unfold signsF
   rw [if_neg h,if_neg h,signsF_more f g _ (by rw [List.length_drop];omega) (by rw [List.length_drop];omega)]
theorem signs_nil:signs []=[]:=rfl
theorem signs_step (l:List UInt8) (h:l≠[]):signs l=((dec l).1:Int)::signs (l.drop (dec l).2):=by
 have hw:=dec_width l h
 have hl:l.length=(l.length-1)+1:=by omega
 unfold signs
 rw [hl,signsF,if_neg h,signsF_more _ _ _ (by rw [List.length_drop];omega) (Nat.le_refl _)]
theorem signs_length (l:List UInt8):(signs l).length≤l.length:=by
 have :∀ (f:Nat) (l:List UInt8),l.length≤f→(signsF f l).length≤l.length:=by
  intro f
  induction f with
  |zero=>intro l h;simp [signsF]
  |succ f ih=>
   intro l h
   by_cases e:l=[]
   ·subst e;simp [signsF]
   ·have hw:=dec_width l e
    unfold signsF
    rw [if_neg e]
    have :=ih (l.drop (dec l).2) (by rw [List.length_drop];omega)
    rw [List.length_drop] at this
    simp only [List.length_cons]
    omega
 exact this _ l (Nat.le_refl _)
theorem valid_iff (r:Int):Utf8.valid r=true↔(0≤r∧r<55296)∨(57344≤r∧r≤1114111):=by
 simp [Utf8.valid]
theorem signs_valid (l:List UInt8):∀ c∈signs l,Utf8.valid c=true:=by
 have :∀ (f:Nat) (l:List UInt8),∀ c∈signsF f l,Utf8.valid c=true:=by
  intro f
  induction f with
  |zero=>intro l c h;simp [signsF] at h
  |succ f ih=>
   intro l c h
   by_cases e:l=[]
   ·subst e;simp [signsF] at h
   ·unfold signsF at h
    rw [if_neg e] at h
    rcases List.mem_cons.1 h with h|h
    ·subst h;exact dec_valid l
    ·exact ih _ c h
 exact this _ l
theorem encode_byte {x:Int} (h0:0≤x) (h1:x<256):(x.toNat.toUInt8).toNat=x.toNat:=by
 simp;omega
theorem dec_one (b0:UInt8) (t:List UInt8) (h:b0.toNat<128):dec (b0::t)=(b0.toNat,1):=by
 unfold dec;simp only [List.getD_cons_zero];rw [if_pos h]
theorem dec_two (b0 b1:UInt8) (t:List UInt8) (h0:b0.toNat/32=6) (h1:b1.toNat/64=2) (hc:128≤(b0.toNat%32)*64+b1.toNat%64):
  dec (b0::b1::t)=((b0.toNat%32)*64+b1.toNat%64,2):=by
 unfold dec
 simp only [List.getD_cons_zero,List.getD_cons_succ]
 rw [if_neg (by omega),if_pos (by simp [h0,h1]),if_pos hc]
theorem dec_three (b0 b1 b2:UInt8) (t:List UInt8) (h0:b0.toNat/16=14) (h1:b1.toNat/64=2) (h2:b2.toNat/64=2)
  (hc:2048≤(b0.toNat%16)*4096+(b1.toNat%64)*64+b2.toNat%64) (hv:Utf8.valid (((b0.toNat%16)*4096+(b1.toNat%64)*64+b2.toNat%64:Nat):Int)=true):
  dec (b0::b1::b2::t)=((b0.toNat%16)*4096+(b1.toNat%64)*64+b2.toNat%64,3):=by
 unfold dec
 simp only [List.getD_cons_zero,List.getD_cons_succ]
 rw [if_neg (by omega),if_neg (by simp;omega),if_pos (by simp [h0,h1,h2]),if_pos (by rw [Bool.and_eq_true];exact ⟨by simpa using hc,hv⟩)]
theorem dec_four (b0 b1 b2 b3:UInt8) (t:List UInt8) (h0:b0.toNat/8=30) (h1:b1.toNat/64=2) (h2:b2.toNat/64=2) (h3:b3.toNat/64=2)
  (hc:65536≤(b0.toNat%8)*262144+(b1.toNat%64)*4096+(b2.toNat%64)*64+b3.toNat%64) (hv:Utf8.valid (((b0.toNat%8)*262144+(b1.toNat%64)*4096+(b2.toNat%64)*64+b3.toNat%64:Nat):Int)=true):
  dec (b0::b1::b2::b3::t)=((b0.toNat%8)*262144+(b1.toNat%64)*4096+(b2.toNat%64)*64+b3.toNat%64,4):=by
 unfold dec
 simp only [List.getD_cons_zero,List.getD_cons_succ]
 rw [if_neg (by omega),if_neg (by simp;omega),if_neg (by simp;omega),if_pos (by simp [h0,h1,h2,h3]),if_pos (by rw [Bool.and_eq_true];exact ⟨by simpa using hc,hv⟩)]
theorem dec_encode (r:Int) (t:List UInt8) (h:Utf8.valid r=true):dec (Lib.encodeRune r++t)=(r.toNat,(Lib.encodeRune r).length):=by
 have hv:=(valid_iff r).1 h
 obtain ⟨n,rfl⟩:∃ n:Nat,r=n:=⟨r.toNat,by omega⟩
 by_cases h1:n≤127
 ·have e0:=encode_byte (x:=(n:Int)) (by omega) (by omega)
  simp only [Lib.encodeRune,Lib.encodeRuneZ_one (r:=(n:Int)) (by omega) (by omega),List.map_cons,List.map_nil,List.cons_append,List.nil_append]
  rw [dec_one _ _ (by rw [e0];omega),e0]
  rfl
 by_cases h2:n≤2047
 ·have e0:=encode_byte (x:=192+(n:Int)/64) (by omega) (by omega)
  have e1:=encode_byte (x:=128+(n:Int)%64) (by omega) (by omega)
  simp only [Lib.encodeRune,Lib.encodeRuneZ_two (r:=(n:Int)) (by omega) (by omega),List.map_cons,List.map_nil,List.cons_append,List.nil_append]
  rw [dec_two _ _ _ (by rw [e0];omega) (by rw [e1];omega) (by rw [e0,e1];omega),e0,e1]
  refine Prod.ext ?_ rfl
  show _=n
  simp only []
  omega
 by_cases h3:n≤65535
 ·have e0:=encode_byte (x:=224+(n:Int)/4096) (by omega) (by omega)
  have e1:=encode_byte (x:=128+(n:Int)/64%64) (by omega) (by omega)
  have e2:=encode_byte (x:=128+(n:Int)%64) (by omega) (by omega)
  have en:((224+(n:Int)/4096).toNat%16)*4096+((128+(n:Int)/64%64).toNat%64)*64+(128+(n:Int)%64).toNat%64=n:=by omega
  simp only [Lib.encodeRune,Lib.encodeRuneZ_three (r:=(n:Int)) (by omega),List.map_cons,List.map_nil,List.cons_append,List.nil_append]
  rw [dec_three _ _ _ _ (by rw [e0];omega) (by rw [e1];omega) (by rw [e2];omega) (by rw [e0,e1,e2,en];omega) (by rw [e0,e1,e2,en];exact h),e0,e1,e2,en]
  rfl
 ·have e0:=encode_byte (x:=240+(n:Int)/262144) (by omega) (by omega)
  have e1:=encode_byte (x:=128+(n:Int)/4096%64) (by omega) (by omega)
  have e2:=encode_byte (x:=128+(n:Int)/64%64) (by omega) (by omega)
  have e3:=encode_byte (x:=128+(n:Int)%64) (by omega) (by omega)
  have en:((240+(n:Int)/262144).toNat%8)*262144+((128+(n:Int)/4096%64).toNat%64)*4096+((128+(n:Int)/64%64).toNat%64)*64+(128+(n:Int)%64).toNat%64=n:=by omega
  simp only [Lib.encodeRune,Lib.encodeRuneZ_four (r:=(n:Int)) (by omega) (by omega),List.map_cons,List.map_nil,List.cons_append,List.nil_append]
  rw [dec_four _ _ _ _ _ (by rw [e0];omega) (by rw [e1];omega) (by rw [e2];omega) (by rw [e3];omega) (by rw [e0,e1,e2,e3,en];omega) (by rw [e0,e1,e2,e3,en];exact h),e0,e1,e2,e3,en]
  rfl
def text (l:List Int):List UInt8:=l.flatMap Lib.encodeRune
theorem encode_ne (r:Int) (t:List UInt8):Lib.encodeRune r++t≠[]:=by
 have :=Lib.encodeRuneZ_length r
 intro h
 have h2:=congrArg List.length (List.append_eq_nil_iff.1 h).1
 simp only [Lib.encodeRune,List.length_map,List.length_nil] at h2
 omega
theorem signs_text_append (l:List Int) (t:List UInt8) (h:∀ c∈l,Utf8.valid c=true):signs (text l++t)=l++signs t:=by
 induction l with
 |nil=>rfl
 |cons r l ih=>
  have hr:=h r (List.mem_cons_self ..)
  have hv:=(valid_iff r).1 hr
  have e:text (r::l)++t=Lib.encodeRune r++(text l++t):=by simp [text]
  rw [e,signs_step _ (encode_ne _ _),dec_encode r _ hr]
  simp only [List.drop_left,List.cons_append]
  rw [ih (fun c hc=>h c (List.mem_cons_of_mem _ hc))]
  congr 1
  omega
theorem signs_text (l:List Int) (h:∀ c∈l,Utf8.valid c=true):signs (text l)=l:=by
 have :=signs_text_append l [] h
 simpa [signs_nil] using this
theorem text_append (a b:List Int):text (a++b)=text a++text b:=by simp [text]
theorem text_length (l:List Int):(text l).length≤4*l.length:=by
 induction l with
 |nil=>simp [text]
 |cons r l ih=>
  have :=Lib.encodeRuneZ_length r
  have e:text (r::l)=Lib.encodeRune r++text l:=by simp [text]
  rw [e,List.length_append,List.length_cons]
  simp only [Lib.encodeRune,List.length_map]
  omega
def isLetter (c:Int):Bool:=decide ((192≤c∧c≤591∧c≠215∧c≠247)∨(97≤c∧c≤122)∨(65≤c∧c≤90))
def isDigit (c:Int):Bool:=decide (48≤c∧c≤57)
def isUpper (c:Int):Bool:=decide ((65≤c∧c≤90)∨(192≤c∧c≤222∧c≠215))
def fold (c:Int):Int:=if isUpper c=true then c+32 else c
def okSign (c:Int):Bool:=decide (0≤c∧c≤1114111∧¬ (55296≤c∧c≤57343))
def clamp (c:Int):Int:=if okSign c=true then c else 65533
theorem okSign_valid (c:Int):okSign c=Utf8.valid c:=by
 rw [Bool.eq_iff_iff,valid_iff];simp [okSign];omega
theorem clamp_of {c:Int} (h:Utf8.valid c=true):clamp c=c:=by rw [clamp,okSign_valid,if_pos h]
theorem clamp_valid (c:Int):Utf8.valid (clamp c)=true:=by
 unfold clamp
 split
 ·rename_i h;rw [← okSign_valid];exact h
 ·decide
theorem encode_clamp (c:Int):Lib.encodeRune (clamp c)=Lib.encodeRune c:=by
 by_cases h:Utf8.valid c=true
 ·rw [clamp_of h]
 ·rw [clamp,okSign_valid,if_neg h]
  have hb:c<0∨(55296≤c∧c≤57343)∨1114111<c:=by
   have :=mt (valid_iff c).2 h
   omega
  rw [Lib.encodeRune,Lib.encodeRune,Lib.encodeRuneZ_bad hb]
  rfl
theorem fold_valid {c:Int} (h:Utf8.valid c=true):Utf8.valid (fold c)=true:=by
 rw [valid_iff] at h ⊢
 unfold fold
 split
 ·rename_i hu;simp [isUpper] at hu;omega
 ·omega
theorem fold_fold (c:Int):fold (fold c)=fold c:=by
 unfold fold
 by_cases h:isUpper c=true
 ·rw [if_pos h]
  have :¬ isUpper (c+32)=true:=by simp [isUpper] at h ⊢;omega
  rw [if_neg this]
 ·rw [if_neg h,if_neg h]
theorem letter_fold (c:Int):isLetter (fold c)=isLetter c:=by
 unfold fold
 split
 ·rename_i hu
  simp [isUpper] at hu
  rw [Bool.eq_iff_iff]
  simp [isLetter]
  omega
 ·rfl
theorem digit_fold (c:Int):isDigit (fold c)=isDigit c:=by
 unfold fold
 split
 ·rename_i hu
  simp [isUpper] at hu
  rw [Bool.eq_iff_iff]
  simp [isDigit]
  omega
 ·rfl
def foldText (l:List UInt8):List UInt8:=text ((signs l).map fold)
theorem signs_foldText (l:List UInt8):signs (foldText l)=(signs l).map fold:=by
 rw [foldText,signs_text]
 intro c hc
 obtain ⟨x,hx,rfl⟩:=List.mem_map.1 hc
 exact fold_valid (signs_valid l x hx)
end Go.Proofs.YtldcadpemnpbmaaGreatDoor
set_option linter.unusedVariables false
namespace Go.Proofs.YtldcadpemnpbmaaGreatDoor
open Go Go.RowKit
theorem ret_bool {a b:Bool} (h:a=b):Ending.returned (.bool a)= .returned (.bool b):=by rw [h]
theorem ret_int {k:IntKind} {a b:Int} (h:a=b):Ending.returned (.int k a)= .returned (.int k b):=by rw [h]
def Row (w:World) (B:Nat) (A:Option Addr) (xs:List Value):Prop:=
 xs=[]∨∃ b off,A=some ⟨b,off,none⟩∧b<B∧∀ j u,xs[j]?=some u→w.cell? ⟨b,off+j,none⟩=some u
theorem Row.nil {w:World} {B:Nat} {A:Option Addr}:Row w B A []:= .inl rfl
theorem Row.at_ {w:World} {B:Nat} {A:Option Addr} {xs:List Value} (h:Row w B A xs) (hn:0<xs.length):
  ∃ b off,A=some ⟨b,off,none⟩∧b<B∧∀ j u,xs[j]?=some u→w.cell? ⟨b,off+j,none⟩=some u:=by
 rcases h with rfl|h
 ·simp at hn
 ·exact h
theorem Row.keep {w w':World} {B:Nat} {A:Option Addr} {xs:List Value} (h:Row w B A xs) (hk:∀ p:Addr,p.block<B→w'.cell? p=w.cell? p):Row w' B A xs:=by
 rcases h with rfl|⟨b,off,rfl,hb,hc⟩
 ·exact .inl rfl
 ·exact .inr ⟨b,off,rfl,hb,fun j u hu=>(hk _ hb).trans (hc j u hu)⟩
theorem Row.below {w w':World} {B:Nat} {A:Option Addr} {xs:List Value} (h:Row w B A xs) (hb:Below B w w'):Row w' B A xs:=h.keep fun _ hp=>hb.cell hp
theorem Row.more {w:World} {B B':Nat} {A:Option Addr} {xs:List Value} (h:Row w B A xs) (hB:B≤B'):Row w B' A xs:=by
 rcases h with rfl|⟨b,off,rfl,hb,hc⟩
 ·exact .inl rfl
 ·exact .inr ⟨b,off,rfl,by omega,hc⟩
theorem Row.cut {w:World} {B:Nat} {A:Option Addr} {xs:List Value} (h:Row w B A xs) (k:Nat):Row w B A (xs.take k):=by
 rcases h with rfl|⟨b,off,rfl,hb,hc⟩
 ·exact .inl (by simp)
 ·refine .inr ⟨b,off,rfl,hb,fun j u hu=>hc j u ?_⟩
  rw [List.getElem?_take] at hu
  split at hu
  ·exact hu
  ·cases hu
section
variable {w w':World} {base:Nat} {e:TypeId} {size:Nat} {v:Value} {n:Nat} {xs:List Value}
theorem owned_row (h:w.ownsRow base e size v n xs):∃ A c,v= .slice A n c∧n≤c∧Row w w.heap.size A xs:=by
 rcases h.2 with ⟨rfl,rfl⟩|⟨g,cap,cur,rfl,_,hg,hnc,_,_,_⟩
 ·exact ⟨none,0,rfl,Nat.le_refl _,.inl (List.eq_nil_of_length_eq_zero (by simpa using h.1))⟩
 ·refine ⟨_,cap,rfl,hnc,.inr ⟨g,0,rfl,(Array.getElem?_eq_some_iff.1 hg).1,fun j u hu=> ?_⟩⟩
  have :=h.cells (g:=g) rfl j u hu
  simpa [Addr.add_lit] using this
theorem owned_below (h:w.ownsRow base e size v n xs) (hb:Below w.heap.size w w'):w'.ownsRow base e size v n xs:=by
 refine ⟨h.1,?_⟩
 rcases h.2 with hn|⟨g,cap,cur,hv,hg,hh,r⟩
 ·exact .inl hn
 ·exact .inr ⟨g,cap,cur,hv,hg,by rw [hb.block g (Array.getElem?_eq_some_iff.1 hh).1];exact hh,r⟩
theorem owned_low (h:w.ownsRow base e size v n xs) {b:Nat} (hb:b≤base):w.ownsRow b e size v n xs:=by
 refine ⟨h.1,?_⟩
 rcases h.2 with hn|⟨g,cap,cur,hv,hg,r⟩
 ·exact .inl hn
 ·exact .inr ⟨g,cap,cur,hv,by omega,r⟩
theorem owned_iter (h:w.ownsRow base e size v n xs) {k:Nat} {s:ByteArray} {p q:Nat} (hk:w.heap[k]?=some (.stringIter s p)):(w.iterAt k s q).ownsRow base e size v n xs:=by
 refine ⟨h.1,?_⟩
 rcases h.2 with hn|⟨g,cap,cur,hv,hg,hh,r⟩
 ·exact .inl hn
 ·refine .inr ⟨g,cap,cur,hv,hg,?_,r⟩
  rw [Lib.iterAt_other _ _ _ _ _ (fun e=>by rw [e,hk] at hh;cases hh)]
  exact hh
theorem iter_grown (h:w.ownsRow base e size v n xs) {k:Nat} {s:ByteArray} {p:Nat} (hk:w.heap[k]?=some (.stringIter s p)) (hg:w.grownBy w' v.ownBlock):w'.heap[k]?=some (.stringIter s p):=by
 rw [hg.block k (Array.getElem?_eq_some_iff.1 hk).1 ?_]
 ·exact hk
 ·intro he
  rcases h.2 with ⟨rfl,_⟩|⟨g,cap,cur,rfl,_,hh,_⟩
  ·cases he
  ·simp only [Value.ownBlock,Option.some.injEq] at he
   rw [he,hh] at hk
   cases hk
end
section
variable {P:Program} (w:World)
theorem append_no_cells (base:Nat) (t ty e:TypeId) (i:TypeInfo) (size:Nat) (ht:P.underlying t=some (.slice e)) (hi:P.info? e=some i)
  (v:Value) (n:Nat) (xs:List Value) (hown:w.ownsRow base e size v n xs) (c:Nat):(Builtin.append_ #[t,t] ty #[v,.slice none 0 c]).run P w= .ok v w:=by
 rcases hown.2 with ⟨rfl,rfl⟩|⟨g,cap,cur,rfl,_,_,hnc,_⟩
 ·simp [Builtin.append_,run_underlying ht,sizeOf,typeInfo,hi,Builtin.lenOf,Builtin.firstCells]
 ·simp [Builtin.append_,run_underlying ht,sizeOf,typeInfo,hi,Builtin.lenOf,Builtin.firstCells,hnc,storeCells]
theorem wpList_append_row {ops:Array Oper} {rest:List Oper} {o:Oper} {a:Act} {Q:Exit→Act→World→Prop} (hgd:o.guard=none) (s x:Operand) (t:TypeId)
  (ho:o.op= .call {callee:= .builtin .append,args:=#[s,x],argTypes:=#[t,t]})
  (base:Nat) (e:TypeId) (i:TypeInfo) (z:Value) (size bytes:Nat) (ht:P.underlying t=some (.slice e)) (hi:P.info? e=some i) (hz:i.zero=some z)
  (hsize:i.size=size) (hby:i.bytes=bytes) (hzs:z.cells.size=size) (hsz:0<size)
  (v:Value) (n:Nat) (xs:List Value) (hs:a.eval s=v) (hown:w.ownsRow base e size v n xs)
  (B:Nat) (A:Option Addr) (m c:Nat) (news:List Value) (hx:a.eval x= .slice A m c) (hl:news.length=m*size) (hr:Row w B A news) (h1:∀ u∈news,u.oneCell'=true)
  (h63:n+m≤maxLen) (hbytes:(n+m)*bytes≤140737488355328) (hbase:base≤w.heap.size)
  (h:∀ v' w',w'.ownsRow base e size v' (n+m) (xs++news)→w.grownBy w' v.ownBlock→wpList P ops Q rest (a.put o.dst v') w'):wpList P ops Q (o::rest) a w:=by
 by_cases hm:m=0
 ·subst hm
  have hn:news=[]:=List.eq_nil_of_length_eq_zero (by simpa using hl)
  subst hn
  rcases A with _|ad
  ·refine wpList_plain hgd fun K hK=> ?_
   have hrun:=append_no_cells (P:=P) w base t o.type e i size ht hi v n xs hown c
   unfold Oper.wp execOp
   simp only [ho,resolve,invoke,builtin,Sem.run_bind,Sem.run_pure,Result.andThen_ok,List.map_toArray,List.map_cons,List.map_nil,hs,hx,hrun]
   exact hK _ _ (h v w (by simpa using hown) (World.grownBy.refl _ _))
  ·exact wpList_append_own w hgd s x t ho base e i z size bytes ht hi hz hsize hby hzs hsz v n xs hs hown ad 0 c [] hx hl (fun j u hu=>by simp at hu) h1 h63 hbytes hbase fun v' w' h2 h3 _=>h v' w' h2 h3
 ·have hp:0<news.length:=by rw [hl];exact Nat.mul_pos (by omega) hsz
  obtain ⟨b,off,rfl,_,hc⟩:=hr.at_ hp
  exact wpList_append_own w hgd s x t ho base e i z size bytes ht hi hz hsize hby hzs hsz v n xs hs hown _ m c news hx hl (fun j u hu=>by rw [Addr.add_lit];exact hc j u hu) h1 h63 hbytes hbase fun v' w' h2 h3 _=>h v' w' h2 h3
end
theorem news_at (w:World) (l:List Value) (t:TypeId):∀ j u,l[j]?=some u→(w.alloc (.cells l.toArray t)).cell? ((⟨w.heap.size,0,none⟩:Addr).add j)=some u:=by
 intro j u hu
 rw [Addr.add_lit,Nat.zero_add,cell_of_row _ _ _ _ _ _ (heap_alloc_new w _)]
 simpa using hu
end Go.Proofs.YtldcadpemnpbmaaGreatDoor
set_option linter.unusedVariables false
namespace Go.Proofs.YtldcadpemnpbmaaGreatDoor
open Go Go.RowKit
def ints (l:List Int):List Value:=l.map (Value.int .i64)
theorem ints_length (l:List Int):(ints l).length=l.length:=by simp [ints]
theorem info_int:(Tryz.prog.info? 3).map (fun i=>(i.zero,i.size,i.bytes))=some (some (.int .i64 0),1,8):=by kernel_rfl
theorem row_int {w:World} {B:Nat} {A:Option Addr} {xs:List Int} (h:Row w B A (ints xs)) {k:Nat} (hk:k<xs.length):
  ∃ b off,A=some ⟨b,off,none⟩∧b<B∧w.cell? ⟨b,off+k,none⟩=some (.int .i64 xs[k]):=by
 obtain ⟨b,off,rfl,hb,hc⟩:=h.at_ (by rw [ints_length];omega)
 refine ⟨b,off,rfl,hb,hc k _ ?_⟩
 simp [ints,hk]
end Go.Proofs.YtldcadpemnpbmaaGreatDoor
set_option linter.unusedVariables false
namespace Go.Proofs.YtldcadpemnpbmaaGreatDoor
open Go Go.RowKit
def GaveInts (l:List Int) (w:World) (e:Ending) (w':World):Prop:=∃ v,e= .returned v∧w'.ownsRow w.heap.size 3 1 v l.length (ints l)∧Below w.heap.size w w'
set_option maxHeartbeats 1000000 in
set_option maxRecDepth 100000 in
theorem sign_Signs (s:ByteArray) (w:World) (hs:s.size≤1073741824):
  Calls Tryz.prog 193 #[.string s] w (GaveInts (signs s.data.toList) w):=by
 obtain ⟨i0,hi0,hz0,hz1,hz2⟩:=info_parts info_int
 have hrc:=Lib.runeCount_le s
 go_enter Tryz.func193,Tryz.ntmps193
 go_wp2_with (go_at_call 243;refine (run_count s _ (by omega)).mono ?_)
 rintro e w1 ⟨rfl,pos,rfl⟩
 go_wp2_with (at_make;refine wpList_make_own _ rfl _ _ 88 rfl w.heap.size 3 i0 _ 1 Tryz.underlying88 hi0 hz0 hz1 _ _ _ (Lib.runeCount s) rfl rfl rfl ?c1 ?c2 ?c3 ?_)
 case c1=>rw [hz2];omega
 case c2=>unfold maxLen;omega
 case c3=>show w.heap.size≤(w.heap.push _).size;simp
 intro w2 hown hgrow
 have hb2:Below w.heap.size w w2:=((Below.refl _ w).alloc (Nat.le_refl _) (.stringIter s pos)).grown hgrow (by simp) (fun k hk=>by cases hk)
 have hsz2:=hb2.size
 go_wp2
 go_loopw [3] (fun l wr=>∃ (pos:Nat) (acc:List Int),pos≤s.size∧acc.length≤pos∧wr.heap[w2.heap.size]?=some (.stringIter s pos)∧wr.ownsRow w.heap.size 3 1 l acc.length (ints acc)∧Below w.heap.size w wr∧acc++signs (s.data.toList.drop pos)=signs s.data.toList) (fun _ wr=>s.size-wr.iterPos w2.heap.size)
 case atStart=>
  refine ⟨0,[],Nat.zero_le _,Nat.le_refl _,?_,hown.alloc _,hb2.alloc hsz2 _,rfl⟩
  exact heap_alloc_new w2 _
 case round=>
  obtain ⟨pos,acc,hpos,hal,hit,hown,hbw,hacc⟩:=hrel
  by_cases hp:pos<s.size
  ·have hnx:∀ ty,(Instr.next (.pointer (some ⟨w2.heap.size,0,none⟩)) true ty).run Tryz.prog wr=_:=fun ty=>Lib.run_next_any_at wr w2.heap.size s pos ty hit hp
   have hdd:=decode_dec s pos
   have hne:s.data.toList.drop pos≠[]:=by
    intro h
    have :=congrArg List.length h
    rw [List.length_drop,List.length_nil] at this
    have e:s.data.toList.length=s.size:=Array.length_toList
    omega
   have hst:=signs_step _ hne
   have hwd:=dec_width _ hne
   rw [List.drop_drop] at hst
   rw [← hdd] at hst hwd
   have hlen:(s.data.toList.drop pos).length=s.size-pos:=by rw [List.length_drop];rfl
   rw [hlen] at hwd
   have hd1:=decode_le s pos
   have hown2:=owned_iter (q:=pos+(Utf8.decode s pos).2) hown hit
   have hit2:=Lib.iterAt_heap wr w2.heap.size s pos (pos+(Utf8.decode s pos).2) hit
   have hbw2:=Lib.below_iterAt hbw (k:=w2.heap.size) (by omega) s (pos+(Utf8.decode s pos).2)
   clear hdd hne hlen
   have HST:=Lib.hid hst
   have HACC:=Lib.hid hacc
   have HIT:=Lib.hid hit
   clear hst hacc hit hown hbw
   obtain ⟨wi,hwi⟩:∃ wi,wi=wr.iterAt w2.heap.size s (pos+(Utf8.decode s pos).2):=⟨_,rfl⟩
   rw [← hwi] at hnx hown2 hit2 hbw2
   have hszi:=hbw2.size
   clear hwi
   go_wp2_with (at_builtin;refine wpList_append_own _ rfl (.tmp 14) (.tmp 17) 88 rfl w.heap.size 3 i0 _ 1 8 Tryz.underlying88 hi0 hz0 hz1 hz2 rfl (by omega) _ acc.length (ints acc) rfl (hown2.alloc _) ⟨wi.heap.size,0,none⟩ 1 1 [.int .i64 (Utf8.decode s pos).1] rfl rfl ?c1 ?c2 ?c3 ?c4 ?c5 ?_)
   case c1=>
    intro j u hj
    match j,hj with
    |0,hj=>simp at hj;subst hj;simp [Addr.add]
    |(j+1),hj=>simp at hj
   case c2=>intro u hu;simp at hu;subst hu;rfl
   case c3=>unfold maxLen;omega
   case c4=>omega
   case c5=>simp;omega
   intro v' w3 hown3 hgrow3 _
   have hit3:w3.heap[w2.heap.size]?=some (.stringIter s (pos+(Utf8.decode s pos).2)):=
    iter_grown (hown2.alloc _) ((Below.heap_alloc wi _ _ (Array.getElem?_eq_some_iff.1 hit2).1).trans hit2) hgrow3
   go_wp2
   go_roundw
   case rel=>
    refine ⟨pos+(Utf8.decode s pos).2,acc++[((Utf8.decode s pos).1:Int)],by omega,by simp;omega,hit3,?_,?_,?_⟩
    ·simpa [ints] using hown3
    ·exact (hbw2.alloc (by omega) _).grown hgrow3 (by simp;omega) (fun k hk=>(hown2.lt k hk).1)
    ·rw [← HACC.out,HST.out];simp
   case measure=>
    simp only [World.iterPos,hit3,HIT.out]
    omega
  ·have hnx:∀ ty,(Instr.next (.pointer (some ⟨w2.heap.size,0,none⟩)) true ty).run Tryz.prog wr=_:=fun ty=>Lib.run_next_end_at wr w2.heap.size s pos ty hit hp
   have HACC:=Lib.hid hacc
   clear hacc
   go_wp2
   go_ret
   have he:s.data.toList.drop pos=[]:=List.drop_eq_nil_of_le (by rw [Array.length_toList];exact Nat.le_of_not_lt hp)
   have hout:=HACC.out
   rw [he,signs_nil,List.append_nil] at hout
   subst hout
   exact ⟨_,rfl,hown,hbw⟩
end Go.Proofs.YtldcadpemnpbmaaGreatDoor
set_option linter.unusedVariables false
namespace Go.Proofs.YtldcadpemnpbmaaGreatDoor
open Go.RowKit
set_option maxHeartbeats 1000000 in
theorem sign_Letter (c:Int) (w:World):
  Calls Tryz.prog 244 #[.int .i64 c] w fun e w'=>e= .returned (.bool (isLetter c))∧w=w':=by
 go_enter Tryz.func244,Tryz.ntmps244
 go_wp2
 all_goals
  go_ret
  refine ⟨ret_bool ?_,rfl⟩
  rw [Bool.eq_iff_iff]
  simp [isLetter]
  try omega
set_option maxHeartbeats 1000000 in
theorem ref_Letter (c:Int) (w:World):
  Calls Tryz.prog 124 #[.int .i64 c] w fun e w'=>e= .returned (.bool (isLetter c))∧w=w':=by
 go_enter Tryz.func124,Tryz.ntmps124
 go_wp2
 all_goals
  go_ret
  refine ⟨ret_bool ?_,rfl⟩
  rw [Bool.eq_iff_iff]
  simp [isLetter]
  try omega
set_option maxHeartbeats 1000000 in
theorem sign_Digit (c:Int) (w:World):
  Calls Tryz.prog 245 #[.int .i64 c] w fun e w'=>e= .returned (.bool (isDigit c))∧w=w':=by
 go_enter Tryz.func245,Tryz.ntmps245
 go_wp2
 all_goals
  go_ret
  refine ⟨ret_bool ?_,rfl⟩
  rw [Bool.eq_iff_iff]
  simp [isDigit]
  try omega
set_option maxHeartbeats 1000000 in
theorem sign_Fold (c:Int) (w:World):
  Calls Tryz.prog 195 #[.int .i64 c] w fun e w'=>e= .returned (.int .i64 (fold c))∧w=w':=by
 go_enter Tryz.func195,Tryz.ntmps195
 go_wp2
 all_goals
  go_ret
  refine ⟨ret_int ?_,rfl⟩
  try simp only [bne_iff_ne,ne_eq,bne_eq_false_iff_eq] at*
  unfold fold
  split
  all_goals
   rename_i hu
   simp [isUpper] at hu
   try omega
set_option maxHeartbeats 1000000 in
theorem ref_Fold (c:Int) (w:World):
  Calls Tryz.prog 122 #[.int .i64 c] w fun e w'=>e= .returned (.int .i64 (fold c))∧w=w':=by
 go_enter Tryz.func122,Tryz.ntmps122
 go_wp2
 all_goals
  go_ret
  refine ⟨ret_int ?_,rfl⟩
  try simp only [bne_iff_ne,ne_eq,bne_eq_false_iff_eq] at*
  unfold fold
  split
  all_goals
   rename_i hu
   simp [isUpper] at hu
   try omega
set_option maxHeartbeats 1000000 in
theorem sign_whole (c:Int) (w:World):
  Calls Tryz.prog 315 #[.int .i64 c] w fun e w'=>e= .returned (.int .i32 (clamp c))∧w=w':=by
 go_enter Tryz.func315,Tryz.ntmps315
 go_wp2
 all_goals
  go_ret
  refine ⟨ret_int ?_,rfl⟩
  unfold clamp
  split
  all_goals
   rename_i hu
   simp [okSign] at hu
   try omega
end Go.Proofs.YtldcadpemnpbmaaGreatDoor
namespace Go.Proofs.YtldcadpemnpbmaaGreatDoor
open Go Go.RowKit
set_option linter.unusedVariables false
theorem clamp_bd (c:Int):0≤clamp c∧clamp c≤1114111:=by
 have :=(valid_iff _).1 (clamp_valid c)
 omega
theorem text_take {xs:List Int} {k:Nat} (hk:k<xs.length):text (xs.take (k+1))=text (xs.take k)++Lib.encodeRune (clamp xs[k]):=by
 rw [List.take_succ_eq_append_getElem hk,text_append,encode_clamp]
 simp [text]
theorem text_take_le (xs:List Int) (k:Nat):(text (xs.take k)).length≤4*k:=by
 have h1:=text_length (xs.take k)
 have h2:=List.length_take_le k xs
 omega
def TextRel (T E:TypeId) (w:World) (xs:List Int) (i:Value) (wr:World):Prop:=
 ∃ k:Nat,k≤xs.length∧i= .int .i64 k∧Lib.IsBuilderF T E w.heap.size w.heap.size (Lib.byteCells (text (xs.take k))) wr∧Below w.heap.size w wr∧w.heap.size<wr.heap.size
def GaveText (l:List UInt8) (w:World) (e:Ending) (w':World):Prop:=e= .returned (.string ⟨l.toArray⟩)∧Below w.heap.size w w'
set_option maxHeartbeats 1000000 in
set_option maxRecDepth 100000 in
theorem sign_Text (A:Option Addr) (c:Nat) (xs:List Int) (w:World) (hx:Row w w.heap.size A (ints xs)) (hl:xs.length≤1073741824):
  Calls Tryz.prog 292 #[.slice A xs.length c] w (GaveText (text xs) w):=by
 have HX:=Lib.hid hx
 clear hx
 go_enter Tryz.func292,Tryz.ntmps292
 go_wp2
 go_loopw [8] (fun i wr=>TextRel 265 5 w xs i wr) (fun i _=>xs.length-(intOf i).toNat)
 case atStart=>exact ⟨0,Nat.zero_le _,rfl,Lib.IsBuilderF.of (Lib.fresh_isBuilder _ _ w),(Below.refl _ w).alloc (Nat.le_refl _) _,by simp⟩
 case round=>
  obtain ⟨k,hk,rfl,hI,hbw,hsz⟩:=hrel
  by_cases hlt:k<xs.length
  ·obtain ⟨b1,o1,e1,_,hc1⟩:=row_int (HX.out.below hbw) hlt
   subst e1
   have htk:=text_take hlt
   have hlen:=text_take_le xs k
   obtain ⟨x,hx⟩:∃ x,x=xs[k]:=⟨_,rfl⟩
   rw [← hx] at hc1 htk
   clear hx
   have HTK:=Lib.hid htk
   clear htk
   obtain ⟨hcl0,hcl1⟩:=clamp_bd x
   go_wp2_with (go_at_call 315;refine (sign_whole x _).mono ?_)
   rintro e w' ⟨rfl,rfl⟩
   go_wp2_with (go_at_call 314;refine (builder_WriteRune w.heap.size w.heap.size _ _ (by omega) (by omega) _ hI (by rw [Lib.byteCells_length];omega) (by omega)).mono ?_)
   rintro e W1 ⟨rfl,h1,b1,k1⟩
   go_wp2
   go_roundw
   case rel=>
    refine ⟨k+1,by omega,by go_num,?_,hbw.trans b1,by have :=b1.size;omega⟩
    rw [HTK.out,Lib.byteCells_append,Lib.byteCells_encodeRune]
    exact Or.inr h1
   case measure=>simp [intOf];omega
  ·go_wp2_with (go_at_call 200;refine (builder_String w.heap.size w.heap.size _ _ hI (by omega)).mono ?_)
   rintro e W1 ⟨rfl,_,b1,_⟩
   go_wp2
   go_ret
   rw [List.take_of_length_le (by omega)]
   exact ⟨rfl,hbw.trans b1⟩
end Go.Proofs.YtldcadpemnpbmaaGreatDoor
namespace Go.Proofs.YtldcadpemnpbmaaGreatDoor
open Go Go.RowKit
set_option linter.unusedVariables false
theorem run_string_rt {P:Program} {w:World} {B:Nat} {A:Option Addr} {l:List UInt8} (h:Row w B A (Lib.byteCells l)) (src dst e:TypeId) (c:Nat)
  (hs:P.underlying src=some (.slice e)) (he:P.underlying e=some (.int .u8)) (hd:P.underlying dst=some .string):
  (convert src dst (.slice A l.length c)).run P w= .ok (.string ⟨l.toArray⟩) w:=by
 by_cases h0:l=[]
 ·subst h0
  rcases A with _|a
  ·exact run_convert_bytes_nil w src e hs he 0 c dst hd
  ·exact run_convert_bytes_back w src dst e a c [] hs he hd (fun j hj=>absurd hj (by simp))
 ·have hpos:0<l.length:=List.length_pos_iff.2 h0
  obtain ⟨b,off,rfl,_,hc⟩:=h.at_ (by rw [Lib.byteCells_length];exact hpos)
  refine run_convert_bytes_back w src dst e _ c l hs he hd (fun j hj=> ?_)
  rw [Addr.add_lit]
  exact hc j _ (by simp [Lib.byteCells,hj])
theorem info_byte_rt:(Tryz.prog.info? 5).map (fun i=>(i.zero,i.size,i.bytes))=some (some (.int .u8 0),1,1):=by kernel_rfl
def RefTextRel (w:World) (xs:List Int) (o i:Value) (wr:World):Prop:=
 ∃ k:Nat,k≤xs.length∧i= .int .i64 k∧wr.ownsRow w.heap.size 5 1 o (text (xs.take k)).length (Lib.byteCells (text (xs.take k)))∧Below w.heap.size w wr
theorem text_next {xs:List Int} {k:Nat} (hk:k<xs.length) {bs:List Int} (h:Lib.encodeRuneZ xs[k]=bs):
  (text (xs.take (k+1))).length=(text (xs.take k)).length+bs.length∧Lib.byteCells (text (xs.take (k+1)))=Lib.byteCells (text (xs.take k))++bs.map (Value.int .u8):=by
 have e:text (xs.take (k+1))=text (xs.take k)++Lib.encodeRune xs[k]:=by rw [text_take hk,encode_clamp]
 refine ⟨?_,?_⟩
 ·rw [e,List.length_append,Lib.encodeRune,List.length_map,h]
 ·rw [e,Lib.byteCells_append,Lib.byteCells_encodeRune,Lib.runeCells,h]
set_option maxHeartbeats 4000000 in
set_option maxRecDepth 100000 in
theorem ref_Text (A:Option Addr) (c:Nat) (xs:List Int) (w:World) (hx:Row w w.heap.size A (ints xs)) (hl:xs.length≤1073741824):
  Calls Tryz.prog 123 #[.slice A xs.length c] w (GaveText (text xs) w):=by
 obtain ⟨i0,hi0,hz0,hz1,hz2⟩:=info_parts info_byte_rt
 have HX:=Lib.hid hx
 clear hx
 go_enter Tryz.func123,Tryz.ntmps123
 go_wp2
 go_loopw [3,4] (fun o i wr=>RefTextRel w xs o i wr) (fun _ i _=>xs.length-(intOf i).toNat)
 case atStart=>exact ⟨0,Nat.zero_le _,rfl,World.ownsRow_nil _ _ _ _,Below.refl _ w⟩
 case round=>
  obtain ⟨k,hk,rfl,hown,hbw⟩:=hrel
  have hsz:=hbw.size
  by_cases hlt:k<xs.length
  ·obtain ⟨b1,o1,e1,_,hc1⟩:=row_int (HX.out.below hbw) hlt
   subst e1
   have hlen:=text_take_le xs k
   have HN:=Lib.hid (fun bs=>text_next hlt (bs:=bs))
   obtain ⟨x,hx⟩:∃ x,x=xs[k]:=⟨_,rfl⟩
   rw [← hx] at hc1 HN
   clear hx
   obtain ⟨m,hm⟩:∃ m,m=(text (xs.take k)).length:=⟨_,rfl⟩
   obtain ⟨cs,hcs⟩:∃ cs,cs=Lib.byteCells (text (xs.take k)):=⟨_,rfl⟩
   rw [← hm] at hown hlen HN
   rw [← hcs] at hown HN
   clear hm hcs
   have hxr:Hid True:=Lib.hid trivial
   by_cases c_neg:x<0
   ·skip
    obtain ⟨hn1,hn2⟩:=HN.out [239,191,189] (Lib.encodeRuneZ_bad (by omega))
    have HN1:=Lib.hid hn1
    have HN2:=Lib.hid hn2
    clear hn1 hn2 HN
    go_wp2_with (at_builtin;refine wpList_append_own _ rfl (.tmp 52) (.tmp 66) 231 rfl w.heap.size 5 i0 _ 1 1 Tryz.underlying231 hi0 hz0 hz1 hz2 rfl (by omega) _ m cs rfl (hown.alloc _) ⟨wr.heap.size,0,none⟩ 3 3 (List.map (Value.int .u8) [239,191,189]) rfl rfl (news_at _ _ _) (ints_oneCell _ _) (by unfold maxLen;omega) (by omega) (by simp;omega) ?_)
    intro v' w3 hown3 hgrow3 _
    go_wp2
    go_roundw
    case rel=>
     refine ⟨k+1,by omega,by go_num,?_,(hbw.alloc (by omega) _).grown hgrow3 (by simp;omega) (fun k hk=>(hown.lt k hk).1)⟩
     rw [HN1.out,HN2.out]
     exact hown3
    case measure=>simp [intOf];omega
   by_cases c_one:x≤127
   ·skip
    obtain ⟨hn1,hn2⟩:=HN.out [x] (Lib.encodeRuneZ_one (by omega) (by omega))
    have HN1:=Lib.hid hn1
    have HN2:=Lib.hid hn2
    clear hn1 hn2 HN
    go_wp2_with (at_builtin;refine wpList_append_own _ rfl (.tmp 32) (.tmp 35) 231 rfl w.heap.size 5 i0 _ 1 1 Tryz.underlying231 hi0 hz0 hz1 hz2 rfl (by omega) _ m cs rfl (hown.alloc _) ⟨wr.heap.size,0,none⟩ 1 1 (List.map (Value.int .u8) [x]) rfl rfl (news_at _ _ _) (ints_oneCell _ _) (by unfold maxLen;omega) (by omega) (by simp;omega) ?_)
    intro v' w3 hown3 hgrow3 _
    go_wp2
    go_roundw
    case rel=>
     refine ⟨k+1,by omega,by go_num,?_,(hbw.alloc (by omega) _).grown hgrow3 (by simp;omega) (fun k hk=>(hown.lt k hk).1)⟩
     rw [HN1.out,HN2.out]
     exact hown3
    case measure=>simp [intOf];omega
   by_cases c_two:x≤2047
   ·skip
    obtain ⟨hn1,hn2⟩:=HN.out [192+x/64,128+x%64] (Lib.encodeRuneZ_two (by omega) (by omega))
    have HN1:=Lib.hid hn1
    have HN2:=Lib.hid hn2
    clear hn1 hn2 HN
    go_wp2_with (at_builtin;refine wpList_append_own _ rfl (.tmp 39) (.tmp 48) 231 rfl w.heap.size 5 i0 _ 1 1 Tryz.underlying231 hi0 hz0 hz1 hz2 rfl (by omega) _ m cs rfl (hown.alloc _) ⟨wr.heap.size,0,none⟩ 2 2 (List.map (Value.int .u8) [192+x/64,128+x%64]) rfl rfl (news_at _ _ _) (ints_oneCell _ _) (by unfold maxLen;omega) (by omega) (by simp;omega) ?_)
    intro v' w3 hown3 hgrow3 _
    go_wp2
    go_roundw
    case rel=>
     refine ⟨k+1,by omega,by go_num,?_,(hbw.alloc (by omega) _).grown hgrow3 (by simp;omega) (fun k hk=>(hown.lt k hk).1)⟩
     rw [HN1.out,HN2.out]
     exact hown3
    case measure=>simp [intOf];omega
   by_cases c_three:x<55296
   ·skip
    obtain ⟨hn1,hn2⟩:=HN.out [224+x/4096,128+x/64%64,128+x%64] (Lib.encodeRuneZ_three (by omega))
    have HN1:=Lib.hid hn1
    have HN2:=Lib.hid hn2
    clear hn1 hn2 HN
    go_wp2_with (at_builtin;refine wpList_append_own _ rfl (.tmp 52) (.tmp 66) 231 rfl w.heap.size 5 i0 _ 1 1 Tryz.underlying231 hi0 hz0 hz1 hz2 rfl (by omega) _ m cs rfl (hown.alloc _) ⟨wr.heap.size,0,none⟩ 3 3 (List.map (Value.int .u8) [224+x/4096,128+x/64%64,128+x%64]) rfl rfl (news_at _ _ _) (ints_oneCell _ _) (by unfold maxLen;omega) (by omega) (by simp;omega) ?_)
    intro v' w3 hown3 hgrow3 _
    go_wp2
    go_roundw
    case rel=>
     refine ⟨k+1,by omega,by go_num,?_,(hbw.alloc (by omega) _).grown hgrow3 (by simp;omega) (fun k hk=>(hown.lt k hk).1)⟩
     rw [HN1.out,HN2.out]
     exact hown3
    case measure=>simp [intOf];omega
   by_cases c_sur:x≤57343
   ·skip
    obtain ⟨hn1,hn2⟩:=HN.out [239,191,189] (Lib.encodeRuneZ_bad (by omega))
    have HN1:=Lib.hid hn1
    have HN2:=Lib.hid hn2
    clear hn1 hn2 HN
    go_wp2_with (at_builtin;refine wpList_append_own _ rfl (.tmp 52) (.tmp 66) 231 rfl w.heap.size 5 i0 _ 1 1 Tryz.underlying231 hi0 hz0 hz1 hz2 rfl (by omega) _ m cs rfl (hown.alloc _) ⟨wr.heap.size,0,none⟩ 3 3 (List.map (Value.int .u8) [239,191,189]) rfl rfl (news_at _ _ _) (ints_oneCell _ _) (by unfold maxLen;omega) (by omega) (by simp;omega) ?_)
    intro v' w3 hown3 hgrow3 _
    go_wp2
    go_roundw
    case rel=>
     refine ⟨k+1,by omega,by go_num,?_,(hbw.alloc (by omega) _).grown hgrow3 (by simp;omega) (fun k hk=>(hown.lt k hk).1)⟩
     rw [HN1.out,HN2.out]
     exact hown3
    case measure=>simp [intOf];omega
   by_cases c_three2:x≤65535
   ·skip
    obtain ⟨hn1,hn2⟩:=HN.out [224+x/4096,128+x/64%64,128+x%64] (Lib.encodeRuneZ_three (by omega))
    have HN1:=Lib.hid hn1
    have HN2:=Lib.hid hn2
    clear hn1 hn2 HN
    go_wp2_with (at_builtin;refine wpList_append_own _ rfl (.tmp 52) (.tmp 66) 231 rfl w.heap.size 5 i0 _ 1 1 Tryz.underlying231 hi0 hz0 hz1 hz2 rfl (by omega) _ m cs rfl (hown.alloc _) ⟨wr.heap.size,0,none⟩ 3 3 (List.map (Value.int .u8) [224+x/4096,128+x/64%64,128+x%64]) rfl rfl (news_at _ _ _) (ints_oneCell _ _) (by unfold maxLen;omega) (by omega) (by simp;omega) ?_)
    intro v' w3 hown3 hgrow3 _
    go_wp2
    go_roundw
    case rel=>
     refine ⟨k+1,by omega,by go_num,?_,(hbw.alloc (by omega) _).grown hgrow3 (by simp;omega) (fun k hk=>(hown.lt k hk).1)⟩
     rw [HN1.out,HN2.out]
     exact hown3
    case measure=>simp [intOf];omega
   by_cases c_four:x≤1114111
   ·skip
    obtain ⟨hn1,hn2⟩:=HN.out [240+x/262144,128+x/4096%64,128+x/64%64,128+x%64] (Lib.encodeRuneZ_four (by omega) (by omega))
    have HN1:=Lib.hid hn1
    have HN2:=Lib.hid hn2
    clear hn1 hn2 HN
    go_wp2_with (at_builtin;refine wpList_append_own _ rfl (.tmp 68) (.tmp 87) 231 rfl w.heap.size 5 i0 _ 1 1 Tryz.underlying231 hi0 hz0 hz1 hz2 rfl (by omega) _ m cs rfl (hown.alloc _) ⟨wr.heap.size,0,none⟩ 4 4 (List.map (Value.int .u8) [240+x/262144,128+x/4096%64,128+x/64%64,128+x%64]) rfl rfl (news_at _ _ _) (ints_oneCell _ _) (by unfold maxLen;omega) (by omega) (by simp;omega) ?_)
    intro v' w3 hown3 hgrow3 _
    go_wp2
    go_roundw
    case rel=>
     refine ⟨k+1,by omega,by go_num,?_,(hbw.alloc (by omega) _).grown hgrow3 (by simp;omega) (fun k hk=>(hown.lt k hk).1)⟩
     rw [HN1.out,HN2.out]
     exact hown3
    case measure=>simp [intOf];omega
   ·skip
    obtain ⟨hn1,hn2⟩:=HN.out [239,191,189] (Lib.encodeRuneZ_bad (by omega))
    have HN1:=Lib.hid hn1
    have HN2:=Lib.hid hn2
    clear hn1 hn2 HN
    go_wp2_with (at_builtin;refine wpList_append_own _ rfl (.tmp 52) (.tmp 66) 231 rfl w.heap.size 5 i0 _ 1 1 Tryz.underlying231 hi0 hz0 hz1 hz2 rfl (by omega) _ m cs rfl (hown.alloc _) ⟨wr.heap.size,0,none⟩ 3 3 (List.map (Value.int .u8) [239,191,189]) rfl rfl (news_at _ _ _) (ints_oneCell _ _) (by unfold maxLen;omega) (by omega) (by simp;omega) ?_)
    intro v' w3 hown3 hgrow3 _
    go_wp2
    go_roundw
    case rel=>
     refine ⟨k+1,by omega,by go_num,?_,(hbw.alloc (by omega) _).grown hgrow3 (by simp;omega) (fun k hk=>(hown.lt k hk).1)⟩
     rw [HN1.out,HN2.out]
     exact hown3
    case measure=>simp [intOf];omega
  ·have hkx:k=xs.length:=by omega
   subst hkx
   rw [List.take_length] at hown
   obtain ⟨A2,c2,rfl,_,hrow⟩:=owned_row hown
   have hconv:=run_string_rt hrow 231 9 5 c2 Tryz.underlying231 Tryz.underlying5 Tryz.underlying9
   clear hrow hown
   go_wp2
   go_ret
   exact ⟨rfl,hbw⟩
theorem ref_Text_at (A:Option Addr) (n c:Nat) (xs:List Int) (w:World) (hn:xs.length=n) (hx:Row w w.heap.size A (ints xs)) (hl:n≤1073741824):
  Calls Tryz.prog 123 #[.slice A n c] w (GaveText (text xs) w):=by
 subst hn
 exact ref_Text A c xs w hx hl
end Go.Proofs.YtldcadpemnpbmaaGreatDoor
