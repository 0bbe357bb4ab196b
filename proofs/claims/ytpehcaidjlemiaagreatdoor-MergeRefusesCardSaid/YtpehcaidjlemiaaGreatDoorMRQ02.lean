import Derived.Test.YtpehcaidjlemiaaGreatDoorMRZz
import Derived.Test.YtpehcaidjlemiaaGreatDoorMRQ01
import Derived.Test.YtpehcaidjlemiaaGreatDoorRows
import Derived.Deep.Grids
import Derived.Lib.LaidTab
import Derived.MakeChecks
import Derived.Shelf.Strings.Builder2
import Derived.Shelf.Strings.BuilderK
import Derived.Shelf.Strings.BuilderRune
import Derived.Shelf.Utf8.RuneCount
import Derived.Test.YtpehcaidjlemiaaGreatDoorProg
import Derived.Lib.RuneBytes
import Derived.Lib.RuneCount
import Derived.Lib.Hide
import Derived.BigCall
import Derived.WalkKit
import Derived.Laws.IdiomStrings
import Derived.Laws.BytesArg
set_option maxHeartbeats 4000000
set_option maxRecDepth 100000
set_option linter.unusedVariables false
namespace Go.Proofs.YtpehcaidjlemiaaGreatDoor
open Go Go.RowKit
open Plain (Wd WS Rep qfZ qgI getW qfX qfr ones qgG qgH qdf pop qqy)
def qba (w:World) (base B:Nat) (r:List Bool):Prop:=∃ ws,qbp w base B r.length ws/\Rep r ws
theorem qba.below {w w':World} {base B:Nat} {r:List Bool} (h:qba w base B r) (hb:Below w.heap.size w w'):qba w' base B r:=by
 obtain ⟨ws,h1,h2⟩:=h;exact ⟨ws,h1.below hb,h2⟩
theorem qqz (base B n:Nat) (ws:List Wd) (w:World) (h:qbp w base B n ws):
  Calls Tryz.prog 80 #[.pointer (some ⟨B,0,none⟩)] w fun e w'=>e= .returned (.int .i64 n)/\w=w':=by
 obtain ⟨A,c,c0,c1,hc,hr⟩:=h.read;clear hr h hc c1
 go_enter Tryz.func80,Tryz.ntmps80
 go_wp2;go_ret;exact ⟨rfl,rfl⟩
def qqA (ws:List Wd) (s t:Value):Prop:=∃ k:Nat,k<=ws.length/\t= .int .i64 k/\s= .int .i64 (qdf (ws.take k):Nat)
theorem qqB (A:Option Addr) (n c:Nat) (ws:List Wd) (w:World) (hn:ws.length=n) (hr:Row w w.heap.size A (qaB ws)) (hl:ws.length<=33554432) (hf:∀ p∈ws,p.2<18446744073709551616):
  Calls Tryz.prog 168 #[.slice A n c] w fun e w'=>e= .returned (.int .i64 (qdf ws:Nat))/\w=w':=by
 subst hn;have HR:=qH hr;have HF:=qH hf;clear hr hf
 go_enter Tryz.func168,Tryz.ntmps168
 go_wp2
 go_loop [3,7] (qqA ws) (fun _ k=>ws.length-(intOf k).toNat)
 case atStart=>exact ⟨0,Nat.zero_le _,rfl,rfl⟩
 case round=>
  obtain ⟨k,hk,rfl,rfl⟩:=hrel;by_cases hlt:k<ws.length
  ·obtain ⟨b1,o1,e1,hb1,hc1,hc2⟩:=qkQ HR.out hlt
   subst e1;have hs:=Plain.countW_take hlt;have hle:=Plain.countW_le (ws.take k);rw [List.length_take,Nat.min_eq_left hk] at hle;have hp:=Plain.pop_le (ws[k]'hlt).2;have hfit:=HF.out _ (List.getElem_mem hlt);obtain ⟨p,hpp⟩:∃ p,p=ws[k]'hlt:=⟨_,rfl⟩;rw [<- hpp] at hc1 hc2 hs hp hfit;clear hpp;have HS:=qH hs;clear hs;obtain ⟨s,hse⟩:∃ s,s=qdf (ws.take k):=⟨_,rfl⟩;rw [<- hse] at hle HS ⊢;have HE:=qH hse;clear hse;have HO:=qH (qqm p.2 w hfit);obtain ⟨q,hq⟩:∃ q,q=pop p.2:=⟨_,rfl⟩;rw [<- hq] at HO HS hp;clear hq
   go_wp2_with (go_at_call 207;refine HO.out.mono ?_;rintro e w' ⟨rfl,rfl⟩)
   go_round
   case rel=>exact ⟨k+1,by omega,by go_num,by rw [HS.out];go_num⟩
   case measure=>simp [intOf];omega
  ·obtain rfl:k=ws.length:=by omega
   go_wp2;go_ret;exact ⟨by first|rfl|(rw [List.take_length];rfl),rfl⟩
theorem qqC (base B n:Nat) (ws:List Wd) (w:World) (h:qbp w base B n ws) (hw:WS n ws) (hn:n<=big):
  Calls Tryz.prog 129 #[.pointer (some ⟨B,0,none⟩)] w fun e w'=>e= .returned (.int .i64 (qdf ws:Nat))/\w=w':=by
 obtain ⟨A,c,c0,c1,hc,hr⟩:=h.read;have hl:=(qgK hw hn).1;have HC:=qH (qqB A ws.length c ws w rfl hr (by omega) hw.fits);clear hr h hc hw
 go_enter Tryz.func129,Tryz.ntmps129
 go_wp2_with (go_at_call 168;refine HC.out.mono ?_;rintro e w' ⟨rfl,rfl⟩)
 go_ret;exact ⟨rfl,rfl⟩
def qqD (n:Int) (w:World) (e:Ending) (w':World):Prop:=e= .returned (.int .i64 n)/\Below w.heap.size w w'
theorem qqE (base B:Nat) (r:List Bool) (w:World) (h:qba w base B r) (hn:r.length<=big):
  Calls Tryz.prog 129 #[.pointer (some ⟨B,0,none⟩)] w fun e w'=>e= .returned (.int .i64 ((ones r).length:Nat))/\w=w':=by
 obtain ⟨ws,hs,hrep⟩:=h;rw [<- hrep.count];exact qqC base B r.length ws w hs hrep.wds hn
theorem qqF (base B:Nat) (r:List Bool) (w:World) (h:qba w base B r):
  Calls Tryz.prog 80 #[.pointer (some ⟨B,0,none⟩)] w fun e w'=>e= .returned (.int .i64 (r.length:Nat))/\w=w':=by
 obtain ⟨ws,hs,hrep⟩:=h;exact qqz base B r.length ws w hs
theorem Tab.drewN {w:World} (h:Tab w) (n:Nat):Tab (w.drewN n):=fun j hj=>h j hj
theorem Tab.alloc {w:World} (h:Tab w) (o:Obj):Tab (w.alloc o):=h.below ((Below.refl _ _).alloc (Nat.le_refl _) _) h.lt
theorem qqG (a y:Nat) (w:World) (ha:a<=33554432) (hy:y<18446744073709551616) (h0:y≠0) (hT:Tab w):
  Calls Tryz.prog 171 #[.agg #[.int .i64 a,.int .u64 y]] w (qqD ((a*64+Lib.ctz 64 y:Nat):Int) w):=by
 have hk:=(Plain.ctz_bit hy h0).choose_spec.2;have HT:=qH (fun w hT=>(qqq y hy h0 w hT).mono fun _ _ h=>And.intro h.1 h.2.symm);have HTB:=qH (hT.alloc (.cells #[.int .i64 a,.int .u64 y] 104));obtain ⟨z,hz⟩:∃ z,z=Lib.ctz 64 y:=⟨_,rfl⟩;rw [<- hz] at HT hk ⊢;have e0:((a*64+z:Nat):Int)=(a:Int)*64+(z:Int):=by omega
 rw [e0];clear hz hT e0 hy;have e1:IntKind.i64.wrap ((a:Int)*64)=(a:Int)*64:=by rw [IntKind.wrap_i64];omega
 have e2:IntKind.i64.wrap ((a:Int)*64+(z:Int))=(a:Int)*64+(z:Int):=by rw [IntKind.wrap_i64];omega
 go_enter Tryz.func171,Tryz.ntmps171
 go_wp2
 go_quiet ((go_at_call 209;exact Calls.quiet_of_same (HT.out _ (HTB.out.drewN _))))
 go_wp2;go_ret;exact ⟨rfl,((Below.refl _ _).alloc (Nat.le_refl _) _).trans ⟨rfl,rfl,rfl,Nat.le_refl _,fun _ _=>rfl⟩⟩
open Plain (qfX qfr qgE qgF ones qgG qgH)
def qkU (r:List Bool):List Value:=r.map Value.bool
theorem qzc (r:List Bool):∀ u∈qkU r,u.oneCell'=true:=by
 intro u hu;simp only [qkU,List.mem_map] at hu;obtain ⟨b,_,rfl⟩:=hu;rfl
def qdg (l:List Nat):List Value:=l.map fun (k:Nat)=>Value.int .i64 (k:Int)
theorem qqH (a b:List Nat):qdg (a++b)=qdg a++qdg b:=by simp [qdg]
theorem qqI (l:List Nat):∀ u∈qdg l,u.oneCell'=true:=by
 intro u hu;simp only [qdg,List.mem_map] at hu;obtain ⟨b,_,rfl⟩:=hu;rfl
def qkV (l:List Nat) (w:World) (e:Ending) (w':World):Prop:=∃ v,e= .returned v/\w'.ownsRow w.heap.size 3 1 v l.length (qdg l)/\Below w.heap.size w w'
theorem qqJ:(Tryz.prog.info? 3).map (fun i=>(i.zero,i.size,i.bytes))=some (some (.int .i64 0),1,8):=by kernel_rfl
open Go.Deep Go.ChangeShapes Go.WideShapes
def qfu:List (String × DataW Unit):=[("math/bits.deBruijn64tab",Rows.laid_math_bits_deBruijn64tab)]
def qgL:List Int:=Lib.deBruijn64tab.map fun (n:Nat)=>(n:Int)
theorem qqK:(Rows.laid_math_bits_deBruijn64tab:DataW Unit)=Lib.tabData .u8 qgL:=by
 simp [Rows.laid_math_bits_deBruijn64tab,Lib.tabData,qgL,Lib.deBruijn64tab]
theorem qkW:Tryz.prog.globalNamed "math/bits.deBruijn64tab" =some 0:=by kernel_rfl
theorem qqL {W:World} (h:laidMetH Tryz.prog qfu W):Tab W:=by
 rw [MakeChecks.laidMetH_plain _ _ _ (by kernel_rfl)] at h;unfold qfu at h;rw [qqK] at h;have hT:=Lib.tabIs_of_head (t:=323) (e:=5) (n:=64) qkW (by kernel_rfl) Tryz.underlying323 Tryz.underlying5 (by kernel_rfl) (by kernel_rfl) h;intro j hj;have hc:=hT.cell qkW j (by unfold qgL;rw [List.length_map];exact hj);rw [hc];congr 2;unfold qgL;rw [List.getD_eq_getElem?_getD,List.getD_eq_getElem?_getD,List.getElem?_map];rw [List.getElem?_eq_getElem hj];rfl
open Go.Shelf
def qqM:Go.Shelf.Ren:=⟨fun |195=>226|n=>n,fun |0=>0|3=>3|4=>4|9=>9|n=>n,fun |n=>n⟩
theorem qqN:Lays.n195 Tryz.prog qqM:={
 mixed:=by kernel_rfl
 f195:=Tryz.func226.trans (congrArg some (by kernel_rfl))
 t0:=Tryz.underlying0
 a0:=Tryz.isAgg0
 z0:=Tryz.sizeOf0
 v0:=Tryz.zeroValue0
 t3:=Tryz.underlying3
 a3:=Tryz.isAgg3
 z3:=Tryz.sizeOf3
 v3:=Tryz.zeroValue3
 t4:=Tryz.underlying4
 a4:=Tryz.isAgg4
 z4:=Tryz.sizeOf4
 v4:=Tryz.zeroValue4
 t9:=Tryz.underlying9
 a9:=Tryz.isAgg9
 z9:=Tryz.sizeOf9
 v9:=Tryz.zeroValue9}
def qkX:Go.Shelf.Ren:=⟨fun |169=>245|n=>n,fun |0=>0|3=>3|5=>5|9=>9|37=>178|70=>331|72=>333|127=>346|n=>n,fun |n=>n⟩
theorem qqO:Lays.n169 Tryz.prog qkX:={
 mixed:=by kernel_rfl
 f169:=Tryz.func245.trans (congrArg some (by kernel_rfl))
 t0:=Tryz.underlying0
 a0:=Tryz.isAgg0
 z0:=Tryz.sizeOf0
 v0:=Tryz.zeroValue0
 t3:=Tryz.underlying3
 a3:=Tryz.isAgg3
 z3:=Tryz.sizeOf3
 v3:=Tryz.zeroValue3
 t9:=Tryz.underlying9
 a9:=Tryz.isAgg9
 z9:=Tryz.sizeOf9
 v9:=Tryz.zeroValue9
 t37:=Tryz.underlying178
 a37:=Tryz.isAgg178
 z37:=Tryz.sizeOf178
 v37:=Tryz.zeroValue178
 t70:=Tryz.underlying331
 a70:=Tryz.isAgg331
 z70:=Tryz.sizeOf331
 v70:=Tryz.zeroValue331
 t72:=Tryz.underlying333
 a72:=Tryz.isAgg333
 z72:=Tryz.sizeOf333
 v72:=Tryz.zeroValue333
 t127:=Tryz.underlying346
 a127:=Tryz.isAgg346
 z127:=Tryz.sizeOf346
 v127:=Tryz.zeroValue346}
theorem qqP:Builder.Extra Tryz.prog qkX:={
 sizeBuilder:=by kernel_rfl
 liesBuilder:=by kernel_rfl
 t5:=Tryz.underlying5
 a5:=Tryz.isAgg5
 z5:=Tryz.sizeOf5
 v5:=Tryz.zeroValue5
 infoByte:=by kernel_rfl
 cellsByte:=by kernel_rfl
 sizeByte:=by kernel_rfl
 neB5:=by decide}
def qkY:Go.Shelf.Ren:=⟨fun |168=>243|240=>252|242=>253|276=>255|278=>256|n=>n,fun |0=>0|3=>3|4=>4|5=>5|9=>9|20=>20 |21=>21|37=>178|46=>260|51=>297|70=>331|72=>333|75=>335|80=>339|164=>348|n=>n,fun |n=>n⟩
theorem qqQ:Lays.n168 Tryz.prog qkY:={
 mixed:=by kernel_rfl
 f168:=Tryz.func243.trans (congrArg some (by kernel_rfl))
 f240:=Tryz.func252.trans (congrArg some (by kernel_rfl))
 f242:=Tryz.func253.trans (congrArg some (by kernel_rfl))
 f276:=Tryz.func255.trans (congrArg some (by kernel_rfl))
 f278:=Tryz.func256.trans (congrArg some (by kernel_rfl))
 t0:=Tryz.underlying0
 a0:=Tryz.isAgg0
 z0:=Tryz.sizeOf0
 v0:=Tryz.zeroValue0
 t3:=Tryz.underlying3
 a3:=Tryz.isAgg3
 z3:=Tryz.sizeOf3
 v3:=Tryz.zeroValue3
 t4:=Tryz.underlying4
 a4:=Tryz.isAgg4
 z4:=Tryz.sizeOf4
 v4:=Tryz.zeroValue4
 t5:=Tryz.underlying5
 a5:=Tryz.isAgg5
 z5:=Tryz.sizeOf5
 v5:=Tryz.zeroValue5
 t9:=Tryz.underlying9
 a9:=Tryz.isAgg9
 z9:=Tryz.sizeOf9
 v9:=Tryz.zeroValue9
 t20:=Tryz.underlying20
 a20:=Tryz.isAgg20
 z20:=Tryz.sizeOf20
 v20:=Tryz.zeroValue20
 t21:=Tryz.underlying21
 a21:=Tryz.isAgg21
 z21:=Tryz.sizeOf21
 v21:=Tryz.zeroValue21
 t37:=Tryz.underlying178
 a37:=Tryz.isAgg178
 z37:=Tryz.sizeOf178
 v37:=Tryz.zeroValue178
 t46:=Tryz.underlying260
 a46:=Tryz.isAgg260
 z46:=Tryz.sizeOf260
 v46:=Tryz.zeroValue260
 t51:=Tryz.underlying297
 a51:=Tryz.isAgg297
 z51:=Tryz.sizeOf297
 v51:=Tryz.zeroValue297
 t70:=Tryz.underlying331
 a70:=Tryz.isAgg331
 z70:=Tryz.sizeOf331
 v70:=Tryz.zeroValue331
 t72:=Tryz.underlying333
 a72:=Tryz.isAgg333
 z72:=Tryz.sizeOf333
 v72:=Tryz.zeroValue333
 t75:=Tryz.underlying335
 a75:=Tryz.isAgg335
 z75:=Tryz.sizeOf335
 v75:=Tryz.zeroValue335
 t164:=Tryz.underlying348
 a164:=Tryz.isAgg348
 z164:=Tryz.sizeOf348
 v164:=Tryz.zeroValue348}
theorem qqR:Builder.Extra Tryz.prog qkY:={
 sizeBuilder:=by kernel_rfl
 liesBuilder:=by kernel_rfl
 t5:=Tryz.underlying5
 a5:=Tryz.isAgg5
 z5:=Tryz.sizeOf5
 v5:=Tryz.zeroValue5
 infoByte:=by kernel_rfl
 cellsByte:=by kernel_rfl
 sizeByte:=by kernel_rfl
 neB5:=by decide}
theorem qqS (s:ByteArray) (w:World) (hs:s.size<9223372036854775807):
  Calls Tryz.prog 226 #[.string s] w fun e w'=>e= .returned (.int .i64 (Lib.runeCount s))/\∃ pos,w'=w.iter s pos:=Any.utf8_RuneCountInString qqN s w hs
theorem qqT (B b:Nat) (l:List UInt8) (w:World) (h:Lib.IsBuilderF 333 5 B b (Lib.byteCells l) w) (hBw:B<=w.heap.size):
  Calls Tryz.prog 245 #[.pointer (some ⟨b,0,none⟩)] w fun e w'=>e= .returned (.string ⟨l.toArray⟩)/\(Lib.IsBuilderF 333 5 B b (Lib.byteCells l) w'/\Below B w w'/\Lib.OthersKept 5 (some b) w w'):=Any.Builder_String_any_k qqO qqP B b l w h hBw
theorem qqU (B b:Nat) (bs:List Value) (r:Int) (hr0: -2147483648<=r) (hr1:r<=2147483647) (w:World) (h:Lib.IsBuilderF 333 5 B b bs w) (hlen:bs.length+4<=140737488355328) (hBw:B<=w.heap.size):
  Calls Tryz.prog 243 #[.pointer (some ⟨b,0,none⟩),.int .i32 r] w fun e w'=>e= .returned (.tuple #[.int .i64 (Lib.runeCells r).length,.nilIface])/\(Lib.BuilderAtF 333 5 B b (.pointer (some ⟨b,0,none⟩)) (bs++Lib.runeCells r) w'/\Below B w w'/\Lib.OthersKept 5 (some b) w w'):=Any.Builder_WriteRune_k qqQ qqR B b bs r hr0 hr1 w h hlen hBw
def dec (l:List UInt8):Nat × Nat:=
 let at' (k:Nat):Nat:=(l.getD k 0).toNat
 let cont (k:Nat):Bool:=k<l.length&&at' k/64==2
 let b0:=at' 0
 if b0<0x80 then (b0,1)
 else if b0/32==6&&cont 1 then
  let c:=(b0%32)*64+at' 1%64
  if c≥0x80 then (c,2) else (65533,1)
 else if b0/16==14&&cont 1&&cont 2 then
  let c:=(b0%16)*4096+(at' 1%64)*64+at' 2%64
  if c≥0x800&&Utf8.valid c then (c,3) else (65533,1)
 else if b0/8==30&&cont 1&&cont 2&&cont 3 then
  let c:=(b0%8)*262144+(at' 1%64)*4096+(at' 2%64)*64+at' 3%64
  if c≥0x10000&&Utf8.valid c then (c,4) else (65533,1)
 else (65533,1)
theorem qqV (s:ByteArray) (i k:Nat):(s.get! (i+k))=(s.data.toList.drop i).getD k 0:=by
 cases s with
 |mk a=>
  simp only [ByteArray.get!,List.getD,List.getElem?_drop,Array.getElem?_toList];rw [getElem!_def];cases a[i+k]?<;>rfl
theorem qqW (s:ByteArray) (i:Nat):Utf8.decode s i=dec (s.data.toList.drop i):=by
 unfold Utf8.decode dec;simp only [qqV s i];have hc:∀ k,decide (i+k<s.size)=decide (k<(s.data.toList.drop i).length):=by
  intro k;have :s.size=s.data.toList.length:=(Array.length_toList (xs:=s.data)).symm;rw [decide_eq_decide,List.length_drop,this];omega
 simp only [hc];rfl
theorem qf1 (l:List UInt8) (h:l≠[]):1<=(dec l).2/\(dec l).2<=l.length:=by
 have hl:1<=l.length:=by cases l<;>simp_all
 unfold dec;simp only []
 repeat' split
 all_goals (simp_all;try omega)
theorem qqX (l:List UInt8):Utf8.valid ((dec l).1:Int)=true:=by
 unfold dec;simp only [];have hb:∀ k,(l.getD k 0).toNat<256:=fun k=>(l.getD k 0).toNat_lt
 repeat' split
 all_goals simp_all [Utf8.valid]
 all_goals (try omega)
 all_goals (have h0:=hb 0;have h1:=hb 1;try omega)
def qdG:Nat->List UInt8->List Int
 |0,_=>[]
 |f+1,l=>if l=[] then [] else ((dec l).1:Int)::qdG f (l.drop (dec l).2)
def qcf (l:List UInt8):List Int:=qdG l.length l
theorem qfv (f:Nat):qdG f []=[]:=by cases f<;>simp [qdG]
theorem qkZ:∀ (f g:Nat) (l:List UInt8),l.length<=f->l.length<=g->qdG f l=qdG g l
 |0,g,l,hf,_=>by
  have :l=[]:=List.eq_nil_of_length_eq_zero (by omega);subst this;rw [qfv,qfv]
 |f+1,0,l,_,hg=>by
  have :l=[]:=List.eq_nil_of_length_eq_zero (by omega);subst this;rw [qfv,qfv]
 |f+1,g+1,l,hf,hg=>by
  by_cases h:l=[]
  ·subst h;rw [qfv,qfv]
  ·have hw:=qf1 l h
   unfold qdG;rw [if_neg h,if_neg h,qkZ f g _ (by rw [List.length_drop];omega) (by rw [List.length_drop];omega)]
theorem qk0:qcf []=[]:=rfl
theorem qk1 (l:List UInt8) (h:l≠[]):qcf l=((dec l).1:Int)::qcf (l.drop (dec l).2):=by
 have hw:=qf1 l h;have hl:l.length=(l.length-1)+1:=by omega
 unfold qcf;rw [hl,qdG,if_neg h,qkZ _ _ _ (by rw [List.length_drop];omega) (Nat.le_refl _)]
theorem qgM (l:List UInt8):(qcf l).length<=l.length:=by
 have :∀ (f:Nat) (l:List UInt8),l.length<=f->(qdG f l).length<=l.length:=by
  intro f
  induction f with
  |zero=>intro l h;simp [qdG]
  |succ f ih=>
   intro l h;by_cases e:l=[]
   ·subst e;simp [qdG]
   ·have hw:=qf1 l e
    unfold qdG;rw [if_neg e];have :=ih (l.drop (dec l).2) (by rw [List.length_drop];omega);rw [List.length_drop] at this;simp only [List.length_cons];omega
 exact this _ l (Nat.le_refl _)
theorem qe7 (r:Int):Utf8.valid r=true↔(0<=r/\r<55296)∨(57344<=r/\r<=1114111):=by
 simp [Utf8.valid]
def text (l:List Int):List UInt8:=l.flatMap Lib.encodeRune
theorem qqY (a b:List Int):text (a++b)=text a++text b:=by simp [text]
theorem qk2 (l:List Int):(text l).length<=4*l.length:=by
 induction l with
 |nil=>simp [text]
 |cons r l ih=>
  have :=Lib.encodeRuneZ_length r;have e:text (r::l)=Lib.encodeRune r++text l:=by simp [text]
  rw [e,List.length_append,List.length_cons];simp only [Lib.encodeRune,List.length_map];omega
def qdP (c:Int):Bool:=decide ((192<=c/\c<=591/\c≠215/\c≠247)∨(97<=c/\c<=122)∨(65<=c/\c<=90))
def qel (c:Int):Bool:=decide (48<=c/\c<=57)
def qeG (c:Int):Bool:=decide ((65<=c/\c<=90)∨(192<=c/\c<=222/\c≠215))
def qbT (c:Int):Int:=if qeG c=true then c+32 else c
def qgN (c:Int):Bool:=decide (0<=c/\c<=1114111/\¬ (55296<=c/\c<=57343))
def qdQ (c:Int):Int:=if qgN c=true then c else 65533
theorem qh7 (c:Int):qgN c=Utf8.valid c:=by
 rw [Bool.eq_iff_iff,qe7];simp [qgN];omega
theorem qqZ {c:Int} (h:Utf8.valid c=true):qdQ c=c:=by rw [qdQ,qh7,if_pos h]
theorem qq0 (c:Int):Utf8.valid (qdQ c)=true:=by
 unfold qdQ;split
 ·rename_i h;rw [<- qh7];exact h
 ·decide
theorem qk3 (c:Int):Lib.encodeRune (qdQ c)=Lib.encodeRune c:=by
 by_cases h:Utf8.valid c=true
 ·rw [qqZ h]
 ·rw [qdQ,qh7,if_neg h]
  have hb:c<0∨(55296<=c/\c<=57343)∨1114111<c:=by
   have :=mt (qe7 c).2 h;omega
  rw [Lib.encodeRune,Lib.encodeRune,Lib.encodeRuneZ_bad hb];rfl
theorem qq1 (c:Int):qbT (qbT c)=qbT c:=by
 unfold qbT;by_cases h:qeG c=true
 ·rw [if_pos h]
  have :¬ qeG (c+32)=true:=by simp [qeG] at h ⊢;omega
  rw [if_neg this]
 ·rw [if_neg h,if_neg h]
theorem qq2 (c:Int):qdP (qbT c)=qdP c:=by
 unfold qbT;split
 ·rename_i hu
  simp [qeG] at hu;rw [Bool.eq_iff_iff];simp [qdP];omega
 ·rfl
theorem qq3 (c:Int):qel (qbT c)=qel c:=by
 unfold qbT;split
 ·rename_i hu
  simp [qeG] at hu;rw [Bool.eq_iff_iff];simp [qel];omega
 ·rfl
def qaa (l:List Int):List Value:=l.map (Value.int .i64)
theorem qf2 (l:List Int):(qaa l).length=l.length:=by simp [qaa]
theorem qdh:(Tryz.prog.info? 3).map (fun i=>(i.zero,i.size,i.bytes))=some (some (.int .i64 0),1,8):=by kernel_rfl
theorem qcQ {w:World} {B:Nat} {A:Option Addr} {xs:List Int} (h:Row w B A (qaa xs)) {k:Nat} (hk:k<xs.length):
  ∃ b off,A=some ⟨b,off,none⟩/\b<B/\w.cell? ⟨b,off+k,none⟩=some (.int .i64 xs[k]):=by
 obtain ⟨b,off,rfl,hb,hc⟩:=h.at_ (by rw [qf2];omega);refine ⟨b,off,rfl,hb,hc k _ ?_⟩;simp [qaa,hk]
def qk4 (l:List Int) (w:World) (e:Ending) (w':World):Prop:=∃ v,e= .returned v/\w'.ownsRow w.heap.size 3 1 v l.length (qaa l)/\Below w.heap.size w w'
theorem qq4 (s:ByteArray) (w:World) (hs:s.size<=1073741824):
  Calls Tryz.prog 191 #[.string s] w (qk4 (qcf s.data.toList) w):=by
 obtain ⟨i0,hi0,hz0,hz1,hz2⟩:=info_parts qdh;have hrc:=Lib.runeCount_le s
 go_enter Tryz.func191,Tryz.ntmps191
 go_wp2_with (go_at_call 226;refine (qqS s _ (by omega)).mono ?_)
 rintro e w1 ⟨rfl,pos,rfl⟩
 go_wp2_with (at_make;refine wpList_make_own _ rfl _ _ 23 rfl w.heap.size 3 i0 _ 1 Tryz.underlying23 hi0 hz0 hz1 _ _ _ (Lib.runeCount s) rfl rfl rfl ?c1 ?c2 ?c3 ?_)
 case c1=>rw [hz2];omega
 case c2=>unfold maxLen;omega
 case c3=>show w.heap.size<=(w.heap.push _).size;simp
 intro w2 hown hgrow;have hb2:Below w.heap.size w w2:=((Below.refl _ w).alloc (Nat.le_refl _) (.stringIter s pos)).grown hgrow (by simp) (fun k hk=>by cases hk);have hsz2:=hb2.size;go_wp2
 go_loopw [3] (fun l wr=>∃ (pos:Nat) (acc:List Int),pos<=s.size/\acc.length<=pos/\wr.heap[w2.heap.size]?=some (.stringIter s pos)/\wr.ownsRow w.heap.size 3 1 l acc.length (qaa acc)/\Below w.heap.size w wr/\acc++qcf (s.data.toList.drop pos)=qcf s.data.toList) (fun _ wr=>s.size-wr.iterPos w2.heap.size)
 case atStart=>
  refine ⟨0,[],Nat.zero_le _,Nat.le_refl _,?_,hown.alloc _,hb2.alloc hsz2 _,rfl⟩;exact heap_alloc_new w2 _
 case round=>
  obtain ⟨pos,acc,hpos,hal,hit,hown,hbw,hacc⟩:=hrel;by_cases hp:pos<s.size
  ·have hnx:∀ ty,(Instr.next (.pointer (some ⟨w2.heap.size,0,none⟩)) true ty).run Tryz.prog wr=_:=fun ty=>Lib.run_next_any_at wr w2.heap.size s pos ty hit hp
   have hdd:=qqW s pos;have hne:s.data.toList.drop pos≠[]:=by
    intro h;have :=congrArg List.length h;rw [List.length_drop,List.length_nil] at this;have e:s.data.toList.length=s.size:=Array.length_toList;omega
   have hst:=qk1 _ hne;have hwd:=qf1 _ hne;rw [List.drop_drop] at hst;rw [<- hdd] at hst hwd;have hlen:(s.data.toList.drop pos).length=s.size-pos:=by rw [List.length_drop];rfl
   rw [hlen] at hwd;have hd1:=decode_le s pos;have hown2:=qqg (q:=pos+(Utf8.decode s pos).2) hown hit;have hit2:=Lib.iterAt_heap wr w2.heap.size s pos (pos+(Utf8.decode s pos).2) hit;have hbw2:=Lib.below_iterAt hbw (k:=w2.heap.size) (by omega) s (pos+(Utf8.decode s pos).2);clear hdd hne hlen;have HST:=qH hst;have HACC:=qH hacc;have HIT:=qH hit;clear hst hacc hit hown hbw;obtain ⟨wi,hwi⟩:∃ wi,wi=wr.iterAt w2.heap.size s (pos+(Utf8.decode s pos).2):=⟨_,rfl⟩;rw [<- hwi] at hnx hown2 hit2 hbw2;have hszi:=hbw2.size;clear hwi
   go_wp2_with (at_builtin;refine wpList_append_own _ rfl (.tmp 14) (.tmp 17) 23 rfl w.heap.size 3 i0 _ 1 8 Tryz.underlying23 hi0 hz0 hz1 hz2 rfl (by omega) _ acc.length (qaa acc) rfl (hown2.alloc _) ⟨wi.heap.size,0,none⟩ 1 1 [.int .i64 (Utf8.decode s pos).1] rfl rfl ?c1 ?c2 ?c3 ?c4 ?c5 ?_)
   case c1=>
    intro j u hj
    match j,hj with
    |0,hj=>simp at hj;subst hj;simp [Addr.add]
    |(j+1),hj=>simp at hj
   case c2=>intro u hu;simp at hu;subst hu;rfl
   case c3=>unfold maxLen;omega
   case c4=>omega
   case c5=>simp;omega
   intro v' w3 hown3 hgrow3 _;have hit3:w3.heap[w2.heap.size]?=some (.stringIter s (pos+(Utf8.decode s pos).2)):=
    qqh (hown2.alloc _) ((Below.heap_alloc wi _ _ (Array.getElem?_eq_some_iff.1 hit2).1).trans hit2) hgrow3
   go_wp2;go_roundw
   case rel=>
    refine ⟨pos+(Utf8.decode s pos).2,acc++[((Utf8.decode s pos).1:Int)],by omega,by simp;omega,hit3,?_,?_,?_⟩
    ·simpa [qaa] using hown3
    ·exact (hbw2.alloc (by omega) _).grown hgrow3 (by simp;omega) (fun k hk=>(hown2.lt k hk).1)
    ·rw [<- HACC.out,HST.out];simp
   case measure=>
    simp only [World.iterPos,hit3,HIT.out];omega
  ·have hnx:∀ ty,(Instr.next (.pointer (some ⟨w2.heap.size,0,none⟩)) true ty).run Tryz.prog wr=_:=fun ty=>Lib.run_next_end_at wr w2.heap.size s pos ty hit hp
   have HACC:=qH hacc;clear hacc;go_wp2;go_ret;have he:s.data.toList.drop pos=[]:=List.drop_eq_nil_of_le (by rw [Array.length_toList];exact Nat.le_of_not_lt hp);have hout:=HACC.out;rw [he,qk0,List.append_nil] at hout;subst hout;exact ⟨_,rfl,hown,hbw⟩
theorem qq5 (c:Int) (w:World):
  Calls Tryz.prog 241 #[.int .i64 c] w fun e w'=>e= .returned (.bool (qdP c))/\w=w':=by
 go_enter Tryz.func241,Tryz.ntmps241
 go_wp2
 all_goals
  go_ret;refine ⟨qe5 ?_,rfl⟩;rw [Bool.eq_iff_iff];simp [qdP]
  try omega
theorem qq6 (c:Int) (w:World):
  Calls Tryz.prog 219 #[.int .i64 c] w fun e w'=>e= .returned (.bool (qdP c))/\w=w':=by
 go_enter Tryz.func219,Tryz.ntmps219
 go_wp2
 all_goals
  go_ret;refine ⟨qe5 ?_,rfl⟩;rw [Bool.eq_iff_iff];simp [qdP]
  try omega
theorem qq7 (c:Int) (w:World):
  Calls Tryz.prog 242 #[.int .i64 c] w fun e w'=>e= .returned (.bool (qel c))/\w=w':=by
 go_enter Tryz.func242,Tryz.ntmps242
 go_wp2
 all_goals
  go_ret;refine ⟨qe5 ?_,rfl⟩;rw [Bool.eq_iff_iff];simp [qel]
  try omega
theorem qq8 (c:Int) (w:World):
  Calls Tryz.prog 224 #[.int .i64 c] w fun e w'=>e= .returned (.int .i64 (qbT c))/\w=w':=by
 go_enter Tryz.func224,Tryz.ntmps224
 go_wp2
 all_goals
  go_ret;refine ⟨qfs ?_,rfl⟩
  try simp only [bne_iff_ne,ne_eq,bne_eq_false_iff_eq] at*
  unfold qbT;split
  all_goals
   rename_i hu
   simp [qeG] at hu
   try omega
theorem qq9 (c:Int) (w:World):
  Calls Tryz.prog 181 #[.int .i64 c] w fun e w'=>e= .returned (.int .i64 (qbT c))/\w=w':=by
 go_enter Tryz.func181,Tryz.ntmps181
 go_wp2
 all_goals
  go_ret;refine ⟨qfs ?_,rfl⟩
  try simp only [bne_iff_ne,ne_eq,bne_eq_false_iff_eq] at*
  unfold qbT;split
  all_goals
   rename_i hu
   simp [qeG] at hu
   try omega
theorem qra (c:Int) (w:World):
  Calls Tryz.prog 244 #[.int .i64 c] w fun e w'=>e= .returned (.int .i32 (qdQ c))/\w=w':=by
 go_enter Tryz.func244,Tryz.ntmps244
 go_wp2
 all_goals
  go_ret;refine ⟨qfs ?_,rfl⟩;unfold qdQ;split
  all_goals
   rename_i hu
   simp [qgN] at hu
   try omega
theorem qrb (c:Int):0<=qdQ c/\qdQ c<=1114111:=by
 have :=(qe7 _).1 (qq0 c);omega
theorem qk5 {xs:List Int} {k:Nat} (hk:k<xs.length):text (xs.take (k+1))=text (xs.take k)++Lib.encodeRune (qdQ xs[k]):=by
 rw [List.take_succ_eq_append_getElem hk,qqY,qk3];simp [text]
theorem qk6 (xs:List Int) (k:Nat):(text (xs.take k)).length<=4*k:=by
 have h1:=qk2 (xs.take k);have h2:=List.length_take_le k xs;omega
def qrc (T E:TypeId) (w:World) (xs:List Int) (i:Value) (wr:World):Prop:=
 ∃ k:Nat,k<=xs.length/\i= .int .i64 k/\Lib.IsBuilderF T E w.heap.size w.heap.size (Lib.byteCells (text (xs.take k))) wr/\Below w.heap.size w wr/\w.heap.size<wr.heap.size
def qh8 (l:List UInt8) (w:World) (e:Ending) (w':World):Prop:=e= .returned (.string ⟨l.toArray⟩)/\Below w.heap.size w w'
theorem qrd (A:Option Addr) (c:Nat) (xs:List Int) (w:World) (hx:Row w w.heap.size A (qaa xs)) (hl:xs.length<=1073741824):
  Calls Tryz.prog 225 #[.slice A xs.length c] w (qh8 (text xs) w):=by
 have HX:=qH hx;clear hx
 go_enter Tryz.func225,Tryz.ntmps225
 go_wp2
 go_loopw [8] (fun i wr=>qrc 333 5 w xs i wr) (fun i _=>xs.length-(intOf i).toNat)
 case atStart=>exact ⟨0,Nat.zero_le _,rfl,Lib.IsBuilderF.of (Lib.fresh_isBuilder _ _ w),(Below.refl _ w).alloc (Nat.le_refl _) _,by simp⟩
 case round=>
  obtain ⟨k,hk,rfl,hI,hbw,hsz⟩:=hrel;by_cases hlt:k<xs.length
  ·obtain ⟨b1,o1,e1,_,hc1⟩:=qcQ (HX.out.below hbw) hlt
   subst e1;have htk:=qk5 hlt;have hlen:=qk6 xs k;obtain ⟨x,hx⟩:∃ x,x=xs[k]:=⟨_,rfl⟩;rw [<- hx] at hc1 htk;clear hx;have HTK:=qH htk;clear htk;obtain ⟨hcl0,hcl1⟩:=qrb x
   go_wp2_with (go_at_call 244;refine (qra x _).mono ?_)
   rintro e w' ⟨rfl,rfl⟩
   go_wp2_with (go_at_call 243;refine (qqU w.heap.size w.heap.size _ _ (by omega) (by omega) _ hI (by rw [Lib.byteCells_length];omega) (by omega)).mono ?_)
   rintro e W1 ⟨rfl,h1,b1,k1⟩;go_wp2;go_roundw
   case rel=>
    refine ⟨k+1,by omega,by go_num,?_,hbw.trans b1,by have :=b1.size;omega⟩;rw [HTK.out,Lib.byteCells_append,Lib.byteCells_encodeRune];exact Or.inr h1
   case measure=>simp [intOf];omega
  ·go_wp2_with (go_at_call 245;refine (qqT w.heap.size w.heap.size _ _ hI (by omega)).mono ?_)
   rintro e W1 ⟨rfl,_,b1,_⟩;go_wp2;go_ret;rw [List.take_of_length_le (by omega)];exact ⟨rfl,hbw.trans b1⟩
theorem qre {P:Program} {w:World} {B:Nat} {A:Option Addr} {l:List UInt8} (h:Row w B A (Lib.byteCells l)) (src dst e:TypeId) (c:Nat)
  (hs:P.underlying src=some (.slice e)) (he:P.underlying e=some (.int .u8)) (hd:P.underlying dst=some .string):
  (convert src dst (.slice A l.length c)).run P w= .ok (.string ⟨l.toArray⟩) w:=by
 by_cases h0:l=[]
 ·subst h0
  rcases A with _|a
  ·exact run_convert_bytes_nil w src e hs he 0 c dst hd
  ·exact run_convert_bytes_back w src dst e a c [] hs he hd (fun j hj=>absurd hj (by simp))
 ·have hpos:0<l.length:=List.length_pos_iff.2 h0
  obtain ⟨b,off,rfl,_,hc⟩:=h.at_ (by rw [Lib.byteCells_length];exact hpos);refine run_convert_bytes_back w src dst e _ c l hs he hd (fun j hj=> ?_)
  rw [Addr.add_lit];exact hc j _ (by simp [Lib.byteCells,hj])
theorem qrf:(Tryz.prog.info? 5).map (fun i=>(i.zero,i.size,i.bytes))=some (some (.int .u8 0),1,1):=by kernel_rfl
def qrg (w:World) (xs:List Int) (o i:Value) (wr:World):Prop:=
 ∃ k:Nat,k<=xs.length/\i= .int .i64 k/\wr.ownsRow w.heap.size 5 1 o (text (xs.take k)).length (Lib.byteCells (text (xs.take k)))/\Below w.heap.size w wr
theorem qrh {xs:List Int} {k:Nat} (hk:k<xs.length) {bs:List Int} (h:Lib.encodeRuneZ xs[k]=bs):
  (text (xs.take (k+1))).length=(text (xs.take k)).length+bs.length/\Lib.byteCells (text (xs.take (k+1)))=Lib.byteCells (text (xs.take k))++bs.map (Value.int .u8):=by
 have e:text (xs.take (k+1))=text (xs.take k)++Lib.encodeRune xs[k]:=by rw [qk5 hk,qk3]
 refine ⟨?_,?_⟩
 ·rw [e,List.length_append,Lib.encodeRune,List.length_map,h]
 ·rw [e,Lib.byteCells_append,Lib.byteCells_encodeRune,Lib.runeCells,h]
theorem qri (A:Option Addr) (c:Nat) (xs:List Int) (w:World) (hx:Row w w.heap.size A (qaa xs)) (hl:xs.length<=1073741824):
  Calls Tryz.prog 182 #[.slice A xs.length c] w (qh8 (text xs) w):=by
 obtain ⟨i0,hi0,hz0,hz1,hz2⟩:=info_parts qrf;have HX:=qH hx;clear hx
 go_enter Tryz.func182,Tryz.ntmps182
 go_wp2
 go_loopw [3,4] (fun o i wr=>qrg w xs o i wr) (fun _ i _=>xs.length-(intOf i).toNat)
 case atStart=>exact ⟨0,Nat.zero_le _,rfl,World.ownsRow_nil _ _ _ _,Below.refl _ w⟩
 case round=>
  obtain ⟨k,hk,rfl,hown,hbw⟩:=hrel;have hsz:=hbw.size;by_cases hlt:k<xs.length
  ·obtain ⟨b1,o1,e1,_,hc1⟩:=qcQ (HX.out.below hbw) hlt
   subst e1;have hlen:=qk6 xs k;have HN:=qH (fun bs=>qrh hlt (bs:=bs));obtain ⟨x,hx⟩:∃ x,x=xs[k]:=⟨_,rfl⟩;rw [<- hx] at hc1 HN;clear hx;obtain ⟨m,hm⟩:∃ m,m=(text (xs.take k)).length:=⟨_,rfl⟩;obtain ⟨cs,hcs⟩:∃ cs,cs=Lib.byteCells (text (xs.take k)):=⟨_,rfl⟩;rw [<- hm] at hown hlen HN;rw [<- hcs] at hown HN;clear hm hcs;have hxr:Hid True:=qH trivial;by_cases c_neg:x<0
   ·skip
    obtain ⟨hn1,hn2⟩:=HN.out [239,191,189] (Lib.encodeRuneZ_bad (by omega));have HN1:=qH hn1;have HN2:=qH hn2;clear hn1 hn2 HN
    go_wp2_with (at_builtin;refine wpList_append_own _ rfl (.tmp 52) (.tmp 66) 178 rfl w.heap.size 5 i0 _ 1 1 Tryz.underlying178 hi0 hz0 hz1 hz2 rfl (by omega) _ m cs rfl (hown.alloc _) ⟨wr.heap.size,0,none⟩ 3 3 (List.map (Value.int .u8) [239,191,189]) rfl rfl (qaU _ _ _) (ints_oneCell _ _) (by unfold maxLen;omega) (by omega) (by simp;omega) ?_)
    intro v' w3 hown3 hgrow3 _;go_wp2;go_roundw
    case rel=>
     refine ⟨k+1,by omega,by go_num,?_,(hbw.alloc (by omega) _).grown hgrow3 (by simp;omega) (fun k hk=>(hown.lt k hk).1)⟩;rw [HN1.out,HN2.out];exact hown3
    case measure=>simp [intOf];omega
   by_cases c_one:x<=127
   ·skip
    obtain ⟨hn1,hn2⟩:=HN.out [x] (Lib.encodeRuneZ_one (by omega) (by omega));have HN1:=qH hn1;have HN2:=qH hn2;clear hn1 hn2 HN
    go_wp2_with (at_builtin;refine wpList_append_own _ rfl (.tmp 32) (.tmp 35) 178 rfl w.heap.size 5 i0 _ 1 1 Tryz.underlying178 hi0 hz0 hz1 hz2 rfl (by omega) _ m cs rfl (hown.alloc _) ⟨wr.heap.size,0,none⟩ 1 1 (List.map (Value.int .u8) [x]) rfl rfl (qaU _ _ _) (ints_oneCell _ _) (by unfold maxLen;omega) (by omega) (by simp;omega) ?_)
    intro v' w3 hown3 hgrow3 _;go_wp2;go_roundw
    case rel=>
     refine ⟨k+1,by omega,by go_num,?_,(hbw.alloc (by omega) _).grown hgrow3 (by simp;omega) (fun k hk=>(hown.lt k hk).1)⟩;rw [HN1.out,HN2.out];exact hown3
    case measure=>simp [intOf];omega
   by_cases c_two:x<=2047
   ·skip
    obtain ⟨hn1,hn2⟩:=HN.out [192+x/64,128+x%64] (Lib.encodeRuneZ_two (by omega) (by omega));have HN1:=qH hn1;have HN2:=qH hn2;clear hn1 hn2 HN
    go_wp2_with (at_builtin;refine wpList_append_own _ rfl (.tmp 39) (.tmp 48) 178 rfl w.heap.size 5 i0 _ 1 1 Tryz.underlying178 hi0 hz0 hz1 hz2 rfl (by omega) _ m cs rfl (hown.alloc _) ⟨wr.heap.size,0,none⟩ 2 2 (List.map (Value.int .u8) [192+x/64,128+x%64]) rfl rfl (qaU _ _ _) (ints_oneCell _ _) (by unfold maxLen;omega) (by omega) (by simp;omega) ?_)
    intro v' w3 hown3 hgrow3 _;go_wp2;go_roundw
    case rel=>
     refine ⟨k+1,by omega,by go_num,?_,(hbw.alloc (by omega) _).grown hgrow3 (by simp;omega) (fun k hk=>(hown.lt k hk).1)⟩;rw [HN1.out,HN2.out];exact hown3
    case measure=>simp [intOf];omega
   by_cases c_three:x<55296
   ·skip
    obtain ⟨hn1,hn2⟩:=HN.out [224+x/4096,128+x/64%64,128+x%64] (Lib.encodeRuneZ_three (by omega));have HN1:=qH hn1;have HN2:=qH hn2;clear hn1 hn2 HN
    go_wp2_with (at_builtin;refine wpList_append_own _ rfl (.tmp 52) (.tmp 66) 178 rfl w.heap.size 5 i0 _ 1 1 Tryz.underlying178 hi0 hz0 hz1 hz2 rfl (by omega) _ m cs rfl (hown.alloc _) ⟨wr.heap.size,0,none⟩ 3 3 (List.map (Value.int .u8) [224+x/4096,128+x/64%64,128+x%64]) rfl rfl (qaU _ _ _) (ints_oneCell _ _) (by unfold maxLen;omega) (by omega) (by simp;omega) ?_)
    intro v' w3 hown3 hgrow3 _;go_wp2;go_roundw
    case rel=>
     refine ⟨k+1,by omega,by go_num,?_,(hbw.alloc (by omega) _).grown hgrow3 (by simp;omega) (fun k hk=>(hown.lt k hk).1)⟩;rw [HN1.out,HN2.out];exact hown3
    case measure=>simp [intOf];omega
   by_cases c_sur:x<=57343
   ·skip
    obtain ⟨hn1,hn2⟩:=HN.out [239,191,189] (Lib.encodeRuneZ_bad (by omega));have HN1:=qH hn1;have HN2:=qH hn2;clear hn1 hn2 HN
    go_wp2_with (at_builtin;refine wpList_append_own _ rfl (.tmp 52) (.tmp 66) 178 rfl w.heap.size 5 i0 _ 1 1 Tryz.underlying178 hi0 hz0 hz1 hz2 rfl (by omega) _ m cs rfl (hown.alloc _) ⟨wr.heap.size,0,none⟩ 3 3 (List.map (Value.int .u8) [239,191,189]) rfl rfl (qaU _ _ _) (ints_oneCell _ _) (by unfold maxLen;omega) (by omega) (by simp;omega) ?_)
    intro v' w3 hown3 hgrow3 _;go_wp2;go_roundw
    case rel=>
     refine ⟨k+1,by omega,by go_num,?_,(hbw.alloc (by omega) _).grown hgrow3 (by simp;omega) (fun k hk=>(hown.lt k hk).1)⟩;rw [HN1.out,HN2.out];exact hown3
    case measure=>simp [intOf];omega
   by_cases c_three2:x<=65535
   ·skip
    obtain ⟨hn1,hn2⟩:=HN.out [224+x/4096,128+x/64%64,128+x%64] (Lib.encodeRuneZ_three (by omega));have HN1:=qH hn1;have HN2:=qH hn2;clear hn1 hn2 HN
    go_wp2_with (at_builtin;refine wpList_append_own _ rfl (.tmp 52) (.tmp 66) 178 rfl w.heap.size 5 i0 _ 1 1 Tryz.underlying178 hi0 hz0 hz1 hz2 rfl (by omega) _ m cs rfl (hown.alloc _) ⟨wr.heap.size,0,none⟩ 3 3 (List.map (Value.int .u8) [224+x/4096,128+x/64%64,128+x%64]) rfl rfl (qaU _ _ _) (ints_oneCell _ _) (by unfold maxLen;omega) (by omega) (by simp;omega) ?_)
    intro v' w3 hown3 hgrow3 _;go_wp2;go_roundw
    case rel=>
     refine ⟨k+1,by omega,by go_num,?_,(hbw.alloc (by omega) _).grown hgrow3 (by simp;omega) (fun k hk=>(hown.lt k hk).1)⟩;rw [HN1.out,HN2.out];exact hown3
    case measure=>simp [intOf];omega
   by_cases c_four:x<=1114111
   ·skip
    obtain ⟨hn1,hn2⟩:=HN.out [240+x/262144,128+x/4096%64,128+x/64%64,128+x%64] (Lib.encodeRuneZ_four (by omega) (by omega));have HN1:=qH hn1;have HN2:=qH hn2;clear hn1 hn2 HN
    go_wp2_with (at_builtin;refine wpList_append_own _ rfl (.tmp 68) (.tmp 87) 178 rfl w.heap.size 5 i0 _ 1 1 Tryz.underlying178 hi0 hz0 hz1 hz2 rfl (by omega) _ m cs rfl (hown.alloc _) ⟨wr.heap.size,0,none⟩ 4 4 (List.map (Value.int .u8) [240+x/262144,128+x/4096%64,128+x/64%64,128+x%64]) rfl rfl (qaU _ _ _) (ints_oneCell _ _) (by unfold maxLen;omega) (by omega) (by simp;omega) ?_)
    intro v' w3 hown3 hgrow3 _;go_wp2;go_roundw
    case rel=>
     refine ⟨k+1,by omega,by go_num,?_,(hbw.alloc (by omega) _).grown hgrow3 (by simp;omega) (fun k hk=>(hown.lt k hk).1)⟩;rw [HN1.out,HN2.out];exact hown3
    case measure=>simp [intOf];omega
   ·skip
    obtain ⟨hn1,hn2⟩:=HN.out [239,191,189] (Lib.encodeRuneZ_bad (by omega));have HN1:=qH hn1;have HN2:=qH hn2;clear hn1 hn2 HN
    go_wp2_with (at_builtin;refine wpList_append_own _ rfl (.tmp 52) (.tmp 66) 178 rfl w.heap.size 5 i0 _ 1 1 Tryz.underlying178 hi0 hz0 hz1 hz2 rfl (by omega) _ m cs rfl (hown.alloc _) ⟨wr.heap.size,0,none⟩ 3 3 (List.map (Value.int .u8) [239,191,189]) rfl rfl (qaU _ _ _) (ints_oneCell _ _) (by unfold maxLen;omega) (by omega) (by simp;omega) ?_)
    intro v' w3 hown3 hgrow3 _;go_wp2;go_roundw
    case rel=>
     refine ⟨k+1,by omega,by go_num,?_,(hbw.alloc (by omega) _).grown hgrow3 (by simp;omega) (fun k hk=>(hown.lt k hk).1)⟩;rw [HN1.out,HN2.out];exact hown3
    case measure=>simp [intOf];omega
  ·have hkx:k=xs.length:=by omega
   subst hkx;rw [List.take_length] at hown;obtain ⟨A2,c2,rfl,_,hrow⟩:=qaT hown;have hconv:=qre hrow 178 9 5 c2 Tryz.underlying178 Tryz.underlying5 Tryz.underlying9;clear hrow hown;go_wp2;go_ret;exact ⟨rfl,hbw⟩
theorem qk7 (A:Option Addr) (n c:Nat) (xs:List Int) (w:World) (hn:xs.length=n) (hx:Row w w.heap.size A (qaa xs)) (hl:n<=1073741824):
  Calls Tryz.prog 182 #[.slice A n c] w (qh8 (text xs) w):=by
 subst hn;exact qri A c xs w hx hl
def qbG (l:List UInt8) (j:Nat):Prop:=j<l.length/\(l.getD j 0).toNat/64=2
def qdi (l:List UInt8) (v0:Int):Nat->Int
 |0=>v0
 |k+1=>64*qdi l v0 k+((l.getD (k+1) 0).toNat:Int)-128
def Small (k:Nat) (v:Int):Prop:=0<=v/\((k=0/\v<=31)∨(k=1/\v<=2047)∨(k=2/\v<=131071)∨(k=3/\v<=8388607))
def qe8 (l:List UInt8) (k:Nat):Prop:=∀ j,1<=j->j<=k->qbG l j
theorem qh9 (l:List UInt8):qe8 l 0:=fun j h1 h2=>by omega
theorem qia {l:List UInt8} {k:Nat} (h:qe8 l k) (hc:qbG l (k+1)):qe8 l (k+1):=fun j h1 h2=>by
 by_cases e:j=k+1
 ·rw [e];exact hc
 ·exact h j h1 (by omega)
theorem qdj (l:List UInt8) (j:Nat):(decide (j<l.length)&&(l.getD j 0).toNat/64==2)=true↔qbG l j:=by
 simp [qbG]
theorem qrj (l:List UInt8) (h:(l.getD 0 0).toNat<128):dec l=((l.getD 0 0).toNat,1):=by
 unfold dec;simp only [];rw [if_pos h]
theorem qrk (l:List UInt8) (h:128<=(l.getD 0 0).toNat) (h2:(l.getD 0 0).toNat<194∨245<=(l.getD 0 0).toNat):dec l=(65533,1):=by
 have hb:=(l.getD 0 0).toNat_lt;have hb1:=(l.getD 1 0).toNat_lt;have hb2:=(l.getD 2 0).toNat_lt;have hb3:=(l.getD 3 0).toNat_lt;unfold dec;simp only [];rw [if_neg (by omega)];by_cases c1:(l.getD 0 0).toNat/32=6
 ·by_cases c2:qbG l 1
  ·rw [if_pos (by rw [Bool.and_eq_true,qdj];exact ⟨by simpa using c1,c2⟩),if_neg (by omega)]
  ·rw [if_neg (by rw [Bool.and_eq_true,qdj];exact fun h=>c2 h.2)]
   rw [if_neg (by intro h;simp only [Bool.and_eq_true,beq_iff_eq,decide_eq_true_eq] at h;omega),if_neg (by intro h;simp only [Bool.and_eq_true,beq_iff_eq,decide_eq_true_eq] at h;omega)]
 ·rw [if_neg (by intro h;simp only [Bool.and_eq_true,beq_iff_eq,decide_eq_true_eq] at h;omega),if_neg (by intro h;simp only [Bool.and_eq_true,beq_iff_eq,decide_eq_true_eq] at h;omega)]
  by_cases c3:(l.getD 0 0).toNat/8=30
  ·split
   ·rw [if_neg]
    rw [Bool.and_eq_true,qe7];intro hh;have :=hh.2;omega
   ·rfl
  ·rw [if_neg (by intro h;simp only [Bool.and_eq_true,beq_iff_eq,decide_eq_true_eq] at h;omega)]
theorem qrl (l:List UInt8) (h:(l.getD 0 0).toNat/32=6) (hc:¬ qbG l 1):dec l=(65533,1):=by
 unfold dec;simp only [];rw [if_neg (by omega),if_neg (by rw [Bool.and_eq_true,qdj];exact fun h=>hc h.2),if_neg (by intro h;simp only [Bool.and_eq_true,beq_iff_eq,decide_eq_true_eq] at h;omega),if_neg (by intro h;simp only [Bool.and_eq_true,beq_iff_eq,decide_eq_true_eq] at h;omega)]
theorem qrm (l:List UInt8) (h:(l.getD 0 0).toNat/32=6) (hg:194<=(l.getD 0 0).toNat) (hc:qbG l 1):dec l=(((l.getD 0 0).toNat%32)*64+(l.getD 1 0).toNat%64,2):=by
 unfold dec;simp only [];rw [if_neg (by omega),if_pos (by rw [Bool.and_eq_true,qdj];exact ⟨by simpa using h,hc⟩),if_pos (by omega)]
theorem qrn (l:List UInt8) (h:(l.getD 0 0).toNat/16=14) (hc:¬ (qbG l 1/\qbG l 2)):dec l=(65533,1):=by
 unfold dec;simp only [];rw [if_neg (by omega),if_neg (by intro h;simp only [Bool.and_eq_true,beq_iff_eq,decide_eq_true_eq] at h;omega),if_neg (by rw [Bool.and_eq_true,Bool.and_eq_true,qdj,qdj];exact fun h=>hc ⟨h.1.2,h.2⟩),if_neg (by intro h;simp only [Bool.and_eq_true,beq_iff_eq,decide_eq_true_eq] at h;omega)]
theorem qro (l:List UInt8) (h:(l.getD 0 0).toNat/16=14) (h1:qbG l 1) (h2:qbG l 2) (c:Nat) (e:c=((l.getD 0 0).toNat%16)*4096+((l.getD 1 0).toNat%64)*64+(l.getD 2 0).toNat%64):
  dec l=if 2048<=c/\Utf8.valid c=true then (c,3) else (65533,1):=by
 subst e;unfold dec;simp only [];rw [if_neg (by omega),if_neg (by intro h;simp only [Bool.and_eq_true,beq_iff_eq,decide_eq_true_eq] at h;omega),if_pos (by rw [Bool.and_eq_true,Bool.and_eq_true,qdj,qdj];exact ⟨⟨by simpa using h,h1⟩,h2⟩)];simp only [Bool.and_eq_true,decide_eq_true_eq,ge_iff_le]
theorem qrp (l:List UInt8) (h:(l.getD 0 0).toNat/8=30) (hc:¬ (qbG l 1/\qbG l 2/\qbG l 3)):dec l=(65533,1):=by
 unfold dec;simp only [];rw [if_neg (by omega),if_neg (by intro h;simp only [Bool.and_eq_true,beq_iff_eq,decide_eq_true_eq] at h;omega),if_neg (by intro h;simp only [Bool.and_eq_true,beq_iff_eq,decide_eq_true_eq] at h;omega),if_neg (by rw [Bool.and_eq_true,Bool.and_eq_true,Bool.and_eq_true,qdj,qdj,qdj];exact fun h=>hc ⟨h.1.1.2,h.1.2,h.2⟩)]
theorem qrq (l:List UInt8) (h:(l.getD 0 0).toNat/8=30) (h1:qbG l 1) (h2:qbG l 2) (h3:qbG l 3) (c:Nat)
  (e:c=((l.getD 0 0).toNat%8)*262144+((l.getD 1 0).toNat%64)*4096+((l.getD 2 0).toNat%64)*64+(l.getD 3 0).toNat%64):
  dec l=if 65536<=c/\Utf8.valid c=true then (c,4) else (65533,1):=by
 subst e;unfold dec;simp only [];rw [if_neg (by omega),if_neg (by intro h;simp only [Bool.and_eq_true,beq_iff_eq,decide_eq_true_eq] at h;omega),if_neg (by intro h;simp only [Bool.and_eq_true,beq_iff_eq,decide_eq_true_eq] at h;omega),if_pos (by rw [Bool.and_eq_true,Bool.and_eq_true,Bool.and_eq_true,qdj,qdj,qdj];exact ⟨⟨⟨by simpa using h,h1⟩,h2⟩,h3⟩)];simp only [Bool.and_eq_true,decide_eq_true_eq,ge_iff_le]
def qem (l:List UInt8) (e:Ending):Prop:=e= .returned (.tuple #[.int .i64 ((dec l).1:Int),.int .i64 ((dec l).2:Int)])
theorem qcn {l:List UInt8} {a b:Int} {c n:Nat} (h:dec l=(c,n)) (ha:a=c) (hb:b=n):qem l (.returned (.tuple #[.int .i64 a,.int .i64 b])):=by
 unfold qem;rw [h,ha,hb]
theorem qco {s:ByteArray} {k:Nat} (h:k<s.size):s.data.toList.getD k 0=s[k]:=by
 rw [List.getD_eq_getElem?_getD,List.getElem?_eq_getElem (by rw [Array.length_toList];exact h)];simp;rfl
theorem qf3 (s:ByteArray):s.data.toList.length=s.size:=Array.length_toList
theorem qrr {l:List UInt8} {V:Int} (h0:(l.getD 0 0).toNat/32=6) (hg:194<=(l.getD 0 0).toNat) (hc:qe8 l 1) (hV:V=qdi l ((l.getD 0 0).toNat-192) 1):dec l=(V.toNat,2)/\128<=V/\V<=2047:=by
 have c1:=hc 1 (by omega) (by omega);rw [qrm l h0 hg c1];have :=c1.2;simp only [qdi] at hV;simp only [Nat.zero_add] at hV;refine ⟨Prod.ext ?_ rfl,by omega,by omega⟩;show _=V.toNat;simp only [];omega
theorem qrs {l:List UInt8} {V:Int} (h0:(l.getD 0 0).toNat/16=14) (hc:qe8 l 2) (hV:V=qdi l ((l.getD 0 0).toNat-224) 2):
  0<=V/\V<=65535/\(dec l=if 2048<=V/\¬ (55296<=V/\V<=57343) then (V.toNat,3) else (65533,1)):=by
 have c1:=hc 1 (by omega) (by omega);have c2:=hc 2 (by omega) (by omega);have e1:=c1.2;have e2:=c2.2;simp only [qdi] at hV;simp only [Nat.zero_add,Nat.reduceAdd] at hV;have hV2:V=(((l.getD 0 0).toNat%16)*4096+((l.getD 1 0).toNat%64)*64+(l.getD 2 0).toNat%64:Nat):=by omega
 refine ⟨by omega,by omega,?_⟩;rw [qro l h0 c1 c2 V.toNat (by omega)];have hv:=qe7 (V.toNat:Int);by_cases hh:2048<=V/\¬ (55296<=V/\V<=57343)
 ·rw [if_pos hh,if_pos ⟨by omega,hv.2 (by omega)⟩]
 ·rw [if_neg hh,if_neg]
  rintro ⟨ha,hb⟩;have :=hv.1 hb;omega
theorem qrt {l:List UInt8} {V:Int} (h0:(l.getD 0 0).toNat/8=30) (hc:qe8 l 3) (hV:V=qdi l ((l.getD 0 0).toNat-240) 3):
  0<=V/\V<=2097151/\(dec l=if 65536<=V/\V<=1114111 then (V.toNat,4) else (65533,1)):=by
 have c1:=hc 1 (by omega) (by omega);have c2:=hc 2 (by omega) (by omega);have c3:=hc 3 (by omega) (by omega);have e1:=c1.2;have e2:=c2.2;have e3:=c3.2;simp only [qdi] at hV;simp only [Nat.zero_add,Nat.reduceAdd] at hV;have hV2:V=(((l.getD 0 0).toNat%8)*262144+((l.getD 1 0).toNat%64)*4096+((l.getD 2 0).toNat%64)*64+(l.getD 3 0).toNat%64:Nat):=by omega
 refine ⟨by omega,by omega,?_⟩;rw [qrq l h0 c1 c2 c3 V.toNat (by omega)];have hv:=qe7 (V.toNat:Int);by_cases hh:65536<=V/\V<=1114111
 ·rw [if_pos hh,if_pos ⟨by omega,hv.2 (by omega)⟩]
 ·rw [if_neg hh,if_neg]
  rintro ⟨ha,hb⟩;have :=hv.1 hb;omega
end Go.Proofs.YtpehcaidjlemiaaGreatDoor
