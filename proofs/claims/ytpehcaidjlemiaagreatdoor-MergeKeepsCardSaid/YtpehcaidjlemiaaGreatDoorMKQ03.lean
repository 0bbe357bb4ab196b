import Derived.Test.YtpehcaidjlemiaaGreatDoorMKZz
import Derived.Test.YtpehcaidjlemiaaGreatDoorMKQ02
import Derived.Laws.IdiomStrings
import Derived.Laws.BytesArg
import Derived.Test.YtpehcaidjlemiaaGreatDoorMKQ01
import Derived.Test.YtpehcaidjlemiaaGreatDoorProg
import Derived.Lib.Hide
import Derived.Lib.IndexBytes
import Derived.BigQuiet
import Derived.Deep.QuietTactic
import Derived.OneCell
set_option maxHeartbeats 4000000
set_option maxRecDepth 100000
set_option linter.unusedVariables false
namespace Go.Proofs.YtpehcaidjlemiaaGreatDoor
open Go Go.RowKit
theorem qrm {P:Program} {w:World} {B:Nat} {A:Option Addr} {l:List UInt8} (h:Row w B A (Lib.byteCells l)) (src dst e:TypeId) (c:Nat)
  (hs:P.underlying src=some (.slice e)) (he:P.underlying e=some (.int .u8)) (hd:P.underlying dst=some .string):
  (convert src dst (.slice A l.length c)).run P w= .ok (.string ⟨l.toArray⟩) w:=by
 by_cases h0:l=[]
 ·subst h0
  rcases A with _|a
  ·exact run_convert_bytes_nil w src e hs he 0 c dst hd
  ·exact run_convert_bytes_back w src dst e a c [] hs he hd (fun j hj=>absurd hj (by simp))
 ·have hpos:0<l.length:=List.length_pos_iff.2 h0
  obtain ⟨b,off,rfl,_,hc⟩:=h.at_ (by rw [Lib.byteCells_length];exact hpos);refine run_convert_bytes_back w src dst e _ c l hs he hd (fun j hj=> ?_)
  rw [Addr.add_lit];exact hc j _ (by simp [Lib.byteCells,hj])
theorem qrn:(Tryz.prog.info? 5).map (fun i=>(i.zero,i.size,i.bytes))=some (some (.int .u8 0),1,1):=by kernel_rfl
def qro (w:World) (xs:List Int) (o i:Value) (wr:World):Prop:=
 ∃ k:Nat,k<=xs.length/\i= .int .i64 k/\wr.ownsRow w.heap.size 5 1 o (text (xs.take k)).length (Lib.byteCells (text (xs.take k)))/\Below w.heap.size w wr
theorem qrp {xs:List Int} {k:Nat} (hk:k<xs.length) {bs:List Int} (h:Lib.encodeRuneZ xs[k]=bs):
  (text (xs.take (k+1))).length=(text (xs.take k)).length+bs.length/\Lib.byteCells (text (xs.take (k+1)))=Lib.byteCells (text (xs.take k))++bs.map (Value.int .u8):=by
 have e:text (xs.take (k+1))=text (xs.take k)++Lib.encodeRune xs[k]:=by rw [qlf hk,qld]
 refine ⟨?_,?_⟩
 ·rw [e,List.length_append,Lib.encodeRune,List.length_map,h]
 ·rw [e,Lib.byteCells_append,Lib.byteCells_encodeRune,Lib.runeCells,h]
theorem qrq (A:Option Addr) (c:Nat) (xs:List Int) (w:World) (hx:Row w w.heap.size A (qab xs)) (hl:xs.length<=1073741824):
  Calls Tryz.prog 182 #[.slice A xs.length c] w (qif (text xs) w):=by
 obtain ⟨i0,hi0,hz0,hz1,hz2⟩:=info_parts qrn;have HX:=qH hx;clear hx
 go_enter Tryz.func182,Tryz.ntmps182
 go_wp2
 go_loopw [3,4] (fun o i wr=>qro w xs o i wr) (fun _ i _=>xs.length-(intOf i).toNat)
 case atStart=>exact ⟨0,Nat.zero_le _,rfl,World.ownsRow_nil _ _ _ _,Below.refl _ w⟩
 case round=>
  obtain ⟨k,hk,rfl,hown,hbw⟩:=hrel;have hsz:=hbw.size;by_cases hlt:k<xs.length
  ·obtain ⟨b1,o1,e1,_,hc1⟩:=qcF (HX.out.below hbw) hlt
   subst e1;have hlen:=qlg xs k;have HN:=qH (fun bs=>qrp hlt (bs:=bs));obtain ⟨x,hx⟩:∃ x,x=xs[k]:=⟨_,rfl⟩;rw [<- hx] at hc1 HN;clear hx;obtain ⟨m,hm⟩:∃ m,m=(text (xs.take k)).length:=⟨_,rfl⟩;obtain ⟨cs,hcs⟩:∃ cs,cs=Lib.byteCells (text (xs.take k)):=⟨_,rfl⟩;rw [<- hm] at hown hlen HN;rw [<- hcs] at hown HN;clear hm hcs;have hxr:Hid True:=qH trivial;by_cases c_neg:x<0
   ·skip
    obtain ⟨hn1,hn2⟩:=HN.out [239,191,189] (Lib.encodeRuneZ_bad (by omega));have HN1:=qH hn1;have HN2:=qH hn2;clear hn1 hn2 HN
    go_wp2_with (at_builtin;refine wpList_append_own _ rfl (.tmp 52) (.tmp 66) 178 rfl w.heap.size 5 i0 _ 1 1 Tryz.underlying178 hi0 hz0 hz1 hz2 rfl (by omega) _ m cs rfl (hown.alloc _) ⟨wr.heap.size,0,none⟩ 3 3 (List.map (Value.int .u8) [239,191,189]) rfl rfl (qaN _ _ _) (ints_oneCell _ _) (by unfold maxLen;omega) (by omega) (by simp;omega) ?_)
    intro v' w3 hown3 hgrow3 _;go_wp2;go_roundw
    case rel=>
     refine ⟨k+1,by omega,by go_num,?_,(hbw.alloc (by omega) _).grown hgrow3 (by simp;omega) (fun k hk=>(hown.lt k hk).1)⟩;rw [HN1.out,HN2.out];exact hown3
    case measure=>simp [intOf];omega
   by_cases c_one:x<=127
   ·skip
    obtain ⟨hn1,hn2⟩:=HN.out [x] (Lib.encodeRuneZ_one (by omega) (by omega));have HN1:=qH hn1;have HN2:=qH hn2;clear hn1 hn2 HN
    go_wp2_with (at_builtin;refine wpList_append_own _ rfl (.tmp 32) (.tmp 35) 178 rfl w.heap.size 5 i0 _ 1 1 Tryz.underlying178 hi0 hz0 hz1 hz2 rfl (by omega) _ m cs rfl (hown.alloc _) ⟨wr.heap.size,0,none⟩ 1 1 (List.map (Value.int .u8) [x]) rfl rfl (qaN _ _ _) (ints_oneCell _ _) (by unfold maxLen;omega) (by omega) (by simp;omega) ?_)
    intro v' w3 hown3 hgrow3 _;go_wp2;go_roundw
    case rel=>
     refine ⟨k+1,by omega,by go_num,?_,(hbw.alloc (by omega) _).grown hgrow3 (by simp;omega) (fun k hk=>(hown.lt k hk).1)⟩;rw [HN1.out,HN2.out];exact hown3
    case measure=>simp [intOf];omega
   by_cases c_two:x<=2047
   ·skip
    obtain ⟨hn1,hn2⟩:=HN.out [192+x/64,128+x%64] (Lib.encodeRuneZ_two (by omega) (by omega));have HN1:=qH hn1;have HN2:=qH hn2;clear hn1 hn2 HN
    go_wp2_with (at_builtin;refine wpList_append_own _ rfl (.tmp 39) (.tmp 48) 178 rfl w.heap.size 5 i0 _ 1 1 Tryz.underlying178 hi0 hz0 hz1 hz2 rfl (by omega) _ m cs rfl (hown.alloc _) ⟨wr.heap.size,0,none⟩ 2 2 (List.map (Value.int .u8) [192+x/64,128+x%64]) rfl rfl (qaN _ _ _) (ints_oneCell _ _) (by unfold maxLen;omega) (by omega) (by simp;omega) ?_)
    intro v' w3 hown3 hgrow3 _;go_wp2;go_roundw
    case rel=>
     refine ⟨k+1,by omega,by go_num,?_,(hbw.alloc (by omega) _).grown hgrow3 (by simp;omega) (fun k hk=>(hown.lt k hk).1)⟩;rw [HN1.out,HN2.out];exact hown3
    case measure=>simp [intOf];omega
   by_cases c_three:x<55296
   ·skip
    obtain ⟨hn1,hn2⟩:=HN.out [224+x/4096,128+x/64%64,128+x%64] (Lib.encodeRuneZ_three (by omega));have HN1:=qH hn1;have HN2:=qH hn2;clear hn1 hn2 HN
    go_wp2_with (at_builtin;refine wpList_append_own _ rfl (.tmp 52) (.tmp 66) 178 rfl w.heap.size 5 i0 _ 1 1 Tryz.underlying178 hi0 hz0 hz1 hz2 rfl (by omega) _ m cs rfl (hown.alloc _) ⟨wr.heap.size,0,none⟩ 3 3 (List.map (Value.int .u8) [224+x/4096,128+x/64%64,128+x%64]) rfl rfl (qaN _ _ _) (ints_oneCell _ _) (by unfold maxLen;omega) (by omega) (by simp;omega) ?_)
    intro v' w3 hown3 hgrow3 _;go_wp2;go_roundw
    case rel=>
     refine ⟨k+1,by omega,by go_num,?_,(hbw.alloc (by omega) _).grown hgrow3 (by simp;omega) (fun k hk=>(hown.lt k hk).1)⟩;rw [HN1.out,HN2.out];exact hown3
    case measure=>simp [intOf];omega
   by_cases c_sur:x<=57343
   ·skip
    obtain ⟨hn1,hn2⟩:=HN.out [239,191,189] (Lib.encodeRuneZ_bad (by omega));have HN1:=qH hn1;have HN2:=qH hn2;clear hn1 hn2 HN
    go_wp2_with (at_builtin;refine wpList_append_own _ rfl (.tmp 52) (.tmp 66) 178 rfl w.heap.size 5 i0 _ 1 1 Tryz.underlying178 hi0 hz0 hz1 hz2 rfl (by omega) _ m cs rfl (hown.alloc _) ⟨wr.heap.size,0,none⟩ 3 3 (List.map (Value.int .u8) [239,191,189]) rfl rfl (qaN _ _ _) (ints_oneCell _ _) (by unfold maxLen;omega) (by omega) (by simp;omega) ?_)
    intro v' w3 hown3 hgrow3 _;go_wp2;go_roundw
    case rel=>
     refine ⟨k+1,by omega,by go_num,?_,(hbw.alloc (by omega) _).grown hgrow3 (by simp;omega) (fun k hk=>(hown.lt k hk).1)⟩;rw [HN1.out,HN2.out];exact hown3
    case measure=>simp [intOf];omega
   by_cases c_three2:x<=65535
   ·skip
    obtain ⟨hn1,hn2⟩:=HN.out [224+x/4096,128+x/64%64,128+x%64] (Lib.encodeRuneZ_three (by omega));have HN1:=qH hn1;have HN2:=qH hn2;clear hn1 hn2 HN
    go_wp2_with (at_builtin;refine wpList_append_own _ rfl (.tmp 52) (.tmp 66) 178 rfl w.heap.size 5 i0 _ 1 1 Tryz.underlying178 hi0 hz0 hz1 hz2 rfl (by omega) _ m cs rfl (hown.alloc _) ⟨wr.heap.size,0,none⟩ 3 3 (List.map (Value.int .u8) [224+x/4096,128+x/64%64,128+x%64]) rfl rfl (qaN _ _ _) (ints_oneCell _ _) (by unfold maxLen;omega) (by omega) (by simp;omega) ?_)
    intro v' w3 hown3 hgrow3 _;go_wp2;go_roundw
    case rel=>
     refine ⟨k+1,by omega,by go_num,?_,(hbw.alloc (by omega) _).grown hgrow3 (by simp;omega) (fun k hk=>(hown.lt k hk).1)⟩;rw [HN1.out,HN2.out];exact hown3
    case measure=>simp [intOf];omega
   by_cases c_four:x<=1114111
   ·skip
    obtain ⟨hn1,hn2⟩:=HN.out [240+x/262144,128+x/4096%64,128+x/64%64,128+x%64] (Lib.encodeRuneZ_four (by omega) (by omega));have HN1:=qH hn1;have HN2:=qH hn2;clear hn1 hn2 HN
    go_wp2_with (at_builtin;refine wpList_append_own _ rfl (.tmp 68) (.tmp 87) 178 rfl w.heap.size 5 i0 _ 1 1 Tryz.underlying178 hi0 hz0 hz1 hz2 rfl (by omega) _ m cs rfl (hown.alloc _) ⟨wr.heap.size,0,none⟩ 4 4 (List.map (Value.int .u8) [240+x/262144,128+x/4096%64,128+x/64%64,128+x%64]) rfl rfl (qaN _ _ _) (ints_oneCell _ _) (by unfold maxLen;omega) (by omega) (by simp;omega) ?_)
    intro v' w3 hown3 hgrow3 _;go_wp2;go_roundw
    case rel=>
     refine ⟨k+1,by omega,by go_num,?_,(hbw.alloc (by omega) _).grown hgrow3 (by simp;omega) (fun k hk=>(hown.lt k hk).1)⟩;rw [HN1.out,HN2.out];exact hown3
    case measure=>simp [intOf];omega
   ·skip
    obtain ⟨hn1,hn2⟩:=HN.out [239,191,189] (Lib.encodeRuneZ_bad (by omega));have HN1:=qH hn1;have HN2:=qH hn2;clear hn1 hn2 HN
    go_wp2_with (at_builtin;refine wpList_append_own _ rfl (.tmp 52) (.tmp 66) 178 rfl w.heap.size 5 i0 _ 1 1 Tryz.underlying178 hi0 hz0 hz1 hz2 rfl (by omega) _ m cs rfl (hown.alloc _) ⟨wr.heap.size,0,none⟩ 3 3 (List.map (Value.int .u8) [239,191,189]) rfl rfl (qaN _ _ _) (ints_oneCell _ _) (by unfold maxLen;omega) (by omega) (by simp;omega) ?_)
    intro v' w3 hown3 hgrow3 _;go_wp2;go_roundw
    case rel=>
     refine ⟨k+1,by omega,by go_num,?_,(hbw.alloc (by omega) _).grown hgrow3 (by simp;omega) (fun k hk=>(hown.lt k hk).1)⟩;rw [HN1.out,HN2.out];exact hown3
    case measure=>simp [intOf];omega
  ·have hkx:k=xs.length:=by omega
   subst hkx;rw [List.take_length] at hown;obtain ⟨A2,c2,rfl,_,hrow⟩:=qaR hown;have hconv:=qrm hrow 178 9 5 c2 Tryz.underlying178 Tryz.underlying5 Tryz.underlying9;clear hrow hown;go_wp2;go_ret;exact ⟨rfl,hbw⟩
theorem qlh (A:Option Addr) (n c:Nat) (xs:List Int) (w:World) (hn:xs.length=n) (hx:Row w w.heap.size A (qab xs)) (hl:n<=1073741824):
  Calls Tryz.prog 182 #[.slice A n c] w (qif (text xs) w):=by
 subst hn;exact qrq A c xs w hx hl
def qbK (l:List UInt8) (j:Nat):Prop:=j<l.length/\(l.getD j 0).toNat/64=2
def qdp (l:List UInt8) (v0:Int):Nat->Int
 |0=>v0
 |k+1=>64*qdp l v0 k+((l.getD (k+1) 0).toNat:Int)-128
def Small (k:Nat) (v:Int):Prop:=0<=v/\((k=0/\v<=31)∨(k=1/\v<=2047)∨(k=2/\v<=131071)∨(k=3/\v<=8388607))
def qfs (l:List UInt8) (k:Nat):Prop:=∀ j,1<=j->j<=k->qbK l j
theorem qig (l:List UInt8):qfs l 0:=fun j h1 h2=>by omega
theorem qih {l:List UInt8} {k:Nat} (h:qfs l k) (hc:qbK l (k+1)):qfs l (k+1):=fun j h1 h2=>by
 by_cases e:j=k+1
 ·rw [e];exact hc
 ·exact h j h1 (by omega)
theorem qdq (l:List UInt8) (j:Nat):(decide (j<l.length)&&(l.getD j 0).toNat/64==2)=true↔qbK l j:=by
 simp [qbK]
theorem qrr (l:List UInt8) (h:(l.getD 0 0).toNat<128):dec l=((l.getD 0 0).toNat,1):=by
 unfold dec;simp only [];rw [if_pos h]
theorem qrs (l:List UInt8) (h:128<=(l.getD 0 0).toNat) (h2:(l.getD 0 0).toNat<194∨245<=(l.getD 0 0).toNat):dec l=(65533,1):=by
 have hb:=(l.getD 0 0).toNat_lt;have hb1:=(l.getD 1 0).toNat_lt;have hb2:=(l.getD 2 0).toNat_lt;have hb3:=(l.getD 3 0).toNat_lt;unfold dec;simp only [];rw [if_neg (by omega)];by_cases c1:(l.getD 0 0).toNat/32=6
 ·by_cases c2:qbK l 1
  ·rw [if_pos (by rw [Bool.and_eq_true,qdq];exact ⟨by simpa using c1,c2⟩),if_neg (by omega)]
  ·rw [if_neg (by rw [Bool.and_eq_true,qdq];exact fun h=>c2 h.2)]
   rw [if_neg (by intro h;simp only [Bool.and_eq_true,beq_iff_eq,decide_eq_true_eq] at h;omega),if_neg (by intro h;simp only [Bool.and_eq_true,beq_iff_eq,decide_eq_true_eq] at h;omega)]
 ·rw [if_neg (by intro h;simp only [Bool.and_eq_true,beq_iff_eq,decide_eq_true_eq] at h;omega),if_neg (by intro h;simp only [Bool.and_eq_true,beq_iff_eq,decide_eq_true_eq] at h;omega)]
  by_cases c3:(l.getD 0 0).toNat/8=30
  ·split
   ·rw [if_neg]
    rw [Bool.and_eq_true,qfr];intro hh;have :=hh.2;omega
   ·rfl
  ·rw [if_neg (by intro h;simp only [Bool.and_eq_true,beq_iff_eq,decide_eq_true_eq] at h;omega)]
theorem qrt (l:List UInt8) (h:(l.getD 0 0).toNat/32=6) (hc:¬ qbK l 1):dec l=(65533,1):=by
 unfold dec;simp only [];rw [if_neg (by omega),if_neg (by rw [Bool.and_eq_true,qdq];exact fun h=>hc h.2),if_neg (by intro h;simp only [Bool.and_eq_true,beq_iff_eq,decide_eq_true_eq] at h;omega),if_neg (by intro h;simp only [Bool.and_eq_true,beq_iff_eq,decide_eq_true_eq] at h;omega)]
theorem qru (l:List UInt8) (h:(l.getD 0 0).toNat/32=6) (hg:194<=(l.getD 0 0).toNat) (hc:qbK l 1):dec l=(((l.getD 0 0).toNat%32)*64+(l.getD 1 0).toNat%64,2):=by
 unfold dec;simp only [];rw [if_neg (by omega),if_pos (by rw [Bool.and_eq_true,qdq];exact ⟨by simpa using h,hc⟩),if_pos (by omega)]
theorem qrv (l:List UInt8) (h:(l.getD 0 0).toNat/16=14) (hc:¬ (qbK l 1/\qbK l 2)):dec l=(65533,1):=by
 unfold dec;simp only [];rw [if_neg (by omega),if_neg (by intro h;simp only [Bool.and_eq_true,beq_iff_eq,decide_eq_true_eq] at h;omega),if_neg (by rw [Bool.and_eq_true,Bool.and_eq_true,qdq,qdq];exact fun h=>hc ⟨h.1.2,h.2⟩),if_neg (by intro h;simp only [Bool.and_eq_true,beq_iff_eq,decide_eq_true_eq] at h;omega)]
theorem qrw (l:List UInt8) (h:(l.getD 0 0).toNat/16=14) (h1:qbK l 1) (h2:qbK l 2) (c:Nat) (e:c=((l.getD 0 0).toNat%16)*4096+((l.getD 1 0).toNat%64)*64+(l.getD 2 0).toNat%64):
  dec l=if 2048<=c/\Utf8.valid c=true then (c,3) else (65533,1):=by
 subst e;unfold dec;simp only [];rw [if_neg (by omega),if_neg (by intro h;simp only [Bool.and_eq_true,beq_iff_eq,decide_eq_true_eq] at h;omega),if_pos (by rw [Bool.and_eq_true,Bool.and_eq_true,qdq,qdq];exact ⟨⟨by simpa using h,h1⟩,h2⟩)];simp only [Bool.and_eq_true,decide_eq_true_eq,ge_iff_le]
theorem qrx (l:List UInt8) (h:(l.getD 0 0).toNat/8=30) (hc:¬ (qbK l 1/\qbK l 2/\qbK l 3)):dec l=(65533,1):=by
 unfold dec;simp only [];rw [if_neg (by omega),if_neg (by intro h;simp only [Bool.and_eq_true,beq_iff_eq,decide_eq_true_eq] at h;omega),if_neg (by intro h;simp only [Bool.and_eq_true,beq_iff_eq,decide_eq_true_eq] at h;omega),if_neg (by rw [Bool.and_eq_true,Bool.and_eq_true,Bool.and_eq_true,qdq,qdq,qdq];exact fun h=>hc ⟨h.1.1.2,h.1.2,h.2⟩)]
theorem qry (l:List UInt8) (h:(l.getD 0 0).toNat/8=30) (h1:qbK l 1) (h2:qbK l 2) (h3:qbK l 3) (c:Nat)
  (e:c=((l.getD 0 0).toNat%8)*262144+((l.getD 1 0).toNat%64)*4096+((l.getD 2 0).toNat%64)*64+(l.getD 3 0).toNat%64):
  dec l=if 65536<=c/\Utf8.valid c=true then (c,4) else (65533,1):=by
 subst e;unfold dec;simp only [];rw [if_neg (by omega),if_neg (by intro h;simp only [Bool.and_eq_true,beq_iff_eq,decide_eq_true_eq] at h;omega),if_neg (by intro h;simp only [Bool.and_eq_true,beq_iff_eq,decide_eq_true_eq] at h;omega),if_pos (by rw [Bool.and_eq_true,Bool.and_eq_true,Bool.and_eq_true,qdq,qdq,qdq];exact ⟨⟨⟨by simpa using h,h1⟩,h2⟩,h3⟩)];simp only [Bool.and_eq_true,decide_eq_true_eq,ge_iff_le]
def qey (l:List UInt8) (e:Ending):Prop:=e= .returned (.tuple #[.int .i64 ((dec l).1:Int),.int .i64 ((dec l).2:Int)])
theorem qcu {l:List UInt8} {a b:Int} {c n:Nat} (h:dec l=(c,n)) (ha:a=c) (hb:b=n):qey l (.returned (.tuple #[.int .i64 a,.int .i64 b])):=by
 unfold qey;rw [h,ha,hb]
theorem qcv {s:ByteArray} {k:Nat} (h:k<s.size):s.data.toList.getD k 0=s[k]:=by
 rw [List.getD_eq_getElem?_getD,List.getElem?_eq_getElem (by rw [Array.length_toList];exact h)];simp;rfl
theorem qgm (s:ByteArray):s.data.toList.length=s.size:=Array.length_toList
theorem qrz {l:List UInt8} {V:Int} (h0:(l.getD 0 0).toNat/32=6) (hg:194<=(l.getD 0 0).toNat) (hc:qfs l 1) (hV:V=qdp l ((l.getD 0 0).toNat-192) 1):dec l=(V.toNat,2)/\128<=V/\V<=2047:=by
 have c1:=hc 1 (by omega) (by omega);rw [qru l h0 hg c1];have :=c1.2;simp only [qdp] at hV;simp only [Nat.zero_add] at hV;refine ⟨Prod.ext ?_ rfl,by omega,by omega⟩;show _=V.toNat;simp only [];omega
theorem qrA {l:List UInt8} {V:Int} (h0:(l.getD 0 0).toNat/16=14) (hc:qfs l 2) (hV:V=qdp l ((l.getD 0 0).toNat-224) 2):
  0<=V/\V<=65535/\(dec l=if 2048<=V/\¬ (55296<=V/\V<=57343) then (V.toNat,3) else (65533,1)):=by
 have c1:=hc 1 (by omega) (by omega);have c2:=hc 2 (by omega) (by omega);have e1:=c1.2;have e2:=c2.2;simp only [qdp] at hV;simp only [Nat.zero_add,Nat.reduceAdd] at hV;have hV2:V=(((l.getD 0 0).toNat%16)*4096+((l.getD 1 0).toNat%64)*64+(l.getD 2 0).toNat%64:Nat):=by omega
 refine ⟨by omega,by omega,?_⟩;rw [qrw l h0 c1 c2 V.toNat (by omega)];have hv:=qfr (V.toNat:Int);by_cases hh:2048<=V/\¬ (55296<=V/\V<=57343)
 ·rw [if_pos hh,if_pos ⟨by omega,hv.2 (by omega)⟩]
 ·rw [if_neg hh,if_neg]
  rintro ⟨ha,hb⟩;have :=hv.1 hb;omega
theorem qrB {l:List UInt8} {V:Int} (h0:(l.getD 0 0).toNat/8=30) (hc:qfs l 3) (hV:V=qdp l ((l.getD 0 0).toNat-240) 3):
  0<=V/\V<=2097151/\(dec l=if 65536<=V/\V<=1114111 then (V.toNat,4) else (65533,1)):=by
 have c1:=hc 1 (by omega) (by omega);have c2:=hc 2 (by omega) (by omega);have c3:=hc 3 (by omega) (by omega);have e1:=c1.2;have e2:=c2.2;have e3:=c3.2;simp only [qdp] at hV;simp only [Nat.zero_add,Nat.reduceAdd] at hV;have hV2:V=(((l.getD 0 0).toNat%8)*262144+((l.getD 1 0).toNat%64)*4096+((l.getD 2 0).toNat%64)*64+(l.getD 3 0).toNat%64:Nat):=by omega
 refine ⟨by omega,by omega,?_⟩;rw [qry l h0 c1 c2 c3 V.toNat (by omega)];have hv:=qfr (V.toNat:Int);by_cases hh:65536<=V/\V<=1114111
 ·rw [if_pos hh,if_pos ⟨by omega,hv.2 (by omega)⟩]
 ·rw [if_neg hh,if_neg]
  rintro ⟨ha,hb⟩;have :=hv.1 hb;omega
def qii (l:List UInt8) (n:Nat) (v0:Int) (v i:Value):Prop:=∃ (k:Nat) (V:Int),k+1<=n/\i= .int .i64 ((k:Int)+1)/\v= .int .i64 V/\Small k V/\Hid (V=qdp l v0 k)/\Hid (qfs l k)
theorem qij {s:ByteArray} {j x:Nat} (h:j<s.size) (hx:(s[j]'h).toNat=x) (hn:¬ (128<=x/\x<192)):¬ qbK s.data.toList j:=by
 rintro ⟨_,h2⟩;rw [qcv h,hx] at h2;omega
theorem qik {s:ByteArray} {j x:Nat} (h:j<s.size) (hx:(s[j]'h).toNat=x) (hn:128<=x/\x<192):qbK s.data.toList j:=by
 refine ⟨by rw [qgm];exact h,?_⟩;rw [qcv h,hx];omega
theorem qil {s:ByteArray} {j:Nat} (h:s.size<=j):¬ qbK s.data.toList j:=by
 rintro ⟨h1,_⟩;rw [qgm] at h1;omega
theorem qrC (s:ByteArray) (w:World) (h0:0<s.size) (hs:s.size<=1073741824) (b0:Nat) (hb0:(s[0]'h0).toNat=b0) (hb:b0<128):
  Calls Tryz.prog 218 #[.string s] w fun e w'=>qey s.data.toList e/\w=w':=by
 have hd:dec s.data.toList=(b0,1):=by rw [qrr _ (by rw [qcv h0,hb0];exact hb),qcv h0,hb0]
 have HD:=qH hd;clear hd
 go_enter Tryz.func218,Tryz.ntmps218
 go_wp2;go_ret2;exact ⟨qcu HD.out rfl rfl,rfl⟩
theorem qli (s:ByteArray) (w:World) (h0:0<s.size) (hs:s.size<=1073741824) (b0:Nat) (hb0:(s[0]'h0).toNat=b0) (hb:(128<=b0/\b0<194)∨(245<=b0/\b0<256)):
  Calls Tryz.prog 218 #[.string s] w fun e w'=>qey s.data.toList e/\w=w':=by
 have hd:dec s.data.toList=(65533,1):=qrs _ (by rw [qcv h0,hb0];omega) (by rw [qcv h0,hb0];omega);have HD:=qH hd;clear hd;rcases hb with ⟨hb1,hb2⟩|⟨hb1,hb2⟩
 all_goals
  go_enter Tryz.func218,Tryz.ntmps218
  go_wp2;go_ret2;exact ⟨qcu HD.out rfl rfl,rfl⟩
theorem qlj {s:ByteArray} (h0:0<s.size) {b0:Nat} (hb0:(s[0]'h0).toNat=b0) (hlo:194<=b0) (hhi:b0<224) {j:Nat} (hj:1<=j) (hjn:j<2) (hn:¬ qbK s.data.toList j):dec s.data.toList=(65533,1):=by
 apply qrt _ (by rw [qcv h0,hb0];omega);intro h;obtain rfl:j=1:=by omega
 exact hn h
theorem qrD (s:ByteArray) (w:World) (h0:0<s.size) (hs:s.size<=1073741824) (b0:Nat) (hb0:(s[0]'h0).toNat=b0) (hlo:194<=b0) (hhi:b0<224):
  Calls Tryz.prog 218 #[.string s] w fun e w'=>qey s.data.toList e/\w=w':=by
 have d1:decide ((b0:Int)<128)=false:=by simp;omega
 have d2:decide ((b0:Int)<224)=true:=by simp;omega
 have d3:decide ((b0:Int)<240)=true:=by simp;omega
 have d4:decide ((b0:Int)<245)=true:=by simp;omega
 by_cases hsz:2<=s.size
 ·have d5:decide ((s.size:Int)<2)=false:=by simp;omega
  go_enter Tryz.func218,Tryz.ntmps218
  go_wp2
  go_loop [2,3,7,8] (fun a b v i=>a= .int .i64 0/\b= .int .i64 0/\qii s.data.toList 2 ((b0:Int)-192) v i) (fun _ _ _ i=>2-(intOf i).toNat)
  case atStart=>exact ⟨rfl,rfl,0,_,by omega,rfl,rfl,⟨by omega,.inl ⟨rfl,by omega⟩⟩,qH rfl,qH (qig _)⟩
  case round=>
   obtain ⟨rfl,rfl,k,V,hk,rfl,rfl,⟨hV0,hV⟩,HV,HC⟩:=hrel;by_cases hlt:k+1<2
   ·have hk1:k+1<s.size:=by omega
    obtain ⟨x,hx⟩:∃ x:Nat,(s[k+1]'hk1).toNat=x:=⟨_,rfl⟩;have hx256:x<256:=by rw [<- hx];exact (s[k+1]'hk1).toNat_lt
    have hVb:V<=131071:=by omega
    by_cases hcont:128<=x/\x<192
    ·have HC2:=qH (qih HC.out (qik hk1 hx hcont))
     have hVn:64*V+(x:Int)-128=qdp s.data.toList ((b0:Int)-192) (k+1):=by
      rw [qdp,<- HV.out,qcv hk1,hx]
     have HVN:=qH hVn;have HSM:Hid (Small (k+1) (64*V+(x:Int)-128)):=⟨by omega,by omega⟩;clear hVn;obtain ⟨hc1,hc2⟩:=hcont;clear hV;go_wp2
     go_round
     case rel=>exact ⟨rfl,rfl,k+1,_,by omega,by go_num,rfl,HSM.out,HVN,HC2⟩
     case measure=>simp [intOf];omega
    ·have HD:=qH (qlj h0 hb0 hlo hhi (j:=k+1) (by omega) hlt (qij hk1 hx hcont))
     clear hV;by_cases hc1:128<=x
     ·have hc2:192<=x:=by omega
      clear hcont;go_wp2;go_ret2;exact ⟨qcu HD.out rfl rfl,rfl⟩
     ·clear hcont
      go_wp2;go_ret2;exact ⟨qcu HD.out rfl rfl,rfl⟩
   ·skip
    have hk1:k=1:=by omega
    subst hk1;have hend:=qrz (V:=V) (by rw [qcv h0,hb0];omega) (by rw [qcv h0,hb0];omega) HC.out (by rw [qcv h0,hb0];exact HV.out);have hl:=hend.2.1;have hh:=hend.2.2;have HE:=qH hend.1;clear hend;go_wp2;go_ret2;exact ⟨qcu HE.out (by omega) rfl,rfl⟩
 ·have HD:=qH (qlj h0 hb0 hlo hhi (j:=1) (by omega) (by omega) (qil (by omega)))
  go_enter Tryz.func218,Tryz.ntmps218
  go_wp2;go_ret2;exact ⟨qcu HD.out rfl rfl,rfl⟩
theorem qlk {s:ByteArray} (h0:0<s.size) {b0:Nat} (hb0:(s[0]'h0).toNat=b0) (hlo:224<=b0) (hhi:b0<240) {j:Nat} (hj:1<=j) (hjn:j<3) (hn:¬ qbK s.data.toList j):dec s.data.toList=(65533,1):=by
 apply qrv _ (by rw [qcv h0,hb0];omega);intro h;obtain rfl|rfl:j=1∨j=2:=by omega
 ·exact hn h.1
 ·exact hn h.2
theorem qrE (s:ByteArray) (w:World) (h0:0<s.size) (hs:s.size<=1073741824) (b0:Nat) (hb0:(s[0]'h0).toNat=b0) (hlo:224<=b0) (hhi:b0<240):
  Calls Tryz.prog 218 #[.string s] w fun e w'=>qey s.data.toList e/\w=w':=by
 have d1:decide ((b0:Int)<128)=false:=by simp;omega
 have d2:decide ((b0:Int)<224)=false:=by simp;omega
 have d3:decide ((b0:Int)<240)=true:=by simp;omega
 have d4:decide ((b0:Int)<245)=true:=by simp;omega
 by_cases hsz:3<=s.size
 ·have d5:decide ((s.size:Int)<3)=false:=by simp;omega
  go_enter Tryz.func218,Tryz.ntmps218
  go_wp2
  go_loop [2,3,7,8] (fun a b v i=>a= .int .i64 0/\b= .int .i64 0/\qii s.data.toList 3 ((b0:Int)-224) v i) (fun _ _ _ i=>3-(intOf i).toNat)
  case atStart=>exact ⟨rfl,rfl,0,_,by omega,rfl,rfl,⟨by omega,.inl ⟨rfl,by omega⟩⟩,qH rfl,qH (qig _)⟩
  case round=>
   obtain ⟨rfl,rfl,k,V,hk,rfl,rfl,⟨hV0,hV⟩,HV,HC⟩:=hrel;by_cases hlt:k+1<3
   ·have hk1:k+1<s.size:=by omega
    obtain ⟨x,hx⟩:∃ x:Nat,(s[k+1]'hk1).toNat=x:=⟨_,rfl⟩;have hx256:x<256:=by rw [<- hx];exact (s[k+1]'hk1).toNat_lt
    have hVb:V<=131071:=by omega
    by_cases hcont:128<=x/\x<192
    ·have HC2:=qH (qih HC.out (qik hk1 hx hcont))
     have hVn:64*V+(x:Int)-128=qdp s.data.toList ((b0:Int)-224) (k+1):=by
      rw [qdp,<- HV.out,qcv hk1,hx]
     have HVN:=qH hVn;have HSM:Hid (Small (k+1) (64*V+(x:Int)-128)):=⟨by omega,by omega⟩;clear hVn;obtain ⟨hc1,hc2⟩:=hcont;clear hV;go_wp2
     go_round
     case rel=>exact ⟨rfl,rfl,k+1,_,by omega,by go_num,rfl,HSM.out,HVN,HC2⟩
     case measure=>simp [intOf];omega
    ·have HD:=qH (qlk h0 hb0 hlo hhi (j:=k+1) (by omega) hlt (qij hk1 hx hcont))
     clear hV;by_cases hc1:128<=x
     ·have hc2:192<=x:=by omega
      clear hcont;go_wp2;go_ret2;exact ⟨qcu HD.out rfl rfl,rfl⟩
     ·clear hcont
      go_wp2;go_ret2;exact ⟨qcu HD.out rfl rfl,rfl⟩
   ·skip
    have hk1:k=2:=by omega
    subst hk1;obtain ⟨hl,hh,hend⟩:=qrA (V:=V) (by rw [qcv h0,hb0];omega) HC.out (by rw [qcv h0,hb0];exact HV.out);by_cases c1:2048<=V
    ·by_cases c2:55296<=V
     ·by_cases c3:V<=57343
      ·rw [if_neg (by omega)] at hend
       have HE:=qH hend;clear hend;go_wp2;go_ret2;exact ⟨qcu HE.out rfl rfl,rfl⟩
      ·rw [if_pos (by omega)] at hend
       have HE:=qH hend;clear hend;go_wp2;go_ret2;exact ⟨qcu HE.out (by omega) rfl,rfl⟩
     ·rw [if_pos (by omega)] at hend
      have HE:=qH hend;clear hend;go_wp2;go_ret2;exact ⟨qcu HE.out (by omega) rfl,rfl⟩
    ·rw [if_neg (by omega)] at hend
     have HE:=qH hend;clear hend;go_wp2;go_ret2;exact ⟨qcu HE.out rfl rfl,rfl⟩
 ·have HD:=qH (qlk h0 hb0 hlo hhi (j:=2) (by omega) (by omega) (qil (by omega)))
  go_enter Tryz.func218,Tryz.ntmps218
  go_wp2;go_ret2;exact ⟨qcu HD.out rfl rfl,rfl⟩
theorem qll {s:ByteArray} (h0:0<s.size) {b0:Nat} (hb0:(s[0]'h0).toNat=b0) (hlo:240<=b0) (hhi:b0<245) {j:Nat} (hj:1<=j) (hjn:j<4) (hn:¬ qbK s.data.toList j):dec s.data.toList=(65533,1):=by
 apply qrx _ (by rw [qcv h0,hb0];omega);intro h;obtain rfl|rfl|rfl:j=1∨j=2∨j=3:=by omega
 ·exact hn h.1
 ·exact hn h.2.1
 ·exact hn h.2.2
theorem qrF (s:ByteArray) (w:World) (h0:0<s.size) (hs:s.size<=1073741824) (b0:Nat) (hb0:(s[0]'h0).toNat=b0) (hlo:240<=b0) (hhi:b0<245):
  Calls Tryz.prog 218 #[.string s] w fun e w'=>qey s.data.toList e/\w=w':=by
 have d1:decide ((b0:Int)<128)=false:=by simp;omega
 have d2:decide ((b0:Int)<224)=false:=by simp;omega
 have d3:decide ((b0:Int)<240)=false:=by simp;omega
 have d4:decide ((b0:Int)<245)=true:=by simp;omega
 by_cases hsz:4<=s.size
 ·have d5:decide ((s.size:Int)<4)=false:=by simp;omega
  go_enter Tryz.func218,Tryz.ntmps218
  go_wp2
  go_loop [2,3,7,8] (fun a b v i=>a= .int .i64 0/\b= .int .i64 0/\qii s.data.toList 4 ((b0:Int)-240) v i) (fun _ _ _ i=>4-(intOf i).toNat)
  case atStart=>exact ⟨rfl,rfl,0,_,by omega,rfl,rfl,⟨by omega,.inl ⟨rfl,by omega⟩⟩,qH rfl,qH (qig _)⟩
  case round=>
   obtain ⟨rfl,rfl,k,V,hk,rfl,rfl,⟨hV0,hV⟩,HV,HC⟩:=hrel;by_cases hlt:k+1<4
   ·have hk1:k+1<s.size:=by omega
    obtain ⟨x,hx⟩:∃ x:Nat,(s[k+1]'hk1).toNat=x:=⟨_,rfl⟩;have hx256:x<256:=by rw [<- hx];exact (s[k+1]'hk1).toNat_lt
    have hVb:V<=131071:=by omega
    by_cases hcont:128<=x/\x<192
    ·have HC2:=qH (qih HC.out (qik hk1 hx hcont))
     have hVn:64*V+(x:Int)-128=qdp s.data.toList ((b0:Int)-240) (k+1):=by
      rw [qdp,<- HV.out,qcv hk1,hx]
     have HVN:=qH hVn;have HSM:Hid (Small (k+1) (64*V+(x:Int)-128)):=⟨by omega,by omega⟩;clear hVn;obtain ⟨hc1,hc2⟩:=hcont;clear hV;go_wp2
     go_round
     case rel=>exact ⟨rfl,rfl,k+1,_,by omega,by go_num,rfl,HSM.out,HVN,HC2⟩
     case measure=>simp [intOf];omega
    ·have HD:=qH (qll h0 hb0 hlo hhi (j:=k+1) (by omega) hlt (qij hk1 hx hcont))
     clear hV;by_cases hc1:128<=x
     ·have hc2:192<=x:=by omega
      clear hcont;go_wp2;go_ret2;exact ⟨qcu HD.out rfl rfl,rfl⟩
     ·clear hcont
      go_wp2;go_ret2;exact ⟨qcu HD.out rfl rfl,rfl⟩
   ·skip
    have hk1:k=3:=by omega
    subst hk1;obtain ⟨hl,hh,hend⟩:=qrB (V:=V) (by rw [qcv h0,hb0];omega) HC.out (by rw [qcv h0,hb0];exact HV.out);by_cases c1:65536<=V
    ·by_cases c2:V<=1114111
     ·rw [if_pos (by omega)] at hend
      have HE:=qH hend;clear hend;go_wp2;go_ret2;exact ⟨qcu HE.out (by omega) rfl,rfl⟩
     ·rw [if_neg (by omega)] at hend
      have HE:=qH hend;clear hend;go_wp2;go_ret2;exact ⟨qcu HE.out rfl rfl,rfl⟩
    ·rw [if_neg (by omega)] at hend
     have HE:=qH hend;clear hend;go_wp2;go_ret2;exact ⟨qcu HE.out rfl rfl,rfl⟩
 ·have HD:=qH (qll h0 hb0 hlo hhi (j:=3) (by omega) (by omega) (qil (by omega)))
  go_enter Tryz.func218,Tryz.ntmps218
  go_wp2;go_ret2;exact ⟨qcu HD.out rfl rfl,rfl⟩
theorem qrG (s:ByteArray) (w:World) (h0:0<s.size) (hs:s.size<=1073741824):
  Calls Tryz.prog 218 #[.string s] w fun e w'=>qey s.data.toList e/\w=w':=by
 obtain ⟨b0,hb0⟩:∃ b0:Nat,(s[0]'h0).toNat=b0:=⟨_,rfl⟩;have h256:b0<256:=by rw [<- hb0];exact (s[0]'h0).toNat_lt
 by_cases c1:b0<128
 ·exact qrC s w h0 hs b0 hb0 c1
 by_cases c2:b0<194
 ·exact qli s w h0 hs b0 hb0 (.inl ⟨by omega,c2⟩)
 by_cases c3:b0<224
 ·exact qrD s w h0 hs b0 hb0 (by omega) c3
 by_cases c4:b0<240
 ·exact qrE s w h0 hs b0 hb0 (by omega) c4
 by_cases c5:b0<245
 ·exact qrF s w h0 hs b0 hb0 (by omega) c5
 ·exact qli s w h0 hs b0 hb0 (.inr ⟨by omega,h256⟩)
theorem qrH (l:List UInt8):(dec l).1<=1114111:=by
 have :=(qfr _).1 (qq5 l);omega
theorem qrI (t:ByteArray) (w:World) (c n:Nat) (h0:0<t.size) (hs:t.size<=1073741824) (h:Hid (dec t.data.toList=(c,n))):
  Calls Tryz.prog 218 #[.string t] w fun e w'=>e= .returned (.tuple #[.int .i64 c,.int .i64 n])/\w=w':=
 (qrG t w h0 hs).mono fun e w' ⟨he,hw⟩=>⟨by unfold qey at he;rw [he,h.out],hw⟩
def qrJ (s:ByteArray) (w:World) (a l:Value) (wr:World):Prop:=
 ∃ (t:ByteArray) (acc:List Int),a= .string t/\t.size+acc.length<=s.size/\wr.ownsRow w.heap.size 3 1 l acc.length (qab acc)/\Below w.heap.size w wr/\acc++qcm t.data.toList=qcm s.data.toList
def qlm:Value->Nat| .string s=>s.size|_=>0
theorem qrK (s:ByteArray) (w:World) (hs:s.size<=1073741824):
  Calls Tryz.prog 179 #[.string s] w (qle (qcm s.data.toList) w):=by
 obtain ⟨i0,hi0,hz0,hz1,hz2⟩:=info_parts qc7
 go_enter Tryz.func179,Tryz.ntmps179
 go_wp2
 go_loopw [0,3] (fun a l wr=>qrJ s w a l wr) (fun a _ _=>qlm a)
 case atStart=>exact ⟨s,[],rfl,by simp,World.ownsRow_nil _ _ _ _,Below.refl _ _,rfl⟩
 case round=>
  obtain ⟨t,acc,rfl,hsz,hown,hbw,hacc⟩:=hrel;have HACC:=qH hacc;clear hacc;by_cases hp:0<t.size
  ·obtain ⟨c,n,hd⟩:∃ c n,dec t.data.toList=(c,n):=⟨_,_,rfl⟩
   have hne:t.data.toList≠[]:=by
    intro h;have :=congrArg List.length h;rw [qgm,List.length_nil] at this;omega
   have hw:=qgk _ hne;have hst:=qlb _ hne;have hc:=qrH t.data.toList;rw [hd] at hw hst hc;rw [qgm] at hw;simp only [] at hw hst hc;have HD:=qH hd;have HST:=qH hst;clear hd hst hne;obtain ⟨hw1,hw2⟩:=hw;have hszi:=hbw.size
   go_wp2_with (go_at_call 218;refine (qrI t _ c n hp (by omega) HD).mono ?_)
   rintro e w' ⟨rfl,rfl⟩;clear HD
   go_wp2_with (at_builtin;refine wpList_append_own _ rfl (.tmp 14) (.tmp 16) 23 rfl w.heap.size 3 i0 _ 1 8 Tryz.underlying23 hi0 hz0 hz1 hz2 rfl (by omega) _ acc.length (qab acc) rfl (hown.alloc _) ⟨wr.heap.size,0,none⟩ 1 1 [.int .i64 c] rfl rfl ?c1 ?c2 ?c3 ?c4 ?c5 ?_)
   case c1=>
    intro j u hj
    match j,hj with
    |0,hj=>simp at hj;subst hj;simp [Addr.add]
    |(j+1),hj=>simp at hj
   case c2=>intro u hu;simp at hu;subst hu;rfl
   case c3=>unfold maxLen;omega
   case c4=>omega
   case c5=>simp;omega
   intro v' w3 hown3 hgrow3 _;go_wp2;go_roundw
   case rel=>
    refine ⟨t.extract n t.size,acc++[(c:Int)],rfl,?_,?_,?_,?_⟩
    ·rw [ByteArray.size_extract];simp;omega
    ·simpa [qab] using hown3
    ·exact (hbw.alloc (by omega) _).grown hgrow3 (by simp;omega) (fun k hk=>(hown.lt k hk).1)
    ·rw [<- HACC.out,HST.out,Lib.extract_to_end];simp
   case measure=>
    simp only [qlm];simp [ByteArray.size_extract];omega
  ·go_wp2
   go_ret;have he:t.data.toList=[]:=List.eq_nil_of_length_eq_zero (by rw [qgm];omega);have hout:=HACC.out;rw [he,qla,List.append_nil] at hout;subst hout;exact ⟨_,rfl,hown,hbw⟩
def qae (l:List (List UInt8)):List Value:=l.map fun s=> .string ⟨s.toArray⟩
theorem qeV (l:List (List UInt8)):(qae l).length=l.length:=by simp [qae]
theorem qeW:(Tryz.prog.info? 9).map (fun i=>(i.zero,i.size,i.bytes))=some (some (.string ByteArray.empty),1,16):=by kernel_rfl
theorem qim {w:World} {B:Nat} {A:Option Addr} {xs:List (List UInt8)} (h:Row w B A (qae xs)) {k:Nat} (hk:k<xs.length):
  ∃ b off,A=some ⟨b,off,none⟩/\b<B/\w.cell? ⟨b,off+k,none⟩=some (.string ⟨xs[k].toArray⟩):=by
 obtain ⟨b,off,rfl,hb,hc⟩:=h.at_ (by rw [qeV];omega);refine ⟨b,off,rfl,hb,hc k _ ?_⟩;simp [qae,hk]
def qba (c:Int):Bool:=qdW c || qex c
def step (st:List (List Int) × List Int) (c:Int):List (List Int) × List Int:=
 if qba c=true then (st.1,st.2++[qbW c]) else if st.2=[] then st else (st.1++[st.2],[])
def qcw (st:List (List Int) × List Int) (l:List Int):List (List Int):=((l++[32]).foldl step st).1
def qee (l:List Int):List (List Int):=qcw ([],[]) l
def qaM (l:List UInt8):List (List UInt8):=(qee (qcm l)).map text
theorem qln:qba 32=false:=by decide
theorem qrL (c:Int):qba (qbW c)=qba c:=by rw [qba,qba,qra,qrb]
theorem qgY {o:List (List Int)} {n:List Int} {c:Int} (h:qba c=true):step (o,n) c=(o,n++[qbW c]):=by unfold step;rw [if_pos h]
theorem qgn {o:List (List Int)} {c:Int} (h:qba c=false):step (o,[]) c=(o,[]):=by unfold step;rw [if_neg (by simp [h]),if_pos rfl]
theorem qgo {o:List (List Int)} {n:List Int} {c:Int} (h:qba c=false) (hn:n≠[]):step (o,n) c=(o++[n],[]):=by unfold step;rw [if_neg (by simp [h]),if_neg hn]
theorem qin (st:List (List Int) × List Int) (c:Int) (l:List Int):qcw st (c::l)=qcw (step st c) l:=by simp [qcw]
theorem qgZ (o:List (List Int)):qcw (o,[]) []=o:=by simp [qcw,qgn qln]
theorem qio {o:List (List Int)} {n:List Int} (hn:n≠[]):qcw (o,n) []=o++[n]:=by simp [qcw,qgo qln hn]
theorem qrM (a o:List (List Int)) (n:List Int) (c:Int):step (a++o,n) c=(a++(step (o,n) c).1,(step (o,n) c).2):=by
 unfold step;split
 ·rfl
 ·split
  ·rfl
  ·simp
theorem qrN (a:List (List Int)):∀ (l:List Int) (o:List (List Int)) (n:List Int),l.foldl step (a++o,n)=(a++(l.foldl step (o,n)).1,(l.foldl step (o,n)).2)
 |[],o,n=>rfl
 |c::l,o,n=>by rw [List.foldl_cons,List.foldl_cons,qrM,qrN a l]
def qg0 (w:List Int):Prop:=w≠[]/\∀ c∈w,qba c=true/\qbW c=c
theorem qg1:∀ (l:List Int) (o:List (List Int)) (n:List Int),(∀ w∈o,qg0 w)->(∀ c∈n,qba c=true/\qbW c=c)->∀ w∈qcw (o,n) l,qg0 w
 |[],o,n,ho,hn,w,hw=>by
  by_cases h:n=[]
  ·subst h;rw [qgZ] at hw;exact ho w hw
  ·rw [qio h] at hw
   rcases List.mem_append.1 hw with hw|hw
   ·exact ho w hw
   ·obtain rfl:=List.mem_singleton.1 hw;exact ⟨h,hn⟩
 |c::l,o,n,ho,hn,w,hw=>by
  rw [qin] at hw;by_cases hc:qba c=true
  ·rw [qgY hc] at hw
   refine qg1 l o _ ho (fun x hx=> ?_) w hw;rcases List.mem_append.1 hx with hx|hx
   ·exact hn x hx
   ·obtain rfl:=List.mem_singleton.1 hx;exact ⟨by rw [qrL];exact hc,qq9 c⟩
  ·have hc':qba c=false:=by simpa using hc
   by_cases h:n=[]
   ·subst h;rw [qgn hc'] at hw;exact qg1 l o [] ho hn w hw
   ·rw [qgo hc' h] at hw
    refine qg1 l _ [] (fun x hx=> ?_) (fun x hx=>by cases hx) w hw;rcases List.mem_append.1 hx with hx|hx
    ·exact ho x hx
    ·obtain rfl:=List.mem_singleton.1 hx;exact ⟨h,hn⟩
theorem qrO (l:List Int):∀ w∈qee l,qg0 w:=qg1 l [] [] (fun w hw=>by cases hw) (fun c hc=>by cases hc)
def qaV (o:List (List Int)):Nat:=(o.map List.length).sum
theorem qlo (a b:List (List Int)):qaV (a++b)=qaV a+qaV b:=by simp [qaV]
theorem qg2:∀ (l:List Int) (o:List (List Int)) (n:List Int),qaV (qcw (o,n) l)<=qaV o+n.length+l.length
 |[],o,n=>by
  by_cases h:n=[]
  ·subst h;rw [qgZ];omega
  ·rw [qio h,qlo];simp [qaV]
 |c::l,o,n=>by
  rw [qin];by_cases hc:qba c=true
  ·rw [qgY hc];have :=qg2 l o (n++[qbW c]);simp at this ⊢;omega
  ·have hc':qba c=false:=by simpa using hc
   by_cases h:n=[]
   ·subst h;rw [qgn hc'];have :=qg2 l o [];simp at this ⊢;omega
   ·rw [qgo hc' h];have :=qg2 l (o++[n]) [];rw [qlo] at this;simp [qaV] at this ⊢;omega
theorem qlp (l:List Int):qaV (qee l)<=l.length:=by have :=qg2 l [] [];simpa [qaV,qee] using this
theorem qrP {o:List (List Int)} {w:List Int} (h:w∈o):w.length<=qaV o:=by
 induction o with
 |nil=>cases h
 |cons a o ih=>
  simp only [qaV,List.map_cons,List.sum_cons] at ih ⊢;rcases List.mem_cons.1 h with rfl|h
  ·omega
  ·have :=ih h;omega
theorem qlq:∀ {o:List (List Int)},(∀ w∈o,qg0 w)->o.length<=qaV o
 |[],_=>by simp
 |a::o,h=>by
  have h1:=List.length_pos_iff.2 (h a (List.mem_cons_self ..)).1;have h2:=qlq (o:=o) (fun w hw=>h w (List.mem_cons_of_mem _ hw));simp only [qaV,List.map_cons,List.sum_cons,List.length_cons] at h2 ⊢;omega
theorem qrQ (l:List Int):(qee l).length<=l.length:=Nat.le_trans (qlq (qrO l)) (qlp l)
theorem qlr (l:List UInt8):(qaM l).length<=l.length:=by
 rw [qaM,List.length_map];exact Nat.le_trans (qrQ _) (qgW l)
theorem qls {l w:List UInt8} (h:w∈qaM l):w.length<=4*l.length:=by
 obtain ⟨v,hv,rfl⟩:=List.mem_map.1 h;have h1:=qlc v;have h2:=qrP hv;have h3:=qlp (qcm l);have h4:=qgW l;omega
end Go.Proofs.YtpehcaidjlemiaaGreatDoor
