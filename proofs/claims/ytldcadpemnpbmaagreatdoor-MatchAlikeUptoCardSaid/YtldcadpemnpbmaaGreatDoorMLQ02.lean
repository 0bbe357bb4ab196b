import Derived.Test.YtldcadpemnpbmaaGreatDoorMLQ01
import Derived.Test.YtldcadpemnpbmaaGreatDoorProg
import Derived.Lib.Hide
import Derived.Lib.IndexBytes
import Derived.OneCell
import Derived.BigQuiet
import Derived.Deep.QuietTactic
namespace Go.Proofs.YtldcadpemnpbmaaGreatDoor
open Go Go.RowKit
set_option linter.unusedVariables false
def ContAt (l:List UInt8) (j:Nat):Prop:=j<l.length∧(l.getD j 0).toNat/64=2
def vals (l:List UInt8) (v0:Int):Nat→Int
 |0=>v0
 |k+1=>64*vals l v0 k+((l.getD (k+1) 0).toNat:Int)-128
def Small (k:Nat) (v:Int):Prop:=0≤v∧((k=0∧v≤31)∨(k=1∧v≤2047)∨(k=2∧v≤131071)∨(k=3∧v≤8388607))
def Conts (l:List UInt8) (k:Nat):Prop:=∀ j,1≤j→j≤k→ContAt l j
theorem conts_zero (l:List UInt8):Conts l 0:=fun j h1 h2=>by omega
theorem conts_succ {l:List UInt8} {k:Nat} (h:Conts l k) (hc:ContAt l (k+1)):Conts l (k+1):=fun j h1 h2=>by
 by_cases e:j=k+1
 ·rw [e];exact hc
 ·exact h j h1 (by omega)
theorem cont_bool (l:List UInt8) (j:Nat):(decide (j<l.length)&&(l.getD j 0).toNat/64==2)=true↔ContAt l j:=by
 simp [ContAt]
theorem dec_low (l:List UInt8) (h:(l.getD 0 0).toNat<128):dec l=((l.getD 0 0).toNat,1):=by
 unfold dec;simp only [];rw [if_pos h]
theorem dec_bad (l:List UInt8) (h:128≤(l.getD 0 0).toNat) (h2:(l.getD 0 0).toNat<194∨245≤(l.getD 0 0).toNat):dec l=(65533,1):=by
 have hb:=(l.getD 0 0).toNat_lt
 have hb1:=(l.getD 1 0).toNat_lt
 have hb2:=(l.getD 2 0).toNat_lt
 have hb3:=(l.getD 3 0).toNat_lt
 unfold dec
 simp only []
 rw [if_neg (by omega)]
 by_cases c1:(l.getD 0 0).toNat/32=6
 ·by_cases c2:ContAt l 1
  ·rw [if_pos (by rw [Bool.and_eq_true,cont_bool];exact ⟨by simpa using c1,c2⟩),if_neg (by omega)]
  ·rw [if_neg (by rw [Bool.and_eq_true,cont_bool];exact fun h=>c2 h.2)]
   rw [if_neg (by intro h;simp only [Bool.and_eq_true,beq_iff_eq,decide_eq_true_eq] at h;omega),if_neg (by intro h;simp only [Bool.and_eq_true,beq_iff_eq,decide_eq_true_eq] at h;omega)]
 ·rw [if_neg (by intro h;simp only [Bool.and_eq_true,beq_iff_eq,decide_eq_true_eq] at h;omega),if_neg (by intro h;simp only [Bool.and_eq_true,beq_iff_eq,decide_eq_true_eq] at h;omega)]
  by_cases c3:(l.getD 0 0).toNat/8=30
  ·split
   ·rw [if_neg]
    rw [Bool.and_eq_true,valid_iff]
    intro hh
    have :=hh.2
    omega
   ·rfl
  ·rw [if_neg (by intro h;simp only [Bool.and_eq_true,beq_iff_eq,decide_eq_true_eq] at h;omega)]
theorem dec_short2 (l:List UInt8) (h:(l.getD 0 0).toNat/32=6) (hc:¬ ContAt l 1):dec l=(65533,1):=by
 unfold dec
 simp only []
 rw [if_neg (by omega),if_neg (by rw [Bool.and_eq_true,cont_bool];exact fun h=>hc h.2),if_neg (by intro h;simp only [Bool.and_eq_true,beq_iff_eq,decide_eq_true_eq] at h;omega),if_neg (by intro h;simp only [Bool.and_eq_true,beq_iff_eq,decide_eq_true_eq] at h;omega)]
theorem dec_ok2 (l:List UInt8) (h:(l.getD 0 0).toNat/32=6) (hg:194≤(l.getD 0 0).toNat) (hc:ContAt l 1):dec l=(((l.getD 0 0).toNat%32)*64+(l.getD 1 0).toNat%64,2):=by
 unfold dec
 simp only []
 rw [if_neg (by omega),if_pos (by rw [Bool.and_eq_true,cont_bool];exact ⟨by simpa using h,hc⟩),if_pos (by omega)]
theorem dec_short3 (l:List UInt8) (h:(l.getD 0 0).toNat/16=14) (hc:¬ (ContAt l 1∧ContAt l 2)):dec l=(65533,1):=by
 unfold dec
 simp only []
 rw [if_neg (by omega),if_neg (by intro h;simp only [Bool.and_eq_true,beq_iff_eq,decide_eq_true_eq] at h;omega),if_neg (by rw [Bool.and_eq_true,Bool.and_eq_true,cont_bool,cont_bool];exact fun h=>hc ⟨h.1.2,h.2⟩),if_neg (by intro h;simp only [Bool.and_eq_true,beq_iff_eq,decide_eq_true_eq] at h;omega)]
theorem dec_mid3 (l:List UInt8) (h:(l.getD 0 0).toNat/16=14) (h1:ContAt l 1) (h2:ContAt l 2) (c:Nat) (e:c=((l.getD 0 0).toNat%16)*4096+((l.getD 1 0).toNat%64)*64+(l.getD 2 0).toNat%64):
  dec l=if 2048≤c∧Utf8.valid c=true then (c,3) else (65533,1):=by
 subst e
 unfold dec
 simp only []
 rw [if_neg (by omega),if_neg (by intro h;simp only [Bool.and_eq_true,beq_iff_eq,decide_eq_true_eq] at h;omega),if_pos (by rw [Bool.and_eq_true,Bool.and_eq_true,cont_bool,cont_bool];exact ⟨⟨by simpa using h,h1⟩,h2⟩)]
 simp only [Bool.and_eq_true,decide_eq_true_eq,ge_iff_le]
theorem dec_short4 (l:List UInt8) (h:(l.getD 0 0).toNat/8=30) (hc:¬ (ContAt l 1∧ContAt l 2∧ContAt l 3)):dec l=(65533,1):=by
 unfold dec
 simp only []
 rw [if_neg (by omega),if_neg (by intro h;simp only [Bool.and_eq_true,beq_iff_eq,decide_eq_true_eq] at h;omega),if_neg (by intro h;simp only [Bool.and_eq_true,beq_iff_eq,decide_eq_true_eq] at h;omega),if_neg (by rw [Bool.and_eq_true,Bool.and_eq_true,Bool.and_eq_true,cont_bool,cont_bool,cont_bool];exact fun h=>hc ⟨h.1.1.2,h.1.2,h.2⟩)]
theorem dec_mid4 (l:List UInt8) (h:(l.getD 0 0).toNat/8=30) (h1:ContAt l 1) (h2:ContAt l 2) (h3:ContAt l 3) (c:Nat)
  (e:c=((l.getD 0 0).toNat%8)*262144+((l.getD 1 0).toNat%64)*4096+((l.getD 2 0).toNat%64)*64+(l.getD 3 0).toNat%64):
  dec l=if 65536≤c∧Utf8.valid c=true then (c,4) else (65533,1):=by
 subst e
 unfold dec
 simp only []
 rw [if_neg (by omega),if_neg (by intro h;simp only [Bool.and_eq_true,beq_iff_eq,decide_eq_true_eq] at h;omega),if_neg (by intro h;simp only [Bool.and_eq_true,beq_iff_eq,decide_eq_true_eq] at h;omega),if_pos (by rw [Bool.and_eq_true,Bool.and_eq_true,Bool.and_eq_true,cont_bool,cont_bool,cont_bool];exact ⟨⟨⟨by simpa using h,h1⟩,h2⟩,h3⟩)]
 simp only [Bool.and_eq_true,decide_eq_true_eq,ge_iff_le]
def Told01 (l:List UInt8) (e:Ending):Prop:=e= .returned (.tuple #[.int .i64 ((dec l).1:Int),.int .i64 ((dec l).2:Int)])
theorem told_of {l:List UInt8} {a b:Int} {c n:Nat} (h:dec l=(c,n)) (ha:a=c) (hb:b=n):Told01 l (.returned (.tuple #[.int .i64 a,.int .i64 b])):=by
 unfold Told01;rw [h,ha,hb]
theorem get_byte {s:ByteArray} {k:Nat} (h:k<s.size):s.data.toList.getD k 0=s[k]:=by
 rw [List.getD_eq_getElem?_getD,List.getElem?_eq_getElem (by rw [Array.length_toList];exact h)]
 simp;rfl
theorem size_list (s:ByteArray):s.data.toList.length=s.size:=Array.length_toList
theorem told_end2 {l:List UInt8} {V:Int} (h0:(l.getD 0 0).toNat/32=6) (hg:194≤(l.getD 0 0).toNat) (hc:Conts l 1) (hV:V=vals l ((l.getD 0 0).toNat-192) 1):dec l=(V.toNat,2)∧128≤V∧V≤2047:=by
 have c1:=hc 1 (by omega) (by omega)
 rw [dec_ok2 l h0 hg c1]
 have :=c1.2
 simp only [vals] at hV
 simp only [Nat.zero_add] at hV
 refine ⟨Prod.ext ?_ rfl,by omega,by omega⟩
 show _=V.toNat
 simp only []
 omega
theorem told_end3 {l:List UInt8} {V:Int} (h0:(l.getD 0 0).toNat/16=14) (hc:Conts l 2) (hV:V=vals l ((l.getD 0 0).toNat-224) 2):
  0≤V∧V≤65535∧(dec l=if 2048≤V∧¬ (55296≤V∧V≤57343) then (V.toNat,3) else (65533,1)):=by
 have c1:=hc 1 (by omega) (by omega)
 have c2:=hc 2 (by omega) (by omega)
 have e1:=c1.2
 have e2:=c2.2
 simp only [vals] at hV
 simp only [Nat.zero_add,Nat.reduceAdd] at hV
 have hV2:V=(((l.getD 0 0).toNat%16)*4096+((l.getD 1 0).toNat%64)*64+(l.getD 2 0).toNat%64:Nat):=by omega
 refine ⟨by omega,by omega,?_⟩
 rw [dec_mid3 l h0 c1 c2 V.toNat (by omega)]
 have hv:=valid_iff (V.toNat:Int)
 by_cases hh:2048≤V∧¬ (55296≤V∧V≤57343)
 ·rw [if_pos hh,if_pos ⟨by omega,hv.2 (by omega)⟩]
 ·rw [if_neg hh,if_neg]
  rintro ⟨ha,hb⟩
  have :=hv.1 hb
  omega
theorem told_end4 {l:List UInt8} {V:Int} (h0:(l.getD 0 0).toNat/8=30) (hc:Conts l 3) (hV:V=vals l ((l.getD 0 0).toNat-240) 3):
  0≤V∧V≤2097151∧(dec l=if 65536≤V∧V≤1114111 then (V.toNat,4) else (65533,1)):=by
 have c1:=hc 1 (by omega) (by omega)
 have c2:=hc 2 (by omega) (by omega)
 have c3:=hc 3 (by omega) (by omega)
 have e1:=c1.2
 have e2:=c2.2
 have e3:=c3.2
 simp only [vals] at hV
 simp only [Nat.zero_add,Nat.reduceAdd] at hV
 have hV2:V=(((l.getD 0 0).toNat%8)*262144+((l.getD 1 0).toNat%64)*4096+((l.getD 2 0).toNat%64)*64+(l.getD 3 0).toNat%64:Nat):=by omega
 refine ⟨by omega,by omega,?_⟩
 rw [dec_mid4 l h0 c1 c2 c3 V.toNat (by omega)]
 have hv:=valid_iff (V.toNat:Int)
 by_cases hh:65536≤V∧V≤1114111
 ·rw [if_pos hh,if_pos ⟨by omega,hv.2 (by omega)⟩]
 ·rw [if_neg hh,if_neg]
  rintro ⟨ha,hb⟩
  have :=hv.1 hb
  omega
end Go.Proofs.YtldcadpemnpbmaaGreatDoor
namespace Go.Proofs.YtldcadpemnpbmaaGreatDoor
open Go Go.RowKit
set_option linter.unusedVariables false
def OneRel (l:List UInt8) (n:Nat) (v0:Int) (v i:Value):Prop:=∃ (k:Nat) (V:Int),k+1≤n∧i= .int .i64 ((k:Int)+1)∧v= .int .i64 V∧Small k V∧Hid (V=vals l v0 k)∧Hid (Conts l k)
theorem not_cont {s:ByteArray} {j x:Nat} (h:j<s.size) (hx:(s[j]'h).toNat=x) (hn:¬ (128≤x∧x<192)):¬ ContAt s.data.toList j:=by
 rintro ⟨_,h2⟩
 rw [get_byte h,hx] at h2
 omega
theorem is_cont {s:ByteArray} {j x:Nat} (h:j<s.size) (hx:(s[j]'h).toNat=x) (hn:128≤x∧x<192):ContAt s.data.toList j:=by
 refine ⟨by rw [size_list];exact h,?_⟩
 rw [get_byte h,hx]
 omega
theorem no_cont {s:ByteArray} {j:Nat} (h:s.size≤j):¬ ContAt s.data.toList j:=by
 rintro ⟨h1,_⟩
 rw [size_list] at h1
 omega
set_option maxHeartbeats 2000000 in
set_option maxRecDepth 100000 in
theorem ref_one_1 (s:ByteArray) (w:World) (h0:0<s.size) (hs:s.size≤1073741824) (b0:Nat) (hb0:(s[0]'h0).toNat=b0) (hb:b0<128):
  Calls Tryz.prog 121 #[.string s] w fun e w'=>Told01 s.data.toList e∧w=w':=by
 have hd:dec s.data.toList=(b0,1):=by rw [dec_low _ (by rw [get_byte h0,hb0];exact hb),get_byte h0,hb0]
 have HD:=Lib.hid hd
 clear hd
 go_enter Tryz.func121,Tryz.ntmps121
 go_wp2
 go_ret2
 exact ⟨told_of HD.out rfl rfl,rfl⟩
set_option maxHeartbeats 2000000 in
set_option maxRecDepth 100000 in
theorem ref_one_0 (s:ByteArray) (w:World) (h0:0<s.size) (hs:s.size≤1073741824) (b0:Nat) (hb0:(s[0]'h0).toNat=b0) (hb:(128≤b0∧b0<194)∨(245≤b0∧b0<256)):
  Calls Tryz.prog 121 #[.string s] w fun e w'=>Told01 s.data.toList e∧w=w':=by
 have hd:dec s.data.toList=(65533,1):=dec_bad _ (by rw [get_byte h0,hb0];omega) (by rw [get_byte h0,hb0];omega)
 have HD:=Lib.hid hd
 clear hd
 rcases hb with ⟨hb1,hb2⟩|⟨hb1,hb2⟩
 all_goals
  go_enter Tryz.func121,Tryz.ntmps121
  go_wp2
  go_ret2
  exact ⟨told_of HD.out rfl rfl,rfl⟩
theorem short_2 {s:ByteArray} (h0:0<s.size) {b0:Nat} (hb0:(s[0]'h0).toNat=b0) (hlo:194≤b0) (hhi:b0<224) {j:Nat} (hj:1≤j) (hjn:j<2) (hn:¬ ContAt s.data.toList j):dec s.data.toList=(65533,1):=by
 apply dec_short2 _ (by rw [get_byte h0,hb0];omega)
 intro h
 obtain rfl:j=1:=by omega
 exact hn h
set_option maxHeartbeats 4000000 in
set_option maxRecDepth 100000 in
theorem ref_one_2 (s:ByteArray) (w:World) (h0:0<s.size) (hs:s.size≤1073741824) (b0:Nat) (hb0:(s[0]'h0).toNat=b0) (hlo:194≤b0) (hhi:b0<224):
  Calls Tryz.prog 121 #[.string s] w fun e w'=>Told01 s.data.toList e∧w=w':=by
 have d1:decide ((b0:Int)<128)=false:=by simp;omega
 have d2:decide ((b0:Int)<224)=true:=by simp;omega
 have d3:decide ((b0:Int)<240)=true:=by simp;omega
 have d4:decide ((b0:Int)<245)=true:=by simp;omega
 by_cases hsz:2≤s.size
 ·have d5:decide ((s.size:Int)<2)=false:=by simp;omega
  go_enter Tryz.func121,Tryz.ntmps121
  go_wp2
  go_loop [2,3,7,8] (fun a b v i=>a= .int .i64 0∧b= .int .i64 0∧OneRel s.data.toList 2 ((b0:Int)-192) v i) (fun _ _ _ i=>2-(intOf i).toNat)
  case atStart=>exact ⟨rfl,rfl,0,_,by omega,rfl,rfl,⟨by omega,.inl ⟨rfl,by omega⟩⟩,Lib.hid rfl,Lib.hid (conts_zero _)⟩
  case round=>
   obtain ⟨rfl,rfl,k,V,hk,rfl,rfl,⟨hV0,hV⟩,HV,HC⟩:=hrel
   by_cases hlt:k+1<2
   ·have hk1:k+1<s.size:=by omega
    obtain ⟨x,hx⟩:∃ x:Nat,(s[k+1]'hk1).toNat=x:=⟨_,rfl⟩
    have hx256:x<256:=by rw [← hx];exact (s[k+1]'hk1).toNat_lt
    have hVb:V≤131071:=by omega
    by_cases hcont:128≤x∧x<192
    ·have HC2:=Lib.hid (conts_succ HC.out (is_cont hk1 hx hcont))
     have hVn:64*V+(x:Int)-128=vals s.data.toList ((b0:Int)-192) (k+1):=by
      rw [vals,← HV.out,get_byte hk1,hx]
     have HVN:=Lib.hid hVn
     have HSM:Hid (Small (k+1) (64*V+(x:Int)-128)):=⟨by omega,by omega⟩
     clear hVn
     obtain ⟨hc1,hc2⟩:=hcont
     clear hV
     go_wp2
     go_round
     case rel=>exact ⟨rfl,rfl,k+1,_,by omega,by go_num,rfl,HSM.out,HVN,HC2⟩
     case measure=>simp [intOf];omega
    ·have HD:=Lib.hid (short_2 h0 hb0 hlo hhi (j:=k+1) (by omega) hlt (not_cont hk1 hx hcont))
     clear hV
     by_cases hc1:128≤x
     ·have hc2:192≤x:=by omega
      clear hcont
      go_wp2
      go_ret2
      exact ⟨told_of HD.out rfl rfl,rfl⟩
     ·clear hcont
      go_wp2
      go_ret2
      exact ⟨told_of HD.out rfl rfl,rfl⟩
   ·skip
    have hk1:k=1:=by omega
    subst hk1
    have hend:=told_end2 (V:=V) (by rw [get_byte h0,hb0];omega) (by rw [get_byte h0,hb0];omega) HC.out (by rw [get_byte h0,hb0];exact HV.out)
    have hl:=hend.2.1
    have hh:=hend.2.2
    have HE:=Lib.hid hend.1
    clear hend
    go_wp2
    go_ret2
    exact ⟨told_of HE.out (by omega) rfl,rfl⟩
 ·have HD:=Lib.hid (short_2 h0 hb0 hlo hhi (j:=1) (by omega) (by omega) (no_cont (by omega)))
  go_enter Tryz.func121,Tryz.ntmps121
  go_wp2
  go_ret2
  exact ⟨told_of HD.out rfl rfl,rfl⟩
theorem short_3 {s:ByteArray} (h0:0<s.size) {b0:Nat} (hb0:(s[0]'h0).toNat=b0) (hlo:224≤b0) (hhi:b0<240) {j:Nat} (hj:1≤j) (hjn:j<3) (hn:¬ ContAt s.data.toList j):dec s.data.toList=(65533,1):=by
 apply dec_short3 _ (by rw [get_byte h0,hb0];omega)
 intro h
 obtain rfl|rfl:j=1∨j=2:=by omega
 ·exact hn h.1
 ·exact hn h.2
set_option maxHeartbeats 4000000 in
set_option maxRecDepth 100000 in
theorem ref_one_3 (s:ByteArray) (w:World) (h0:0<s.size) (hs:s.size≤1073741824) (b0:Nat) (hb0:(s[0]'h0).toNat=b0) (hlo:224≤b0) (hhi:b0<240):
  Calls Tryz.prog 121 #[.string s] w fun e w'=>Told01 s.data.toList e∧w=w':=by
 have d1:decide ((b0:Int)<128)=false:=by simp;omega
 have d2:decide ((b0:Int)<224)=false:=by simp;omega
 have d3:decide ((b0:Int)<240)=true:=by simp;omega
 have d4:decide ((b0:Int)<245)=true:=by simp;omega
 by_cases hsz:3≤s.size
 ·have d5:decide ((s.size:Int)<3)=false:=by simp;omega
  go_enter Tryz.func121,Tryz.ntmps121
  go_wp2
  go_loop [2,3,7,8] (fun a b v i=>a= .int .i64 0∧b= .int .i64 0∧OneRel s.data.toList 3 ((b0:Int)-224) v i) (fun _ _ _ i=>3-(intOf i).toNat)
  case atStart=>exact ⟨rfl,rfl,0,_,by omega,rfl,rfl,⟨by omega,.inl ⟨rfl,by omega⟩⟩,Lib.hid rfl,Lib.hid (conts_zero _)⟩
  case round=>
   obtain ⟨rfl,rfl,k,V,hk,rfl,rfl,⟨hV0,hV⟩,HV,HC⟩:=hrel
   by_cases hlt:k+1<3
   ·have hk1:k+1<s.size:=by omega
    obtain ⟨x,hx⟩:∃ x:Nat,(s[k+1]'hk1).toNat=x:=⟨_,rfl⟩
    have hx256:x<256:=by rw [← hx];exact (s[k+1]'hk1).toNat_lt
    have hVb:V≤131071:=by omega
    by_cases hcont:128≤x∧x<192
    ·have HC2:=Lib.hid (conts_succ HC.out (is_cont hk1 hx hcont))
     have hVn:64*V+(x:Int)-128=vals s.data.toList ((b0:Int)-224) (k+1):=by
      rw [vals,← HV.out,get_byte hk1,hx]
     have HVN:=Lib.hid hVn
     have HSM:Hid (Small (k+1) (64*V+(x:Int)-128)):=⟨by omega,by omega⟩
     clear hVn
     obtain ⟨hc1,hc2⟩:=hcont
     clear hV
     go_wp2
     go_round
     case rel=>exact ⟨rfl,rfl,k+1,_,by omega,by go_num,rfl,HSM.out,HVN,HC2⟩
     case measure=>simp [intOf];omega
    ·have HD:=Lib.hid (short_3 h0 hb0 hlo hhi (j:=k+1) (by omega) hlt (not_cont hk1 hx hcont))
     clear hV
     by_cases hc1:128≤x
     ·have hc2:192≤x:=by omega
      clear hcont
      go_wp2
      go_ret2
      exact ⟨told_of HD.out rfl rfl,rfl⟩
     ·clear hcont
      go_wp2
      go_ret2
      exact ⟨told_of HD.out rfl rfl,rfl⟩
   ·skip
    have hk1:k=2:=by omega
    subst hk1
    obtain ⟨hl,hh,hend⟩:=told_end3 (V:=V) (by rw [get_byte h0,hb0];omega) HC.out (by rw [get_byte h0,hb0];exact HV.out)
    by_cases c1:2048≤V
    ·by_cases c2:55296≤V
     ·by_cases c3:V≤57343
      ·rw [if_neg (by omega)] at hend
       have HE:=Lib.hid hend
       clear hend
       go_wp2
       go_ret2
       exact ⟨told_of HE.out rfl rfl,rfl⟩
      ·rw [if_pos (by omega)] at hend
       have HE:=Lib.hid hend
       clear hend
       go_wp2
       go_ret2
       exact ⟨told_of HE.out (by omega) rfl,rfl⟩
     ·rw [if_pos (by omega)] at hend
      have HE:=Lib.hid hend
      clear hend
      go_wp2
      go_ret2
      exact ⟨told_of HE.out (by omega) rfl,rfl⟩
    ·rw [if_neg (by omega)] at hend
     have HE:=Lib.hid hend
     clear hend
     go_wp2
     go_ret2
     exact ⟨told_of HE.out rfl rfl,rfl⟩
 ·have HD:=Lib.hid (short_3 h0 hb0 hlo hhi (j:=2) (by omega) (by omega) (no_cont (by omega)))
  go_enter Tryz.func121,Tryz.ntmps121
  go_wp2
  go_ret2
  exact ⟨told_of HD.out rfl rfl,rfl⟩
theorem short_4 {s:ByteArray} (h0:0<s.size) {b0:Nat} (hb0:(s[0]'h0).toNat=b0) (hlo:240≤b0) (hhi:b0<245) {j:Nat} (hj:1≤j) (hjn:j<4) (hn:¬ ContAt s.data.toList j):dec s.data.toList=(65533,1):=by
 apply dec_short4 _ (by rw [get_byte h0,hb0];omega)
 intro h
 obtain rfl|rfl|rfl:j=1∨j=2∨j=3:=by omega
 ·exact hn h.1
 ·exact hn h.2.1
 ·exact hn h.2.2
set_option maxHeartbeats 4000000 in
set_option maxRecDepth 100000 in
theorem ref_one_4 (s:ByteArray) (w:World) (h0:0<s.size) (hs:s.size≤1073741824) (b0:Nat) (hb0:(s[0]'h0).toNat=b0) (hlo:240≤b0) (hhi:b0<245):
  Calls Tryz.prog 121 #[.string s] w fun e w'=>Told01 s.data.toList e∧w=w':=by
 have d1:decide ((b0:Int)<128)=false:=by simp;omega
 have d2:decide ((b0:Int)<224)=false:=by simp;omega
 have d3:decide ((b0:Int)<240)=false:=by simp;omega
 have d4:decide ((b0:Int)<245)=true:=by simp;omega
 by_cases hsz:4≤s.size
 ·have d5:decide ((s.size:Int)<4)=false:=by simp;omega
  go_enter Tryz.func121,Tryz.ntmps121
  go_wp2
  go_loop [2,3,7,8] (fun a b v i=>a= .int .i64 0∧b= .int .i64 0∧OneRel s.data.toList 4 ((b0:Int)-240) v i) (fun _ _ _ i=>4-(intOf i).toNat)
  case atStart=>exact ⟨rfl,rfl,0,_,by omega,rfl,rfl,⟨by omega,.inl ⟨rfl,by omega⟩⟩,Lib.hid rfl,Lib.hid (conts_zero _)⟩
  case round=>
   obtain ⟨rfl,rfl,k,V,hk,rfl,rfl,⟨hV0,hV⟩,HV,HC⟩:=hrel
   by_cases hlt:k+1<4
   ·have hk1:k+1<s.size:=by omega
    obtain ⟨x,hx⟩:∃ x:Nat,(s[k+1]'hk1).toNat=x:=⟨_,rfl⟩
    have hx256:x<256:=by rw [← hx];exact (s[k+1]'hk1).toNat_lt
    have hVb:V≤131071:=by omega
    by_cases hcont:128≤x∧x<192
    ·have HC2:=Lib.hid (conts_succ HC.out (is_cont hk1 hx hcont))
     have hVn:64*V+(x:Int)-128=vals s.data.toList ((b0:Int)-240) (k+1):=by
      rw [vals,← HV.out,get_byte hk1,hx]
     have HVN:=Lib.hid hVn
     have HSM:Hid (Small (k+1) (64*V+(x:Int)-128)):=⟨by omega,by omega⟩
     clear hVn
     obtain ⟨hc1,hc2⟩:=hcont
     clear hV
     go_wp2
     go_round
     case rel=>exact ⟨rfl,rfl,k+1,_,by omega,by go_num,rfl,HSM.out,HVN,HC2⟩
     case measure=>simp [intOf];omega
    ·have HD:=Lib.hid (short_4 h0 hb0 hlo hhi (j:=k+1) (by omega) hlt (not_cont hk1 hx hcont))
     clear hV
     by_cases hc1:128≤x
     ·have hc2:192≤x:=by omega
      clear hcont
      go_wp2
      go_ret2
      exact ⟨told_of HD.out rfl rfl,rfl⟩
     ·clear hcont
      go_wp2
      go_ret2
      exact ⟨told_of HD.out rfl rfl,rfl⟩
   ·skip
    have hk1:k=3:=by omega
    subst hk1
    obtain ⟨hl,hh,hend⟩:=told_end4 (V:=V) (by rw [get_byte h0,hb0];omega) HC.out (by rw [get_byte h0,hb0];exact HV.out)
    by_cases c1:65536≤V
    ·by_cases c2:V≤1114111
     ·rw [if_pos (by omega)] at hend
      have HE:=Lib.hid hend
      clear hend
      go_wp2
      go_ret2
      exact ⟨told_of HE.out (by omega) rfl,rfl⟩
     ·rw [if_neg (by omega)] at hend
      have HE:=Lib.hid hend
      clear hend
      go_wp2
      go_ret2
      exact ⟨told_of HE.out rfl rfl,rfl⟩
    ·rw [if_neg (by omega)] at hend
     have HE:=Lib.hid hend
     clear hend
     go_wp2
     go_ret2
     exact ⟨told_of HE.out rfl rfl,rfl⟩
 ·have HD:=Lib.hid (short_4 h0 hb0 hlo hhi (j:=3) (by omega) (by omega) (no_cont (by omega)))
  go_enter Tryz.func121,Tryz.ntmps121
  go_wp2
  go_ret2
  exact ⟨told_of HD.out rfl rfl,rfl⟩
theorem ref_one (s:ByteArray) (w:World) (h0:0<s.size) (hs:s.size≤1073741824):
  Calls Tryz.prog 121 #[.string s] w fun e w'=>Told01 s.data.toList e∧w=w':=by
 obtain ⟨b0,hb0⟩:∃ b0:Nat,(s[0]'h0).toNat=b0:=⟨_,rfl⟩
 have h256:b0<256:=by rw [← hb0];exact (s[0]'h0).toNat_lt
 by_cases c1:b0<128
 ·exact ref_one_1 s w h0 hs b0 hb0 c1
 by_cases c2:b0<194
 ·exact ref_one_0 s w h0 hs b0 hb0 (.inl ⟨by omega,c2⟩)
 by_cases c3:b0<224
 ·exact ref_one_2 s w h0 hs b0 hb0 (by omega) c3
 by_cases c4:b0<240
 ·exact ref_one_3 s w h0 hs b0 hb0 (by omega) c4
 by_cases c5:b0<245
 ·exact ref_one_4 s w h0 hs b0 hb0 (by omega) c5
 ·exact ref_one_0 s w h0 hs b0 hb0 (.inr ⟨by omega,h256⟩)
end Go.Proofs.YtldcadpemnpbmaaGreatDoor
namespace Go.Proofs.YtldcadpemnpbmaaGreatDoor
open Go Go.RowKit
set_option linter.unusedVariables false
theorem dec_small (l:List UInt8):(dec l).1≤1114111:=by
 have :=(valid_iff _).1 (dec_valid l)
 omega
theorem ref_one_as (t:ByteArray) (w:World) (c n:Nat) (h0:0<t.size) (hs:t.size≤1073741824) (h:Hid (dec t.data.toList=(c,n))):
  Calls Tryz.prog 121 #[.string t] w fun e w'=>e= .returned (.tuple #[.int .i64 c,.int .i64 n])∧w=w':=
 (ref_one t w h0 hs).mono fun e w' ⟨he,hw⟩=>⟨by unfold Told01 at he;rw [he,h.out],hw⟩
def SignsRel (s:ByteArray) (w:World) (a l:Value) (wr:World):Prop:=
 ∃ (t:ByteArray) (acc:List Int),a= .string t∧t.size+acc.length≤s.size∧wr.ownsRow w.heap.size 3 1 l acc.length (ints acc)∧Below w.heap.size w wr∧acc++signs t.data.toList=signs s.data.toList
def strLen:Value→Nat| .string s=>s.size|_=>0
set_option maxHeartbeats 1000000 in
set_option maxRecDepth 100000 in
theorem ref_Signs (s:ByteArray) (w:World) (hs:s.size≤1073741824):
  Calls Tryz.prog 59 #[.string s] w (GaveInts (signs s.data.toList) w):=by
 obtain ⟨i0,hi0,hz0,hz1,hz2⟩:=info_parts info_int
 go_enter Tryz.func59,Tryz.ntmps59
 go_wp2
 go_loopw [0,3] (fun a l wr=>SignsRel s w a l wr) (fun a _ _=>strLen a)
 case atStart=>exact ⟨s,[],rfl,by simp,World.ownsRow_nil _ _ _ _,Below.refl _ _,rfl⟩
 case round=>
  obtain ⟨t,acc,rfl,hsz,hown,hbw,hacc⟩:=hrel
  have HACC:=Lib.hid hacc
  clear hacc
  by_cases hp:0<t.size
  ·obtain ⟨c,n,hd⟩:∃ c n,dec t.data.toList=(c,n):=⟨_,_,rfl⟩
   have hne:t.data.toList≠[]:=by
    intro h
    have :=congrArg List.length h
    rw [size_list,List.length_nil] at this
    omega
   have hw:=dec_width _ hne
   have hst:=signs_step _ hne
   have hc:=dec_small t.data.toList
   rw [hd] at hw hst hc
   rw [size_list] at hw
   simp only [] at hw hst hc
   have HD:=Lib.hid hd
   have HST:=Lib.hid hst
   clear hd hst hne
   obtain ⟨hw1,hw2⟩:=hw
   have hszi:=hbw.size
   go_wp2_with (go_at_call 121;refine (ref_one_as t _ c n hp (by omega) HD).mono ?_)
   rintro e w' ⟨rfl,rfl⟩
   clear HD
   go_wp2_with (at_builtin;refine wpList_append_own _ rfl (.tmp 14) (.tmp 16) 88 rfl w.heap.size 3 i0 _ 1 8 Tryz.underlying88 hi0 hz0 hz1 hz2 rfl (by omega) _ acc.length (ints acc) rfl (hown.alloc _) ⟨wr.heap.size,0,none⟩ 1 1 [.int .i64 c] rfl rfl ?c1 ?c2 ?c3 ?c4 ?c5 ?_)
   case c1=>
    intro j u hj
    match j,hj with
    |0,hj=>simp at hj;subst hj;simp [Addr.add]
    |(j+1),hj=>simp at hj
   case c2=>intro u hu;simp at hu;subst hu;rfl
   case c3=>unfold maxLen;omega
   case c4=>omega
   case c5=>simp;omega
   intro v' w3 hown3 hgrow3 _
   go_wp2
   go_roundw
   case rel=>
    refine ⟨t.extract n t.size,acc++[(c:Int)],rfl,?_,?_,?_,?_⟩
    ·rw [ByteArray.size_extract];simp;omega
    ·simpa [ints] using hown3
    ·exact (hbw.alloc (by omega) _).grown hgrow3 (by simp;omega) (fun k hk=>(hown.lt k hk).1)
    ·rw [← HACC.out,HST.out,Lib.extract_to_end];simp
   case measure=>
    simp only [strLen]
    simp [ByteArray.size_extract]
    omega
  ·go_wp2
   go_ret
   have he:t.data.toList=[]:=List.eq_nil_of_length_eq_zero (by rw [size_list];omega)
   have hout:=HACC.out
   rw [he,signs_nil,List.append_nil] at hout
   subst hout
   exact ⟨_,rfl,hown,hbw⟩
end Go.Proofs.YtldcadpemnpbmaaGreatDoor
set_option linter.unusedVariables false
namespace Go.Proofs.YtldcadpemnpbmaaGreatDoor
open Go Go.RowKit
section
variable {w w' w1:World} {base:Nat} {e:TypeId} {size:Nat} {v:Value} {n:Nat} {xs:List Value}
theorem owned_keep (h:w.ownsRow base e size v n xs) (hk:∀ g,v.ownBlock=some g→w'.heap[g]?=w.heap[g]?):w'.ownsRow base e size v n xs:=by
 refine ⟨h.1,?_⟩
 rcases h.2 with hn|⟨g,cap,cur,rfl,hg,hh,r⟩
 ·exact .inl hn
 ·exact .inr ⟨g,cap,cur,rfl,hg,(hk g rfl).trans hh,r⟩
theorem owned_apart (h:w.ownsRow base e size v n xs) {B:Nat} {cs:Array Value} {t:TypeId} {fr:Nat × Nat} (hB:w.heap[B]?=some (.cells cs t fr)) (ht:t≠e):v.ownBlock≠some B:=by
 intro he
 rcases h.2 with ⟨rfl,_⟩|⟨g,cap,cur,rfl,hg,hh,r⟩
 ·cases he
 ·simp only [Value.ownBlock,Option.some.injEq] at he
  subst he
  rw [hh] at hB
  simp at hB
  exact ht hB.2.1.symm
theorem owned_apart2 {base':Nat} {e':TypeId} {size':Nat} {v':Value} {n':Nat} {xs':List Value} (h:w.ownsRow base e size v n xs) (h':w.ownsRow base' e' size' v' n' xs') (ht:e≠e') {g:Nat} (hg:v'.ownBlock=some g):v.ownBlock≠some g:=by
 rcases h'.2 with ⟨rfl,_⟩|⟨g',cap,cur,rfl,_,hh,r⟩
 ·cases hg
 ·simp only [Value.ownBlock,Option.some.injEq] at hg
  subst hg
  exact owned_apart h hh ht.symm
theorem owned_other {base':Nat} {e':TypeId} {size':Nat} {v':Value} {n':Nat} {xs':List Value} (h:w.ownsRow base e size v n xs) (h':w.ownsRow base' e' size' v' n' xs') (ht:e≠e'):v.ownBlock=none∨v.ownBlock≠v'.ownBlock:=by
 rcases hv:v'.ownBlock with _|g
 ·by_cases h0:v.ownBlock=none
  ·exact .inl h0
  ·exact .inr h0
 ·exact .inr (owned_apart2 h h' ht hv)
theorem owned_cut {g cap:Nat} (h:w.ownsRow base e size (.slice (some ⟨g,0,none⟩) n cap) n xs):w.ownsRow base e size (.slice (some ⟨g,0,none⟩) 0 cap) 0 []:=by
 refine ⟨by simp,?_⟩
 rcases h.2 with ⟨hv,_⟩|⟨g',cap',cur,hv,hg,hh,hnc,hcp,hcs,htake⟩
 ·cases hv
 ·injection hv with h1 h2 h3
  injection h1 with h1
  injection h1 with h1
  subst h1 h3
  exact .inr ⟨g,cap,cur,rfl,hg,hh,Nat.zero_le _,hcp,hcs,by simp⟩
end
def RowVar (T E:TypeId) (base B:Nat) (xs:List Value) (w:World):Prop:=∃ v,w.heap[B]?=some (.cells #[v] T (0,0))∧w.ownsRow base E 1 v xs.length xs
def Touched (B:Nat) (w w':World):Prop:=
 w'.os=w.os∧w'.tape=w.tape∧w'.output=w.output∧w.heap.size≤w'.heap.size∧∀ k,k<w.heap.size→k≠B→(∀ v t,w.heap[B]?=some (.cells #[v] t (0,0))→v.ownBlock≠some k)→w'.heap[k]?=w.heap[k]?
section
variable {T E T' E':TypeId} {base base' B B':Nat} {xs xs':List Value} {w w':World}
theorem Touched.block (h:RowVar T E base B xs w) (ht:Touched B w w') {k:Nat} {cs:Array Value} {t:TypeId} {fr:Nat × Nat} (hk:w.heap[k]?=some (.cells cs t fr)) (h1:t≠T) (h2:t≠E):w'.heap[k]?=some (.cells cs t fr):=by
 obtain ⟨v,hv,hown⟩:=h
 rw [ht.2.2.2.2 k (lt_of_block hk) ?_ ?_,hk]
 ·rintro rfl;rw [hk] at hv;simp at hv;exact h1 hv.2.1
 ·intro u t' hu
  rw [hv] at hu
  simp at hu
  rw [← hu.1]
  exact owned_apart hown hk h2
theorem RowVar.other (h':RowVar T' E' base' B' xs' w) (h:RowVar T E base B xs w) (ht:Touched B w w') (h1:T'≠T) (h2:T'≠E) (h3:E'≠T) (h4:E'≠E):RowVar T' E' base' B' xs' w':=by
 obtain ⟨v',hv',hown'⟩:=h'
 refine ⟨v',Touched.block h ht hv' h1 h2,owned_keep hown' fun g hg=> ?_⟩
 rcases hown'.2 with ⟨rfl,_⟩|⟨g',cap,cur,rfl,_,hh,r⟩
 ·cases hg
 ·simp only [Value.ownBlock,Option.some.injEq] at hg
  subst hg
  rw [Touched.block h ht hh h3 h4,hh]
def Aside (base B C:Nat) (w w':World):Prop:=
 w'.os=w.os∧w'.tape=w.tape∧w'.output=w.output∧w.heap.size≤w'.heap.size∧∀ k,k<base→k≠B→k≠C→w'.heap[k]?=w.heap[k]?
theorem Aside.refl (base B C:Nat) (w:World):Aside base B C w w:=⟨rfl,rfl,rfl,Nat.le_refl _,fun _ _ _ _=>rfl⟩
theorem Aside.trans {B C:Nat} {w w1 w2:World} (h:Aside base B C w w1) (k:Aside base B C w1 w2):Aside base B C w w2:=
 ⟨k.1.trans h.1,k.2.1.trans h.2.1,k.2.2.1.trans h.2.2.1,Nat.le_trans h.2.2.2.1 k.2.2.2.1,fun i hi h1 h2=>(k.2.2.2.2 i hi h1 h2).trans (h.2.2.2.2 i hi h1 h2)⟩
theorem Aside.of {B C:Nat} {w w1:World} (h:Below base w w1):Aside base B C w w1:=⟨h.os,h.tape,h.output,h.size,fun k hk _ _=>h.block k hk⟩
theorem Aside.swap {B C:Nat} {w w1:World} (h:Aside base B C w w1):Aside base C B w w1:=⟨h.1,h.2.1,h.2.2.1,h.2.2.2.1,fun k hk h1 h2=>h.2.2.2.2 k hk h2 h1⟩
theorem Aside.below {B C:Nat} {w w1:World} (h:Aside base B C w w1) {b:Nat} (hb:b≤base) (hB:b≤B) (hC:b≤C):Below b w w1:=⟨h.1,h.2.1,h.2.2.1,h.2.2.2.1,fun k hk=>h.2.2.2.2 k (by omega) (by omega) (by omega)⟩
theorem Touched.aside {C:Nat} (h:RowVar T E base B xs w) (hs:base≤w.heap.size) (ht:Touched B w w'):Aside base B C w w':=by
 obtain ⟨v,hv,hown⟩:=h
 refine ⟨ht.1,ht.2.1,ht.2.2.1,ht.2.2.2.1,fun k hk hkB _=>ht.2.2.2.2 k (by omega) hkB fun u t hu he=> ?_⟩
 rw [hv] at hu
 simp at hu
 rw [← hu.1] at he
 have :=(hown.lt k he).1
 omega
theorem RowVar.below (h:RowVar T E base B xs w) (hb:Below w.heap.size w w'):RowVar T E base B xs w':=by
 obtain ⟨v,hv,hown⟩:=h
 exact ⟨v,(hb.block B (lt_of_block hv)).trans hv,owned_below hown hb⟩
theorem pushed {v v':Value} {w0 w1:World} {n m:Nat} {u:List Value} (hTE:T≠E) (hv:w.heap[B]?=some (.cells #[v] T (0,0))) (hn:xs.length=n) (hown:w.ownsRow base E 1 v n xs)
  (hb:Below w.heap.size w w0) (hg:w0.grownBy w1 v.ownBlock) (hown1:w1.ownsRow base E 1 v' m (xs++u)) (hm:m=n+u.length):
  w1.cell? ⟨B,0,none⟩=some v∧w1.frozen? ⟨B,0,none⟩=false∧RowVar T E base B (xs++u) (w1.setCell ⟨B,0,none⟩ v')∧Touched B w (w1.setCell ⟨B,0,none⟩ v'):=by
 have hBlt:=lt_of_block hv
 have hne:v.ownBlock≠some B:=owned_apart hown hv hTE
 have hv1:w1.heap[B]?=some (.cells #[v] T (0,0)):=(hg.block B (by have :=hb.size;omega) (fun e=>hne e.symm)).trans ((hb.block B hBlt).trans hv)
 have hne':v'.ownBlock≠some B:=owned_apart hown1 hv1 hTE
 have hl:m=(xs++u).length:=by simp [hm,hn]
 rw [hl] at hown1
 refine ⟨cell_of_one hv1,free_of_one hv1,⟨v',one_setCell hv1,ownsRow_setCell_other hown1 hne' v'⟩,hg.os.trans hb.os,hg.tape.trans hb.tape,hg.output.trans hb.output,?_,fun k hk hkB hkv=> ?_⟩
 ·have h1:=hb.size
  have h2:=hg.size
  simp
  omega
 ·rw [Below.heap_setCell _ _ _ _ hkB,hg.block k (by have :=hb.size;omega) (fun e=>hkv v T hv e.symm),hb.block k hk]
theorem emptied {g n cap:Nat} (hTE:T≠E) (hv:w.heap[B]?=some (.cells #[.slice (some ⟨g,0,none⟩) n cap] T (0,0))) (hown:w.ownsRow base E 1 (.slice (some ⟨g,0,none⟩) n cap) n xs):
  RowVar T E base B [] (w.setCell ⟨B,0,none⟩ (.slice (some ⟨g,0,none⟩) 0 cap))∧Touched B w (w.setCell ⟨B,0,none⟩ (.slice (some ⟨g,0,none⟩) 0 cap)):=by
 have hne:=owned_apart hown hv hTE
 refine ⟨⟨_,one_setCell hv,ownsRow_setCell_other (owned_cut hown) (by simpa [Value.ownBlock] using hne) _⟩,rfl,rfl,rfl,by simp,fun k hk hkB _=> ?_⟩
 rw [Below.heap_setCell _ _ _ _ hkB]
theorem owned_row_of {e:TypeId} {size:Nat} {A:Option Addr} {n m c:Nat} (h:w.ownsRow base e size (.slice A m c) n xs):Row w w.heap.size A xs:=by
 obtain ⟨A',c',he,_,hr⟩:=owned_row h
 injection he with h1 h2 h3
 rw [h1]
 exact hr
theorem owned_aside {e:TypeId} {size:Nat} {v:Value} {n:Nat} (h:w.ownsRow base' e size v n xs) {C:Nat} (hB:B<base') (hC:C<base') (hs:w.heap.size≤base) (hk:Aside base B C w w'):w'.ownsRow base' e size v n xs:=
 owned_keep h fun g hg=>by
  have :=h.lt g hg
  exact hk.2.2.2.2 g (by omega) (by omega) (by omega)
end
end Go.Proofs.YtldcadpemnpbmaaGreatDoor
namespace Go.Proofs.YtldcadpemnpbmaaGreatDoor
open Go Go.RowKit
set_option linter.unusedVariables false
def strs (l:List (List UInt8)):List Value:=l.map fun s=> .string ⟨s.toArray⟩
theorem strs_length (l:List (List UInt8)):(strs l).length=l.length:=by simp [strs]
theorem info_string:(Tryz.prog.info? 9).map (fun i=>(i.zero,i.size,i.bytes))=some (some (.string ByteArray.empty),1,16):=by kernel_rfl
theorem row_str {w:World} {B:Nat} {A:Option Addr} {xs:List (List UInt8)} (h:Row w B A (strs xs)) {k:Nat} (hk:k<xs.length):
  ∃ b off,A=some ⟨b,off,none⟩∧b<B∧w.cell? ⟨b,off+k,none⟩=some (.string ⟨xs[k].toArray⟩):=by
 obtain ⟨b,off,rfl,hb,hc⟩:=h.at_ (by rw [strs_length];omega)
 refine ⟨b,off,rfl,hb,hc k _ ?_⟩
 simp [strs,hk]
end Go.Proofs.YtldcadpemnpbmaaGreatDoor
set_option linter.unusedVariables false
namespace Go.Proofs.YtldcadpemnpbmaaGreatDoor
open Go
def inWord (c:Int):Bool:=isLetter c || isDigit c
def step (st:List (List Int) × List Int) (c:Int):List (List Int) × List Int:=
 if inWord c=true then (st.1,st.2++[fold c]) else if st.2=[] then st else (st.1++[st.2],[])
def gather (st:List (List Int) × List Int) (l:List Int):List (List Int):=((l++[32]).foldl step st).1
def wordSigns (l:List Int):List (List Int):=gather ([],[]) l
def words (l:List UInt8):List (List UInt8):=(wordSigns (signs l)).map text
theorem inWord_blank:inWord 32=false:=by decide
theorem inWord_bd {c:Int} (h:inWord c=true):48≤c∧c≤591:=by
 simp [inWord,isLetter,isDigit] at h;omega
theorem inWord_fold (c:Int):inWord (fold c)=inWord c:=by rw [inWord,inWord,letter_fold,digit_fold]
theorem step_in {o:List (List Int)} {n:List Int} {c:Int} (h:inWord c=true):step (o,n) c=(o,n++[fold c]):=by unfold step;rw [if_pos h]
theorem step_skip {o:List (List Int)} {c:Int} (h:inWord c=false):step (o,[]) c=(o,[]):=by unfold step;rw [if_neg (by simp [h]),if_pos rfl]
theorem step_end {o:List (List Int)} {n:List Int} {c:Int} (h:inWord c=false) (hn:n≠[]):step (o,n) c=(o++[n],[]):=by unfold step;rw [if_neg (by simp [h]),if_neg hn]
theorem gather_cons (st:List (List Int) × List Int) (c:Int) (l:List Int):gather st (c::l)=gather (step st c) l:=by simp [gather]
theorem gather_done (o:List (List Int)):gather (o,[]) []=o:=by simp [gather,step_skip inWord_blank]
theorem gather_last {o:List (List Int)} {n:List Int} (hn:n≠[]):gather (o,n) []=o++[n]:=by simp [gather,step_end inWord_blank hn]
theorem step_front (a o:List (List Int)) (n:List Int) (c:Int):step (a++o,n) c=(a++(step (o,n) c).1,(step (o,n) c).2):=by
 unfold step
 split
 ·rfl
 ·split
  ·rfl
  ·simp
theorem fold_front (a:List (List Int)):∀ (l:List Int) (o:List (List Int)) (n:List Int),l.foldl step (a++o,n)=(a++(l.foldl step (o,n)).1,(l.foldl step (o,n)).2)
 |[],o,n=>rfl
 |c::l,o,n=>by rw [List.foldl_cons,List.foldl_cons,step_front,fold_front a l]
def IsWord (w:List Int):Prop:=w≠[]∧∀ c∈w,inWord c=true∧fold c=c
theorem gather_words:∀ (l:List Int) (o:List (List Int)) (n:List Int),(∀ w∈o,IsWord w)→(∀ c∈n,inWord c=true∧fold c=c)→∀ w∈gather (o,n) l,IsWord w
 |[],o,n,ho,hn,w,hw=>by
  by_cases h:n=[]
  ·subst h;rw [gather_done] at hw;exact ho w hw
  ·rw [gather_last h] at hw
   rcases List.mem_append.1 hw with hw|hw
   ·exact ho w hw
   ·obtain rfl:=List.mem_singleton.1 hw;exact ⟨h,hn⟩
 |c::l,o,n,ho,hn,w,hw=>by
  rw [gather_cons] at hw
  by_cases hc:inWord c=true
  ·rw [step_in hc] at hw
   refine gather_words l o _ ho (fun x hx=> ?_) w hw
   rcases List.mem_append.1 hx with hx|hx
   ·exact hn x hx
   ·obtain rfl:=List.mem_singleton.1 hx;exact ⟨by rw [inWord_fold];exact hc,fold_fold c⟩
  ·have hc':inWord c=false:=by simpa using hc
   by_cases h:n=[]
   ·subst h;rw [step_skip hc'] at hw;exact gather_words l o [] ho hn w hw
   ·rw [step_end hc' h] at hw
    refine gather_words l _ [] (fun x hx=> ?_) (fun x hx=>by cases hx) w hw
    rcases List.mem_append.1 hx with hx|hx
    ·exact ho x hx
    ·obtain rfl:=List.mem_singleton.1 hx;exact ⟨h,hn⟩
theorem wordSigns_words (l:List Int):∀ w∈wordSigns l,IsWord w:=gather_words l [] [] (fun w hw=>by cases hw) (fun c hc=>by cases hc)
def total (o:List (List Int)):Nat:=(o.map List.length).sum
theorem total_append (a b:List (List Int)):total (a++b)=total a+total b:=by simp [total]
theorem gather_total:∀ (l:List Int) (o:List (List Int)) (n:List Int),total (gather (o,n) l)≤total o+n.length+l.length
 |[],o,n=>by
  by_cases h:n=[]
  ·subst h;rw [gather_done];omega
  ·rw [gather_last h,total_append];simp [total]
 |c::l,o,n=>by
  rw [gather_cons]
  by_cases hc:inWord c=true
  ·rw [step_in hc];have :=gather_total l o (n++[fold c]);simp at this ⊢;omega
  ·have hc':inWord c=false:=by simpa using hc
   by_cases h:n=[]
   ·subst h;rw [step_skip hc'];have :=gather_total l o [];simp at this ⊢;omega
   ·rw [step_end hc' h];have :=gather_total l (o++[n]) [];rw [total_append] at this;simp [total] at this ⊢;omega
theorem wordSigns_total (l:List Int):total (wordSigns l)≤l.length:=by have :=gather_total l [] [];simpa [total,wordSigns] using this
theorem total_mem {o:List (List Int)} {w:List Int} (h:w∈o):w.length≤total o:=by
 induction o with
 |nil=>cases h
 |cons a o ih=>
  simp only [total,List.map_cons,List.sum_cons] at ih ⊢
  rcases List.mem_cons.1 h with rfl|h
  ·omega
  ·have :=ih h;omega
theorem total_count:∀ {o:List (List Int)},(∀ w∈o,IsWord w)→o.length≤total o
 |[],_=>by simp
 |a::o,h=>by
  have h1:=List.length_pos_iff.2 (h a (List.mem_cons_self ..)).1
  have h2:=total_count (o:=o) (fun w hw=>h w (List.mem_cons_of_mem _ hw))
  simp only [total,List.map_cons,List.sum_cons,List.length_cons] at h2 ⊢;omega
theorem wordSigns_length (l:List Int):(wordSigns l).length≤l.length:=Nat.le_trans (total_count (wordSigns_words l)) (wordSigns_total l)
theorem words_length (l:List UInt8):(words l).length≤l.length:=by
 rw [words,List.length_map];exact Nat.le_trans (wordSigns_length _) (signs_length l)
theorem words_size {l w:List UInt8} (h:w∈words l):w.length≤4*l.length:=by
 obtain ⟨v,hv,rfl⟩:=List.mem_map.1 h
 have h1:=text_length v
 have h2:=total_mem hv
 have h3:=wordSigns_total (signs l)
 have h4:=signs_length l
 omega
theorem dec_encodes (l:List UInt8) (h:l≠[]) (hv:(dec l).1≠65533):Lib.encodeRune ((dec l).1:Int)=l.take (dec l).2:=by
 have hb:∀ b:UInt8,b.toNat<256:=fun b=>b.toNat_lt
 have e1:∀ (b:UInt8) (x:Int),x=b.toNat→x.toNat.toUInt8=b:=fun b x hx=>by subst hx;simp
 have hv1:=dec_valid l
 revert hv hv1
 obtain ⟨b0,t,rfl⟩:∃ b0 t,l=b0::t:=by cases l with|nil=>exact absurd rfl h|cons b t=>exact ⟨b,t,rfl⟩
 unfold dec
 simp only [List.getD_cons_zero]
 have h0:=hb b0
 split
 ·intro _ _
  rename_i hlt
  simp only [Lib.encodeRune,List.take_succ_cons,List.take_zero]
  rw [Lib.encodeRuneZ_one (by omega) (by omega)]
  simp
 ·split
  ·rename_i hc
   simp only [Bool.and_eq_true,beq_iff_eq,decide_eq_true_eq,List.length_cons] at hc
   obtain ⟨b1,t1,rfl⟩:∃ b1 t1,t=b1::t1:=by cases t with|nil=>simp at hc|cons b t=>exact ⟨b,t,rfl⟩
   simp only [List.getD_cons_zero,List.getD_cons_succ] at hc ⊢
   have h1:=hb b1
   split
   ·intro _ _
    simp only [Lib.encodeRune,List.take_succ_cons,List.take_zero]
    rw [Lib.encodeRuneZ_two (by omega) (by omega)]
    simp only [List.map_cons,List.map_nil]
    rw [e1 b0 _ (by omega),e1 b1 _ (by omega)]
   ·intro hv;exact absurd rfl hv
  ·split
   ·rename_i hc
    simp only [Bool.and_eq_true,beq_iff_eq,decide_eq_true_eq,List.length_cons] at hc
    obtain ⟨b1,t1,rfl⟩:∃ b1 t1,t=b1::t1:=by cases t with|nil=>simp at hc|cons b t=>exact ⟨b,t,rfl⟩
    obtain ⟨b2,t2,rfl⟩:∃ b2 t2,t1=b2::t2:=by cases t1 with|nil=>simp at hc|cons b t=>exact ⟨b,t,rfl⟩
    simp only [List.getD_cons_zero,List.getD_cons_succ] at hc ⊢
    have h1:=hb b1
    have h2:=hb b2
    split
    ·rename_i hok
     intro _ hva
     simp only [Bool.and_eq_true,decide_eq_true_eq] at hok
     simp only at hva
     rw [valid_iff] at hva
     simp only [Lib.encodeRune,List.take_succ_cons,List.take_zero]
     rw [Lib.encodeRuneZ_three (by omega)]
     simp only [List.map_cons,List.map_nil]
     rw [e1 b0 _ (by omega),e1 b1 _ (by omega),e1 b2 _ (by omega)]
    ·intro hv;exact absurd rfl hv
   ·split
    ·rename_i hc
     simp only [Bool.and_eq_true,beq_iff_eq,decide_eq_true_eq,List.length_cons] at hc
     obtain ⟨b1,t1,rfl⟩:∃ b1 t1,t=b1::t1:=by cases t with|nil=>simp at hc|cons b t=>exact ⟨b,t,rfl⟩
     obtain ⟨b2,t2,rfl⟩:∃ b2 t2,t1=b2::t2:=by cases t1 with|nil=>simp at hc|cons b t=>exact ⟨b,t,rfl⟩
     obtain ⟨b3,t3,rfl⟩:∃ b3 t3,t2=b3::t3:=by cases t2 with|nil=>simp at hc|cons b t=>exact ⟨b,t,rfl⟩
     simp only [List.getD_cons_zero,List.getD_cons_succ] at hc ⊢
     have h1:=hb b1
     have h2:=hb b2
     have h3:=hb b3
     split
     ·rename_i hok
      intro _ hva
      simp only [Bool.and_eq_true,decide_eq_true_eq] at hok
      simp only at hva
      rw [valid_iff] at hva
      simp only [Lib.encodeRune,List.take_succ_cons,List.take_zero]
      rw [Lib.encodeRuneZ_four (by omega) (by omega)]
      simp only [List.map_cons,List.map_nil]
      rw [e1 b0 _ (by omega),e1 b1 _ (by omega),e1 b2 _ (by omega),e1 b3 _ (by omega)]
     ·intro hv;exact absurd rfl hv
    ·intro hv;exact absurd rfl hv
theorem text_signs (l:List UInt8) (h:∀ c∈signs l,c≠65533):text (signs l)=l:=by
 have :∀ (n:Nat) (l:List UInt8),l.length≤n→(∀ c∈signs l,c≠65533)→text (signs l)=l:=by
  intro n
  induction n with
  |zero=>
   intro l hl h
   have :l=[]:=List.eq_nil_of_length_eq_zero (by omega)
   subst this;rfl
  |succ n ih=>
   intro l hl h
   by_cases e:l=[]
   ·subst e;rfl
   ·have hw:=dec_width l e
    rw [signs_step l e] at h ⊢
    rw [show text (((dec l).1:Int)::signs (l.drop (dec l).2))=Lib.encodeRune ((dec l).1:Int)++text (signs (l.drop (dec l).2)) by simp [text]]
    rw [ih _ (by rw [List.length_drop];omega) (fun c hc=>h c (List.mem_cons_of_mem _ hc)),dec_encodes l e (fun hx=>h _ (List.mem_cons_self ..) (by rw [hx];rfl)),List.take_append_drop]
 exact this _ l (Nat.le_refl _) h
def mayWord (w:List UInt8):Bool:=decide (w≠[]∧w.length≤30∧∀ c∈signs w,inWord c=true∧fold c=c)
theorem foldText_same {w:List UInt8} (h:∀ c∈signs w,inWord c=true):foldText w=w↔∀ c∈signs w,fold c=c:=by
 have ht:=text_signs w (fun c hc he=>by have :=inWord_bd (h c hc);omega)
 constructor
 ·intro hf
  have :=signs_foldText w
  rw [hf] at this
  have hm:∀ (l:List Int),l=l.map fold→∀ c∈l,fold c=c:=by
   intro l
   induction l with
   |nil=>intro _ c hc;cases hc
   |cons a l ih=>
    intro he c hc
    rw [List.map_cons,List.cons.injEq] at he
    rcases List.mem_cons.1 hc with rfl|hc
    ·exact he.1.symm
    ·exact ih he.2 c hc
  exact hm _ this
 ·intro hf
  rw [foldText]
  have :(signs w).map fold=signs w:=by
   conv=>rhs;rw [← List.map_id (signs w)]
   exact List.map_congr_left (fun c hc=>hf c hc)
  rw [this,ht]
end Go.Proofs.YtldcadpemnpbmaaGreatDoor
