import Derived.Test.YtmoomnpbiifedaaGreatMAQ01
import Derived.Lib.IndexBytes
import Derived.OneCell
import Derived.Test.YtmoomnpbiifedaaGreatProg
import Derived.BigQuiet
import Derived.Deep.QuietTactic
import Derived.Lib.Hide
import Derived.Deep.RegionHeld3
import Derived.Deep.RegionLaw
import Derived.Deep.AppendLies
namespace Go.Proofs.YtmoomnpbiifedaaGreat
open Go Go.RowKit
set_option linter.unusedVariables false
def OneRel (l:List UInt8) (n:Nat) (v0:Int) (v i:Value):Prop:=∃ (k:Nat) (V:Int),k+1≤n∧i= .int .i64 ((k:Int)+1)∧v= .int .i64 V∧Small k V∧Hid (V=vals l v0 k)∧Hid (Conts l k)
theorem not_cont {s:ByteArray} {j x:Nat} (h:j<s.size) (hx:(s[j]'h).toNat=x) (hn:¬ (128≤x∧x<192)):¬ ContAt s.data.toList j:=by
 rintro ⟨_,h2⟩
 rw [get_byte h,hx] at h2
 omega
theorem is_cont {s:ByteArray} {j x:Nat} (h:j<s.size) (hx:(s[j]'h).toNat=x) (hn:128≤x∧x<192):ContAt s.data.toList j:=by
 refine ⟨by rw [size_list];exact h,?_⟩
 rw [get_byte h,hx]
 omega
theorem no_cont {s:ByteArray} {j:Nat} (h:s.size≤j):¬ ContAt s.data.toList j:=by
 rintro ⟨h1,_⟩
 rw [size_list] at h1
 omega
set_option maxHeartbeats 2000000 in
set_option maxRecDepth 100000 in
theorem ref_one_1 (s:ByteArray) (w:World) (h0:0<s.size) (hs:s.size≤1073741824) (b0:Nat) (hb0:(s[0]'h0).toNat=b0) (hb:b0<128):
  Calls Tryz.prog 174 #[.string s] w fun e w'=>Told01 s.data.toList e∧w=w':=by
 have hd:dec s.data.toList=(b0,1):=by rw [dec_low _ (by rw [get_byte h0,hb0];exact hb),get_byte h0,hb0]
 have HD:=Lib.hid hd
 clear hd
 go_enter Tryz.func174,Tryz.ntmps174
 go_wp2
 go_ret2
 exact ⟨told_of HD.out rfl rfl,rfl⟩
set_option maxHeartbeats 2000000 in
set_option maxRecDepth 100000 in
theorem ref_one_0 (s:ByteArray) (w:World) (h0:0<s.size) (hs:s.size≤1073741824) (b0:Nat) (hb0:(s[0]'h0).toNat=b0) (hb:(128≤b0∧b0<194)∨(245≤b0∧b0<256)):
  Calls Tryz.prog 174 #[.string s] w fun e w'=>Told01 s.data.toList e∧w=w':=by
 have hd:dec s.data.toList=(65533,1):=dec_bad _ (by rw [get_byte h0,hb0];omega) (by rw [get_byte h0,hb0];omega)
 have HD:=Lib.hid hd
 clear hd
 rcases hb with ⟨hb1,hb2⟩|⟨hb1,hb2⟩
 all_goals
  go_enter Tryz.func174,Tryz.ntmps174
  go_wp2
  go_ret2
  exact ⟨told_of HD.out rfl rfl,rfl⟩
theorem short_2 {s:ByteArray} (h0:0<s.size) {b0:Nat} (hb0:(s[0]'h0).toNat=b0) (hlo:194≤b0) (hhi:b0<224) {j:Nat} (hj:1≤j) (hjn:j<2) (hn:¬ ContAt s.data.toList j):dec s.data.toList=(65533,1):=by
 apply dec_short2 _ (by rw [get_byte h0,hb0];omega)
 intro h
 obtain rfl:j=1:=by omega
 exact hn h
set_option maxHeartbeats 4000000 in
set_option maxRecDepth 100000 in
theorem ref_one_2 (s:ByteArray) (w:World) (h0:0<s.size) (hs:s.size≤1073741824) (b0:Nat) (hb0:(s[0]'h0).toNat=b0) (hlo:194≤b0) (hhi:b0<224):
  Calls Tryz.prog 174 #[.string s] w fun e w'=>Told01 s.data.toList e∧w=w':=by
 have d1:decide ((b0:Int)<128)=false:=by simp;omega
 have d2:decide ((b0:Int)<224)=true:=by simp;omega
 have d3:decide ((b0:Int)<240)=true:=by simp;omega
 have d4:decide ((b0:Int)<245)=true:=by simp;omega
 by_cases hsz:2≤s.size
 ·have d5:decide ((s.size:Int)<2)=false:=by simp;omega
  go_enter Tryz.func174,Tryz.ntmps174
  go_wp2
  go_loop [2,3,7,8] (fun a b v i=>a= .int .i64 0∧b= .int .i64 0∧OneRel s.data.toList 2 ((b0:Int)-192) v i) (fun _ _ _ i=>2-(intOf i).toNat)
  case atStart=>exact ⟨rfl,rfl,0,_,by omega,rfl,rfl,⟨by omega,.inl ⟨rfl,by omega⟩⟩,Lib.hid rfl,Lib.hid (conts_zero _)⟩
  case round=>
   obtain ⟨rfl,rfl,k,V,hk,rfl,rfl,⟨hV0,hV⟩,HV,HC⟩:=hrel
   by_cases hlt:k+1<2
   ·have hk1:k+1<s.size:=by omega
    obtain ⟨x,hx⟩:∃ x:Nat,(s[k+1]'hk1).toNat=x:=⟨_,rfl⟩
    have hx256:x<256:=by rw [← hx];exact (s[k+1]'hk1).toNat_lt
    have hVb:V≤131071:=by omega
    by_cases hcont:128≤x∧x<192
    ·have HC2:=Lib.hid (conts_succ HC.out (is_cont hk1 hx hcont))
     have hVn:64*V+(x:Int)-128=vals s.data.toList ((b0:Int)-192) (k+1):=by
      rw [vals,← HV.out,get_byte hk1,hx]
     have HVN:=Lib.hid hVn
     have HSM:Hid (Small (k+1) (64*V+(x:Int)-128)):=⟨by omega,by omega⟩
     clear hVn
     obtain ⟨hc1,hc2⟩:=hcont
     clear hV
     go_wp2
     go_round
     case rel=>exact ⟨rfl,rfl,k+1,_,by omega,by go_num,rfl,HSM.out,HVN,HC2⟩
     case measure=>simp [intOf];omega
    ·have HD:=Lib.hid (short_2 h0 hb0 hlo hhi (j:=k+1) (by omega) hlt (not_cont hk1 hx hcont))
     clear hV
     by_cases hc1:128≤x
     ·have hc2:192≤x:=by omega
      clear hcont
      go_wp2
      go_ret2
      exact ⟨told_of HD.out rfl rfl,rfl⟩
     ·clear hcont
      go_wp2
      go_ret2
      exact ⟨told_of HD.out rfl rfl,rfl⟩
   ·skip
    have hk1:k=1:=by omega
    subst hk1
    have hend:=told_end2 (V:=V) (by rw [get_byte h0,hb0];omega) (by rw [get_byte h0,hb0];omega) HC.out (by rw [get_byte h0,hb0];exact HV.out)
    have hl:=hend.2.1
    have hh:=hend.2.2
    have HE:=Lib.hid hend.1
    clear hend
    go_wp2
    go_ret2
    exact ⟨told_of HE.out (by omega) rfl,rfl⟩
 ·have HD:=Lib.hid (short_2 h0 hb0 hlo hhi (j:=1) (by omega) (by omega) (no_cont (by omega)))
  go_enter Tryz.func174,Tryz.ntmps174
  go_wp2
  go_ret2
  exact ⟨told_of HD.out rfl rfl,rfl⟩
theorem short_3 {s:ByteArray} (h0:0<s.size) {b0:Nat} (hb0:(s[0]'h0).toNat=b0) (hlo:224≤b0) (hhi:b0<240) {j:Nat} (hj:1≤j) (hjn:j<3) (hn:¬ ContAt s.data.toList j):dec s.data.toList=(65533,1):=by
 apply dec_short3 _ (by rw [get_byte h0,hb0];omega)
 intro h
 obtain rfl|rfl:j=1∨j=2:=by omega
 ·exact hn h.1
 ·exact hn h.2
set_option maxHeartbeats 4000000 in
set_option maxRecDepth 100000 in
theorem ref_one_3 (s:ByteArray) (w:World) (h0:0<s.size) (hs:s.size≤1073741824) (b0:Nat) (hb0:(s[0]'h0).toNat=b0) (hlo:224≤b0) (hhi:b0<240):
  Calls Tryz.prog 174 #[.string s] w fun e w'=>Told01 s.data.toList e∧w=w':=by
 have d1:decide ((b0:Int)<128)=false:=by simp;omega
 have d2:decide ((b0:Int)<224)=false:=by simp;omega
 have d3:decide ((b0:Int)<240)=true:=by simp;omega
 have d4:decide ((b0:Int)<245)=true:=by simp;omega
 by_cases hsz:3≤s.size
 ·have d5:decide ((s.size:Int)<3)=false:=by simp;omega
  go_enter Tryz.func174,Tryz.ntmps174
  go_wp2
  go_loop [2,3,7,8] (fun a b v i=>a= .int .i64 0∧b= .int .i64 0∧OneRel s.data.toList 3 ((b0:Int)-224) v i) (fun _ _ _ i=>3-(intOf i).toNat)
  case atStart=>exact ⟨rfl,rfl,0,_,by omega,rfl,rfl,⟨by omega,.inl ⟨rfl,by omega⟩⟩,Lib.hid rfl,Lib.hid (conts_zero _)⟩
  case round=>
   obtain ⟨rfl,rfl,k,V,hk,rfl,rfl,⟨hV0,hV⟩,HV,HC⟩:=hrel
   by_cases hlt:k+1<3
   ·have hk1:k+1<s.size:=by omega
    obtain ⟨x,hx⟩:∃ x:Nat,(s[k+1]'hk1).toNat=x:=⟨_,rfl⟩
    have hx256:x<256:=by rw [← hx];exact (s[k+1]'hk1).toNat_lt
    have hVb:V≤131071:=by omega
    by_cases hcont:128≤x∧x<192
    ·have HC2:=Lib.hid (conts_succ HC.out (is_cont hk1 hx hcont))
     have hVn:64*V+(x:Int)-128=vals s.data.toList ((b0:Int)-224) (k+1):=by
      rw [vals,← HV.out,get_byte hk1,hx]
     have HVN:=Lib.hid hVn
     have HSM:Hid (Small (k+1) (64*V+(x:Int)-128)):=⟨by omega,by omega⟩
     clear hVn
     obtain ⟨hc1,hc2⟩:=hcont
     clear hV
     go_wp2
     go_round
     case rel=>exact ⟨rfl,rfl,k+1,_,by omega,by go_num,rfl,HSM.out,HVN,HC2⟩
     case measure=>simp [intOf];omega
    ·have HD:=Lib.hid (short_3 h0 hb0 hlo hhi (j:=k+1) (by omega) hlt (not_cont hk1 hx hcont))
     clear hV
     by_cases hc1:128≤x
     ·have hc2:192≤x:=by omega
      clear hcont
      go_wp2
      go_ret2
      exact ⟨told_of HD.out rfl rfl,rfl⟩
     ·clear hcont
      go_wp2
      go_ret2
      exact ⟨told_of HD.out rfl rfl,rfl⟩
   ·skip
    have hk1:k=2:=by omega
    subst hk1
    obtain ⟨hl,hh,hend⟩:=told_end3 (V:=V) (by rw [get_byte h0,hb0];omega) HC.out (by rw [get_byte h0,hb0];exact HV.out)
    by_cases c1:2048≤V
    ·by_cases c2:55296≤V
     ·by_cases c3:V≤57343
      ·rw [if_neg (by omega)] at hend
       have HE:=Lib.hid hend
       clear hend
       go_wp2
       go_ret2
       exact ⟨told_of HE.out rfl rfl,rfl⟩
      ·rw [if_pos (by omega)] at hend
       have HE:=Lib.hid hend
       clear hend
       go_wp2
       go_ret2
       exact ⟨told_of HE.out (by omega) rfl,rfl⟩
     ·rw [if_pos (by omega)] at hend
      have HE:=Lib.hid hend
      clear hend
      go_wp2
      go_ret2
      exact ⟨told_of HE.out (by omega) rfl,rfl⟩
    ·rw [if_neg (by omega)] at hend
     have HE:=Lib.hid hend
     clear hend
     go_wp2
     go_ret2
     exact ⟨told_of HE.out rfl rfl,rfl⟩
 ·have HD:=Lib.hid (short_3 h0 hb0 hlo hhi (j:=2) (by omega) (by omega) (no_cont (by omega)))
  go_enter Tryz.func174,Tryz.ntmps174
  go_wp2
  go_ret2
  exact ⟨told_of HD.out rfl rfl,rfl⟩
theorem short_4 {s:ByteArray} (h0:0<s.size) {b0:Nat} (hb0:(s[0]'h0).toNat=b0) (hlo:240≤b0) (hhi:b0<245) {j:Nat} (hj:1≤j) (hjn:j<4) (hn:¬ ContAt s.data.toList j):dec s.data.toList=(65533,1):=by
 apply dec_short4 _ (by rw [get_byte h0,hb0];omega)
 intro h
 obtain rfl|rfl|rfl:j=1∨j=2∨j=3:=by omega
 ·exact hn h.1
 ·exact hn h.2.1
 ·exact hn h.2.2
set_option maxHeartbeats 4000000 in
set_option maxRecDepth 100000 in
theorem ref_one_4 (s:ByteArray) (w:World) (h0:0<s.size) (hs:s.size≤1073741824) (b0:Nat) (hb0:(s[0]'h0).toNat=b0) (hlo:240≤b0) (hhi:b0<245):
  Calls Tryz.prog 174 #[.string s] w fun e w'=>Told01 s.data.toList e∧w=w':=by
 have d1:decide ((b0:Int)<128)=false:=by simp;omega
 have d2:decide ((b0:Int)<224)=false:=by simp;omega
 have d3:decide ((b0:Int)<240)=false:=by simp;omega
 have d4:decide ((b0:Int)<245)=true:=by simp;omega
 by_cases hsz:4≤s.size
 ·have d5:decide ((s.size:Int)<4)=false:=by simp;omega
  go_enter Tryz.func174,Tryz.ntmps174
  go_wp2
  go_loop [2,3,7,8] (fun a b v i=>a= .int .i64 0∧b= .int .i64 0∧OneRel s.data.toList 4 ((b0:Int)-240) v i) (fun _ _ _ i=>4-(intOf i).toNat)
  case atStart=>exact ⟨rfl,rfl,0,_,by omega,rfl,rfl,⟨by omega,.inl ⟨rfl,by omega⟩⟩,Lib.hid rfl,Lib.hid (conts_zero _)⟩
  case round=>
   obtain ⟨rfl,rfl,k,V,hk,rfl,rfl,⟨hV0,hV⟩,HV,HC⟩:=hrel
   by_cases hlt:k+1<4
   ·have hk1:k+1<s.size:=by omega
    obtain ⟨x,hx⟩:∃ x:Nat,(s[k+1]'hk1).toNat=x:=⟨_,rfl⟩
    have hx256:x<256:=by rw [← hx];exact (s[k+1]'hk1).toNat_lt
    have hVb:V≤131071:=by omega
    by_cases hcont:128≤x∧x<192
    ·have HC2:=Lib.hid (conts_succ HC.out (is_cont hk1 hx hcont))
     have hVn:64*V+(x:Int)-128=vals s.data.toList ((b0:Int)-240) (k+1):=by
      rw [vals,← HV.out,get_byte hk1,hx]
     have HVN:=Lib.hid hVn
     have HSM:Hid (Small (k+1) (64*V+(x:Int)-128)):=⟨by omega,by omega⟩
     clear hVn
     obtain ⟨hc1,hc2⟩:=hcont
     clear hV
     go_wp2
     go_round
     case rel=>exact ⟨rfl,rfl,k+1,_,by omega,by go_num,rfl,HSM.out,HVN,HC2⟩
     case measure=>simp [intOf];omega
    ·have HD:=Lib.hid (short_4 h0 hb0 hlo hhi (j:=k+1) (by omega) hlt (not_cont hk1 hx hcont))
     clear hV
     by_cases hc1:128≤x
     ·have hc2:192≤x:=by omega
      clear hcont
      go_wp2
      go_ret2
      exact ⟨told_of HD.out rfl rfl,rfl⟩
     ·clear hcont
      go_wp2
      go_ret2
      exact ⟨told_of HD.out rfl rfl,rfl⟩
   ·skip
    have hk1:k=3:=by omega
    subst hk1
    obtain ⟨hl,hh,hend⟩:=told_end4 (V:=V) (by rw [get_byte h0,hb0];omega) HC.out (by rw [get_byte h0,hb0];exact HV.out)
    by_cases c1:65536≤V
    ·by_cases c2:V≤1114111
     ·rw [if_pos (by omega)] at hend
      have HE:=Lib.hid hend
      clear hend
      go_wp2
      go_ret2
      exact ⟨told_of HE.out (by omega) rfl,rfl⟩
     ·rw [if_neg (by omega)] at hend
      have HE:=Lib.hid hend
      clear hend
      go_wp2
      go_ret2
      exact ⟨told_of HE.out rfl rfl,rfl⟩
    ·rw [if_neg (by omega)] at hend
     have HE:=Lib.hid hend
     clear hend
     go_wp2
     go_ret2
     exact ⟨told_of HE.out rfl rfl,rfl⟩
 ·have HD:=Lib.hid (short_4 h0 hb0 hlo hhi (j:=3) (by omega) (by omega) (no_cont (by omega)))
  go_enter Tryz.func174,Tryz.ntmps174
  go_wp2
  go_ret2
  exact ⟨told_of HD.out rfl rfl,rfl⟩
theorem ref_one (s:ByteArray) (w:World) (h0:0<s.size) (hs:s.size≤1073741824):
  Calls Tryz.prog 174 #[.string s] w fun e w'=>Told01 s.data.toList e∧w=w':=by
 obtain ⟨b0,hb0⟩:∃ b0:Nat,(s[0]'h0).toNat=b0:=⟨_,rfl⟩
 have h256:b0<256:=by rw [← hb0];exact (s[0]'h0).toNat_lt
 by_cases c1:b0<128
 ·exact ref_one_1 s w h0 hs b0 hb0 c1
 by_cases c2:b0<194
 ·exact ref_one_0 s w h0 hs b0 hb0 (.inl ⟨by omega,c2⟩)
 by_cases c3:b0<224
 ·exact ref_one_2 s w h0 hs b0 hb0 (by omega) c3
 by_cases c4:b0<240
 ·exact ref_one_3 s w h0 hs b0 hb0 (by omega) c4
 by_cases c5:b0<245
 ·exact ref_one_4 s w h0 hs b0 hb0 (by omega) c5
 ·exact ref_one_0 s w h0 hs b0 hb0 (.inr ⟨by omega,h256⟩)
end Go.Proofs.YtmoomnpbiifedaaGreat
namespace Go.Proofs.YtmoomnpbiifedaaGreat
open Go Go.RowKit
set_option linter.unusedVariables false
theorem dec_small (l:List UInt8):(dec l).1≤1114111:=by
 have :=(valid_iff _).1 (dec_valid l)
 omega
theorem ref_one_as (t:ByteArray) (w:World) (c n:Nat) (h0:0<t.size) (hs:t.size≤1073741824) (h:Hid (dec t.data.toList=(c,n))):
  Calls Tryz.prog 174 #[.string t] w fun e w'=>e= .returned (.tuple #[.int .i64 c,.int .i64 n])∧w=w':=
 (ref_one t w h0 hs).mono fun e w' ⟨he,hw⟩=>⟨by unfold Told01 at he;rw [he,h.out],hw⟩
def SignsRel (s:ByteArray) (w:World) (a l:Value) (wr:World):Prop:=
 ∃ (t:ByteArray) (acc:List Int),a= .string t∧t.size+acc.length≤s.size∧wr.ownsRow w.heap.size 3 1 l acc.length (ints acc)∧Below w.heap.size w wr∧acc++signs t.data.toList=signs s.data.toList
def strLen:Value→Nat| .string s=>s.size|_=>0
set_option maxHeartbeats 1000000 in
set_option maxRecDepth 100000 in
theorem ref_Signs (s:ByteArray) (w:World) (hs:s.size≤1073741824):
  Calls Tryz.prog 148 #[.string s] w (GaveInts (signs s.data.toList) w):=by
 obtain ⟨i0,hi0,hz0,hz1,hz2⟩:=info_parts info_int
 go_enter Tryz.func148,Tryz.ntmps148
 go_wp2
 go_loopw [0,3] (fun a l wr=>SignsRel s w a l wr) (fun a _ _=>strLen a)
 case atStart=>exact ⟨s,[],rfl,by simp,World.ownsRow_nil _ _ _ _,Below.refl _ _,rfl⟩
 case round=>
  obtain ⟨t,acc,rfl,hsz,hown,hbw,hacc⟩:=hrel
  have HACC:=Lib.hid hacc
  clear hacc
  by_cases hp:0<t.size
  ·obtain ⟨c,n,hd⟩:∃ c n,dec t.data.toList=(c,n):=⟨_,_,rfl⟩
   have hne:t.data.toList≠[]:=by
    intro h
    have :=congrArg List.length h
    rw [size_list,List.length_nil] at this
    omega
   have hw:=dec_width _ hne
   have hst:=signs_step _ hne
   have hc:=dec_small t.data.toList
   rw [hd] at hw hst hc
   rw [size_list] at hw
   simp only [] at hw hst hc
   have HD:=Lib.hid hd
   have HST:=Lib.hid hst
   clear hd hst hne
   obtain ⟨hw1,hw2⟩:=hw
   have hszi:=hbw.size
   go_wp2_with (go_at_call 174;refine (ref_one_as t _ c n hp (by omega) HD).mono ?_)
   rintro e w' ⟨rfl,rfl⟩
   clear HD
   go_wp2_with (at_builtin;refine wpList_append_own _ rfl (.tmp 14) (.tmp 16) 22 rfl w.heap.size 3 i0 _ 1 8 Tryz.underlying22 hi0 hz0 hz1 hz2 rfl (by omega) _ acc.length (ints acc) rfl (hown.alloc _) ⟨wr.heap.size,0,none⟩ 1 1 [.int .i64 c] rfl rfl ?c1 ?c2 ?c3 ?c4 ?c5 ?_)
   case c1=>
    intro j u hj
    match j,hj with
    |0,hj=>simp at hj;subst hj;simp [Addr.add]
    |(j+1),hj=>simp at hj
   case c2=>intro u hu;simp at hu;subst hu;rfl
   case c3=>unfold maxLen;omega
   case c4=>omega
   case c5=>simp;omega
   intro v' w3 hown3 hgrow3 _
   go_wp2
   go_roundw
   case rel=>
    refine ⟨t.extract n t.size,acc++[(c:Int)],rfl,?_,?_,?_,?_⟩
    ·rw [ByteArray.size_extract];simp;omega
    ·simpa [ints] using hown3
    ·exact (hbw.alloc (by omega) _).grown hgrow3 (by simp;omega) (fun k hk=>(hown.lt k hk).1)
    ·rw [← HACC.out,HST.out,Lib.extract_to_end];simp
   case measure=>
    simp only [strLen]
    simp [ByteArray.size_extract]
    omega
  ·go_wp2
   go_ret
   have he:t.data.toList=[]:=List.eq_nil_of_length_eq_zero (by rw [size_list];omega)
   have hout:=HACC.out
   rw [he,signs_nil,List.append_nil] at hout
   subst hout
   exact ⟨_,rfl,hown,hbw⟩
end Go.Proofs.YtmoomnpbiifedaaGreat
set_option linter.unusedVariables false
namespace Go.Proofs.YtmoomnpbiifedaaGreat
open Go Go.RowKit
section
variable {w w' w1:World} {base:Nat} {e:TypeId} {size:Nat} {v:Value} {n:Nat} {xs:List Value}
theorem owned_keep (h:w.ownsRow base e size v n xs) (hk:∀ g,v.ownBlock=some g→w'.heap[g]?=w.heap[g]?):w'.ownsRow base e size v n xs:=by
 refine ⟨h.1,?_⟩
 rcases h.2 with hn|⟨g,cap,cur,rfl,hg,hh,r⟩
 ·exact .inl hn
 ·exact .inr ⟨g,cap,cur,rfl,hg,(hk g rfl).trans hh,r⟩
theorem owned_apart (h:w.ownsRow base e size v n xs) {B:Nat} {cs:Array Value} {t:TypeId} {fr:Nat × Nat} (hB:w.heap[B]?=some (.cells cs t fr)) (ht:t≠e):v.ownBlock≠some B:=by
 intro he
 rcases h.2 with ⟨rfl,_⟩|⟨g,cap,cur,rfl,hg,hh,r⟩
 ·cases he
 ·simp only [Value.ownBlock,Option.some.injEq] at he
  subst he
  rw [hh] at hB
  simp at hB
  exact ht hB.2.1.symm
theorem owned_apart2 {base':Nat} {e':TypeId} {size':Nat} {v':Value} {n':Nat} {xs':List Value} (h:w.ownsRow base e size v n xs) (h':w.ownsRow base' e' size' v' n' xs') (ht:e≠e') {g:Nat} (hg:v'.ownBlock=some g):v.ownBlock≠some g:=by
 rcases h'.2 with ⟨rfl,_⟩|⟨g',cap,cur,rfl,_,hh,r⟩
 ·cases hg
 ·simp only [Value.ownBlock,Option.some.injEq] at hg
  subst hg
  exact owned_apart h hh ht.symm
theorem owned_other {base':Nat} {e':TypeId} {size':Nat} {v':Value} {n':Nat} {xs':List Value} (h:w.ownsRow base e size v n xs) (h':w.ownsRow base' e' size' v' n' xs') (ht:e≠e'):v.ownBlock=none∨v.ownBlock≠v'.ownBlock:=by
 rcases hv:v'.ownBlock with _|g
 ·by_cases h0:v.ownBlock=none
  ·exact .inl h0
  ·exact .inr h0
 ·exact .inr (owned_apart2 h h' ht hv)
theorem owned_cut {g cap:Nat} (h:w.ownsRow base e size (.slice (some ⟨g,0,none⟩) n cap) n xs):w.ownsRow base e size (.slice (some ⟨g,0,none⟩) 0 cap) 0 []:=by
 refine ⟨by simp,?_⟩
 rcases h.2 with ⟨hv,_⟩|⟨g',cap',cur,hv,hg,hh,hnc,hcp,hcs,htake⟩
 ·cases hv
 ·injection hv with h1 h2 h3
  injection h1 with h1
  injection h1 with h1
  subst h1 h3
  exact .inr ⟨g,cap,cur,rfl,hg,hh,Nat.zero_le _,hcp,hcs,by simp⟩
end
def RowVar (T E:TypeId) (base B:Nat) (xs:List Value) (w:World):Prop:=∃ v,w.heap[B]?=some (.cells #[v] T (0,0))∧w.ownsRow base E 1 v xs.length xs
def Touched (B:Nat) (w w':World):Prop:=
 w'.os=w.os∧w'.tape=w.tape∧w'.output=w.output∧w.heap.size≤w'.heap.size∧∀ k,k<w.heap.size→k≠B→(∀ v t,w.heap[B]?=some (.cells #[v] t (0,0))→v.ownBlock≠some k)→w'.heap[k]?=w.heap[k]?
section
variable {T E T' E':TypeId} {base base' B B':Nat} {xs xs':List Value} {w w':World}
theorem RowVar.lt (h:RowVar T E base B xs w):B<w.heap.size:=by obtain ⟨v,hv,_⟩:=h;exact lt_of_block hv
theorem Touched.block (h:RowVar T E base B xs w) (ht:Touched B w w') {k:Nat} {cs:Array Value} {t:TypeId} {fr:Nat × Nat} (hk:w.heap[k]?=some (.cells cs t fr)) (h1:t≠T) (h2:t≠E):w'.heap[k]?=some (.cells cs t fr):=by
 obtain ⟨v,hv,hown⟩:=h
 rw [ht.2.2.2.2 k (lt_of_block hk) ?_ ?_,hk]
 ·rintro rfl;rw [hk] at hv;simp at hv;exact h1 hv.2.1
 ·intro u t' hu
  rw [hv] at hu
  simp at hu
  rw [← hu.1]
  exact owned_apart hown hk h2
theorem RowVar.other (h':RowVar T' E' base' B' xs' w) (h:RowVar T E base B xs w) (ht:Touched B w w') (h1:T'≠T) (h2:T'≠E) (h3:E'≠T) (h4:E'≠E):RowVar T' E' base' B' xs' w':=by
 obtain ⟨v',hv',hown'⟩:=h'
 refine ⟨v',Touched.block h ht hv' h1 h2,owned_keep hown' fun g hg=> ?_⟩
 rcases hown'.2 with ⟨rfl,_⟩|⟨g',cap,cur,rfl,_,hh,r⟩
 ·cases hg
 ·simp only [Value.ownBlock,Option.some.injEq] at hg
  subst hg
  rw [Touched.block h ht hh h3 h4,hh]
theorem Touched.below (h:RowVar T E base B xs w) (hB:base≤B) (hs:base≤w.heap.size) (ht:Touched B w w'):Below base w w':=by
 obtain ⟨v,hv,hown⟩:=h
 refine ⟨ht.1,ht.2.1,ht.2.2.1,ht.2.2.2.1,fun k hk=>ht.2.2.2.2 k (by omega) (by omega) fun u t hu he=> ?_⟩
 rw [hv] at hu
 simp at hu
 rw [← hu.1] at he
 have :=(hown.lt k he).1
 omega
def Aside (base B C:Nat) (w w':World):Prop:=
 w'.os=w.os∧w'.tape=w.tape∧w'.output=w.output∧w.heap.size≤w'.heap.size∧∀ k,k<base→k≠B→k≠C→w'.heap[k]?=w.heap[k]?
theorem Aside.refl (base B C:Nat) (w:World):Aside base B C w w:=⟨rfl,rfl,rfl,Nat.le_refl _,fun _ _ _ _=>rfl⟩
theorem Aside.trans {B C:Nat} {w w1 w2:World} (h:Aside base B C w w1) (k:Aside base B C w1 w2):Aside base B C w w2:=
 ⟨k.1.trans h.1,k.2.1.trans h.2.1,k.2.2.1.trans h.2.2.1,Nat.le_trans h.2.2.2.1 k.2.2.2.1,fun i hi h1 h2=>(k.2.2.2.2 i hi h1 h2).trans (h.2.2.2.2 i hi h1 h2)⟩
theorem Aside.of {B C:Nat} {w w1:World} (h:Below base w w1):Aside base B C w w1:=⟨h.os,h.tape,h.output,h.size,fun k hk _ _=>h.block k hk⟩
theorem Aside.swap {B C:Nat} {w w1:World} (h:Aside base B C w w1):Aside base C B w w1:=⟨h.1,h.2.1,h.2.2.1,h.2.2.2.1,fun k hk h1 h2=>h.2.2.2.2 k hk h2 h1⟩
theorem Aside.below {B C:Nat} {w w1:World} (h:Aside base B C w w1) {b:Nat} (hb:b≤base) (hB:b≤B) (hC:b≤C):Below b w w1:=⟨h.1,h.2.1,h.2.2.1,h.2.2.2.1,fun k hk=>h.2.2.2.2 k (by omega) (by omega) (by omega)⟩
theorem Touched.aside {C:Nat} (h:RowVar T E base B xs w) (hs:base≤w.heap.size) (ht:Touched B w w'):Aside base B C w w':=by
 obtain ⟨v,hv,hown⟩:=h
 refine ⟨ht.1,ht.2.1,ht.2.2.1,ht.2.2.2.1,fun k hk hkB _=>ht.2.2.2.2 k (by omega) hkB fun u t hu he=> ?_⟩
 rw [hv] at hu
 simp at hu
 rw [← hu.1] at he
 have :=(hown.lt k he).1
 omega
theorem RowVar.below (h:RowVar T E base B xs w) (hb:Below w.heap.size w w'):RowVar T E base B xs w':=by
 obtain ⟨v,hv,hown⟩:=h
 exact ⟨v,(hb.block B (lt_of_block hv)).trans hv,owned_below hown hb⟩
theorem pushed {v v':Value} {w0 w1:World} {n m:Nat} {u:List Value} (hTE:T≠E) (hv:w.heap[B]?=some (.cells #[v] T (0,0))) (hn:xs.length=n) (hown:w.ownsRow base E 1 v n xs)
  (hb:Below w.heap.size w w0) (hg:w0.grownBy w1 v.ownBlock) (hown1:w1.ownsRow base E 1 v' m (xs++u)) (hm:m=n+u.length):
  w1.cell? ⟨B,0,none⟩=some v∧w1.frozen? ⟨B,0,none⟩=false∧RowVar T E base B (xs++u) (w1.setCell ⟨B,0,none⟩ v')∧Touched B w (w1.setCell ⟨B,0,none⟩ v'):=by
 have hBlt:=lt_of_block hv
 have hne:v.ownBlock≠some B:=owned_apart hown hv hTE
 have hv1:w1.heap[B]?=some (.cells #[v] T (0,0)):=(hg.block B (by have :=hb.size;omega) (fun e=>hne e.symm)).trans ((hb.block B hBlt).trans hv)
 have hne':v'.ownBlock≠some B:=owned_apart hown1 hv1 hTE
 have hl:m=(xs++u).length:=by simp [hm,hn]
 rw [hl] at hown1
 refine ⟨cell_of_one hv1,free_of_one hv1,⟨v',one_setCell hv1,ownsRow_setCell_other hown1 hne' v'⟩,hg.os.trans hb.os,hg.tape.trans hb.tape,hg.output.trans hb.output,?_,fun k hk hkB hkv=> ?_⟩
 ·have h1:=hb.size
  have h2:=hg.size
  simp
  omega
 ·rw [Below.heap_setCell _ _ _ _ hkB,hg.block k (by have :=hb.size;omega) (fun e=>hkv v T hv e.symm),hb.block k hk]
theorem emptied {g n cap:Nat} (hTE:T≠E) (hv:w.heap[B]?=some (.cells #[.slice (some ⟨g,0,none⟩) n cap] T (0,0))) (hown:w.ownsRow base E 1 (.slice (some ⟨g,0,none⟩) n cap) n xs):
  RowVar T E base B [] (w.setCell ⟨B,0,none⟩ (.slice (some ⟨g,0,none⟩) 0 cap))∧Touched B w (w.setCell ⟨B,0,none⟩ (.slice (some ⟨g,0,none⟩) 0 cap)):=by
 have hne:=owned_apart hown hv hTE
 refine ⟨⟨_,one_setCell hv,ownsRow_setCell_other (owned_cut hown) (by simpa [Value.ownBlock] using hne) _⟩,rfl,rfl,rfl,by simp,fun k hk hkB _=> ?_⟩
 rw [Below.heap_setCell _ _ _ _ hkB]
theorem owned_row_of {e:TypeId} {size:Nat} {A:Option Addr} {n m c:Nat} (h:w.ownsRow base e size (.slice A m c) n xs):Row w w.heap.size A xs:=by
 obtain ⟨A',c',he,_,hr⟩:=owned_row h
 injection he with h1 h2 h3
 rw [h1]
 exact hr
theorem owned_aside {e:TypeId} {size:Nat} {v:Value} {n:Nat} (h:w.ownsRow base' e size v n xs) {C:Nat} (hB:B<base') (hC:C<base') (hs:w.heap.size≤base) (hk:Aside base B C w w'):w'.ownsRow base' e size v n xs:=
 owned_keep h fun g hg=>by
  have :=h.lt g hg
  exact hk.2.2.2.2 g (by omega) (by omega) (by omega)
end
end Go.Proofs.YtmoomnpbiifedaaGreat
namespace Go.Proofs.YtmoomnpbiifedaaGreat
open Go Go.RowKit
set_option linter.unusedVariables false
def strs (l:List (List UInt8)):List Value:=l.map fun s=> .string ⟨s.toArray⟩
theorem strs_length (l:List (List UInt8)):(strs l).length=l.length:=by simp [strs]
theorem info_string:(Tryz.prog.info? 9).map (fun i=>(i.zero,i.size,i.bytes))=some (some (.string ByteArray.empty),1,16):=by kernel_rfl
theorem row_str {w:World} {B:Nat} {A:Option Addr} {xs:List (List UInt8)} (h:Row w B A (strs xs)) {k:Nat} (hk:k<xs.length):
  ∃ b off,A=some ⟨b,off,none⟩∧b<B∧w.cell? ⟨b,off+k,none⟩=some (.string ⟨xs[k].toArray⟩):=by
 obtain ⟨b,off,rfl,hb,hc⟩:=h.at_ (by rw [strs_length];omega)
 refine ⟨b,off,rfl,hb,hc k _ ?_⟩
 simp [strs,hk]
end Go.Proofs.YtmoomnpbiifedaaGreat
set_option linter.unusedVariables false
namespace Go.Proofs.YtmoomnpbiifedaaGreat
open Go
def inWord (c:Int):Bool:=isLetter c || isDigit c
def step (st:List (List Int) × List Int) (c:Int):List (List Int) × List Int:=
 if inWord c=true then (st.1,st.2++[fold c]) else if st.2=[] then st else (st.1++[st.2],[])
def gather (st:List (List Int) × List Int) (l:List Int):List (List Int):=((l++[32]).foldl step st).1
def wordSigns (l:List Int):List (List Int):=gather ([],[]) l
def words (l:List UInt8):List (List UInt8):=(wordSigns (signs l)).map text
theorem inWord_blank:inWord 32=false:=by decide
theorem inWord_fold (c:Int):inWord (fold c)=inWord c:=by rw [inWord,inWord,letter_fold,digit_fold]
theorem step_in {o:List (List Int)} {n:List Int} {c:Int} (h:inWord c=true):step (o,n) c=(o,n++[fold c]):=by unfold step;rw [if_pos h]
theorem step_skip {o:List (List Int)} {c:Int} (h:inWord c=false):step (o,[]) c=(o,[]):=by unfold step;rw [if_neg (by simp [h]),if_pos rfl]
theorem step_end {o:List (List Int)} {n:List Int} {c:Int} (h:inWord c=false) (hn:n≠[]):step (o,n) c=(o++[n],[]):=by unfold step;rw [if_neg (by simp [h]),if_neg hn]
theorem gather_cons (st:List (List Int) × List Int) (c:Int) (l:List Int):gather st (c::l)=gather (step st c) l:=by simp [gather]
theorem gather_done (o:List (List Int)):gather (o,[]) []=o:=by simp [gather,step_skip inWord_blank]
theorem gather_last {o:List (List Int)} {n:List Int} (hn:n≠[]):gather (o,n) []=o++[n]:=by simp [gather,step_end inWord_blank hn]
theorem step_front (a o:List (List Int)) (n:List Int) (c:Int):step (a++o,n) c=(a++(step (o,n) c).1,(step (o,n) c).2):=by
 unfold step
 split
 ·rfl
 ·split
  ·rfl
  ·simp
theorem fold_front (a:List (List Int)):∀ (l:List Int) (o:List (List Int)) (n:List Int),l.foldl step (a++o,n)=(a++(l.foldl step (o,n)).1,(l.foldl step (o,n)).2)
 |[],o,n=>rfl
 |c::l,o,n=>by rw [List.foldl_cons,List.foldl_cons,step_front,fold_front a l]
def IsWord (w:List Int):Prop:=w≠[]∧∀ c∈w,inWord c=true∧fold c=c
theorem gather_words:∀ (l:List Int) (o:List (List Int)) (n:List Int),(∀ w∈o,IsWord w)→(∀ c∈n,inWord c=true∧fold c=c)→∀ w∈gather (o,n) l,IsWord w
 |[],o,n,ho,hn,w,hw=>by
  by_cases h:n=[]
  ·subst h;rw [gather_done] at hw;exact ho w hw
  ·rw [gather_last h] at hw
   rcases List.mem_append.1 hw with hw|hw
   ·exact ho w hw
   ·obtain rfl:=List.mem_singleton.1 hw;exact ⟨h,hn⟩
 |c::l,o,n,ho,hn,w,hw=>by
  rw [gather_cons] at hw
  by_cases hc:inWord c=true
  ·rw [step_in hc] at hw
   refine gather_words l o _ ho (fun x hx=> ?_) w hw
   rcases List.mem_append.1 hx with hx|hx
   ·exact hn x hx
   ·obtain rfl:=List.mem_singleton.1 hx;exact ⟨by rw [inWord_fold];exact hc,fold_fold c⟩
  ·have hc':inWord c=false:=by simpa using hc
   by_cases h:n=[]
   ·subst h;rw [step_skip hc'] at hw;exact gather_words l o [] ho hn w hw
   ·rw [step_end hc' h] at hw
    refine gather_words l _ [] (fun x hx=> ?_) (fun x hx=>by cases hx) w hw
    rcases List.mem_append.1 hx with hx|hx
    ·exact ho x hx
    ·obtain rfl:=List.mem_singleton.1 hx;exact ⟨h,hn⟩
theorem wordSigns_words (l:List Int):∀ w∈wordSigns l,IsWord w:=gather_words l [] [] (fun w hw=>by cases hw) (fun c hc=>by cases hc)
def total (o:List (List Int)):Nat:=(o.map List.length).sum
theorem total_append (a b:List (List Int)):total (a++b)=total a+total b:=by simp [total]
theorem gather_total:∀ (l:List Int) (o:List (List Int)) (n:List Int),total (gather (o,n) l)≤total o+n.length+l.length
 |[],o,n=>by
  by_cases h:n=[]
  ·subst h;rw [gather_done];omega
  ·rw [gather_last h,total_append];simp [total]
 |c::l,o,n=>by
  rw [gather_cons]
  by_cases hc:inWord c=true
  ·rw [step_in hc];have :=gather_total l o (n++[fold c]);simp at this ⊢;omega
  ·have hc':inWord c=false:=by simpa using hc
   by_cases h:n=[]
   ·subst h;rw [step_skip hc'];have :=gather_total l o [];simp at this ⊢;omega
   ·rw [step_end hc' h];have :=gather_total l (o++[n]) [];rw [total_append] at this;simp [total] at this ⊢;omega
theorem wordSigns_total (l:List Int):total (wordSigns l)≤l.length:=by have :=gather_total l [] [];simpa [total,wordSigns] using this
theorem total_mem {o:List (List Int)} {w:List Int} (h:w∈o):w.length≤total o:=by
 induction o with
 |nil=>cases h
 |cons a o ih=>
  simp only [total,List.map_cons,List.sum_cons] at ih ⊢
  rcases List.mem_cons.1 h with rfl|h
  ·omega
  ·have :=ih h;omega
theorem total_count:∀ {o:List (List Int)},(∀ w∈o,IsWord w)→o.length≤total o
 |[],_=>by simp
 |a::o,h=>by
  have h1:=List.length_pos_iff.2 (h a (List.mem_cons_self ..)).1
  have h2:=total_count (o:=o) (fun w hw=>h w (List.mem_cons_of_mem _ hw))
  simp only [total,List.map_cons,List.sum_cons,List.length_cons] at h2 ⊢;omega
theorem wordSigns_length (l:List Int):(wordSigns l).length≤l.length:=Nat.le_trans (total_count (wordSigns_words l)) (wordSigns_total l)
theorem words_length (l:List UInt8):(words l).length≤l.length:=by
 rw [words,List.length_map];exact Nat.le_trans (wordSigns_length _) (signs_length l)
theorem words_size {l w:List UInt8} (h:w∈words l):w.length≤4*l.length:=by
 obtain ⟨v,hv,rfl⟩:=List.mem_map.1 h
 have h1:=text_length v
 have h2:=total_mem hv
 have h3:=wordSigns_total (signs l)
 have h4:=signs_length l
 omega
end Go.Proofs.YtmoomnpbiifedaaGreat
namespace Go.Proofs.YtmoomnpbiifedaaGreat
open Go Go.RowKit
set_option linter.unusedVariables false
set_option maxHeartbeats 1000000 in
theorem word_within (c:Int) (w:World):
  Calls Tryz.prog 179 #[.int .i64 c] w fun e w'=>e= .returned (.bool (inWord c))∧w=w':=by
 have l1:=fun w=>sign_Letter c w
 have d1:=fun w=>sign_Digit c w
 unfold inWord
 cases hL:isLetter c<;>cases hD:isDigit c<;>rw [hL] at l1<;>rw [hD] at d1
 all_goals
  have L1:=Lib.hid l1
  have D1:=Lib.hid d1
  clear l1 d1 hL hD
  go_enter Tryz.func179,Tryz.ntmps179
  go_wp2_with (first
   |(go_at_call 197;refine (L1.out _).mono ?_;rintro e w' ⟨rfl,rfl⟩)
   |(go_at_call 198;refine (D1.out _).mono ?_;rintro e w' ⟨rfl,rfl⟩))
  go_ret
  exact ⟨rfl,rfl⟩
set_option maxHeartbeats 1000000 in
theorem ref_in (c:Int) (w:World):
  Calls Tryz.prog 149 #[.int .i64 c] w fun e w'=>e= .returned (.bool (inWord c))∧w=w':=by
 have l1:=fun w=>ref_Letter c w
 cases hL:isLetter c<;>rw [hL] at l1
 all_goals
  have L1:=Lib.hid l1
  have hin:inWord c=(isLetter c || isDigit c):=rfl
  rw [hL] at hin
  have HIN:=Lib.hid hin
  clear l1 hL hin
  go_enter Tryz.func149,Tryz.ntmps149
  go_wp2_with (go_at_call 175;refine (L1.out _).mono ?_;rintro e w' ⟨rfl,rfl⟩)
  all_goals
   go_ret
   refine ⟨ret_bool ?_,rfl⟩
   rw [HIN.out,Bool.eq_iff_iff]
   simp [isDigit]
   try omega
def Told02 (base B:Nat) (xs:List Value) (w:World) (e:Ending) (w':World):Prop:=
 e= .returned (.tuple #[])∧RowVar 23 9 base B xs w'∧Touched B w w'
set_option maxHeartbeats 1000000 in
set_option maxRecDepth 100000 in
theorem words_tell (base B:Nat) (xs:List Value) (s:ByteArray) (w:World) (h:RowVar 23 9 base B xs w) (hl:xs.length≤1073741824) (hbase:base≤w.heap.size):
  Calls Tryz.prog 159 #[.string s,.pointer (some ⟨B,0,none⟩)] w (Told02 base B (xs++[.string s]) w):=by
 obtain ⟨i0,hi0,hz0,hz1,hz2⟩:=info_parts info_string
 obtain ⟨v,hv,hown⟩:=h
 have cB:=cell_of_one hv
 have fB:=free_of_one hv
 go_enter Tryz.func159,Tryz.ntmps159
 go_wp2_with (at_builtin;refine wpList_append_own _ rfl (.tmp 3) (.tmp 5) 23 rfl base 9 i0 _ 1 16 Tryz.underlying23 hi0 hz0 hz1 hz2 rfl (by omega) _ xs.length xs rfl (hown.alloc _) ⟨w.heap.size,0,none⟩ 1 1 [.string s] rfl rfl (news_at w [.string s] 9) (by intro u hu;simp at hu;subst hu;rfl) (by unfold maxLen;omega) (by omega) (by simp;omega) ?_)
 intro v' w1 hown1 hgrow1 _
 obtain ⟨g',cap',rfl,_,_⟩:=hown1.form (by omega)
 obtain ⟨cB1,fB1,hrv,htc⟩:=pushed (by decide) hv rfl hown ((Below.refl _ w).alloc (Nat.le_refl _) _) hgrow1 hown1 rfl
 go_wp2
 go_end0
 exact ⟨rfl,hrv,htc⟩
structure Gath (base Bl Bt Bn:Nat) (st:List (List Int) × List Int) (w:World):Prop where
 base_le:base≤w.heap.size
 outs:RowVar 23 9 base Bl (strs (st.1.map text)) w
 tell:w.heap[Bt]?=some (.cells #[.func (.func 159) #[] #[.pointer (some ⟨Bl,0,none⟩)]] 214 (0,0))
 own:RowVar 22 3 base Bn (ints st.2) w
theorem Gath.keep {base Bl Bt Bn:Nat} {st:List (List Int) × List Int} {w w':World} (h:Gath base Bl Bt Bn st w) (hb:Below w.heap.size w w'):Gath base Bl Bt Bn st w':=
 ⟨Nat.le_trans h.base_le hb.size,h.outs.below hb,(hb.block Bt (lt_of_block h.tell)).trans h.tell,h.own.below hb⟩
theorem Gath.owned {base Bl Bt Bn:Nat} {st st':List (List Int) × List Int} {w w':World} (h:Gath base Bl Bt Bn st w) (ht:Touched Bn w w') (h1:st'.1=st.1) (ho:RowVar 22 3 base Bn (ints st'.2) w'):Gath base Bl Bt Bn st' w':=
 ⟨Nat.le_trans h.base_le ht.2.2.2.1,by rw [h1];exact h.outs.other h.own ht (by decide) (by decide) (by decide) (by decide),Touched.block h.own ht h.tell (by decide) (by decide),ho⟩
theorem Gath.told {base Bl Bt Bn:Nat} {st st':List (List Int) × List Int} {w w':World} (h:Gath base Bl Bt Bn st w) (ht:Touched Bl w w') (h1:st'.2=st.2) (ho:RowVar 23 9 base Bl (strs (st'.1.map text)) w'):Gath base Bl Bt Bn st' w':=
 ⟨Nat.le_trans h.base_le ht.2.2.2.1,ho,Touched.block h.outs ht h.tell (by decide) (by decide),by rw [h1];exact h.own.other h.outs ht (by decide) (by decide) (by decide) (by decide)⟩
def TookG (base Bl Bt Bn:Nat) (st:List (List Int) × List Int) (w:World) (e:Ending) (w':World):Prop:=
 e= .returned (.tuple #[])∧Gath base Bl Bt Bn st w'∧Aside base Bl Bn w w'
theorem took_in {base Bl Bt Bn:Nat} {st:List (List Int) × List Int} {c:Int} {w w':World} (h:Gath base Bl Bt Bn st w) (hc:inWord c=true) (ht:Touched Bn w w')
  (ho:RowVar 22 3 base Bn (ints st.2++[.int .i64 (fold c)]) w'):TookG base Bl Bt Bn (step st c) w (.returned (.tuple #[])) w':=by
 have e:step st c=(st.1,st.2++[fold c]):=step_in hc
 rw [e]
 refine ⟨rfl,h.owned ht rfl ?_,(ht.aside h.own h.base_le).swap⟩
 simpa [ints] using ho
set_option maxHeartbeats 1000000 in
set_option maxRecDepth 100000 in
theorem take_in (base Bl Bt Bn:Nat) (st:List (List Int) × List Int) (c:Int) (w:World) (h:Gath base Bl Bt Bn st w) (hl:st.2.length≤1073741824) (hc:inWord c=true):
    Calls Tryz.prog 178 #[.int .i64 c,.pointer (some ⟨Bn,0,none⟩),.pointer (some ⟨Bt,0,none⟩)] w (TookG base Bl Bt Bn (step st c) w):=by
  obtain ⟨i0,hi0,hz0,hz1,hz2⟩:=info_parts info_int
  have hbase:=h.base_le
  obtain ⟨v,hv,hown⟩:=h.own
  have cB:=cell_of_one hv
  have fB:=free_of_one hv
  have f1:=fun w=>sign_Fold c w
  have w1:=fun w=>word_within c w
  have tk:=fun (w':World)=>took_in (w':=w') h hc
  generalize fold c=y at f1 tk
  rw [hc] at w1
  rw [ints_length] at hown
  have hal:(w.alloc (.cells #[.int .i64 y] 3)).cell? ⟨Bn,0,none⟩=some v:=(((Below.refl _ w).alloc (Nat.le_refl _) _).cell (p:=⟨Bn,0,none⟩) (lt_of_block hv)).trans cB
  have F1:=Lib.hid f1
  have W1:=Lib.hid w1
  have TK:=Lib.hid tk
  have HC:=Lib.hid hc
  clear f1 w1 tk hc
  go_enter Tryz.func178,Tryz.ntmps178
  go_wp2_with (go_at_call 179;refine (W1.out _).mono ?_;rintro e w' ⟨rfl,rfl⟩)
  go_region_law (first
      | (refine step_append_lies _ (by rfl) _ _ _ (by rfl) base 3 i0 _ 1 8 Tryz.underlying22 hi0 hz0 hz1 hz2 rfl (by omega) v st.2.length (ints st.2) (by rfl) ((hown.alloc _).drew)
          ⟨w.heap.size,0,none⟩ 1 1 [.int .i64 y] (by rfl) (by rfl) (World.news_of_block (cs:=#[.int .i64 y]) (t:=3) (fr:=(0,0)) (heap_alloc_new w _)) (by simp [Value.oneCell'])
          (by omega) (by unfold maxLen;omega) (by omega) (by simp;omega) (w.heap.size+1) (by simp) ?_
         intro gg cap w1 hown1 hgrow hat hlt
         obtain ⟨cB1,fB1,hrv,htc⟩:=pushed (by decide) hv (ints_length _) hown (((Below.refl _ w).alloc (Nat.le_refl _) _).drew) hgrow hown1 rfl)
      |(go_simp;go_at_call 180;refine (F1.out _).mono ?_;rintro e w' ⟨rfl,rfl⟩))
  all_goals
    go_wp2
    go_end0
    exact TK.out _ htc hrv
set_option maxHeartbeats 1000000 in
set_option maxRecDepth 100000 in
theorem take_skip (base Bl Bt Bn:Nat) (out:List (List Int)) (c:Int) (w:World) (h:Gath base Bl Bt Bn (out,[]) w) (hc:inWord c=false):
  Calls Tryz.prog 178 #[.int .i64 c,.pointer (some ⟨Bn,0,none⟩),.pointer (some ⟨Bt,0,none⟩)] w (TookG base Bl Bt Bn (out,[]) w):=by
 obtain ⟨v,hv,hown⟩:=h.own
 have cB:=cell_of_one hv
 have w1:=fun w=>word_within c w
 rw [hc] at w1
 have W1:=Lib.hid w1
 clear w1
 obtain ⟨A,k,rfl,_,_⟩:=owned_row hown
 go_enter Tryz.func178,Tryz.ntmps178
 go_wp2_with (go_at_call 179;refine (W1.out _).mono ?_;rintro e w' ⟨rfl,rfl⟩)
 go_end0
 exact ⟨rfl,h,Aside.refl _ _ _ _⟩
theorem took_end {base Bl Bt Bn:Nat} {out:List (List Int)} {own:List Int} {w w2 w3:World} (h:Gath base Bl Bt Bn (out,own) w) (hb:Below w.heap.size w w2)
  (hr:RowVar 23 9 base Bl (strs (out.map text)++[.string ⟨(text own).toArray⟩]) w3) (ht:Touched Bl w2 w3):
  Gath base Bl Bt Bn (out++[own],own) w3∧Aside base Bl Bn w w3:=by
 have h2:=h.keep hb
 refine ⟨h2.told ht rfl (by simpa [strs] using hr),(Aside.of (hb.mono h.base_le)).trans (ht.aside h2.outs h2.base_le)⟩
set_option maxHeartbeats 1000000 in
set_option maxRecDepth 100000 in
theorem take_end (base Bl Bt Bn:Nat) (out:List (List Int)) (own:List Int) (c:Int) (w:World) (h:Gath base Bl Bt Bn (out,own) w) (hl:own.length≤1073741824) (ho:out.length≤1073741824) (hc:inWord c=false) (hn:own≠[]):
    Calls Tryz.prog 178 #[.int .i64 c,.pointer (some ⟨Bn,0,none⟩),.pointer (some ⟨Bt,0,none⟩)] w (TookG base Bl Bt Bn (out++[own],[]) w):=by
  have hpos:0<own.length:=List.length_pos_iff.2 hn
  obtain ⟨v,hv,hown⟩:=h.own
  rw [ints_length] at hown
  obtain ⟨g,cap,rfl,_,_⟩:=hown.form hpos
  obtain ⟨A,k,he,_,hrow⟩:=owned_row hown
  have hA:A=some ⟨g,0,none⟩:=by injection he with h1 h2 h3;exact h1.symm
  rw [hA] at hrow
  have cN:=cell_of_one hv
  have cT:=cell_of_one h.tell
  have hltN:=lt_of_block hv
  have hltT:=lt_of_block h.tell
  have w1:=fun w=>word_within c w
  rw [hc] at w1
  have W1:=Lib.hid w1
  have HR:=Lib.hid hrow
  have HG:=Lib.hid h
  clear w1 he hA hrow h
  go_enter Tryz.func178,Tryz.ntmps178
  go_wp2_with (go_at_call 179;refine (W1.out _).mono ?_;rintro e w' ⟨rfl,rfl⟩)
  go_region_held3 (fun w'=>w'.cell? ⟨Bt,0,none⟩=some (.func (.func 159) #[] #[.pointer (some ⟨Bl,0,none⟩)])∧w'.cell? ⟨Bn,0,none⟩=some (.slice (some ⟨g,0,none⟩) own.length cap))
    (first|go_keep|exact ⟨cT2,cN2⟩|exact ⟨cT3,cN3⟩)
    (first
      | (go_at_call 181; refine (sign_Text _ _ own w.drew (HR.out.below (Below.refl _ w).drew) hl).mono ?_; rintro e w2 ⟨rfl, hb0⟩
         have hb2:Below w.heap.size w w2:=(Below.refl _ w).drew.trans hb0
         have HB2:=Lib.hid hb2
         have cT2:=(hb2.cell (p:=⟨Bt,0,none⟩) hltT).trans cT
         have cN2:=(hb2.cell (p:=⟨Bn,0,none⟩) hltN).trans cN
         have hrv2:=(HG.out.keep hb2).outs
         clear hb2 hb0)
      | (go_at_call 159; refine (words_tell base Bl (strs (out.map text)) _ _ hrv2 (by rw [strs_length, List.length_map]; exact ho) (HG.out.keep HB2.out).base_le).mono ?_; rintro e w3 ⟨rfl, hrv3, ht3⟩
         have cT3:=cell_of_one (Touched.block hrv2 ht3 ((HB2.out.block Bt hltT).trans HG.out.tell) (by decide) (by decide))
         have hv3:=Touched.block hrv2 ht3 ((HB2.out.block Bn hltN).trans hv) (by decide) (by decide)
         have cN3:=cell_of_one hv3
         have fN3:=free_of_one hv3))
  obtain ⟨hg3,hb3⟩:=took_end HG.out HB2.out hrv3 ht3
  have hown3:w3.ownsRow base 3 1 (.slice (some ⟨g,0,none⟩) own.length cap) own.length (ints own):=by
    obtain ⟨v3,hv3',hown3⟩:=hg3.own
    rw [hv3] at hv3'
    simp at hv3'
    rw [← hv3',ints_length] at hown3
    exact hown3
  obtain ⟨hrN,htN⟩:=emptied (T:=22) (E:=3) (by decide) hv3 hown3
  have hfin:TookG base Bl Bt Bn (out++[own],[]) w (.returned (.tuple #[])) (w3.setCell ⟨Bn,0,none⟩ (.slice (some ⟨g,0,none⟩) 0 cap)):=
    ⟨rfl,hg3.owned htN rfl hrN,hb3.trans (htN.aside hg3.own hg3.base_le).swap⟩
  have HF:=Lib.hid hfin
  clear hg3 hb3 hown3 hrN htN hfin
  go_wp2
  go_end0
  exact HF.out
theorem take_any (base Bl Bt Bn:Nat) (st:List (List Int) × List Int) (c:Int) (w:World) (h:Gath base Bl Bt Bn st w) (hl:st.2.length≤1073741824) (ho:st.1.length≤1073741824):
  Calls Tryz.prog 178 #[.int .i64 c,.pointer (some ⟨Bn,0,none⟩),.pointer (some ⟨Bt,0,none⟩)] w (TookG base Bl Bt Bn (step st c) w):=by
 by_cases hc:inWord c=true
 ·exact take_in base Bl Bt Bn st c w h hl hc
 ·have hc':inWord c=false:=by simpa using hc
  obtain ⟨out,own⟩:=st
  by_cases hn:own=[]
  ·subst hn
   rw [step_skip hc']
   exact take_skip base Bl Bt Bn out c w h hc'
  ·rw [step_end hc' hn]
   exact take_end base Bl Bt Bn out own c w h hl ho hc' hn
end Go.Proofs.YtmoomnpbiifedaaGreat
namespace Go.Proofs.YtmoomnpbiifedaaGreat
open Go Go.RowKit
set_option linter.unusedVariables false
def GaveStrs (l:List (List UInt8)) (w:World) (e:Ending) (w':World):Prop:=∃ v,e= .returned v∧w'.ownsRow w.heap.size 9 1 v l.length (strs l)∧Below w.heap.size w w'
def upto (l:List Int) (k:Nat):List (List Int) × List Int:=(l.take k).foldl step ([],[])
theorem upto_succ {l:List Int} {k:Nat} (hk:k<l.length):upto l (k+1)=step (upto l k) l[k]:=by
 unfold upto
 rw [List.take_succ_eq_append_getElem hk,List.foldl_append]
 rfl
theorem upto_end (l:List Int):(step (upto l l.length) 32).1=wordSigns l:=by
 unfold upto wordSigns gather
 rw [List.take_length,List.foldl_append]
 rfl
theorem step_bd (st:List (List Int) × List Int) (c:Int):(step st c).1.length+(step st c).2.length≤st.1.length+st.2.length+1:=by
 unfold step
 split
 ·simp;omega
 ·split
  ·omega
  ·simp
theorem upto_bd (l:List Int):∀ k,k≤l.length→(upto l k).1.length+(upto l k).2.length≤k
 |0,_=>by simp [upto]
 |k+1,hk=>by
  have h1:=upto_bd l k (by omega)
  have h2:=step_bd (upto l k) l[k]
  rw [upto_succ (by omega)]
  omega
def WordsRel (l:List Int) (base B:Nat) (w1:World) (i:Value) (wr:World):Prop:=
 ∃ k:Nat,k≤l.length∧i= .int .i64 k∧Gath base B (B+1) (B+2) (upto l k) wr∧Aside base B (B+2) w1 wr
def made (w:World):World:=
 ((w.alloc (.cells #[.slice none 0 0] 23)).alloc (.cells #[.func (.func 159) #[] #[.pointer (some ⟨w.heap.size,0,none⟩)]] 214)).alloc (.cells #[.slice none 0 0] 22)
theorem made_size (w:World):(made w).heap.size=w.heap.size+3:=by simp [made]
theorem made_below (w:World):Below w.heap.size w (made w):=(((Below.refl _ w).alloc (Nat.le_refl _) _).alloc (by simp) _).alloc (by simp;omega) _
theorem made_gath (w w1:World) (hb:Below (made w).heap.size (made w) w1):Gath w1.heap.size w.heap.size (w.heap.size+1) (w.heap.size+2) ([],[]) w1:=by
 have hs:=made_size w
 have h1:(made w).heap[w.heap.size]?=some (.cells #[.slice none 0 0] 23 (0,0)):=by
  unfold made
  rw [Below.heap_alloc _ _ _ (by simp;omega),Below.heap_alloc _ _ _ (by simp)]
  exact heap_alloc_new w _
 have h2:(made w).heap[w.heap.size+1]?=some (.cells #[.func (.func 159) #[] #[.pointer (some ⟨w.heap.size,0,none⟩)]] 214 (0,0)):=by
  unfold made
  rw [Below.heap_alloc _ _ _ (by simp)]
  have :=heap_alloc_new (w.alloc (.cells #[.slice none 0 0] 23)) (.cells #[.func (.func 159) #[] #[.pointer (some ⟨w.heap.size,0,none⟩)]] 214)
  simpa using this
 have h3:(made w).heap[w.heap.size+2]?=some (.cells #[.slice none 0 0] 22 (0,0)):=by
  unfold made
  have :=heap_alloc_new ((w.alloc (.cells #[.slice none 0 0] 23)).alloc (.cells #[.func (.func 159) #[] #[.pointer (some ⟨w.heap.size,0,none⟩)]] 214)) (.cells #[.slice none 0 0] 22)
  simpa using this
 exact ⟨Nat.le_refl _,⟨_,(hb.block _ (by omega)).trans h1,World.ownsRow_nil _ _ _ _⟩,(hb.block _ (by omega)).trans h2,⟨_,(hb.block _ (by omega)).trans h3,World.ownsRow_nil _ _ _ _⟩⟩
set_option maxHeartbeats 1000000 in
set_option maxRecDepth 100000 in
theorem word_Words (s:ByteArray) (w:World) (hs:s.size≤1073741824):
  Calls Tryz.prog 141 #[.string s] w (GaveStrs (words s.data.toList) w):=by
 have hsl:=signs_length s.data.toList
 have hsz:s.data.toList.length=s.size:=Array.length_toList
 rw [hsz] at hsl
 have hwd:(step (upto (signs s.data.toList) (signs s.data.toList).length) 32).1.map text=words s.data.toList:=by rw [upto_end];rfl
 go_enter Tryz.func141,Tryz.ntmps141
 go_wp2_with (first
  |(go_at_call 158;go_in)
  |(go_at_call 160;refine (sign_Signs s _ hs).mono ?_))
 rintro e w1 ⟨v,rfl,hown,hb⟩
 have hms:=made_size w
 have hg1:=made_gath w w1 hb
 have hbm:Below w.heap.size w w1:=(made_below w).trans (hb.mono (made_below w).size)
 have hown:w1.ownsRow (w.heap.size+3) 3 1 v (signs s.data.toList).length (ints (signs s.data.toList)):=by rw [← hms];exact hown
 have hszm:w.heap.size+3≤w1.heap.size:=by rw [← hms];exact hb.size
 obtain ⟨A,c,rfl,_,_⟩:=owned_row hown
 obtain ⟨l,hl⟩:∃ l,l=signs s.data.toList:=⟨_,rfl⟩
 rw [← hl] at hown hsl hwd
 rw [← hl]
 have HG1:=Lib.hid hg1
 have HBM:=Lib.hid hbm
 have HO:=Lib.hid hown
 have HWD:=Lib.hid hwd
 clear hl hms hg1 hbm hb hown hwd
 go_wp2
 go_loopw [12] (fun i wr=>WordsRel l w1.heap.size w.heap.size w1 i wr) (fun i _=>l.length-(intOf i).toNat)
 case atStart=>exact ⟨0,Nat.zero_le _,rfl,HG1.out,Aside.refl _ _ _ _⟩
 case round=>
  obtain ⟨k,hk,rfl,hg,ha⟩:=hrel
  have hbd:=upto_bd l k hk
  have HR:=Lib.hid (owned_row_of (owned_aside HO.out (by omega) (by omega) (Nat.le_refl _) ha))
  have HA:=Lib.hid ha
  have cL:=hg.outs
  by_cases hlt:k<l.length
  ·obtain ⟨b1,o1,e1,_,hc1⟩:=row_int HR.out hlt
   subst e1
   have HU:=Lib.hid (upto_succ hlt)
   obtain ⟨x,hx⟩:∃ x,x=l[k]:=⟨_,rfl⟩
   rw [← hx] at hc1 HU
   clear hx ha cL
   go_wp2_with (go_at_call 178;refine (take_any w1.heap.size w.heap.size (w.heap.size+1) (w.heap.size+2) (upto l k) x _ hg (by omega) (by omega)).mono ?_;rintro e w2 ⟨rfl,hg2,ha2⟩)
   go_roundw
   case rel=>exact ⟨k+1,by omega,by go_num,by rw [HU.out];exact hg2,HA.out.trans ha2⟩
   case measure=>simp [intOf];omega
  ·have hkl:k=l.length:=by omega
   clear cL ha
   go_wp2_with (go_at_call 178;refine (take_any w1.heap.size w.heap.size (w.heap.size+1) (w.heap.size+2) (upto l k) 32 _ hg (by omega) (by omega)).mono ?_;rintro e w2 ⟨rfl,hg2,ha2⟩;obtain ⟨v2,hv2,hown2⟩:=hg2.outs;have c2:=cell_of_one hv2)
   go_ret
   subst hkl
   rw [HWD.out] at hown2
   refine ⟨_,rfl,?_,HBM.out.trans ((HA.out.trans ha2).below HBM.out.size (Nat.le_refl _) (by omega))⟩
   rw [strs_length] at hown2
   exact owned_low hown2 HBM.out.size
end Go.Proofs.YtmoomnpbiifedaaGreat
