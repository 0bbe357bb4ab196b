import Derived.Test.YtpehcaidjlemiaaGreatDoorMBZz
import Derived.Test.YtpehcaidjlemiaaGreatDoorMBQ02
import Derived.Lib.IndexBytes
import Derived.Test.YtpehcaidjlemiaaGreatDoorProg
import Derived.Test.YtpehcaidjlemiaaGreatDoorMBQ01
import Derived.BigQuiet
import Derived.Deep.QuietTactic
import Derived.Lib.Hide
import Derived.OneCell
import Derived.Deep.RegionHeld3
import Derived.Deep.RegionLaw
import Derived.Deep.AppendLies
set_option maxHeartbeats 4000000
set_option maxRecDepth 100000
set_option linter.unusedVariables false
namespace Go.Proofs.YtpehcaidjlemiaaGreatDoor
open Go Go.RowKit
def qir (l:List UInt8) (n:Nat) (v0:Int) (v i:Value):Prop:=∃ (k:Nat) (V:Int),k+1<=n/\i= .int .i64 ((k:Int)+1)/\v= .int .i64 V/\Small k V/\Hid (V=qds l v0 k)/\Hid (qfo l k)
theorem qis {s:ByteArray} {j x:Nat} (h:j<s.size) (hx:(s[j]'h).toNat=x) (hn:¬ (128<=x/\x<192)):¬ qbL s.data.toList j:=by
 rintro ⟨_,h2⟩;rw [qcx h,hx] at h2;omega
theorem qit {s:ByteArray} {j x:Nat} (h:j<s.size) (hx:(s[j]'h).toNat=x) (hn:128<=x/\x<192):qbL s.data.toList j:=by
 refine ⟨by rw [qgg];exact h,?_⟩;rw [qcx h,hx];omega
theorem qiu {s:ByteArray} {j:Nat} (h:s.size<=j):¬ qbL s.data.toList j:=by
 rintro ⟨h1,_⟩;rw [qgg] at h1;omega
theorem qrU (s:ByteArray) (w:World) (h0:0<s.size) (hs:s.size<=1073741824) (b0:Nat) (hb0:(s[0]'h0).toNat=b0) (hb:b0<128):
  Calls Tryz.prog 218 #[.string s] w fun e w'=>qeu s.data.toList e/\w=w':=by
 have hd:dec s.data.toList=(b0,1):=by rw [qrJ _ (by rw [qcx h0,hb0];exact hb),qcx h0,hb0]
 have HD:=qH hd;clear hd
 go_enter Tryz.func218,Tryz.ntmps218
 go_wp2;go_ret2;exact ⟨qcw HD.out rfl rfl,rfl⟩
theorem qlw (s:ByteArray) (w:World) (h0:0<s.size) (hs:s.size<=1073741824) (b0:Nat) (hb0:(s[0]'h0).toNat=b0) (hb:(128<=b0/\b0<194)∨(245<=b0/\b0<256)):
  Calls Tryz.prog 218 #[.string s] w fun e w'=>qeu s.data.toList e/\w=w':=by
 have hd:dec s.data.toList=(65533,1):=qrK _ (by rw [qcx h0,hb0];omega) (by rw [qcx h0,hb0];omega);have HD:=qH hd;clear hd;rcases hb with ⟨hb1,hb2⟩|⟨hb1,hb2⟩
 all_goals
  go_enter Tryz.func218,Tryz.ntmps218
  go_wp2;go_ret2;exact ⟨qcw HD.out rfl rfl,rfl⟩
theorem qlx {s:ByteArray} (h0:0<s.size) {b0:Nat} (hb0:(s[0]'h0).toNat=b0) (hlo:194<=b0) (hhi:b0<224) {j:Nat} (hj:1<=j) (hjn:j<2) (hn:¬ qbL s.data.toList j):dec s.data.toList=(65533,1):=by
 apply qrL _ (by rw [qcx h0,hb0];omega);intro h;obtain rfl:j=1:=by omega
 exact hn h
theorem qrV (s:ByteArray) (w:World) (h0:0<s.size) (hs:s.size<=1073741824) (b0:Nat) (hb0:(s[0]'h0).toNat=b0) (hlo:194<=b0) (hhi:b0<224):
  Calls Tryz.prog 218 #[.string s] w fun e w'=>qeu s.data.toList e/\w=w':=by
 have d1:decide ((b0:Int)<128)=false:=by simp;omega
 have d2:decide ((b0:Int)<224)=true:=by simp;omega
 have d3:decide ((b0:Int)<240)=true:=by simp;omega
 have d4:decide ((b0:Int)<245)=true:=by simp;omega
 by_cases hsz:2<=s.size
 ·have d5:decide ((s.size:Int)<2)=false:=by simp;omega
  go_enter Tryz.func218,Tryz.ntmps218
  go_wp2
  go_loop [2,3,7,8] (fun a b v i=>a= .int .i64 0/\b= .int .i64 0/\qir s.data.toList 2 ((b0:Int)-192) v i) (fun _ _ _ i=>2-(intOf i).toNat)
  case atStart=>exact ⟨rfl,rfl,0,_,by omega,rfl,rfl,⟨by omega,.inl ⟨rfl,by omega⟩⟩,qH rfl,qH (qip _)⟩
  case round=>
   obtain ⟨rfl,rfl,k,V,hk,rfl,rfl,⟨hV0,hV⟩,HV,HC⟩:=hrel;by_cases hlt:k+1<2
   ·have hk1:k+1<s.size:=by omega
    obtain ⟨x,hx⟩:∃ x:Nat,(s[k+1]'hk1).toNat=x:=⟨_,rfl⟩;have hx256:x<256:=by rw [<- hx];exact (s[k+1]'hk1).toNat_lt
    have hVb:V<=131071:=by omega
    by_cases hcont:128<=x/\x<192
    ·have HC2:=qH (qiq HC.out (qit hk1 hx hcont))
     have hVn:64*V+(x:Int)-128=qds s.data.toList ((b0:Int)-192) (k+1):=by
      rw [qds,<- HV.out,qcx hk1,hx]
     have HVN:=qH hVn;have HSM:Hid (Small (k+1) (64*V+(x:Int)-128)):=⟨by omega,by omega⟩;clear hVn;obtain ⟨hc1,hc2⟩:=hcont;clear hV;go_wp2
     go_round
     case rel=>exact ⟨rfl,rfl,k+1,_,by omega,by go_num,rfl,HSM.out,HVN,HC2⟩
     case measure=>simp [intOf];omega
    ·have HD:=qH (qlx h0 hb0 hlo hhi (j:=k+1) (by omega) hlt (qis hk1 hx hcont))
     clear hV;by_cases hc1:128<=x
     ·have hc2:192<=x:=by omega
      clear hcont;go_wp2;go_ret2;exact ⟨qcw HD.out rfl rfl,rfl⟩
     ·clear hcont
      go_wp2;go_ret2;exact ⟨qcw HD.out rfl rfl,rfl⟩
   ·skip
    have hk1:k=1:=by omega
    subst hk1;have hend:=qrR (V:=V) (by rw [qcx h0,hb0];omega) (by rw [qcx h0,hb0];omega) HC.out (by rw [qcx h0,hb0];exact HV.out);have hl:=hend.2.1;have hh:=hend.2.2;have HE:=qH hend.1;clear hend;go_wp2;go_ret2;exact ⟨qcw HE.out (by omega) rfl,rfl⟩
 ·have HD:=qH (qlx h0 hb0 hlo hhi (j:=1) (by omega) (by omega) (qiu (by omega)))
  go_enter Tryz.func218,Tryz.ntmps218
  go_wp2;go_ret2;exact ⟨qcw HD.out rfl rfl,rfl⟩
theorem qly {s:ByteArray} (h0:0<s.size) {b0:Nat} (hb0:(s[0]'h0).toNat=b0) (hlo:224<=b0) (hhi:b0<240) {j:Nat} (hj:1<=j) (hjn:j<3) (hn:¬ qbL s.data.toList j):dec s.data.toList=(65533,1):=by
 apply qrN _ (by rw [qcx h0,hb0];omega);intro h;obtain rfl|rfl:j=1∨j=2:=by omega
 ·exact hn h.1
 ·exact hn h.2
theorem qrW (s:ByteArray) (w:World) (h0:0<s.size) (hs:s.size<=1073741824) (b0:Nat) (hb0:(s[0]'h0).toNat=b0) (hlo:224<=b0) (hhi:b0<240):
  Calls Tryz.prog 218 #[.string s] w fun e w'=>qeu s.data.toList e/\w=w':=by
 have d1:decide ((b0:Int)<128)=false:=by simp;omega
 have d2:decide ((b0:Int)<224)=false:=by simp;omega
 have d3:decide ((b0:Int)<240)=true:=by simp;omega
 have d4:decide ((b0:Int)<245)=true:=by simp;omega
 by_cases hsz:3<=s.size
 ·have d5:decide ((s.size:Int)<3)=false:=by simp;omega
  go_enter Tryz.func218,Tryz.ntmps218
  go_wp2
  go_loop [2,3,7,8] (fun a b v i=>a= .int .i64 0/\b= .int .i64 0/\qir s.data.toList 3 ((b0:Int)-224) v i) (fun _ _ _ i=>3-(intOf i).toNat)
  case atStart=>exact ⟨rfl,rfl,0,_,by omega,rfl,rfl,⟨by omega,.inl ⟨rfl,by omega⟩⟩,qH rfl,qH (qip _)⟩
  case round=>
   obtain ⟨rfl,rfl,k,V,hk,rfl,rfl,⟨hV0,hV⟩,HV,HC⟩:=hrel;by_cases hlt:k+1<3
   ·have hk1:k+1<s.size:=by omega
    obtain ⟨x,hx⟩:∃ x:Nat,(s[k+1]'hk1).toNat=x:=⟨_,rfl⟩;have hx256:x<256:=by rw [<- hx];exact (s[k+1]'hk1).toNat_lt
    have hVb:V<=131071:=by omega
    by_cases hcont:128<=x/\x<192
    ·have HC2:=qH (qiq HC.out (qit hk1 hx hcont))
     have hVn:64*V+(x:Int)-128=qds s.data.toList ((b0:Int)-224) (k+1):=by
      rw [qds,<- HV.out,qcx hk1,hx]
     have HVN:=qH hVn;have HSM:Hid (Small (k+1) (64*V+(x:Int)-128)):=⟨by omega,by omega⟩;clear hVn;obtain ⟨hc1,hc2⟩:=hcont;clear hV;go_wp2
     go_round
     case rel=>exact ⟨rfl,rfl,k+1,_,by omega,by go_num,rfl,HSM.out,HVN,HC2⟩
     case measure=>simp [intOf];omega
    ·have HD:=qH (qly h0 hb0 hlo hhi (j:=k+1) (by omega) hlt (qis hk1 hx hcont))
     clear hV;by_cases hc1:128<=x
     ·have hc2:192<=x:=by omega
      clear hcont;go_wp2;go_ret2;exact ⟨qcw HD.out rfl rfl,rfl⟩
     ·clear hcont
      go_wp2;go_ret2;exact ⟨qcw HD.out rfl rfl,rfl⟩
   ·skip
    have hk1:k=2:=by omega
    subst hk1;obtain ⟨hl,hh,hend⟩:=qrS (V:=V) (by rw [qcx h0,hb0];omega) HC.out (by rw [qcx h0,hb0];exact HV.out);by_cases c1:2048<=V
    ·by_cases c2:55296<=V
     ·by_cases c3:V<=57343
      ·rw [if_neg (by omega)] at hend
       have HE:=qH hend;clear hend;go_wp2;go_ret2;exact ⟨qcw HE.out rfl rfl,rfl⟩
      ·rw [if_pos (by omega)] at hend
       have HE:=qH hend;clear hend;go_wp2;go_ret2;exact ⟨qcw HE.out (by omega) rfl,rfl⟩
     ·rw [if_pos (by omega)] at hend
      have HE:=qH hend;clear hend;go_wp2;go_ret2;exact ⟨qcw HE.out (by omega) rfl,rfl⟩
    ·rw [if_neg (by omega)] at hend
     have HE:=qH hend;clear hend;go_wp2;go_ret2;exact ⟨qcw HE.out rfl rfl,rfl⟩
 ·have HD:=qH (qly h0 hb0 hlo hhi (j:=2) (by omega) (by omega) (qiu (by omega)))
  go_enter Tryz.func218,Tryz.ntmps218
  go_wp2;go_ret2;exact ⟨qcw HD.out rfl rfl,rfl⟩
theorem qlz {s:ByteArray} (h0:0<s.size) {b0:Nat} (hb0:(s[0]'h0).toNat=b0) (hlo:240<=b0) (hhi:b0<245) {j:Nat} (hj:1<=j) (hjn:j<4) (hn:¬ qbL s.data.toList j):dec s.data.toList=(65533,1):=by
 apply qrP _ (by rw [qcx h0,hb0];omega);intro h;obtain rfl|rfl|rfl:j=1∨j=2∨j=3:=by omega
 ·exact hn h.1
 ·exact hn h.2.1
 ·exact hn h.2.2
theorem qrX (s:ByteArray) (w:World) (h0:0<s.size) (hs:s.size<=1073741824) (b0:Nat) (hb0:(s[0]'h0).toNat=b0) (hlo:240<=b0) (hhi:b0<245):
  Calls Tryz.prog 218 #[.string s] w fun e w'=>qeu s.data.toList e/\w=w':=by
 have d1:decide ((b0:Int)<128)=false:=by simp;omega
 have d2:decide ((b0:Int)<224)=false:=by simp;omega
 have d3:decide ((b0:Int)<240)=false:=by simp;omega
 have d4:decide ((b0:Int)<245)=true:=by simp;omega
 by_cases hsz:4<=s.size
 ·have d5:decide ((s.size:Int)<4)=false:=by simp;omega
  go_enter Tryz.func218,Tryz.ntmps218
  go_wp2
  go_loop [2,3,7,8] (fun a b v i=>a= .int .i64 0/\b= .int .i64 0/\qir s.data.toList 4 ((b0:Int)-240) v i) (fun _ _ _ i=>4-(intOf i).toNat)
  case atStart=>exact ⟨rfl,rfl,0,_,by omega,rfl,rfl,⟨by omega,.inl ⟨rfl,by omega⟩⟩,qH rfl,qH (qip _)⟩
  case round=>
   obtain ⟨rfl,rfl,k,V,hk,rfl,rfl,⟨hV0,hV⟩,HV,HC⟩:=hrel;by_cases hlt:k+1<4
   ·have hk1:k+1<s.size:=by omega
    obtain ⟨x,hx⟩:∃ x:Nat,(s[k+1]'hk1).toNat=x:=⟨_,rfl⟩;have hx256:x<256:=by rw [<- hx];exact (s[k+1]'hk1).toNat_lt
    have hVb:V<=131071:=by omega
    by_cases hcont:128<=x/\x<192
    ·have HC2:=qH (qiq HC.out (qit hk1 hx hcont))
     have hVn:64*V+(x:Int)-128=qds s.data.toList ((b0:Int)-240) (k+1):=by
      rw [qds,<- HV.out,qcx hk1,hx]
     have HVN:=qH hVn;have HSM:Hid (Small (k+1) (64*V+(x:Int)-128)):=⟨by omega,by omega⟩;clear hVn;obtain ⟨hc1,hc2⟩:=hcont;clear hV;go_wp2
     go_round
     case rel=>exact ⟨rfl,rfl,k+1,_,by omega,by go_num,rfl,HSM.out,HVN,HC2⟩
     case measure=>simp [intOf];omega
    ·have HD:=qH (qlz h0 hb0 hlo hhi (j:=k+1) (by omega) hlt (qis hk1 hx hcont))
     clear hV;by_cases hc1:128<=x
     ·have hc2:192<=x:=by omega
      clear hcont;go_wp2;go_ret2;exact ⟨qcw HD.out rfl rfl,rfl⟩
     ·clear hcont
      go_wp2;go_ret2;exact ⟨qcw HD.out rfl rfl,rfl⟩
   ·skip
    have hk1:k=3:=by omega
    subst hk1;obtain ⟨hl,hh,hend⟩:=qrT (V:=V) (by rw [qcx h0,hb0];omega) HC.out (by rw [qcx h0,hb0];exact HV.out);by_cases c1:65536<=V
    ·by_cases c2:V<=1114111
     ·rw [if_pos (by omega)] at hend
      have HE:=qH hend;clear hend;go_wp2;go_ret2;exact ⟨qcw HE.out (by omega) rfl,rfl⟩
     ·rw [if_neg (by omega)] at hend
      have HE:=qH hend;clear hend;go_wp2;go_ret2;exact ⟨qcw HE.out rfl rfl,rfl⟩
    ·rw [if_neg (by omega)] at hend
     have HE:=qH hend;clear hend;go_wp2;go_ret2;exact ⟨qcw HE.out rfl rfl,rfl⟩
 ·have HD:=qH (qlz h0 hb0 hlo hhi (j:=3) (by omega) (by omega) (qiu (by omega)))
  go_enter Tryz.func218,Tryz.ntmps218
  go_wp2;go_ret2;exact ⟨qcw HD.out rfl rfl,rfl⟩
theorem qrY (s:ByteArray) (w:World) (h0:0<s.size) (hs:s.size<=1073741824):
  Calls Tryz.prog 218 #[.string s] w fun e w'=>qeu s.data.toList e/\w=w':=by
 obtain ⟨b0,hb0⟩:∃ b0:Nat,(s[0]'h0).toNat=b0:=⟨_,rfl⟩;have h256:b0<256:=by rw [<- hb0];exact (s[0]'h0).toNat_lt
 by_cases c1:b0<128
 ·exact qrU s w h0 hs b0 hb0 c1
 by_cases c2:b0<194
 ·exact qlw s w h0 hs b0 hb0 (.inl ⟨by omega,c2⟩)
 by_cases c3:b0<224
 ·exact qrV s w h0 hs b0 hb0 (by omega) c3
 by_cases c4:b0<240
 ·exact qrW s w h0 hs b0 hb0 (by omega) c4
 by_cases c5:b0<245
 ·exact qrX s w h0 hs b0 hb0 (by omega) c5
 ·exact qlw s w h0 hs b0 hb0 (.inr ⟨by omega,h256⟩)
theorem qrZ (l:List UInt8):(dec l).1<=1114111:=by
 have :=(qfn _).1 (qrn l);omega
theorem qr0 (t:ByteArray) (w:World) (c n:Nat) (h0:0<t.size) (hs:t.size<=1073741824) (h:Hid (dec t.data.toList=(c,n))):
  Calls Tryz.prog 218 #[.string t] w fun e w'=>e= .returned (.tuple #[.int .i64 c,.int .i64 n])/\w=w':=
 (qrY t w h0 hs).mono fun e w' ⟨he,hw⟩=>⟨by unfold qeu at he;rw [he,h.out],hw⟩
def qr1 (s:ByteArray) (w:World) (a l:Value) (wr:World):Prop:=
 ∃ (t:ByteArray) (acc:List Int),a= .string t/\t.size+acc.length<=s.size/\wr.ownsRow w.heap.size 3 1 l acc.length (qaa acc)/\Below w.heap.size w wr/\acc++qcn t.data.toList=qcn s.data.toList
def qlA:Value->Nat| .string s=>s.size|_=>0
theorem qr2 (s:ByteArray) (w:World) (hs:s.size<=1073741824):
  Calls Tryz.prog 179 #[.string s] w (qls (qcn s.data.toList) w):=by
 obtain ⟨i0,hi0,hz0,hz1,hz2⟩:=info_parts qdr
 go_enter Tryz.func179,Tryz.ntmps179
 go_wp2
 go_loopw [0,3] (fun a l wr=>qr1 s w a l wr) (fun a _ _=>qlA a)
 case atStart=>exact ⟨s,[],rfl,by simp,World.ownsRow_nil _ _ _ _,Below.refl _ _,rfl⟩
 case round=>
  obtain ⟨t,acc,rfl,hsz,hown,hbw,hacc⟩:=hrel;have HACC:=qH hacc;clear hacc;by_cases hp:0<t.size
  ·obtain ⟨c,n,hd⟩:∃ c n,dec t.data.toList=(c,n):=⟨_,_,rfl⟩
   have hne:t.data.toList≠[]:=by
    intro h;have :=congrArg List.length h;rw [qgg,List.length_nil] at this;omega
   have hw:=qge _ hne;have hst:=qlp _ hne;have hc:=qrZ t.data.toList;rw [hd] at hw hst hc;rw [qgg] at hw;simp only [] at hw hst hc;have HD:=qH hd;have HST:=qH hst;clear hd hst hne;obtain ⟨hw1,hw2⟩:=hw;have hszi:=hbw.size
   go_wp2_with (go_at_call 218;refine (qr0 t _ c n hp (by omega) HD).mono ?_)
   rintro e w' ⟨rfl,rfl⟩;clear HD
   go_wp2_with (at_builtin;refine wpList_append_own _ rfl (.tmp 14) (.tmp 16) 23 rfl w.heap.size 3 i0 _ 1 8 Tryz.underlying23 hi0 hz0 hz1 hz2 rfl (by omega) _ acc.length (qaa acc) rfl (hown.alloc _) ⟨wr.heap.size,0,none⟩ 1 1 [.int .i64 c] rfl rfl ?c1 ?c2 ?c3 ?c4 ?c5 ?_)
   case c1=>
    intro j u hj
    match j,hj with
    |0,hj=>simp at hj;subst hj;simp [Addr.add]
    |(j+1),hj=>simp at hj
   case c2=>intro u hu;simp at hu;subst hu;rfl
   case c3=>unfold maxLen;omega
   case c4=>omega
   case c5=>simp;omega
   intro v' w3 hown3 hgrow3 _;go_wp2;go_roundw
   case rel=>
    refine ⟨t.extract n t.size,acc++[(c:Int)],rfl,?_,?_,?_,?_⟩
    ·rw [ByteArray.size_extract];simp;omega
    ·simpa [qaa] using hown3
    ·exact (hbw.alloc (by omega) _).grown hgrow3 (by simp;omega) (fun k hk=>(hown.lt k hk).1)
    ·rw [<- HACC.out,HST.out,Lib.extract_to_end];simp
   case measure=>
    simp only [qlA];simp [ByteArray.size_extract];omega
  ·go_wp2
   go_ret;have he:t.data.toList=[]:=List.eq_nil_of_length_eq_zero (by rw [qgg];omega);have hout:=HACC.out;rw [he,qlo,List.append_nil] at hout;subst hout;exact ⟨_,rfl,hown,hbw⟩
def qad (l:List (List UInt8)):List Value:=l.map fun s=> .string ⟨s.toArray⟩
theorem qeS (l:List (List UInt8)):(qad l).length=l.length:=by simp [qad]
theorem qeT:(Tryz.prog.info? 9).map (fun i=>(i.zero,i.size,i.bytes))=some (some (.string ByteArray.empty),1,16):=by kernel_rfl
theorem qiv {w:World} {B:Nat} {A:Option Addr} {xs:List (List UInt8)} (h:Row w B A (qad xs)) {k:Nat} (hk:k<xs.length):
  ∃ b off,A=some ⟨b,off,none⟩/\b<B/\w.cell? ⟨b,off+k,none⟩=some (.string ⟨xs[k].toArray⟩):=by
 obtain ⟨b,off,rfl,hb,hc⟩:=h.at_ (by rw [qeS];omega);refine ⟨b,off,rfl,hb,hc k _ ?_⟩;simp [qad,hk]
def qa9 (c:Int):Bool:=qdW c || qet c
def step (st:List (List Int) × List Int) (c:Int):List (List Int) × List Int:=
 if qa9 c=true then (st.1,st.2++[qbY c]) else if st.2=[] then st else (st.1++[st.2],[])
def qcy (st:List (List Int) × List Int) (l:List Int):List (List Int):=((l++[32]).foldl step st).1
def qed (l:List Int):List (List Int):=qcy ([],[]) l
def qaM (l:List UInt8):List (List UInt8):=(qed (qcn l)).map text
theorem qlB:qa9 32=false:=by decide
theorem qr3 (c:Int):qa9 (qbY c)=qa9 c:=by rw [qa9,qa9,qrs,qrt]
theorem qg3 {o:List (List Int)} {n:List Int} {c:Int} (h:qa9 c=true):step (o,n) c=(o,n++[qbY c]):=by unfold step;rw [if_pos h]
theorem qgh {o:List (List Int)} {c:Int} (h:qa9 c=false):step (o,[]) c=(o,[]):=by unfold step;rw [if_neg (by simp [h]),if_pos rfl]
theorem qgi {o:List (List Int)} {n:List Int} {c:Int} (h:qa9 c=false) (hn:n≠[]):step (o,n) c=(o++[n],[]):=by unfold step;rw [if_neg (by simp [h]),if_neg hn]
theorem qiw (st:List (List Int) × List Int) (c:Int) (l:List Int):qcy st (c::l)=qcy (step st c) l:=by simp [qcy]
theorem qg4 (o:List (List Int)):qcy (o,[]) []=o:=by simp [qcy,qgh qlB]
theorem qix {o:List (List Int)} {n:List Int} (hn:n≠[]):qcy (o,n) []=o++[n]:=by simp [qcy,qgi qlB hn]
theorem qr4 (a o:List (List Int)) (n:List Int) (c:Int):step (a++o,n) c=(a++(step (o,n) c).1,(step (o,n) c).2):=by
 unfold step;split
 ·rfl
 ·split
  ·rfl
  ·simp
theorem qr5 (a:List (List Int)):∀ (l:List Int) (o:List (List Int)) (n:List Int),l.foldl step (a++o,n)=(a++(l.foldl step (o,n)).1,(l.foldl step (o,n)).2)
 |[],o,n=>rfl
 |c::l,o,n=>by rw [List.foldl_cons,List.foldl_cons,qr4,qr5 a l]
def qg5 (w:List Int):Prop:=w≠[]/\∀ c∈w,qa9 c=true/\qbY c=c
theorem qg6:∀ (l:List Int) (o:List (List Int)) (n:List Int),(∀ w∈o,qg5 w)->(∀ c∈n,qa9 c=true/\qbY c=c)->∀ w∈qcy (o,n) l,qg5 w
 |[],o,n,ho,hn,w,hw=>by
  by_cases h:n=[]
  ·subst h;rw [qg4] at hw;exact ho w hw
  ·rw [qix h] at hw
   rcases List.mem_append.1 hw with hw|hw
   ·exact ho w hw
   ·obtain rfl:=List.mem_singleton.1 hw;exact ⟨h,hn⟩
 |c::l,o,n,ho,hn,w,hw=>by
  rw [qiw] at hw;by_cases hc:qa9 c=true
  ·rw [qg3 hc] at hw
   refine qg6 l o _ ho (fun x hx=> ?_) w hw;rcases List.mem_append.1 hx with hx|hx
   ·exact hn x hx
   ·obtain rfl:=List.mem_singleton.1 hx;exact ⟨by rw [qr3];exact hc,qrr c⟩
  ·have hc':qa9 c=false:=by simpa using hc
   by_cases h:n=[]
   ·subst h;rw [qgh hc'] at hw;exact qg6 l o [] ho hn w hw
   ·rw [qgi hc' h] at hw
    refine qg6 l _ [] (fun x hx=> ?_) (fun x hx=>by cases hx) w hw;rcases List.mem_append.1 hx with hx|hx
    ·exact ho x hx
    ·obtain rfl:=List.mem_singleton.1 hx;exact ⟨h,hn⟩
theorem qr6 (l:List Int):∀ w∈qed l,qg5 w:=qg6 l [] [] (fun w hw=>by cases hw) (fun c hc=>by cases hc)
def qaT (o:List (List Int)):Nat:=(o.map List.length).sum
theorem qlC (a b:List (List Int)):qaT (a++b)=qaT a+qaT b:=by simp [qaT]
theorem qg7:∀ (l:List Int) (o:List (List Int)) (n:List Int),qaT (qcy (o,n) l)<=qaT o+n.length+l.length
 |[],o,n=>by
  by_cases h:n=[]
  ·subst h;rw [qg4];omega
  ·rw [qix h,qlC];simp [qaT]
 |c::l,o,n=>by
  rw [qiw];by_cases hc:qa9 c=true
  ·rw [qg3 hc];have :=qg7 l o (n++[qbY c]);simp at this ⊢;omega
  ·have hc':qa9 c=false:=by simpa using hc
   by_cases h:n=[]
   ·subst h;rw [qgh hc'];have :=qg7 l o [];simp at this ⊢;omega
   ·rw [qgi hc' h];have :=qg7 l (o++[n]) [];rw [qlC] at this;simp [qaT] at this ⊢;omega
theorem qlD (l:List Int):qaT (qed l)<=l.length:=by have :=qg7 l [] [];simpa [qaT,qed] using this
theorem qr7 {o:List (List Int)} {w:List Int} (h:w∈o):w.length<=qaT o:=by
 induction o with
 |nil=>cases h
 |cons a o ih=>
  simp only [qaT,List.map_cons,List.sum_cons] at ih ⊢;rcases List.mem_cons.1 h with rfl|h
  ·omega
  ·have :=ih h;omega
theorem qlE:∀ {o:List (List Int)},(∀ w∈o,qg5 w)->o.length<=qaT o
 |[],_=>by simp
 |a::o,h=>by
  have h1:=List.length_pos_iff.2 (h a (List.mem_cons_self ..)).1;have h2:=qlE (o:=o) (fun w hw=>h w (List.mem_cons_of_mem _ hw));simp only [qaT,List.map_cons,List.sum_cons,List.length_cons] at h2 ⊢;omega
theorem qr8 (l:List Int):(qed l).length<=l.length:=Nat.le_trans (qlE (qr6 l)) (qlD l)
theorem qlF (l:List UInt8):(qaM l).length<=l.length:=by
 rw [qaM,List.length_map];exact Nat.le_trans (qr8 _) (qg1 l)
theorem qlG {l w:List UInt8} (h:w∈qaM l):w.length<=4*l.length:=by
 obtain ⟨v,hv,rfl⟩:=List.mem_map.1 h;have h1:=qlq v;have h2:=qr7 hv;have h3:=qlD (qcn l);have h4:=qg1 l;omega
theorem qiy (c:Int) (w:World):
  Calls Tryz.prog 223 #[.int .i64 c] w fun e w'=>e= .returned (.bool (qa9 c))/\w=w':=by
 have l1:=fun w=>qrv c w
 have d1:=fun w=>qrx c w
 unfold qa9;cases hL:qdW c<;>cases hD:qet c<;>rw [hL] at l1<;>rw [hD] at d1
 all_goals
  have L1:=qH l1;have D1:=qH d1;clear l1 d1 hL hD
  go_enter Tryz.func223,Tryz.ntmps223
  go_wp2_with (first
   |(go_at_call 241;refine (L1.out _).mono ?_;rintro e w' ⟨rfl,rfl⟩)
   |(go_at_call 242;refine (D1.out _).mono ?_;rintro e w' ⟨rfl,rfl⟩))
  go_ret;exact ⟨rfl,rfl⟩
theorem qg8 (c:Int) (w:World):
  Calls Tryz.prog 180 #[.int .i64 c] w fun e w'=>e= .returned (.bool (qa9 c))/\w=w':=by
 have l1:=fun w=>qrw c w
 cases hL:qdW c<;>rw [hL] at l1
 all_goals
  have L1:=qH l1;have hin:qa9 c=(qdW c || qet c):=rfl;rw [hL] at hin;have HIN:=qH hin;clear l1 hL hin
  go_enter Tryz.func180,Tryz.ntmps180
  go_wp2_with (go_at_call 219;refine (L1.out _).mono ?_;rintro e w' ⟨rfl,rfl⟩)
  all_goals
   go_ret;refine ⟨qfl ?_,rfl⟩;rw [HIN.out,Bool.eq_iff_iff];simp [qet]
   try omega
def qr9 (base B:Nat) (xs:List Value) (w:World) (e:Ending) (w':World):Prop:=
 e= .returned (.tuple #[])/\qbp 40 9 base B xs w'/\qbX B w w'
theorem qsa (base B:Nat) (xs:List Value) (s:ByteArray) (w:World) (h:qbp 40 9 base B xs w) (hl:xs.length<=1073741824) (hbase:base<=w.heap.size):
  Calls Tryz.prog 190 #[.string s,.pointer (some ⟨B,0,none⟩)] w (qr9 base B (xs++[.string s]) w):=by
 obtain ⟨i0,hi0,hz0,hz1,hz2⟩:=info_parts qeT;obtain ⟨v,hv,hown⟩:=h;have cB:=cell_of_one hv;have fB:=free_of_one hv
 go_enter Tryz.func190,Tryz.ntmps190
 go_wp2_with (at_builtin;refine wpList_append_own _ rfl (.tmp 3) (.tmp 5) 40 rfl base 9 i0 _ 1 16 Tryz.underlying40 hi0 hz0 hz1 hz2 rfl (by omega) _ xs.length xs rfl (hown.alloc _) ⟨w.heap.size,0,none⟩ 1 1 [.string s] rfl rfl (qaN w [.string s] 9) (by intro u hu;simp at hu;subst hu;rfl) (by unfold maxLen;omega) (by omega) (by simp;omega) ?_)
 intro v' w1 hown1 hgrow1 _;obtain ⟨g',cap',rfl,_,_⟩:=hown1.form (by omega);obtain ⟨cB1,fB1,hrv,htc⟩:=pushed (by decide) hv rfl hown ((Below.refl _ w).alloc (Nat.le_refl _) _) hgrow1 hown1 rfl;go_wp2
 go_end0
 exact ⟨rfl,hrv,htc⟩
structure qcz (base Bl Bt Bn:Nat) (st:List (List Int) × List Int) (w:World):Prop where
 base_le:base<=w.heap.size
 outs:qbp 40 9 base Bl (qad (st.1.map text)) w
 tell:w.heap[Bt]?=some (.cells #[.func (.func 190) #[] #[.pointer (some ⟨Bl,0,none⟩)]] 287 (0,0))
 own:qbp 23 3 base Bn (qaa st.2) w
theorem qcz.keep {base Bl Bt Bn:Nat} {st:List (List Int) × List Int} {w w':World} (h:qcz base Bl Bt Bn st w) (hb:Below w.heap.size w w'):qcz base Bl Bt Bn st w':=
 ⟨Nat.le_trans h.base_le hb.size,h.outs.below hb,(hb.block Bt (lt_of_block h.tell)).trans h.tell,h.own.below hb⟩
theorem qcz.owned {base Bl Bt Bn:Nat} {st st':List (List Int) × List Int} {w w':World} (h:qcz base Bl Bt Bn st w) (ht:qbX Bn w w') (h1:st'.1=st.1) (ho:qbp 23 3 base Bn (qaa st'.2) w'):qcz base Bl Bt Bn st' w':=
 ⟨Nat.le_trans h.base_le ht.2.2.2.1,by rw [h1];exact h.outs.other h.own ht (by decide) (by decide) (by decide) (by decide),qbX.block h.own ht h.tell (by decide) (by decide),ho⟩
theorem qcz.told {base Bl Bt Bn:Nat} {st st':List (List Int) × List Int} {w w':World} (h:qcz base Bl Bt Bn st w) (ht:qbX Bl w w') (h1:st'.2=st.2) (ho:qbp 40 9 base Bl (qad (st'.1.map text)) w'):qcz base Bl Bt Bn st' w':=
 ⟨Nat.le_trans h.base_le ht.2.2.2.1,ho,qbX.block h.outs ht h.tell (by decide) (by decide),by rw [h1];exact h.own.other h.outs ht (by decide) (by decide) (by decide) (by decide)⟩
def qfM (base Bl Bt Bn:Nat) (st:List (List Int) × List Int) (w:World) (e:Ending) (w':World):Prop:=
 e= .returned (.tuple #[])/\qcz base Bl Bt Bn st w'/\qbi base Bl Bn w w'
theorem qsb {base Bl Bt Bn:Nat} {st:List (List Int) × List Int} {c:Int} {w w':World} (h:qcz base Bl Bt Bn st w) (hc:qa9 c=true) (ht:qbX Bn w w')
  (ho:qbp 23 3 base Bn (qaa st.2++[.int .i64 (qbY c)]) w'):qfM base Bl Bt Bn (step st c) w (.returned (.tuple #[])) w':=by
 have e:step st c=(st.1,st.2++[qbY c]):=qg3 hc;rw [e];refine ⟨rfl,h.owned ht rfl ?_,(ht.aside h.own h.base_le).swap⟩;simpa [qaa] using ho
theorem qsc (base Bl Bt Bn:Nat) (st:List (List Int) × List Int) (c:Int) (w:World) (h:qcz base Bl Bt Bn st w) (hl:st.2.length<=1073741824) (hc:qa9 c=true):
    Calls Tryz.prog 222 #[.int .i64 c,.pointer (some ⟨Bn,0,none⟩),.pointer (some ⟨Bt,0,none⟩)] w (qfM base Bl Bt Bn (step st c) w):=by
  obtain ⟨i0,hi0,hz0,hz1,hz2⟩:=info_parts qdr;have hbase:=h.base_le;obtain ⟨v,hv,hown⟩:=h.own;have cB:=cell_of_one hv;have fB:=free_of_one hv;have f1:=fun w=>qry c w
  have w1:=fun w=>qiy c w
  have tk:=fun (w':World)=>qsb (w':=w') h hc
  generalize qbY c=y at f1 tk;rw [hc] at w1;rw [qgf] at hown;have hal:(w.alloc (.cells #[.int .i64 y] 3)).cell? ⟨Bn,0,none⟩=some v:=(((Below.refl _ w).alloc (Nat.le_refl _) _).cell (p:=⟨Bn,0,none⟩) (lt_of_block hv)).trans cB;have F1:=qH f1;have W1:=qH w1;have TK:=qH tk;have HC:=qH hc;clear f1 w1 tk hc
  go_enter Tryz.func222,Tryz.ntmps222
  go_wp2_with (go_at_call 223;refine (W1.out _).mono ?_;rintro e w' ⟨rfl,rfl⟩)
  go_region_law (first
      | (refine step_append_lies _ (by rfl) _ _ _ (by rfl) base 3 i0 _ 1 8 Tryz.underlying23 hi0 hz0 hz1 hz2 rfl (by omega) v st.2.length (qaa st.2) (by rfl) ((hown.alloc _).drew)
          ⟨w.heap.size,0,none⟩ 1 1 [.int .i64 y] (by rfl) (by rfl) (World.news_of_block (cs:=#[.int .i64 y]) (t:=3) (fr:=(0,0)) (heap_alloc_new w _)) (by simp [Value.oneCell'])
          (by omega) (by unfold maxLen;omega) (by omega) (by simp;omega) (w.heap.size+1) (by simp) ?_
         intro gg cap w1 hown1 hgrow hat hlt;obtain ⟨cB1,fB1,hrv,htc⟩:=pushed (by decide) hv (qgf _) hown (((Below.refl _ w).alloc (Nat.le_refl _) _).drew) hgrow hown1 rfl)
      |(go_simp;go_at_call 224;refine (F1.out _).mono ?_;rintro e w' ⟨rfl,rfl⟩))
  all_goals
    go_wp2
    go_end0
    exact TK.out _ htc hrv
theorem qsd (base Bl Bt Bn:Nat) (out:List (List Int)) (c:Int) (w:World) (h:qcz base Bl Bt Bn (out,[]) w) (hc:qa9 c=false):
  Calls Tryz.prog 222 #[.int .i64 c,.pointer (some ⟨Bn,0,none⟩),.pointer (some ⟨Bt,0,none⟩)] w (qfM base Bl Bt Bn (out,[]) w):=by
 obtain ⟨v,hv,hown⟩:=h.own;have cB:=cell_of_one hv;have w1:=fun w=>qiy c w
 rw [hc] at w1;have W1:=qH w1;clear w1;obtain ⟨A,k,rfl,_,_⟩:=qaL hown
 go_enter Tryz.func222,Tryz.ntmps222
 go_wp2_with (go_at_call 223;refine (W1.out _).mono ?_;rintro e w' ⟨rfl,rfl⟩)
 go_end0
 exact ⟨rfl,h,qbi.refl _ _ _ _⟩
theorem qse {base Bl Bt Bn:Nat} {out:List (List Int)} {own:List Int} {w w2 w3:World} (h:qcz base Bl Bt Bn (out,own) w) (hb:Below w.heap.size w w2)
  (hr:qbp 40 9 base Bl (qad (out.map text)++[.string ⟨(text own).toArray⟩]) w3) (ht:qbX Bl w2 w3):
  qcz base Bl Bt Bn (out++[own],own) w3/\qbi base Bl Bn w w3:=by
 have h2:=h.keep hb;refine ⟨h2.told ht rfl (by simpa [qad] using hr),(qbi.of (hb.mono h.base_le)).trans (ht.aside h2.outs h2.base_le)⟩
theorem qsf (base Bl Bt Bn:Nat) (out:List (List Int)) (own:List Int) (c:Int) (w:World) (h:qcz base Bl Bt Bn (out,own) w) (hl:own.length<=1073741824) (ho:out.length<=1073741824) (hc:qa9 c=false) (hn:own≠[]):
    Calls Tryz.prog 222 #[.int .i64 c,.pointer (some ⟨Bn,0,none⟩),.pointer (some ⟨Bt,0,none⟩)] w (qfM base Bl Bt Bn (out++[own],[]) w):=by
  have hpos:0<own.length:=List.length_pos_iff.2 hn;obtain ⟨v,hv,hown⟩:=h.own;rw [qgf] at hown;obtain ⟨g,cap,rfl,_,_⟩:=hown.form hpos;obtain ⟨A,k,he,_,hrow⟩:=qaL hown;have hA:A=some ⟨g,0,none⟩:=by injection he with h1 h2 h3;exact h1.symm
  rw [hA] at hrow;have cN:=cell_of_one hv;have cT:=cell_of_one h.tell;have hltN:=lt_of_block hv;have hltT:=lt_of_block h.tell;have w1:=fun w=>qiy c w
  rw [hc] at w1;have W1:=qH w1;have HR:=qH hrow;have HG:=qH h;clear w1 he hA hrow h
  go_enter Tryz.func222,Tryz.ntmps222
  go_wp2_with (go_at_call 223;refine (W1.out _).mono ?_;rintro e w' ⟨rfl,rfl⟩)
  go_region_held3 (fun w'=>w'.cell? ⟨Bt,0,none⟩=some (.func (.func 190) #[] #[.pointer (some ⟨Bl,0,none⟩)])/\w'.cell? ⟨Bn,0,none⟩=some (.slice (some ⟨g,0,none⟩) own.length cap))
    (first|go_keep|exact ⟨cT2,cN2⟩|exact ⟨cT3,cN3⟩)
    (first
      | (go_at_call 225; refine (qrD _ _ own w.drew (HR.out.below (Below.refl _ w).drew) hl).mono ?_; rintro e w2 ⟨rfl, hb0⟩
         have hb2:Below w.heap.size w w2:=(Below.refl _ w).drew.trans hb0;have HB2:=qH hb2;have cT2:=(hb2.cell (p:=⟨Bt,0,none⟩) hltT).trans cT;have cN2:=(hb2.cell (p:=⟨Bn,0,none⟩) hltN).trans cN;have hrv2:=(HG.out.keep hb2).outs;clear hb2 hb0)
      | (go_at_call 190; refine (qsa base Bl (qad (out.map text)) _ _ hrv2 (by rw [qeS, List.length_map]; exact ho) (HG.out.keep HB2.out).base_le).mono ?_; rintro e w3 ⟨rfl, hrv3, ht3⟩
         have cT3:=cell_of_one (qbX.block hrv2 ht3 ((HB2.out.block Bt hltT).trans HG.out.tell) (by decide) (by decide));have hv3:=qbX.block hrv2 ht3 ((HB2.out.block Bn hltN).trans hv) (by decide) (by decide);have cN3:=cell_of_one hv3;have fN3:=free_of_one hv3))
  obtain ⟨hg3,hb3⟩:=qse HG.out HB2.out hrv3 ht3;have hown3:w3.ownsRow base 3 1 (.slice (some ⟨g,0,none⟩) own.length cap) own.length (qaa own):=by
    obtain ⟨v3,hv3',hown3⟩:=hg3.own;rw [hv3] at hv3';simp at hv3';rw [<- hv3',qgf] at hown3;exact hown3
  obtain ⟨hrN,htN⟩:=qqS (T:=23) (E:=3) (by decide) hv3 hown3;have hfin:qfM base Bl Bt Bn (out++[own],[]) w (.returned (.tuple #[])) (w3.setCell ⟨Bn,0,none⟩ (.slice (some ⟨g,0,none⟩) 0 cap)):=
    ⟨rfl,hg3.owned htN rfl hrN,hb3.trans (htN.aside hg3.own hg3.base_le).swap⟩
  have HF:=qH hfin;clear hg3 hb3 hown3 hrN htN hfin;go_wp2
  go_end0
  exact HF.out
theorem qlH (base Bl Bt Bn:Nat) (st:List (List Int) × List Int) (c:Int) (w:World) (h:qcz base Bl Bt Bn st w) (hl:st.2.length<=1073741824) (ho:st.1.length<=1073741824):
  Calls Tryz.prog 222 #[.int .i64 c,.pointer (some ⟨Bn,0,none⟩),.pointer (some ⟨Bt,0,none⟩)] w (qfM base Bl Bt Bn (step st c) w):=by
 by_cases hc:qa9 c=true
 ·exact qsc base Bl Bt Bn st c w h hl hc
 ·have hc':qa9 c=false:=by simpa using hc
  obtain ⟨out,own⟩:=st;by_cases hn:own=[]
  ·subst hn
   rw [qgh hc'];exact qsd base Bl Bt Bn out c w h hc'
  ·rw [qgi hc' hn]
   exact qsf base Bl Bt Bn out own c w h hl ho hc' hn
def qiz (l:List (List UInt8)) (w:World) (e:Ending) (w':World):Prop:=∃ v,e= .returned v/\w'.ownsRow w.heap.size 9 1 v l.length (qad l)/\Below w.heap.size w w'
def qdE (l:List Int) (k:Nat):List (List Int) × List Int:=(l.take k).foldl step ([],[])
theorem qlI {l:List Int} {k:Nat} (hk:k<l.length):qdE l (k+1)=step (qdE l k) l[k]:=by
 unfold qdE;rw [List.take_succ_eq_append_getElem hk,List.foldl_append];rfl
theorem qsg (l:List Int):(step (qdE l l.length) 32).1=qed l:=by
 unfold qdE qed qcy;rw [List.take_length,List.foldl_append];rfl
theorem qsh (st:List (List Int) × List Int) (c:Int):(step st c).1.length+(step st c).2.length<=st.1.length+st.2.length+1:=by
 unfold step;split
 ·simp;omega
 ·split
  ·omega
  ·simp
theorem qlJ (l:List Int):∀ k,k<=l.length->(qdE l k).1.length+(qdE l k).2.length<=k
 |0,_=>by simp [qdE]
 |k+1,hk=>by
  have h1:=qlJ l k (by omega);have h2:=qsh (qdE l k) l[k];rw [qlI (by omega)];omega
def qsi (l:List Int) (base B:Nat) (w1:World) (i:Value) (wr:World):Prop:=
 ∃ k:Nat,k<=l.length/\i= .int .i64 k/\qcz base B (B+1) (B+2) (qdE l k) wr/\qbi base B (B+2) w1 wr
def made (w:World):World:=
 ((w.alloc (.cells #[.slice none 0 0] 40)).alloc (.cells #[.func (.func 190) #[] #[.pointer (some ⟨w.heap.size,0,none⟩)]] 287)).alloc (.cells #[.slice none 0 0] 23)
theorem qlK (w:World):(made w).heap.size=w.heap.size+3:=by simp [made]
theorem qlL (w:World):Below w.heap.size w (made w):=(((Below.refl _ w).alloc (Nat.le_refl _) _).alloc (by simp) _).alloc (by simp;omega) _
theorem qsj (w w1:World) (hb:Below (made w).heap.size (made w) w1):qcz w1.heap.size w.heap.size (w.heap.size+1) (w.heap.size+2) ([],[]) w1:=by
 have hs:=qlK w;have h1:(made w).heap[w.heap.size]?=some (.cells #[.slice none 0 0] 40 (0,0)):=by
  unfold made;rw [Below.heap_alloc _ _ _ (by simp;omega),Below.heap_alloc _ _ _ (by simp)];exact heap_alloc_new w _
 have h2:(made w).heap[w.heap.size+1]?=some (.cells #[.func (.func 190) #[] #[.pointer (some ⟨w.heap.size,0,none⟩)]] 287 (0,0)):=by
  unfold made;rw [Below.heap_alloc _ _ _ (by simp)];have :=heap_alloc_new (w.alloc (.cells #[.slice none 0 0] 40)) (.cells #[.func (.func 190) #[] #[.pointer (some ⟨w.heap.size,0,none⟩)]] 287);simpa using this
 have h3:(made w).heap[w.heap.size+2]?=some (.cells #[.slice none 0 0] 23 (0,0)):=by
  unfold made;have :=heap_alloc_new ((w.alloc (.cells #[.slice none 0 0] 40)).alloc (.cells #[.func (.func 190) #[] #[.pointer (some ⟨w.heap.size,0,none⟩)]] 287)) (.cells #[.slice none 0 0] 23);simpa using this
 exact ⟨Nat.le_refl _,⟨_,(hb.block _ (by omega)).trans h1,World.ownsRow_nil _ _ _ _⟩,(hb.block _ (by omega)).trans h2,⟨_,(hb.block _ (by omega)).trans h3,World.ownsRow_nil _ _ _ _⟩⟩
theorem qlM (s:ByteArray) (w:World) (hs:s.size<=1073741824):
  Calls Tryz.prog 155 #[.string s] w (qiz (qaM s.data.toList) w):=by
 have hsl:=qg1 s.data.toList;have hsz:s.data.toList.length=s.size:=Array.length_toList;rw [hsz] at hsl;have hwd:(step (qdE (qcn s.data.toList) (qcn s.data.toList).length) 32).1.map text=qaM s.data.toList:=by rw [qsg];rfl
 go_enter Tryz.func155,Tryz.ntmps155
 go_wp2_with (first
  |(go_at_call 189;go_in)
  |(go_at_call 191;refine (qru s _ hs).mono ?_))
 rintro e w1 ⟨v,rfl,hown,hb⟩;have hms:=qlK w;have hg1:=qsj w w1 hb;have hbm:Below w.heap.size w w1:=(qlL w).trans (hb.mono (qlL w).size);have hown:w1.ownsRow (w.heap.size+3) 3 1 v (qcn s.data.toList).length (qaa (qcn s.data.toList)):=by rw [<- hms];exact hown
 have hszm:w.heap.size+3<=w1.heap.size:=by rw [<- hms];exact hb.size
 obtain ⟨A,c,rfl,_,_⟩:=qaL hown;obtain ⟨l,hl⟩:∃ l,l=qcn s.data.toList:=⟨_,rfl⟩;rw [<- hl] at hown hsl hwd;rw [<- hl];have HG1:=qH hg1;have HBM:=qH hbm;have HO:=qH hown;have HWD:=qH hwd;clear hl hms hg1 hbm hb hown hwd;go_wp2
 go_loopw [12] (fun i wr=>qsi l w1.heap.size w.heap.size w1 i wr) (fun i _=>l.length-(intOf i).toNat)
 case atStart=>exact ⟨0,Nat.zero_le _,rfl,HG1.out,qbi.refl _ _ _ _⟩
 case round=>
  obtain ⟨k,hk,rfl,hg,ha⟩:=hrel;have hbd:=qlJ l k hk;have HR:=qH (qbD (qlb HO.out (by omega) (by omega) (Nat.le_refl _) ha));have HA:=qH ha;have cL:=hg.outs;by_cases hlt:k<l.length
  ·obtain ⟨b1,o1,e1,_,hc1⟩:=qcv HR.out hlt
   subst e1;have HU:=qH (qlI hlt);obtain ⟨x,hx⟩:∃ x,x=l[k]:=⟨_,rfl⟩;rw [<- hx] at hc1 HU;clear hx ha cL
   go_wp2_with (go_at_call 222;refine (qlH w1.heap.size w.heap.size (w.heap.size+1) (w.heap.size+2) (qdE l k) x _ hg (by omega) (by omega)).mono ?_;rintro e w2 ⟨rfl,hg2,ha2⟩)
   go_roundw
   case rel=>exact ⟨k+1,by omega,by go_num,by rw [HU.out];exact hg2,HA.out.trans ha2⟩
   case measure=>simp [intOf];omega
  ·have hkl:k=l.length:=by omega
   clear cL ha
   go_wp2_with (go_at_call 222;refine (qlH w1.heap.size w.heap.size (w.heap.size+1) (w.heap.size+2) (qdE l k) 32 _ hg (by omega) (by omega)).mono ?_;rintro e w2 ⟨rfl,hg2,ha2⟩;obtain ⟨v2,hv2,hown2⟩:=hg2.outs;have c2:=cell_of_one hv2)
   go_ret;subst hkl;rw [HWD.out] at hown2;refine ⟨_,rfl,?_,HBM.out.trans ((HA.out.trans ha2).below HBM.out.size (Nat.le_refl _) (by omega))⟩;rw [qeS] at hown2;exact qbh hown2 HBM.out.size
theorem qiA {o:List (List Int)} {n l:List Int} {k:Nat} (hk:k<l.length):qcy (o,n) (l.drop k)=qcy (step (o,n) l[k]) (l.drop (k+1)):=by
 rw [List.drop_eq_getElem_cons hk,qiw]
theorem qsk {o:List (List Int)} {n l:List Int} {k:Nat} (hk:l.length<=k) (hn:n≠[]):qcy (o,n) (l.drop k)=qcy (o++[n],[]) (l.drop (k+1)):=by
 rw [List.drop_of_length_le hk,List.drop_of_length_le (by omega),qix hn,qg4]
theorem qlN {o:List (List Int)} {n l:List Int} {k:Nat} (hn:n≠[]) (h:(hk:k<l.length)->qa9 l[k]=false):qcy (o,n) (l.drop k)=qcy (o++[n],[]) (l.drop (k+1)):=by
 by_cases hk:k<l.length
 ·rw [qiA hk,qgi (h hk) hn]
 ·exact qsk (by omega) hn
def qsl (l:List Int) (w1:World) (o i:Value) (wr:World):Prop:=
 ∃ (k:Nat) (out:List (List Int)) (vo:Value),vo=o/\k<=l.length+1/\i= .int .i64 k/\out.length<=k/\wr.ownsRow w1.heap.size 9 1 o out.length (qad (out.map text))/\Below w1.heap.size w1 wr/\qcy (out,[]) (l.drop k)=qed l
def qsm (l:List Int) (w1:World) (out:List (List Int)) (o:Value) (k0:Nat) (i n:Value) (wr:World):Prop:=
 ∃ (k:Nat) (own:List Int) (vn:Value),vn=n/\k<=l.length/\k0<=k/\i= .int .i64 k/\own.length<=k/\(own=[]->k=k0)/\wr.ownsRow w1.heap.size 9 1 o out.length (qad (out.map text))/\wr.ownsRow w1.heap.size 3 1 n own.length (qaa own)/\Below w1.heap.size w1 wr/\qcy (out,own) (l.drop k)=qed l
theorem qsn (s:ByteArray) (w:World) (hs:s.size<=268435456):
  Calls Tryz.prog 144 #[.string s] w (qiz (qaM s.data.toList) w):=by
 obtain ⟨i0,hi0,hz0,hz1,hz2⟩:=info_parts qdr;obtain ⟨i1,hi1,hy0,hy1,hy2⟩:=info_parts qeT;have hsl:=qg1 s.data.toList;have hsz:s.data.toList.length=s.size:=Array.length_toList;rw [hsz] at hsl;have hwd:(qed (qcn s.data.toList)).map text=qaM s.data.toList:=rfl
 go_enter Tryz.func144,Tryz.ntmps144
 go_wp2_with (go_at_call 179;refine (qr2 s _ (by omega)).mono ?_)
 rintro e w1 ⟨v,rfl,hown,hb⟩;obtain ⟨A,c,rfl,_,hrow⟩:=qaL hown;obtain ⟨l,hl⟩:∃ l,l=qcn s.data.toList:=⟨_,rfl⟩;rw [<- hl] at hrow hsl hwd;rw [<- hl];have HB:=qH hb;have HR:=qH hrow;have HWD:=qH hwd;clear hl hb hown hrow hwd;go_wp2
 go_loopw [4,5] (fun o i wr=>qsl l w1 o i wr) (fun _ i _=>l.length+1-(intOf i).toNat)
 case atStart=>exact ⟨0,[],_,rfl,by omega,rfl,by simp,World.ownsRow_nil _ _ _ _,Below.refl _ _,rfl⟩
 case round=>
  obtain ⟨k,out,vo,rfl,hk,rfl,hok,hout,hbw,hga⟩:=hrel;by_cases hlt:k<l.length
  ·obtain ⟨b1,o1,e1,_,hc1⟩:=qcv (HR.out.below hbw) hlt
   subst e1;by_cases hin:qa9 l[k]=true
   ·have r1:=fun w=>qg8 l[k] w
    rw [hin] at r1;have R1:=qH r1;have HIN:Hid (qa9 l[k]=true):=qH hin;have HGA:=qH hga;have HOUT:=qH hout;obtain ⟨x,hx⟩:∃ x,x=l[k]:=⟨_,rfl⟩;rw [<- hx] at hc1 R1 HIN;have HX:=qH hx;clear r1 hin hga hout hx
    go_wp2_with (go_at_call 180;refine (R1.out _).mono ?_;rintro e w' ⟨rfl,rfl⟩)
    go_loopw [5,7] (fun i n wr=>qsm l w1 out vo k i n wr) (fun i _ _=>l.length-(intOf i).toNat)
    case atStart=>exact ⟨k,[],_,rfl,by omega,by omega,rfl,by simp,fun _=>rfl,HOUT.out,World.ownsRow_nil _ _ _ _,hbw,HGA.out⟩
    case round=>
     obtain ⟨j,own,vn,rfl,hj,hkj,rfl,hoj,hne0,hout2,hown2,hbw2,hga2⟩:=hrel;have hne:(k<j∨j=l.length∨(∃ h:j<l.length,qa9 l[j]=false))->own≠[]:=by
      intro hh he;have hjk:=hne0 he;subst hjk;rcases hh with hh|hh|⟨_,hh⟩
      ·omega
      ·omega
      ·rw [<- HX.out,HIN.out] at hh;cases hh
     by_cases hltj:j<l.length
     ·obtain ⟨b2,o2,e2,_,hc2⟩:=qcv (HR.out.below hbw2) hltj
      simp at e2;obtain ⟨rfl,rfl⟩:=e2;by_cases hinj:qa9 l[j]=true
      ·have r2:=fun w=>qg8 l[j] w
       rw [hinj] at r2;have f2:=fun w=>qrz l[j] w
       have ga2:=qiA (o:=out) (n:=own) hltj;rw [hga2,qg3 hinj] at ga2;obtain ⟨y,hy⟩:∃ y,y=l[j]:=⟨_,rfl⟩;rw [<- hy] at hc2 r2 f2 ga2;obtain ⟨z,hz⟩:∃ z,z=qbY y:=⟨_,rfl⟩;rw [<- hz] at f2 ga2;have R2:=qH r2;have F2:=qH f2;have GA2:=qH ga2;have HO2:=qH hout2;have hszj:=hbw2.size;clear r2 f2 ga2 hinj hga2 hy hz hne hne0 hout2 hc1
       go_wp2_with (first
        |(go_at_call 180;refine (R2.out _).mono ?_;rintro e w' ⟨rfl,rfl⟩)
        |(go_at_call 181;refine (F2.out _).mono ?_;rintro e w' ⟨rfl,rfl⟩)
        |(at_builtin;refine wpList_append_own _ rfl (.tmp 34) (.tmp 40) 23 rfl w1.heap.size 3 i0 _ 1 8 Tryz.underlying23 hi0 hz0 hz1 hz2 rfl (by omega) _ own.length (qaa own) rfl (hown2.alloc _) ⟨_,0,none⟩ 1 1 [.int .i64 z] rfl rfl (qaN _ [.int .i64 z] 3) (by intro u hu;simp at hu;subst hu;rfl) (by unfold maxLen;omega) (by omega) (by simp;omega) ?_))
       intro v' w5 hown5 hgrow5 _;have hbw5:=(hbw2.alloc (by omega) _).grown hgrow5 (by simp;omega) (fun j hj=>(hown2.lt j hj).1);have hout5:=(HO2.out.alloc _).kept hgrow5 (qla HO2.out hown2 (by decide));clear hgrow5;go_wp2;go_roundw
       case rel=>
        refine ⟨j+1,own++[z],_,rfl,by omega,by omega,by go_num,by simp;omega,by simp,hout5,?_,hbw5,GA2.out.symm⟩;simpa [qaa] using hown5
       case measure=>simp [intOf];omega
      ·have hinj':qa9 l[j]=false:=by simpa using hinj
       have r2:=fun w=>qg8 l[j] w
       rw [hinj'] at r2;have hne:=hne (.inr (.inr ⟨hltj,hinj'⟩));have HIJ:=qH hinj';obtain ⟨A3,c3,rfl,_,hrow3⟩:=qaL hown2;have HN:=qH hrow3;have R2:=qH r2;have HG2:=qH hga2;have HO2:=qH hout2;have HBW2:=qH hbw2;obtain ⟨y,hy⟩:∃ y,y=l[j]:=⟨_,rfl⟩;rw [<- hy] at hc2 R2;clear r2 hinj hinj' hga2 hout2 hrow3 hown2 hne0 hc1 hy
       go_wp2_with (first
        |(go_at_call 180;refine (R2.out _).mono ?_;rintro e w' ⟨rfl,rfl⟩)
        |(go_at_call 182;refine (qlv _ _ _ own _ rfl HN.out (by omega)).mono ?_))
       rintro e w4 ⟨rfl,hb4⟩;obtain ⟨tx,htx⟩:∃ tx:ByteArray,tx=⟨(text own).toArray⟩:=⟨_,rfl⟩;rw [<- htx];have hout4:=qak HO2.out hb4;have hbw4:Below w1.heap.size w1 w4:=HBW2.out.trans (hb4.mono HBW2.out.size);have HTX:=qH htx;clear htx hb4;have hsz4:=hbw4.size
       go_wp2_with (at_builtin;refine wpList_append_own _ rfl (.tmp 44) (.tmp 47) 40 rfl w1.heap.size 9 i1 _ 1 16 Tryz.underlying40 hi1 hy0 hy1 hy2 rfl (by omega) _ out.length (qad (out.map text)) rfl (hout4.alloc _) ⟨w4.heap.size,0,none⟩ 1 1 [.string tx] rfl rfl (qaN w4 [.string tx] 9) (by intro u hu;simp at hu;subst hu;rfl) (by unfold maxLen;omega) (by omega) (by simp;omega) ?_)
       intro v' w5 hown5 hgrow5 _;have hbw5:=(hbw4.alloc (by omega) _).grown hgrow5 (by simp;omega) (fun j hj=>(hout4.lt j hj).1);clear hgrow5 hout4 hbw4;go_wp2;go_roundw
       case rel=>
        refine ⟨j+1,out++[own],_,rfl,by omega,by go_num,by simp;omega,?_,hbw5,?_⟩
        ·rw [HTX.out] at hown5;simpa [qad] using hown5
        ·rw [<- qlN hne (fun _=>HIJ.out)];exact HG2.out
       case measure=>simp [intOf];omega
     ·have hne:=hne (.inr (.inl (by omega)))
      obtain ⟨A3,c3,rfl,_,hrow3⟩:=qaL hown2;have HN:=qH hrow3;have HG2:=qH hga2;have HO2:=qH hout2;have HBW2:=qH hbw2;clear hga2 hout2 hrow3 hown2 hne0 hc1
      go_wp2_with (first
       |(go_at_call 182;refine (qlv _ _ _ own _ rfl HN.out (by omega)).mono ?_))
      rintro e w4 ⟨rfl,hb4⟩;obtain ⟨tx,htx⟩:∃ tx:ByteArray,tx=⟨(text own).toArray⟩:=⟨_,rfl⟩;rw [<- htx];have hout4:=qak HO2.out hb4;have hbw4:Below w1.heap.size w1 w4:=HBW2.out.trans (hb4.mono HBW2.out.size);have HTX:=qH htx;clear htx hb4;have hsz4:=hbw4.size
      go_wp2_with (at_builtin;refine wpList_append_own _ rfl (.tmp 44) (.tmp 47) 40 rfl w1.heap.size 9 i1 _ 1 16 Tryz.underlying40 hi1 hy0 hy1 hy2 rfl (by omega) _ out.length (qad (out.map text)) rfl (hout4.alloc _) ⟨w4.heap.size,0,none⟩ 1 1 [.string tx] rfl rfl (qaN w4 [.string tx] 9) (by intro u hu;simp at hu;subst hu;rfl) (by unfold maxLen;omega) (by omega) (by simp;omega) ?_)
      intro v' w5 hown5 hgrow5 _;have hbw5:=(hbw4.alloc (by omega) _).grown hgrow5 (by simp;omega) (fun j hj=>(hout4.lt j hj).1);clear hgrow5 hout4 hbw4;go_wp2;go_roundw
      case rel=>
       refine ⟨j+1,out++[own],_,rfl,by omega,by go_num,by simp;omega,?_,hbw5,?_⟩
       ·rw [HTX.out] at hown5;simpa [qad] using hown5
       ·rw [<- qlN hne (fun h=>absurd h hltj)];exact HG2.out
      case measure=>simp [intOf];omega
   ·have hin':qa9 l[k]=false:=by simpa using hin
    have r1:=fun w=>qg8 l[k] w
    rw [hin'] at r1;have ga:=qiA (o:=out) (n:=[]) hlt;rw [hga,qgh hin'] at ga;have R1:=qH r1;have HOUT:=qH hout;have GA:=qH ga;obtain ⟨x,hx⟩:∃ x,x=l[k]:=⟨_,rfl⟩;rw [<- hx] at hc1 R1;clear r1 hin hin' hga hout hx ga
    go_wp2_with (go_at_call 180;refine (R1.out _).mono ?_;rintro e w' ⟨rfl,rfl⟩)
    go_roundw
    case rel=>exact ⟨k+1,out,_,rfl,by omega,by go_num,by omega,HOUT.out,hbw,GA.out.symm⟩
    case measure=>simp [intOf];omega
  ·rw [List.drop_of_length_le (by omega),qg4] at hga
   have HGA:=qH hga;clear hga;go_wp2;go_ret;refine ⟨_,rfl,?_,HB.out.trans (hbw.mono HB.out.size)⟩;have :=HWD.out;rw [<- HGA.out] at this;rw [<- this,List.length_map];exact qbh hout HB.out.size
end Go.Proofs.YtpehcaidjlemiaaGreatDoor
