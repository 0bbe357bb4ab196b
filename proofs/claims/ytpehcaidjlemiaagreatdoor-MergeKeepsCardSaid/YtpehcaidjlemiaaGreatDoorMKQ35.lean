import Derived.Test.YtpehcaidjlemiaaGreatDoorMKZz
import Derived.Test.YtpehcaidjlemiaaGreatDoorMKQ02
import Derived.BigQuiet
import Derived.Deep.QuietTactic
import Derived.Test.YtpehcaidjlemiaaGreatDoorMKQ16
import Derived.Test.YtpehcaidjlemiaaGreatDoorMKQ09
set_option maxHeartbeats 1000000
set_option maxRecDepth 100000
set_option linter.unusedVariables false
namespace Go.Proofs.YtpehcaidjlemiaaGreatDoor
open Go Go.RowKit
theorem qzt (A C:Option Addr) (c d:Nat) (xs:List Int) (w:World) (hx:Row w w.heap.size A (qab xs)) (hy:Row w w.heap.size C (qab xs)) (hxl:xs.length<=1073741824):
  Calls Tryz.prog 24 #[.slice A xs.length c,.slice C xs.length d] w fun e w'=>e= .returned (.bool true)/\Below w.heap.size w w':=by
 have HX:=qH hx;have HY:=qH hy;clear hx hy
 go_enter Tryz.func24,Tryz.ntmps24
 go_wp2
 go_loopw [5] (fun i wr=>∃ k:Nat,k<=xs.length/\i= .int .i64 k/\Below w.heap.size w wr) (fun i _=>xs.length-(intOf i).toNat)
 case atStart=>exact ⟨0,Nat.zero_le _,rfl,Below.refl _ _⟩
 case round=>
  obtain ⟨k,hk,rfl,hbw⟩:=hrel;by_cases hlt:k<xs.length
  ·obtain ⟨b1,o1,e1,_,hc1⟩:=qcF (HX.out.below hbw) hlt
   obtain ⟨b2,o2,e2,_,hc2⟩:=qcF (HY.out.below hbw) hlt;subst e1 e2;obtain ⟨x,hx⟩:∃ x,x=xs[k]:=⟨_,rfl⟩;rw [<- hx] at hc1 hc2;clear hx;have hi0:(0:Int)<=k:=by omega
   have hi1:(k:Int)<xs.length:=by omega
   go_wp2
   go_quiet (fail)
   go_wp2;go_roundw
   case rel=>exact ⟨k+1,by omega,by go_num,hbw.trans ⟨rfl,rfl,rfl,Nat.le_refl _,fun _ _=>rfl⟩⟩
   case measure=>simp [intOf];omega
  ·go_wp2
   go_ret;exact ⟨rfl,hbw⟩
theorem qzu (A C:Option Addr) (n m c d:Nat) (xs:List Int) (w:World) (hn:xs.length=n) (hm:xs.length=m) (hx:Row w w.heap.size A (qab xs)) (hy:Row w w.heap.size C (qab xs)) (hxl:n<=1073741824):
  Calls Tryz.prog 24 #[.slice A n c,.slice C m d] w fun e w'=>e= .returned (.bool true)/\Below w.heap.size w w':=by
 subst hn hm;exact qzt A C c d xs w hx hy hxl
theorem qzv:qno where
 order:=fun A m c l w hL hm hm2 hl=>(qoB A m c l w hL hm hm2 hl).mono fun _ _ ⟨err,o,A',c',h1,h2,h3,h4,h5,_⟩=>⟨err,o,A',c',h1,h2,h3,h4,h5⟩
 places:=fun A m c n o i w hr hm hmx ho _ hn=>qnp A m c n o i w hr hm hmx ho hn
end Go.Proofs.YtpehcaidjlemiaaGreatDoor
