/- The given tied card of MergeMerges: for every input the call returns true, and each argument reads afterwards as it read before; one package variable, the table of math/bits.TrailingZeros64, starts as the program's text lays it. No other condition. -/
import Derived.Test.YtpehcaidjlemiaaGreatDoorCards
import Derived.Test.YtpehcaidjlemiaaGreatDoorTie
import Derived.Test.YtpehcaidjlemiaaGreatDoorMergeMergesWalk
import Derived.ShutString
import Derived.Lay
import Derived.LaidMore
set_option maxRecDepth 100000
set_option linter.all false
namespace Go.Proofs.YtpehcaidjlemiaaGreatDoor.lawMergeMerges
open Go.Proofs.Tryz
open Go.ChangeShapes Go.WideShapes Go.ChangeAt Go.RowKit
open Go.ChangeMaps (open_string shut_string)
theorem own:ownKnob prog.godebug=none:=by kernel_rfl
theorem laidOut:laidOutB prog=true:=by kernel_rfl
theorem lifted (os:Os) (ac:os.Started) (H:Type) (enc:TypeId × Value->H):
  ReturnsInHanded {} Tryz.checked os 3 .any (fun w args=>(Rows.mergeMergesSpec.pre enc prog Tryz.f3 [] false w args/\laidMetH prog qgP w)/\sizedMet enc prog Tryz.f3 (OpenSpec.ofChange Rows.mergeMergesSpec) false w args)
   (Rows.mergeMergesSpec.post enc prog Tryz.f3 false true false false):=by
 refine returnsInHanded_of_change_and (C:=Tryz.checked) (X:=fun w _=>laidMetH prog qgP w) (fun _ _ _ ao k=>k.of_heap ao) own ac (by kernel_rfl) func3
  (ChangeSpec.witness_shaped (enc:=enc) (C:=Tryz.checked) (os:=os) (X:=fun w _=>laidMetH prog qgP w) false (World.laidAll prog os qgP) #[.slice none 0 0,.slice none 0 0,.int .i64 0,.slice none 0 0] 8 (World.laidAll_os _ _ _)
   (World.shaped_of_ZipB (by kernel_rfl) (by kernel_rfl)) (by kernel_rfl) (by kernel_rfl) (by kernel_rfl)
   (by rw [MakeChecks.laidMetH_plain _ _ _ (by kernel_rfl)];exact laidMet_laidAll _ (by kernel_rfl) (by kernel_rfl))) ?_
 intro W zz args ah a7 a8 D y _ _ ak _;have d:∀ (j:Nat) t v,Tryz.f3.params[j]?=some t->args[j]?=some v->Value.okWide prog W .any zz t v:=D;have aq:=y;obtain ⟨p,q,B,av,rfl,bg,bd⟩:=y;have E:DataW.TrodAll enc prog W 0 (fun _=>true) true Tryz.f3.params.toList args.toList ah p:=B;rw [Tryz.params3] at E d;obtain ⟨K,ay,ba,a9,Z,bc,bf,rfl,rfl,P,ax⟩:=trodAll_cons E;obtain ⟨n,a4,a0,a6,aa,a3,rfl,rfl,rfl,h1,aj⟩:=trodAll_cons ax;obtain ⟨Q,bh,a1,be,bb,q2,rfl,rfl,rfl,h2,V⟩:=trodAll_cons aj;obtain ⟨J,bi,a2,a5,au,q3,rfl,rfl,rfl,h3,af⟩:=trodAll_cons V;obtain ⟨rfl,rfl,rfl⟩:=trodAll_nil af;obtain rfl:args=#[K,n,Q,J]:=by cases args;simp_all
 obtain ⟨rfl,rfl⟩:=trodVars_none av;obtain ⟨R,z,G,rfl⟩:=okWide_slice underlying22 (d 0 22 K rfl rfl);have S:=P;have an:∀ x∈Z,x.block<W.heap.size:=by obtain ⟨m,a⟩:=S;exact DataW.trod_lt m _ _ _ a
 obtain ⟨Y,w0⟩:∃ b,qlG W R z G b:=by obtain ⟨N,h⟩:=P;exact qAL h
 obtain ⟨I,L,F,rfl⟩:=okWide_slice underlying23 (d 1 23 n rfl rfl);have M:=h1;have ae:∀ x∈aa,x.block<W.heap.size:=by obtain ⟨m,a⟩:=M;exact DataW.trod_lt m _ _ _ a
 obtain ⟨ab,am⟩:∃ b,qh0 .i64 W I L F b:=by
  obtain ⟨N,h⟩:=h1;rcases open_ints underlying23 underlying3 (by kernel_rfl) h with ⟨g,_⟩|⟨x,l,c,b,g,_,al,a,aw,_,ad,ag⟩
  ·simp [Value.cells] at g
   obtain ⟨rfl,rfl,rfl⟩:=g;exact ⟨[],qr8⟩
  ·simp [Value.cells] at g
   obtain ⟨rfl,rfl,rfl⟩:=g;exact ⟨_,qr9 al a (by simpa using aw) ad ag⟩
 obtain ⟨U,rfl,rfl,rfl,T⟩:=open_int underlying3 (d 2 3 Q rfl rfl) h2;obtain ⟨A,O,s,rfl⟩:=okWide_slice underlying24 (d 3 24 J rfl rfl);have r:=h3;have ar:∀ x∈au,x.block<W.heap.size:=by obtain ⟨m,a⟩:=r;exact DataW.trod_lt m _ _ _ a
 obtain ⟨ai,w3⟩:∃ b,qkL W A O s b:=by obtain ⟨N,h⟩:=h3;exact qwV h
 clear B D;refine (walk_MergeMerges R z G Y I L F ab U A O s ai W w0 am T w3 (qwX ak)).mono fun e az ⟨ap,i⟩=> ?_
 subst ap;exact ⟨_,rfl,_,_,_,[],_,[],aq,trodAll_mk1 (shut_bool underlying4 _),(trodAll_cons_mk (Below.trod laidOut (by kernel_rfl) (mD (by kernel_rfl)) S i an) (trodAll_cons_mk (Below.trod laidOut (by kernel_rfl) (mD (by kernel_rfl)) M i ae) (trodAll_cons_mk (shut_int underlying3 T) (trodAll_cons_mk (Below.trod laidOut (by kernel_rfl) (mD (by kernel_rfl)) r i ar) trodAll_mk0)))),rfl,i.frame _,fun k=>by cases k⟩
theorem tj0:Tryz.pinned.checked.prog.funcNamed "concordance/concordancelaw11.MergeMerges" =some 3:=by kernel_rfl
theorem tj1:(Rows.mergeMergesRow.inPlace==Tryz.pinned.checked.prog.inPlace 3)=true:=by kernel_rfl
theorem tj2:(Rows.mergeMergesRow.unfollowed==Tryz.pinned.checked.prog.unfollowed 3)=true:=by kernel_rfl
theorem tj3:(Rows.mergeMergesRow.recurses==Tryz.pinned.checked.prog.recurses 3)=true:=by kernel_rfl
theorem tj4:(Rows.mergeMergesRow.named==Tryz.pinned.checked.prog.varsNamed 3)=true:=by kernel_rfl
theorem qCH:joinedFacts Tryz.pinned.checked.prog 3 Tryz.f3 Rows.mergeMergesSpec Rows.mergeMergesRow=true:=by
 simp only [joinedFacts,tj1,tj2,tj3,tj4,Bool.and_true]
 kernel_rfl
theorem over:Rows.mergeMergesRow.holds Tryz.pinned (OpenSpec.ofChange Rows.mergeMergesSpec):=
 OpenClaim.holds_of_wide 3 Tryz.f3 rfl rfl rfl rfl rfl rfl rfl ⟨rfl,rfl,rfl,rfl,rfl⟩ rfl rfl rfl rfl rfl tj0 func3 qCH
  (mD (by kernel_rfl)) (by unfold Func.isWrapper;first|(rw [eA (by decide+kernel)];kernel_rfl)|(rw [dA (by decide+kernel)];exact ⟨rfl,rfl⟩))
  (fun os a H enc _=>lifted os a H enc)
theorem proved:Rows.MergeMergesCardSaid:=
 Claim7.holds_tied_plain_at .later [] [.data] true _ true
  over (fun _ a=>by cases a) (by kernel_rfl) (fun _ a=>by cases a) mergeMerges_row_tie rfl ⟨rfl,rfl⟩ (by kernel_rfl) rfl
  (fun f fn g d=>by
   obtain rfl:f=3:=Option.some.inj ((show prog.funcNamed "concordance/concordancelaw11.MergeMerges" =some 3 by kernel_rfl).symm.trans g) |>.symm
   obtain rfl:fn=Tryz.f3:=(Option.some.inj (func3.symm.trans d)).symm;exact ⟨by kernel_rfl,fun j t b=>by
    rw [Tryz.params3] at b;have c:t∈[22,23,3,24]:=by simpa using Array.mem_of_getElem? b
    have e:([22,23,3,24].all fun u=> !prog.wantsStandIn u)=true:=by kernel_rfl
    exact (show prog.wantsStandIn t=false by simpa using nF.1 e t c)⟩)
  (by kernel_rfl)
#print axioms proved
end Go.Proofs.YtpehcaidjlemiaaGreatDoor.lawMergeMerges
