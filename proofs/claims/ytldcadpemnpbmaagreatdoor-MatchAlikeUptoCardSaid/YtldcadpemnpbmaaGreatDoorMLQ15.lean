import Derived.Test.YtldcadpemnpbmaaGreatDoorMLZz
import Derived.Shelf.Slices.SearchI
import Derived.Shelf.Slices.Empties
import Derived.Shelf.Abstract
import Derived.Test.YtldcadpemnpbmaaGreatDoorMLQ10
import Derived.Test.YtldcadpemnpbmaaGreatDoorMLQ01
import Derived.BigCall
import Derived.BigQuiet
import Derived.Lib.Hide
import Derived.Test.YtldcadpemnpbmaaGreatDoorMLQ02
import Derived.Test.YtldcadpemnpbmaaGreatDoorMLQ14
import Derived.Test.YtldcadpemnpbmaaGreatDoorMLQ11
import Derived.Laws.OwnMore
import Derived.Test.YtldcadpemnpbmaaGreatDoorProg
import Derived.Deep.CutRange
import Derived.Deep.RegionHeld3
import Derived.Shelf.RegionOpen
import Derived.RangeFuncNested
set_option linter.unusedVariables false
namespace Go.Proofs.YtldcadpemnpbmaaGreatDoor
open Go Go.RowKit Go.Shelf
def layBinI13_ren:Go.Shelf.Ren:=⟨fun |25=>192|31=>241|32=>242|37=>180|n=>n,fun |0=>0|3=>3|4=>4|22=>88|40=>128|n=>n,fun |n=>n⟩
theorem layBinI13:Lays2.n25 Tryz.prog layBinI13_ren:={
 mixed:=by kernel_rfl
 f25:=Tryz.func192.trans (congrArg some (by kernel_rfl))
 f31:=Tryz.func241.trans (congrArg some (by kernel_rfl))
 f32:=Tryz.func242.trans (congrArg some (by kernel_rfl))
 f37:=Tryz.func180.trans (congrArg some (by kernel_rfl))
 t0:=Tryz.underlying0
 a0:=Tryz.isAgg0
 z0:=Tryz.sizeOf0
 v0:=Tryz.zeroValue0
 t3:=Tryz.underlying3
 a3:=Tryz.isAgg3
 z3:=Tryz.sizeOf3
 v3:=Tryz.zeroValue3
 t4:=Tryz.underlying4
 a4:=Tryz.isAgg4
 z4:=Tryz.sizeOf4
 v4:=Tryz.zeroValue4
 t22:=Tryz.underlying88
 a22:=Tryz.isAgg88
 z22:=Tryz.sizeOf88
 v22:=Tryz.zeroValue88
 t40:=Tryz.underlying128
 a40:=Tryz.isAgg128
 z40:=Tryz.sizeOf128
 v40:=Tryz.zeroValue128}
theorem bin_has (A:Option Addr) (n c:Nat) (l:List Int) (x:Int) (w:World) (hr:Row w w.heap.size A (ints l)) (hn:l.length=n) (hl:n≤1099511627776) (hs:l.Pairwise (· ≤·)):
  Calls Tryz.prog 192 #[.slice A n c,.int .i64 x] w fun e w'=>(∃ z,e= .returned (.tuple #[.int .i64 z,.bool (decide (x∈l))]))∧Below w.heap.size w w':=by
 subst hn
 rcases hr with h0|⟨b,off,rfl,hb,hc⟩
 ·have hl0:l=[]:=by simpa [ints] using h0
  subst hl0
  refine (Any.slices_BinarySearch_int_empty (ρ:=layBinI13_ren) layBinI13 A c x w).mono ?_
  rintro e w' ⟨rfl,rfl⟩
  exact ⟨⟨0,by simp⟩,Below.refl _ _⟩
 ·refine (Any.slices_BinarySearch_int (ρ:=layBinI13_ren) layBinI13 b off l.length c l x w (Nat.le_refl _) (by omega) (fun j hj=> ?_) (by rw [List.take_length];exact hs)).mono ?_
  ·rw [List.getD_eq_getElem?_getD,List.getElem?_eq_getElem hj]
   exact hc j _ (by simp [ints,hj])
  ·rintro e w' ⟨rfl,q,rfl⟩
   rw [List.take_length]
   refine ⟨⟨_,by rw [show l.contains x=decide (x∈l) from by simp]⟩,⟨rfl,rfl,rfl,Nat.le_refl _,fun _ _=>rfl⟩⟩
def LisC (w:World) (B:Nat) (l:List (List Int)) (cs:List Value):Prop:=cs.length=l.length∧∀ i (h:i<l.length),∃ A c,cs[i]?=some (.slice A l[i].length c)∧Row w B A (ints l[i])
def Lis (w:World) (B:Nat) (A:Option Addr) (l:List (List Int)):Prop:=∃ cs,LisC w B l cs∧Row w B A cs
section
variable {w w':World} {B B':Nat} {A:Option Addr} {l:List (List Int)} {cs:List Value}
theorem LisC.below (h:LisC w B l cs) (hb:Below B w w'):LisC w' B l cs:=⟨h.1,fun i hi=>by obtain ⟨A,c,h1,h2⟩:=h.2 i hi;exact ⟨A,c,h1,h2.below hb⟩⟩
theorem LisC.more (h:LisC w B l cs) (hB:B≤B'):LisC w B' l cs:=⟨h.1,fun i hi=>by obtain ⟨A,c,h1,h2⟩:=h.2 i hi;exact ⟨A,c,h1,h2.more hB⟩⟩
theorem LisC.nil:LisC w B [] []:=⟨rfl,fun i h=>by simp at h⟩
theorem LisC.tail {x:List Int} {u:Value} (h:LisC w B (x::l) (u::cs)):LisC w B l cs:=⟨by have :=h.1;simpa using this,fun i hi=>by
 obtain ⟨A,c,h1,h2⟩:=h.2 (i+1) (by simpa using hi)
 exact ⟨A,c,by simpa using h1,by simpa using h2⟩⟩
theorem Lis.below (h:Lis w B A l) (hb:Below B w w'):Lis w' B A l:=by obtain ⟨cs,h1,h2⟩:=h;exact ⟨cs,h1.below hb,h2.below hb⟩
theorem Lis.more (h:Lis w B A l) (hB:B≤B'):Lis w B' A l:=by obtain ⟨cs,h1,h2⟩:=h;exact ⟨cs,h1.more hB,h2.more hB⟩
theorem Lis.later (h:Lis w w.heap.size A l) (hb:Below w.heap.size w w'):Lis w' w'.heap.size A l:=(h.below hb).more hb.size
theorem Lis.at_ (h:Lis w B A l) {i:Nat} (hi:i<l.length):∃ b off A' c',A=some ⟨b,off,none⟩∧b<B∧w.cell? ⟨b,off+i,none⟩=some (.slice A' l[i].length c')∧Row w B A' (ints l[i]):=by
 obtain ⟨cs,h1,h2⟩:=h
 obtain ⟨A',c',g1,g2⟩:=h1.2 i hi
 obtain ⟨b,off,rfl,hb,hc⟩:=h2.at_ (by rw [h1.1];omega)
 exact ⟨b,off,A',c',rfl,hb,hc i _ g1,g2⟩
theorem Lis.tail {x:List Int} {b o c:Nat} {AN:Addr} (h:Lis w B (some ⟨b,o,none⟩) (x::l)) (hc:l.length+1≤c) (hA:(if c=1 then some (⟨b,o,none⟩:Addr) else some ⟨b,o+1,none⟩)=some AN):Lis w B (some AN) l:=by
 obtain ⟨cs,h1,h2⟩:=h
 rcases cs with _|⟨u,cs⟩
 ·have :=h1.1;simp at this
 ·refine ⟨cs,h1.tail,?_⟩
  by_cases e:c=1
  ·have :l=[]:=List.eq_nil_of_length_eq_zero (by omega)
   subst this
   have :cs=[]:=List.eq_nil_of_length_eq_zero h1.tail.1
   rw [this]
   exact .inl rfl
  ·rw [if_neg e] at hA
   injection hA with hA
   subst hA
   rcases h2 with h|⟨b',o',e',hb,hc⟩
   ·cases h
   ·injection e' with e'
    injection e' with e1 e2
    subst e1 e2
    refine .inr ⟨b,o+1,rfl,hb,fun i u hu=> ?_⟩
    have :=hc (i+1) u (by simpa using hu)
    rwa [show o+(i+1)=o+1+i by omega] at this
end
def RiseL (l:List (List Int)):Prop:=∀ s∈l,s.length≤1099511627776∧s.Pairwise (· ≤·)∧∀ x∈s, -9223372036854775808≤x∧x≤9223372036854775807
theorem RiseL.at_ {l:List (List Int)} (h:RiseL l) {i:Nat} (hi:i<l.length):l[i].length≤1099511627776∧l[i].Pairwise (· ≤·)∧∀ x∈l[i], -9223372036854775808≤x∧x≤9223372036854775807:=h _ (List.getElem_mem hi)
theorem follow_at {l:List (List Int)} {k:Nat} (hk:k<l.length) (n:Int):followF (l.drop k) n=(decide (n+1∈l[k])&&followF (l.drop (k+1)) (n+1)):=by rw [List.drop_eq_getElem_cons hk,followF]
def FollowRel13 (x:Int) (l:List (List Int)) (w:World) (r vx vi:Value) (wr:World):Prop:=
 r= .bool false∧∃ k:Nat,k≤l.length∧vi= .int .i64 (k:Int)∧vx= .int .i64 (x+k)∧x+k≤9223372036854775807∧followF (l.drop k) (x+k)=followF l x∧Below w.heap.size w wr
set_option maxHeartbeats 4000000 in
set_option maxRecDepth 100000 in
theorem match_follow (A:Option Addr) (n c:Nat) (l:List (List Int)) (x:Int) (w:World) (h:Lis w w.heap.size A l) (hn:l.length=n) (hl:RiseL l) (hx0: -9223372036854775808≤x) (hx1:x≤9223372036854775807) (hm:n≤1099511627776):
  Calls Tryz.prog 120 #[.slice A n c,.int .i64 x] w fun e w'=>e= .returned (.bool (followF l x))∧Below w.heap.size w w':=by
 have HL:=Lib.hid h
 have HR:=Lib.hid hl
 have HN:=Lib.hid hn
 obtain ⟨ans,hans⟩:∃ ans,ans=followF l x:=⟨_,rfl⟩
 rw [← hans]
 have HREL:Hid (FollowRel13 x l w (.bool false) (.int .i64 x) (.int .i64 ((0:Nat):Int)) w):=Lib.hid ⟨rfl,0,Nat.zero_le _,rfl,by simp,by simpa using hx1,by simp,Below.refl _ _⟩
 have HA:=Lib.hid hans
 clear h hl hn hans
 go_enter Tryz.func120,Tryz.ntmps120
 go_wp2
 go_loopw [4,1,11] (fun r vx vi wr=>FollowRel13 x l w r vx vi wr) (fun _ _ i _=>n-(intOf i).toNat)
 case atStart=>exact HREL.out
 case round=>
  obtain ⟨rfl,k,hk,rfl,rfl,hxk,hfo,hbw⟩:=hrel
  rw [HN.out] at hk
  by_cases hlt:k<n
  ·have hkl:k<l.length:=by rw [HN.out];exact hlt
   obtain ⟨b1,o1,A1,c1,rfl,_,hc1,hr1⟩:=(HL.out.below hbw).at_ hkl
   have hfa:=follow_at hkl (x+k)
   rw [hfo,← HA.out] at hfa
   obtain ⟨h1,h2,h3⟩:=HR.out.at_ hkl
   obtain ⟨s,hs⟩:∃ s,s=l[k]:=⟨_,rfl⟩
   rw [← hs] at hc1 hr1 hfa h1 h2 h3
   obtain ⟨m,hms⟩:∃ m,m=s.length:=⟨_,rfl⟩
   rw [← hms] at hc1 h1
   have hkn:(k:Int)<(n:Int):=by omega
   obtain ⟨y,hy⟩:∃ y,y=x+(k:Int):=⟨_,rfl⟩
   rw [← hy] at hxk hfa hfo ⊢
   by_cases hmax:y=9223372036854775807
   ·have hv:ans=false:=by
     rw [hfa,show decide (y+1∈s)=false from decide_eq_false fun hm=>by have :=(h3 _ hm).2;omega]
     rfl
    have e1:(y==9223372036854775807)=true:=by rw [hmax];exact beq_self_eq_true _
    subst hv
    clear hfa hfo h1 h2 h3 hr1 hs hms hy hmax
    go_wp2
    go_ret
    exact ⟨rfl,hbw⟩
   ·have e1:(y==9223372036854775807)=false:=beq_eq_false_iff_ne.2 hmax
    have hyr:y<9223372036854775807:=by omega
    have hy0: -9223372036854775808≤y:=by omega
    have HB:=Lib.hid (bin_has A1 m c1 s (y+1) wr (hr1.more hbw.size) hms.symm h1 h2)
    have HBW:=Lib.hid hbw
    have HY:=Lib.hid hy
    have HS:=Lib.hid hs
    have HKL:=Lib.hid hkl
    clear hfo h1 h2 h3 hr1 hs hms hbw hy hmax
    by_cases hin:y+1∈s
    ·rw [decide_eq_true hin,Bool.true_and] at hfa
     rw [decide_eq_true hin] at HB
     have HFA:=Lib.hid hfa
     clear hfa hin
     go_wp2_with (go_at_call 192;refine HB.out.mono ?_;rintro e w2 ⟨⟨z,rfl⟩,hb2⟩)
     go_roundw
     case rel=>exact ⟨rfl,k+1,HKL.out,by go_num,by rw [HY.out];congr 1;omega,by have :=HY.out;omega,by rw [show x+((k+1:Nat):Int)=y+1 by rw [HY.out];omega,← HFA.out,HA.out],HBW.out.trans (hb2.mono HBW.out.size)⟩
     case measure=>simp [intOf];omega
    ·rw [decide_eq_false hin,Bool.false_and] at hfa
     rw [decide_eq_false hin] at HB
     subst hfa
     clear hin
     go_wp2_with (go_at_call 192;refine HB.out.mono ?_;rintro e w2 ⟨⟨z,rfl⟩,hb2⟩)
     go_ret
     exact ⟨rfl,HBW.out.trans (hb2.mono HBW.out.size)⟩
  ·have hv:ans=true:=by rw [HA.out,← hfo,List.drop_of_length_le (by rw [HN.out];omega)];rfl
   subst hv
   clear hfo
   go_wp2
   go_ret
   exact ⟨rfl,hbw⟩
end Go.Proofs.YtldcadpemnpbmaaGreatDoor
set_option linter.unusedVariables false
namespace Go.Proofs.YtldcadpemnpbmaaGreatDoor
open Go Go.RowKit
def VarOf (T E:TypeId) (z base B n:Nat) (xs:List Value) (w:World):Prop:=∃ v,w.heap[B]?=some (.cells #[v] T (0,0))∧w.ownsRow base E z v n xs
section
variable {T E:TypeId} {z base B n m:Nat} {xs ys:List Value} {v v':Value} {w w' w0 w1:World}
theorem VarOf.below (h:VarOf T E z base B n xs w) (hb:Below w.heap.size w w'):VarOf T E z base B n xs w':=by
 obtain ⟨v,hv,hown⟩:=h
 exact ⟨v,(hb.block B (lt_of_block hv)).trans hv,owned_below hown hb⟩
theorem VarOf.lt (h:VarOf T E z base B n xs w):B<w.heap.size:=by obtain ⟨v,hv,_⟩:=h;exact lt_of_block hv
theorem Firm.varOf (N:Nat):Firm N (fun W=>VarOf T E z base B n xs W):=fun W l o o' _ ho hc ⟨v,h1,h2⟩=>by
 have hB:B≠l:=fun e=>by subst e;rw [h1] at ho;injection ho with ho;rw [← ho] at hc;cases hc
 refine ⟨v,(World.putObj_heap_other hB).trans h1,owned_keep h2 fun g hg=>World.putObj_heap_other fun e=> ?_⟩
 subst e
 rcases h2.2 with ⟨rfl,_⟩|⟨g',cap,cur,rfl,_,hh,_⟩
 ·cases hg
 ·simp only [Value.ownBlock,Option.some.injEq] at hg
  subst hg
  rw [hh] at ho
  injection ho with ho
  rw [← ho] at hc
  cases hc
theorem var_push (hTE:T≠E) (hv:w.heap[B]?=some (.cells #[v] T (0,0))) (hown:w.ownsRow base E z v n xs) (hbB:base≤B) (hs:base≤w.heap.size) (hb:Below w.heap.size w w0) (hg:w0.grownBy w1 v.ownBlock) (hown1:w1.ownsRow base E z v' m ys):
  (w1.cell? ⟨B,0,none⟩=some v∧w1.frozen? ⟨B,0,none⟩=false)∧VarOf T E z base B m ys (w1.setCell ⟨B,0,none⟩ v')∧Below base w (w1.setCell ⟨B,0,none⟩ v')∧KeepsOthers w (w1.setCell ⟨B,0,none⟩ v')∧
   ∀ (k:Nat) (cs:Array Value) (t:TypeId) (fr:Nat × Nat),w.heap[k]?=some (.cells cs t fr)→t≠T→t≠E→(w1.setCell ⟨B,0,none⟩ v').heap[k]?=some (.cells cs t fr):=by
 have hBlt:=lt_of_block hv
 have hne:v.ownBlock≠some B:=owned_apart hown hv hTE
 have hv1:w1.heap[B]?=some (.cells #[v] T (0,0)):=(hg.block B (by have :=hb.size;omega) (fun e=>hne e.symm)).trans ((hb.block B hBlt).trans hv)
 have hne':v'.ownBlock≠some B:=owned_apart hown1 hv1 hTE
 refine ⟨⟨cell_of_one hv1,free_of_one hv1⟩,⟨v',one_setCell hv1,ownsRow_setCell_other hown1 hne' v'⟩,?_,?_,fun k cs t fr hk h1 h2=> ?_⟩
 ·exact ((hb.mono hs).grown hg (Nat.le_trans hs hb.size) (fun k e=>(hown.lt k e).1)).setCell hbB _
 ·refine (KeepsOthers.trans (⟨hb.size,fun q o hq _=>(hb.block q (Array.getElem?_eq_some_iff.1 hq).1).trans hq⟩:KeepsOthers w w0) (KeepsOthers.of_grownBy hg fun j o ej hj=> ?_)).trans (KeepsOthers.setCell _ _ _)
  rcases hown.2 with ⟨rfl,_⟩|⟨g',cap,cur,rfl,_,hh,_⟩
  ·cases ej
  ·simp only [Value.ownBlock,Option.some.injEq] at ej
   subst ej
   rw [hb.block _ (Array.getElem?_eq_some_iff.1 hh).1,hh] at hj
   injection hj with hj
   subst hj
   rfl
 ·have h3:k≠B:=by rintro rfl;rw [hk] at hv;simp at hv;exact h1 hv.2.1
  rw [Below.heap_setCell _ _ _ _ h3,hg.block k (by have :=hb.size;have :=lt_of_block hk;omega) (fun e=>owned_apart hown hk h2 e.symm),hb.block k (lt_of_block hk),hk]
end
end Go.Proofs.YtldcadpemnpbmaaGreatDoor
set_option linter.unusedVariables false
namespace Go.Proofs.YtldcadpemnpbmaaGreatDoor
open Go Go.RowKit
def LiOwn (base:Nat) (w:World):List (List Int)→List Value→Prop
 |[],cs=>cs=[]
 |x::r,cs=>∃ u cs',cs=u::cs'∧w.ownsRow base 3 1 u x.length (ints x)∧LiOwn base w r cs'
def OwnLi (base:Nat) (w:World) (v:Value) (l:List (List Int)):Prop:=∃ cs,w.ownsRow base 88 1 v l.length cs∧LiOwn base w l cs
theorem LiOwn.imp {base:Nat} {w w':World}:∀ {l:List (List Int)} {cs:List Value},LiOwn base w l cs→(∀ u (x:List Int),w.ownsRow base 3 1 u x.length (ints x)→w'.ownsRow base 3 1 u x.length (ints x))→LiOwn base w' l cs
 |[],cs,h,_=>h
 |x::r,cs,h,hi=>by
  obtain ⟨u,cs',rfl,h1,h'⟩:=h
  exact ⟨u,cs',rfl,hi _ _ h1,LiOwn.imp h' hi⟩
theorem LiOwn.snoc {base:Nat} {w:World}:∀ {l:List (List Int)} {cs:List Value} {u:Value} {x:List Int},LiOwn base w l cs→w.ownsRow base 3 1 u x.length (ints x)→LiOwn base w (l++[x]) (cs++[u])
 |[],cs,u,x,h,hu=>by simp only [LiOwn] at h;subst h;exact ⟨u,[],rfl,hu,rfl⟩
 |y::r,cs,u,x,h,hu=>by
  obtain ⟨v,cs',rfl,h1,h'⟩:=h
  exact ⟨v,cs'++[u],rfl,h1,LiOwn.snoc h' hu⟩
theorem LiOwn.lis {base:Nat} {w:World}:∀ {l:List (List Int)} {cs:List Value},LiOwn base w l cs→LisC w w.heap.size l cs
 |[],cs,h=>by simp only [LiOwn] at h;subst h;exact LisC.nil
 |x::r,cs,h=>by
  obtain ⟨u,cs',rfl,h1,h'⟩:=h
  obtain ⟨A,c,rfl,_,hr⟩:=owned_row h1
  have ih:=LiOwn.lis h'
  refine ⟨by simp [ih.1],fun i hi=> ?_⟩
  cases i with
  |zero=>exact ⟨A,c,rfl,hr⟩
  |succ i=>
   obtain ⟨A',c',k1,k2⟩:=ih.2 i (by simpa using hi)
   exact ⟨A',c',by simpa using k1,by simpa using k2⟩
theorem OwnLi.lists {base:Nat} {w:World} {v:Value} {l:List (List Int)} (h:OwnLi base w v l):∃ A c,v= .slice A l.length c∧l.length≤c∧Lis w w.heap.size A l:=by
 obtain ⟨cs,h1,h2⟩:=h
 obtain ⟨A,c,rfl,hc,hr⟩:=owned_row h1
 exact ⟨A,c,rfl,hc,cs,h2.lis,hr⟩
theorem OwnLi.below {base:Nat} {w w':World} {v:Value} {l:List (List Int)} (h:OwnLi base w v l) (hb:Below w.heap.size w w'):OwnLi base w' v l:=by
 obtain ⟨cs,h1,h2⟩:=h
 exact ⟨cs,owned_below h1 hb,h2.imp fun _ _ h=>owned_below h hb⟩
theorem li_grown {base:Nat} {w w':World} {u v:Value} {x:List Int} {n:Nat} {ys:List Value} (h:w.ownsRow base 3 1 u x.length (ints x)) (hv:w.ownsRow base 88 1 v n ys) (hg:w.grownBy w' v.ownBlock):w'.ownsRow base 3 1 u x.length (ints x):=
 owned_keep h fun g hu=>hg.block g (h.lt g hu).2 fun e=>owned_apart2 hv h (by decide) hu e.symm
theorem OwnLi.push {base:Nat} {w w':World} {v v' u:Value} {l:List (List Int)} {x:List Int} {cs:List Value} (h1:w.ownsRow base 88 1 v l.length cs) (h2:LiOwn base w l cs) (hu:w.ownsRow base 3 1 u x.length (ints x))
  (hown:w'.ownsRow base 88 1 v' (l.length+1) (cs++[u])) (hg:w.grownBy w' v.ownBlock):OwnLi base w' v' (l++[x]):=by
 refine ⟨_,?_,(h2.imp fun _ _ h=>li_grown h h1 hg).snoc (li_grown hu h1 hg)⟩
 rw [List.length_append,List.length_singleton]
 exact hown
theorem info_ints:(Tryz.prog.info? 88).map (fun i=>(i.zero,i.size,i.bytes))=some (some (.slice none 0 0),1,24):=by kernel_rfl
end Go.Proofs.YtldcadpemnpbmaaGreatDoor
set_option linter.unusedVariables false
namespace Go.Proofs.YtldcadpemnpbmaaGreatDoor
open Go Go.RowKit
def plsC (gs:List (List Po)) (is:Nat→Int) (k:Nat):List (List Int):=(List.range k).map fun j=>placesC (gs.getD j []) (is j)
theorem plsC_succ (gs:List (List Po)) (is:Nat→Int) {k:Nat} (hk:k<gs.length):plsC gs is (k+1)=plsC gs is k++[placesC gs[k] (is k)]:=by
 unfold plsC
 rw [List.range_succ,List.map_append,List.map_singleton,List.getD_eq_getElem?_getD,List.getElem?_eq_getElem hk]
 rfl
theorem plsC_length (gs:List (List Po)) (is:Nat→Int) (k:Nat):(plsC gs is k).length=k:=by simp [plsC]
theorem places_lenM:∀ {l:List Int} {x:Int},placesOn x l=true→x<2147483648→x+(l.length:Int)<2147483648
 |[],x,_,h=>by simpa using h
 |q::r,x,h,_=>by
  simp only [placesOn,Bool.and_eq_true,decide_eq_true_eq] at h
  obtain ⟨⟨h1,h2⟩,h3⟩:=h
  have :=places_lenM h3 h2
  simp only [List.length_cons]
  omega
theorem placesC_small {g:List Po} (h:mayB' (-1) g=true) (i:Int):(placesC g i).length≤2147483648:=by
 by_cases hi:i<0∨(g.length:Int)≤i
 ·rw [placesC_none hi];simp
 ·obtain ⟨k,rfl⟩:=Int.eq_ofNat_of_zero_le (show 0≤i by omega)
  have hk:k<g.length:=by omega
  rw [placesC_at hk]
  have hp:placesB (g.getD k (0,[])).2=true:=by
   have key:∀ (l:List Po) (x:Int),mayB' x l=true→∀ q∈l,placesB q.2=true:=by
    intro l
    induction l with
    |nil=>intro _ _ q hq;cases hq
    |cons a r ih=>
     intro x h q hq
     obtain ⟨_,_,h3,h4⟩:=mayB'_cons.1 h
     rcases List.mem_cons.1 hq with rfl|hq
     ·exact h3
     ·exact ih _ h4 q hq
   exact key g _ h _ (by rw [List.getD_eq_getElem?_getD,List.getElem?_eq_getElem hk];exact List.getElem_mem hk)
  rw [placesB_on,Bool.and_eq_true] at hp
  have :=places_lenM hp.1 (by omega)
  omega
def PlcRel (gs:List (List Po)) (is:Nat→Int) (n:Nat) (w:World) (va vi:Value) (wr:World):Prop:=∃ k:Nat,k≤n∧vi= .int .i64 (k:Int)∧OwnLi w.heap.size wr va (plsC gs is k)∧Below w.heap.size w wr
set_option maxHeartbeats 8000000 in
set_option maxRecDepth 100000 in
theorem match_places {p:Prop × Nat} (hp:p.1) (A:Option Addr) (n c:Nat) (Cs:List Nat) (gs:List (List Po)) (is:Nat→Int) (w:World) (hrow:RowT6 247 w A (ptrsC Cs)) (hn:Cs.length=n) (hcur:CursAt p Cs gs is w) (hm:n≤1048576):
  Calls Tryz.prog 184 #[.slice A n c] w fun e w'=>∃ v,e= .returned v∧OwnLi w.heap.size w' v (plsC gs is n)∧Below w.heap.size w w':=by
 obtain ⟨j0,hj0,jz0,jz1,jz2⟩:=info_parts info_ints
 obtain ⟨w1,hrun,hown1,hgrow1⟩:=run_make_own (P:=Tryz.prog) w w.heap.size 111 88 j0 _ 1 Tryz.underlying111 hj0 jz0 jz1 .i64 .i64 n (by rw [jz2];omega) (by unfold maxLen;omega) (Nat.le_refl _)
 have hb1:Below w.heap.size w w1:=(Below.refl _ w).grown hgrow1 (Nat.le_refl _) (fun k hk=>by cases hk)
 have HREL:Hid (PlcRel gs is n w (.slice (some ⟨w.heap.size,0,none⟩) 0 n) (.int .i64 ((0:Nat):Int)) w1):=Lib.hid ⟨0,Nat.zero_le _,rfl,⟨[],hown1,rfl⟩,hb1⟩
 have HROW:=Lib.hid hrow
 have HN:=Lib.hid hn
 have HCUR:=Lib.hid hcur
 have hlen:gs.length=n:=by rw [← hcur.len];exact hn
 have HLEN:=Lib.hid hlen
 clear hrow hn hcur hlen hown1 hgrow1 hb1
 go_enter Tryz.func184,Tryz.ntmps184
 go_wp2
 go_loopw [3,11] (PlcRel gs is n w) (fun _ i _=>n-(intOf i).toNat)
 case atStart=>exact HREL.out
 case round=>
  obtain ⟨k,hk,rfl,hown,hbw⟩:=hrel
  have hown0:=hown
  obtain ⟨Av,cv,rfl, -, -⟩:=hown0.lists
  rw [plsC_length] at hown ⊢
  by_cases hlt:k<n
  ·have hkC:k<Cs.length:=by rw [HN.out];exact hlt
   have hkg:k<gs.length:=by rw [HLEN.out];exact hlt
   obtain ⟨b1,o1,rfl,hc1⟩:=ptrC_at (ptrC_below HROW.out (hbw.mono (Nat.le_refl _))) hkC
   have hat:=(HCUR.out.at_ k hkC hkg).below hbw
   have HPL:=Lib.hid (cur_PlacesO hp Cs[k] gs[k] (is k) wr hat (placesC_small hat.good.may _))
   have hsu:=plsC_succ gs is hkg
   obtain ⟨C,hC⟩:∃ C,C=Cs[k]:=⟨_,rfl⟩
   rw [← hC] at hc1 HPL
   obtain ⟨ps,hps⟩:∃ ps,ps=placesC gs[k] (is k):=⟨_,rfl⟩
   rw [← hps] at HPL hsu
   have HSU:=Lib.hid hsu
   have HO:=Lib.hid hown
   have HBW:=Lib.hid hbw
   have hkn:(k:Int)<(n:Int):=by omega
   have hsz:=hbw.size
   have hpl:=plsC_length gs is k
   obtain ⟨L,hL⟩:∃ L,L=plsC gs is k:=⟨_,rfl⟩
   rw [← hL] at HSU HO hpl
   have HPLN:=Lib.hid hpl
   obtain ⟨pl,hpl2⟩:∃ pl,pl=ps.length:=⟨_,rfl⟩
   have HP2:=Lib.hid hpl2
   clear hkC hkg hat hsu hC hps hown hown0 hbw hL hpl hpl2
   go_wp2_with (go_at_call 237;refine HPL.out.mono ?_)
   rintro e w2 ⟨v2,rfl,ho2,hb2⟩
   have ho3:=owned_low ho2 hsz
   obtain ⟨Au,cu,rfl, -, -⟩:=owned_row ho2
   rw [← HP2.out] at ho3 ⊢
   obtain ⟨csg,hog,hlg⟩:=HO.out.below hb2
   rw [HPLN.out] at hog
   have HOW:=Lib.hid hog
   have HLG:=Lib.hid hlg
   have HOU:=Lib.hid ho3
   have HB2:Hid (Below w.heap.size w w2):=Lib.hid (HBW.out.trans (hb2.mono hsz))
   have hsz2:=HB2.out.size
   clear ho2 ho3 hog hlg hb2
   go_wp2_with (at_builtin;refine wpList_append_own _ rfl (.tmp 15) (.tmp 18) 111 rfl w.heap.size 88 j0 _ 1 24 Tryz.underlying111 hj0 jz0 jz1 jz2 rfl (by omega) _ k csg rfl (HOW.out.alloc _) ⟨w2.heap.size,0,none⟩ 1 1 [.slice Au pl cu] rfl rfl (news_at w2 [.slice Au pl cu] 88) (by intro u hu;simp at hu;subst hu;rfl) (by unfold maxLen;omega) (by omega) (by simp;omega) ?_)
   intro v6 w6 hown6 hg6 _
   have hbA:Below w2.heap.size w2 (w2.alloc (.cells #[.slice Au pl cu] 88)):=(Below.refl _ _).alloc (Nat.le_refl _) _
   have hli:OwnLi w.heap.size w6 v6 (L++[ps]):=by
    refine OwnLi.push (w:=w2.alloc (.cells #[.slice Au pl cu] 88)) (v:= .slice Av k cv) (u:= .slice Au pl cu) (by rw [HPLN.out];exact HOW.out.alloc _) (HLG.out.imp fun _ _ h=>owned_below h hbA) (by rw [← HP2.out];exact owned_below HOU.out hbA) (by rw [HPLN.out];exact hown6) hg6
   have hb6:Below w.heap.size w2 w6:=((Below.refl _ w2).alloc (by omega) _).grown hg6 (by simp;omega) fun i hi=>(HOW.out.lt i hi).1
   have HF:Hid (PlcRel gs is n w v6 (.int .i64 ((k:Int)+1)) w6):=Lib.hid ⟨k+1,by omega,rfl,by rw [HSU.out];exact hli,HB2.out.trans hb6⟩
   clear hown6 hg6 hli hb6 hbA
   go_wp2
   go_roundw
   case rel=>exact HF.out
   case measure=>simp [intOf];omega
  ·obtain rfl:k=n:=by omega
   have HO:=Lib.hid hown
   clear hown hown0 hlt
   go_wp2
   go_ret
   exact ⟨_,rfl,HO.out,hbw⟩
end Go.Proofs.YtldcadpemnpbmaaGreatDoor
set_option linter.unusedVariables false
namespace Go.Proofs.YtldcadpemnpbmaaGreatDoor
open Go Go.RowKit
def SideRel (s:List Int) (ls:List (List Int)) (w:World) (vn vi:Value) (wr:World):Prop:=
 ∃ k:Nat,k≤s.length∧vi= .int .i64 (k:Int)∧vn= .int .i64 (((s.take k).countP (followF ls):Nat):Int)∧Below w.heap.size w wr
theorem count_take (p:Int→Bool) {s:List Int} {k:Nat} (hk:k<s.length):(s.take (k+1)).countP p=(s.take k).countP p+if p s[k]=true then 1 else 0:=by
 rw [List.take_succ_eq_append_getElem hk,List.countP_append,List.countP_singleton]
set_option maxHeartbeats 4000000 in
set_option maxRecDepth 100000 in
theorem match_Side (A:Option Addr) (n c:Nat) (l:List (List Int)) (w:World) (h:Lis w w.heap.size A l) (hn:l.length=n) (hc:n≤c) (hl:RiseL l) (hm:n≤1099511627776):
  Calls Tryz.prog 57 #[.slice A n c] w fun e w'=>e= .returned (.int .i64 ((sideF l:Nat):Int))∧Below w.heap.size w w':=by
 rcases l with _|⟨s,ls⟩
 ·subst hn
  rw [List.length_nil]
  have hv:((sideF []:Nat):Int)=0:=rfl
  rw [hv]
  clear h hv hc hm hl
  go_enter Tryz.func57,Tryz.ntmps57
  go_wp2
  go_ret
  exact ⟨rfl,Below.refl _ _⟩
 ·obtain ⟨b0,o0,A0,c0,rfl,hb0,hc0,hr0⟩:=h.at_ (i:=0) (by simp)
  have hs:=hl s (List.mem_cons_self ..)
  have hls:RiseL ls:=fun x hx=>hl x (List.mem_cons_of_mem _ hx)
  rw [zB] at hc0 hr0
  rw [Nat.add_zero] at hc0
  obtain ⟨AN,hAN⟩:∃ AN:Addr,(if c=1 then some (⟨b0,o0,none⟩:Addr) else some ⟨b0,o0+1,none⟩)=some AN:=by split<;>exact ⟨_,rfl⟩
  have hnl:ls.length+1=n:=by rw [← hn];rfl
  have hn1:n-1=ls.length:=by omega
  have HT:=Lib.hid (h.tail (by omega) hAN)
  have HF:Hid (∀ w2 (x:Int),Below w.heap.size w w2→x∈s→Calls Tryz.prog 120 #[.slice (some AN) (n-1) (c-1),.int .i64 x] w2 fun e w'=>e= .returned (.bool (followF ls x))∧Below w2.heap.size w2 w'):=Lib.hid fun w2 x hb hx=>
   match_follow (some AN) (n-1) (c-1) ls x w2 (HT.out.later hb) hn1.symm hls (hs.2.2 x hx).1 (hs.2.2 x hx).2 (by omega)
  obtain ⟨m,hms⟩:∃ m,m=s.length:=⟨_,rfl⟩
  have hm1:m≤1099511627776:=by rw [hms];exact hs.1
  rw [← hms] at hc0
  have hv:sideF (s::ls)=s.countP (followF ls):=rfl
  rw [hv]
  have HREL:Hid (SideRel s ls w (.int .i64 0) (.int .i64 ((0:Nat):Int)) w):=Lib.hid ⟨0,Nat.zero_le _,rfl,by simp,Below.refl _ _⟩
  have HR:=Lib.hid hr0
  have HM:=Lib.hid hms
  have HC:Hid (w.cell? ⟨b0,o0,none⟩=some (.slice A0 m c0)):=Lib.hid hc0
  have h0n:((n:Int)==0)=false:=beq_eq_false_iff_ne.2 (by omega)
  have h0n':(0:Int)<(n:Int):=by omega
  have h1n:(1:Int)≤(n:Int):=by omega
  have h0n2:0<n:=by omega
  clear h hl hls hs hr0 hms hv hn hnl hn1
  go_enter Tryz.func57,Tryz.ntmps57
  go_wp2
  go_loopw [3,13] (fun vn vi wr=>SideRel s ls w vn vi wr) (fun _ i _=>m-(intOf i).toNat)
  case atStart=>exact HREL.out
  case round=>
   obtain ⟨k,hk,rfl,rfl,hbw⟩:=hrel
   rw [← HM.out] at hk
   by_cases hlt:k<m
   ·have hkl:k<s.length:=by rw [← HM.out];exact hlt
    obtain ⟨b1,o1,rfl,_,hc1⟩:=row_int (HR.out.below hbw) hkl
    have hct:=count_take (followF ls) hkl
    have HFX:=Lib.hid (HF.out wr s[k] hbw (List.getElem_mem hkl))
    obtain ⟨x,hx⟩:∃ x,x=s[k]:=⟨_,rfl⟩
    rw [← hx] at hc1 hct HFX
    have hle:(s.take k).countP (followF ls)≤k:=Nat.le_trans List.countP_le_length (by simp;omega)
    obtain ⟨q,hq⟩:∃ q,q=(s.take k).countP (followF ls):=⟨_,rfl⟩
    rw [← hq] at hct hle ⊢
    have hkm:(k:Int)<(m:Int):=by omega
    obtain ⟨f,hf⟩:∃ f,f=followF ls x:=⟨_,rfl⟩
    rw [← hf] at hct HFX
    have HCT:=Lib.hid hct
    have HKL:=Lib.hid hkl
    have HBW:=Lib.hid hbw
    clear hct hx hq hf hkl hbw
    cases f with
    |true=>
     go_wp2_with (go_at_call 120;refine HFX.out.mono ?_;rintro e w2 ⟨rfl,hb2⟩)
     go_roundw
     case rel=>exact ⟨k+1,HKL.out,by go_num,by rw [HCT.out];simp,HBW.out.trans (hb2.mono HBW.out.size)⟩
     case measure=>simp [intOf];omega
    |false=>
     go_wp2_with (go_at_call 120;refine HFX.out.mono ?_;rintro e w2 ⟨rfl,hb2⟩)
     go_roundw
     case rel=>exact ⟨k+1,HKL.out,by go_num,by rw [HCT.out];simp,HBW.out.trans (hb2.mono HBW.out.size)⟩
     case measure=>simp [intOf];omega
   ·have hkm:k=s.length:=by rw [← HM.out];omega
    rw [hkm,List.take_length]
    obtain ⟨q,hq⟩:∃ q,q=s.countP (followF ls):=⟨_,rfl⟩
    rw [← hq]
    have hlt':¬ ((s.length:Nat):Int)<(m:Int):=by rw [HM.out];omega
    have HQ:=Lib.hid hq
    clear hq
    go_wp2
    go_ret
    exact ⟨by rw [← HQ.out];rfl,hbw⟩
end Go.Proofs.YtldcadpemnpbmaaGreatDoor
set_option linter.unusedVariables false
namespace Go.Proofs.YtldcadpemnpbmaaGreatDoor
open Go Go.RowKit
def foC:List Fo→List Value
 |[]=>[]
 |x::l=> .int .i64 (x.1:Int):: .int .i64 x.2::foC l
theorem foC_length:∀ l:List Fo,(foC l).length=l.length*2
 |[]=>rfl
 |x::l=>by simp only [foC,List.length_cons,foC_length l];omega
theorem foC_append:∀ a b:List Fo,foC (a++b)=foC a++foC b
 |[],_=>rfl
 |x::a,b=>by simp [foC,foC_append a b]
theorem foC_at:∀ {l:List Fo} {k:Nat} (hk:k<l.length),(foC l)[k*2]?=some (.int .i64 (l[k].1:Int))∧(foC l)[k*2+1]?=some (.int .i64 l[k].2)
 |[],_,h=>by simp at h
 |x::l,0,_=>⟨rfl,rfl⟩
 |x::l,k+1,h=>by
  have :=foC_at (l:=l) (k:=k) (by simpa using h)
  rw [show (k+1)*2=k*2+1+1 by omega]
  simpa [foC] using this
theorem info_found:(Tryz.prog.info? 53).map (fun i=>(i.zero,i.size,i.bytes))=some (some (.agg #[.int .i64 0,.int .i64 0]),2,16):=by kernel_rfl
def FoRow (w:World) (A:Option Addr) (l:List Fo):Prop:=Row w w.heap.size A (foC l)
theorem FoRow.later {w w':World} {A:Option Addr} {l:List Fo} (h:FoRow w A l) (hb:Below w.heap.size w w'):FoRow w' A l:=Row.more (Row.below h hb) hb.size
theorem FoRow.at_ {w:World} {A:Option Addr} {l:List Fo} (h:FoRow w A l) {k:Nat} (hk:k<l.length):
  ∃ b off,A=some ⟨b,off,none⟩∧b<w.heap.size∧w.cell? ⟨b,off+k*2,none⟩=some (.int .i64 (l[k].1:Int))∧w.cell? ⟨b,off+k*2+1,none⟩=some (.int .i64 l[k].2):=by
 obtain ⟨b,off,rfl,hb,hc⟩:=Row.at_ h (by rw [foC_length];omega)
 obtain ⟨g1,g2⟩:=foC_at hk
 exact ⟨b,off,rfl,hb,hc _ _ g1,by have :=hc _ _ g2;rwa [← Nat.add_assoc] at this⟩
theorem FoRow.cons {w:World} {A:Option Addr} {x:Fo} {l:List Fo} (h:FoRow w A (x::l)):
  ∃ b off,A=some ⟨b,off,none⟩∧b<w.heap.size∧w.cell? ⟨b,off,none⟩=some (.int .i64 (x.1:Int))∧w.cell? ⟨b,off+1,none⟩=some (.int .i64 x.2)∧FoRow w (some ⟨b,off+2,none⟩) l:=by
 obtain ⟨b,off,rfl,hb,hc⟩:=Row.at_ h (by simp [foC])
 refine ⟨b,off,rfl,hb,hc 0 _ rfl,hc 1 _ rfl,.inr ⟨b,off+2,rfl,hb,fun j u hu=> ?_⟩⟩
 have :=hc (j+2) u (by simpa [foC] using hu)
 rwa [show off+2+j=off+(j+2) by omega]
def OwnFo (base:Nat) (w:World) (v:Value) (l:List Fo):Prop:=w.ownsRow base 53 2 v l.length (foC l)
theorem OwnFo.nil {base:Nat} {w:World}:OwnFo base w (.slice none 0 0) []:=World.ownsRow_nil _ _ _ _
theorem OwnFo.low {base b:Nat} {w:World} {v:Value} {l:List Fo} (h:OwnFo base w v l) (hb:b≤base):OwnFo b w v l:=owned_low h hb
def InFo (w:World) (v:Value) (l:List Fo):Prop:=∃ A c,v= .slice A l.length c∧l.length≤c∧c≤maxLen∧FoRow w A l
theorem InFo.later {w w':World} {v:Value} {l:List Fo} (h:InFo w v l) (hb:Below w.heap.size w w'):InFo w' v l:=by
 obtain ⟨A,c,h1,h2,h3,h4⟩:=h
 exact ⟨A,c,h1,h2,h3,h4.later hb⟩
theorem OwnFo.in_ {base:Nat} {w:World} {v:Value} {l:List Fo} (h:OwnFo base w v l):InFo w v l:=by
 obtain ⟨A,c,rfl,hc,hr⟩:=owned_row h
 refine ⟨A,c,rfl,hc,?_,hr⟩
 rcases h.2 with ⟨hv,_⟩|⟨g,cap,cur,hv,_,_,_,hcp,_⟩
 ·injection hv with _ _ e
  rw [e]
  exact Nat.zero_le _
 ·injection hv with _ _ e
  rw [e]
  exact hcp
def InFoB (w:World) (B:Nat) (v:Value) (l:List Fo):Prop:=∃ A c,v= .slice A l.length c∧l.length≤c∧c≤maxLen∧Row w B A (foC l)
theorem InFoB.below {w w':World} {B:Nat} {v:Value} {l:List Fo} (h:InFoB w B v l) (hb:Below B w w'):InFoB w' B v l:=by
 obtain ⟨A,c,h1,h2,h3,h4⟩:=h
 exact ⟨A,c,h1,h2,h3,Row.below h4 hb⟩
theorem InFoB.in_ {w:World} {B:Nat} {v:Value} {l:List Fo} (h:InFoB w B v l) (hb:B≤w.heap.size):InFo w v l:=by
 obtain ⟨A,c,h1,h2,h3,h4⟩:=h
 exact ⟨A,c,h1,h2,h3,Row.more h4 hb⟩
theorem InFo.b {w:World} {v:Value} {l:List Fo} (h:InFo w v l):InFoB w w.heap.size v l:=h
theorem fo_next {w:World} {B b o c:Nat} {x:Fo} {l:List Fo} {AN:Addr} (h:Row w B (some ⟨b,o,none⟩) (foC (x::l))) (hc:l.length+1≤c) (hA:(if c=1 then some (⟨b,o,none⟩:Addr) else some ⟨b,o+2,none⟩)=some AN):Row w B (some AN) (foC l):=by
 by_cases e:c=1
 ·have :l=[]:=List.eq_nil_of_length_eq_zero (by omega)
  rw [this]
  exact .inl rfl
 ·rw [if_neg e] at hA
  injection hA with hA
  subst hA
  rcases h with h|⟨b',o',e',hb,hc⟩
  ·cases h
  ·injection e' with e'
   injection e' with e1 e2
   subst e1 e2
   refine .inr ⟨b,o+2,rfl,hb,fun i u hu=> ?_⟩
   have :=hc (i+2) u (by simpa [foC] using hu)
   rwa [show o+(i+2)=o+2+i by omega] at this
theorem fo_head {w:World} {B:Nat} {A:Option Addr} {x:Fo} {l:List Fo} (h:Row w B A (foC (x::l))):
  ∃ b off,A=some ⟨b,off,none⟩∧b<B∧w.cell? ⟨b,off,none⟩=some (.int .i64 (x.1:Int))∧w.cell? ⟨b,off+1,none⟩=some (.int .i64 x.2):=by
 obtain ⟨b,off,rfl,hb,hc⟩:=Row.at_ h (by simp [foC])
 exact ⟨b,off,rfl,hb,hc 0 _ rfl,hc 1 _ rfl⟩
def lenF (v:Value):Nat:=match v with| .slice _ n _=>n|_=>0
def FewF (l:List Fo):Prop:=l.length≤1073741824∧∀ x∈l, -1152921504606846976≤x.2∧x.2≤1152921504606846976
theorem FewF.tail {x:Fo} {l:List Fo} (h:FewF (x::l)):FewF l:=⟨by have :=h.1;rw [List.length_cons] at this;omega,fun y hy=>h.2 y (List.mem_cons_of_mem _ hy)⟩
theorem FewF.rest {a b:List Fo} (h:FewF a):FewF (restF a b):=by
 unfold restF
 split
 ·rcases a with _|⟨x,a⟩
  ·exact h
  ·exact h.tail
 ·exact h
def GaveFo (l:List Fo) (w:World) (e:Ending) (w':World):Prop:=∃ v,e= .returned v∧OwnFo w.heap.size w' v l∧Below w.heap.size w w'
end Go.Proofs.YtldcadpemnpbmaaGreatDoor
set_option linter.unusedVariables false
namespace Go.Proofs.YtldcadpemnpbmaaGreatDoor
open Go Go.RowKit
set_option maxHeartbeats 1000000 in
set_option maxRecDepth 100000 in
theorem match_ahead (v u:Value) (a b:List Fo) (w:World) (ha:InFo w v a) (hb:InFo w u b):Calls Tryz.prog 240 #[v,u] w fun e w'=>e= .returned (.bool (aheadF a b))∧Below w.heap.size w w':=by
 obtain ⟨A,c,rfl,hac,hcm,hra⟩:=ha
 obtain ⟨A2,c2,rfl,hbc,hcm2,hrb⟩:=hb
 rcases a with _|⟨x,a⟩
 ·have hv:aheadF [] b=false:=rfl
  rw [hv]
  obtain ⟨m,hm⟩:∃ m,m=b.length:=⟨_,rfl⟩
  rw [← hm]
  rw [List.length_nil]
  clear hra hrb hac hbc hm hv hcm hcm2
  go_enter Tryz.func240,Tryz.ntmps240
  go_wp2
  go_quiet (fail)
  go_wp2
  go_ret
  exact ⟨rfl,⟨rfl,rfl,rfl,Nat.le_refl _,fun _ _=>rfl⟩⟩
 ·obtain ⟨n,hn⟩:∃ n,n=(x::a).length:=⟨_,rfl⟩
  rw [← hn]
  have hn0:0<n:=by rw [hn];simp
  have d0:decide ((n:Int)>0)=true:=decide_eq_true (by omega)
  have d0':decide ((0:Int)<(n:Int))=true:=decide_eq_true (by omega)
  rcases b with _|⟨y,b⟩
  ·have hv:aheadF (x::a) []=true:=rfl
   rw [hv,List.length_nil]
   clear hra hrb hac hbc hn hv hcm hcm2
   go_enter Tryz.func240,Tryz.ntmps240
   go_wp2
   go_quiet (fail)
   go_wp2
   go_ret
   exact ⟨rfl,⟨rfl,rfl,rfl,Nat.le_refl _,fun _ _=>rfl⟩⟩
  ·obtain ⟨m,hm⟩:∃ m,m=(y::b).length:=⟨_,rfl⟩
   rw [← hm]
   have hm0:((m:Int)==0)=false:=beq_eq_false_iff_ne.2 (by rw [hm];simp;omega)
   have hm1:0<m:=by rw [hm];simp
   obtain ⟨b1,o1,rfl,_,g1,_,_⟩:=FoRow.cons hra
   obtain ⟨b2,o2,rfl,_,k1,_,_⟩:=FoRow.cons hrb
   have hv:aheadF (x::a) (y::b)=decide ((x.1:Int)≤(y.1:Int)):=by simp [aheadF]
   rw [hv]
   obtain ⟨p,hp⟩:∃ p:Int,p=(x.1:Int):=⟨_,rfl⟩
   obtain ⟨q,hq⟩:∃ q:Int,q=(y.1:Int):=⟨_,rfl⟩
   rw [← hp] at g1 ⊢
   rw [← hq] at k1 ⊢
   clear hra hrb hac hbc hn hv hcm hcm2 hm hp hq
   go_enter Tryz.func240,Tryz.ntmps240
   go_wp2
   go_quiet (fail)
   go_wp2
   go_ret
   exact ⟨rfl,⟨rfl,rfl,rfl,Nat.le_refl _,fun _ _=>rfl⟩⟩
end Go.Proofs.YtldcadpemnpbmaaGreatDoor
set_option linter.unusedVariables false
namespace Go.Proofs.YtldcadpemnpbmaaGreatDoor
open Go Go.RowKit
abbrev prV (p:Pr):Value:= .agg #[.int .i64 (p.1.1:Int),.int .i64 p.1.2,.bool p.2.1,.bool p.2.2]
def Keeps (K:Nat) (f:Bool→Bool→Bool):Prop:=(∀ args w,(callFunc K args).run Tryz.prog w= .ok (.enter K args) w)∧∀ (p:Pr) (w:World),Calls Tryz.prog K #[prV p] w fun e w'=>e= .returned (.bool (f p.2.1 p.2.2))∧Below w.heap.size w w'
set_option maxHeartbeats 1000000 in
set_option maxRecDepth 100000 in
theorem match_and1:Keeps 119 andB:=by
 refine ⟨enters_of Tryz.func119 (by kernel_rfl) rfl,?_⟩
 rintro ⟨⟨d,s⟩,l,r⟩ w
 obtain ⟨z,hz⟩:∃ z:Int,z=(d:Int):=⟨_,rfl⟩
 have hb:Below w.heap.size w (w.alloc (.cells #[.int .i64 z,.int .i64 s,.bool l,.bool r] 181)):=(Below.refl _ w).alloc (Nat.le_refl _) _
 have HB:=Lib.hid hb
 unfold prV
 simp only
 rw [← hz]
 clear hb hz
 cases l with
 |false=>
  go_enter Tryz.func119,Tryz.ntmps119
  go_wp2
  go_ret
  exact ⟨rfl,HB.out⟩
 |true=>
  go_enter Tryz.func119,Tryz.ntmps119
  go_wp2
  go_ret
  exact ⟨by cases r<;>rfl,HB.out⟩
set_option maxHeartbeats 1000000 in
set_option maxRecDepth 100000 in
theorem match_or1:Keeps 185 orB:=by
 refine ⟨enters_of Tryz.func185 (by kernel_rfl) rfl,?_⟩
 rintro ⟨⟨d,s⟩,l,r⟩ w
 obtain ⟨z,hz⟩:∃ z:Int,z=(d:Int):=⟨_,rfl⟩
 have hb:Below w.heap.size w (w.alloc (.cells #[.int .i64 z,.int .i64 s,.bool l,.bool r] 181)):=(Below.refl _ w).alloc (Nat.le_refl _) _
 have HB:=Lib.hid hb
 unfold prV
 simp only
 rw [← hz]
 clear hb hz
 cases l with
 |false=>
  go_enter Tryz.func185,Tryz.ntmps185
  go_wp2
  go_ret
  exact ⟨by cases r<;>rfl,HB.out⟩
 |true=>
  go_enter Tryz.func185,Tryz.ntmps185
  go_wp2
  go_ret
  exact ⟨rfl,HB.out⟩
set_option maxHeartbeats 1000000 in
set_option maxRecDepth 100000 in
theorem match_not1:Keeps 187 notB':=by
 refine ⟨enters_of Tryz.func187 (by kernel_rfl) rfl,?_⟩
 rintro ⟨⟨d,s⟩,l,r⟩ w
 obtain ⟨z,hz⟩:∃ z:Int,z=(d:Int):=⟨_,rfl⟩
 have hb:Below w.heap.size w (w.alloc (.cells #[.int .i64 z,.int .i64 s,.bool l,.bool r] 181)):=(Below.refl _ w).alloc (Nat.le_refl _) _
 have HB:=Lib.hid hb
 unfold prV
 simp only
 rw [← hz]
 clear hb hz
 cases l with
 |false=>
  go_enter Tryz.func187,Tryz.ntmps187
  go_wp2
  go_ret
  exact ⟨rfl,HB.out⟩
 |true=>
  go_enter Tryz.func187,Tryz.ntmps187
  go_wp2
  go_ret
  exact ⟨by cases r<;>rfl,HB.out⟩
end Go.Proofs.YtldcadpemnpbmaaGreatDoor
