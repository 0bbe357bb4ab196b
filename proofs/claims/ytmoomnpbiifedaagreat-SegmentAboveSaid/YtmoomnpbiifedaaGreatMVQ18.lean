import Derived.Test.YtmoomnpbiifedaaGreatMVQ12
import Derived.Test.YtmoomnpbiifedaaGreatMVQ05
import Derived.Test.YtmoomnpbiifedaaGreatMVQ17
import Derived.Test.YtmoomnpbiifedaaGreatMVQ10
import Derived.Test.YtmoomnpbiifedaaGreatMVQ08
import Derived.Test.YtmoomnpbiifedaaGreatMVQ04
import Derived.Test.YtmoomnpbiifedaaGreatMVQ16
import Derived.Test.YtmoomnpbiifedaaGreatMVQ01
import Derived.Shelf.Slices.SearchI
import Derived.Shelf.Slices.Empties
import Derived.Test.YtmoomnpbiifedaaGreatMVQ11
import Derived.Test.YtmoomnpbiifedaaGreatMVQ03
import Derived.Deep.SlicePairs
import Derived.ProofKit
import Derived.OpenShut
set_option linter.unusedVariables false
namespace Go.Proofs.YtmoomnpbiifedaaGreat
open Go Go.RowKit
theorem goodsE_add (l:List Dc) (most:Nat) (start step:Int) (hm:most≤100) (h0:0≤start) (h1:1≤step):AddOk (goodsE l most start step) where
 may q hq:=by
  obtain ⟨d,hd⟩:=goodsE_good l most start step q hq
  rw [hd]
  exact ⟨goodD_may d,fun f hf=>⟨Nat.le_trans (goodUp_name d _ f hf) (by omega),Nat.le_trans (goodUp_text d _ f hf) (by omega)⟩⟩
 rise:=by
  have hat:∀ (i:Nat) (h:i<((goodsE l most start step).map (·.2.2)).length),((goodsE l most start step).map (·.2.2))[i]=start+step*(i:Int):=fun i h=>by
   rw [List.getElem_map]
   exact goodsE_at (by simpa using h)
  refine rises_of ?_ ?_
  ·refine List.pairwise_iff_getElem.2 fun i j hi hj hij=> ?_
   rw [hat i hi,hat j hj]
   have :step*(i:Int)<step*(j:Int):=Int.mul_lt_mul_of_pos_left (by omega) (by omega)
   omega
  ·intro a ha
   obtain ⟨i,hi,rfl⟩:=List.getElem_of_mem ha
   rw [hat i hi]
   have :0≤step*(i:Int):=Int.mul_nonneg (by omega) (by omega)
   omega
 few:=by rw [goodsE_length];omega
theorem OwnES.small {S:Nat→Prop} {w:World} {v:Value} {l:List En} (h:OwnES S w v l):OwnES (fun k=>k<w.heap.size) w v l:=by
 obtain ⟨cs,h1,h2,h3⟩:=h
 refine ⟨cs,h1,fun k hk=>(h1.lt k hk).2,h3.imp fun A xs hr=>⟨RowP.imp hr.1 fun k hk=> ?_,hr.2⟩⟩
 obtain ⟨_,cs',fr,hh,ho⟩:=hk
 exact ⟨(Array.getElem?_eq_some_iff.1 hh).1,cs',fr,hh,ho⟩
theorem OwnES.later {S:Nat→Prop} {w w':World} {v:Value} {l:List En} (h:OwnES S w v l) (hb:Below w.heap.size w w'):OwnES S w' v l:=h.keeps fun k _ hk=>hb.block k hk
end Go.Proofs.YtmoomnpbiifedaaGreat
set_option linter.unusedVariables false
namespace Go.Proofs.YtmoomnpbiifedaaGreat
open Go Go.RowKit
def litE:En:=(4,[([116],[97])],7)
theorem lit_add:AddOk [litE] where
 may q hq:=by
  rw [List.mem_singleton.1 hq]
  exact ⟨by decide,by decide⟩
 rise:=by decide
 few:=by decide
theorem nil_add:AddOk []:=⟨(fun q hq=>by cases hq),rfl,by decide⟩
theorem lit_posts:(postsPs (buildP [litE]) [116,0,97]).length=1:=by decide
theorem lit_own {w w2 w3:World} {b:Nat} (h2:w2=w.alloc (.cells #[.string ⟨#[116]⟩,.string ⟨#[97]⟩] 99))
  (h3:w3=w2.alloc (.cells #[.int .i64 4,.slice (some ⟨w.heap.size,0,none⟩) 1 1,.int .i64 7] 55)) (hb:b=w2.heap.size):OwnES (fun k=>k<w3.heap.size) w3 (.slice (some ⟨b,0,none⟩) 1 1) [litE]:=by
 have hs:w3.heap.size=w2.heap.size+1:=by rw [h3];simp
 have hs2:w2.heap.size=w.heap.size+1:=by rw [h2];simp
 have hf:w3.ownsRow 0 99 2 (.slice (some ⟨w.heap.size,0,none⟩) 1 1) 1 (flds [(([116],[97]):Fd)]):=by
  refine ⟨by simp [flds],.inr ⟨w.heap.size,1,#[.string ⟨#[116]⟩,.string ⟨#[97]⟩],rfl,Nat.zero_le _,?_,Nat.le_refl _,by decide,rfl,rfl⟩⟩
  rw [h3,Below.heap_alloc w2 _ _ (by omega),h2]
  exact heap_alloc_new w _
 refine ⟨[.int .i64 4,.slice (some ⟨w.heap.size,0,none⟩) 1 1,.int .i64 7],⟨by simp,.inr ⟨b,1,#[.int .i64 4,.slice (some ⟨w.heap.size,0,none⟩) 1 1,.int .i64 7],rfl,Nat.zero_le _,?_,Nat.le_refl _,by decide,rfl,rfl⟩⟩,?_,?_⟩
 ·rw [h3,hb]
  exact heap_alloc_new w2 _
 ·intro k hk
  cases hk
  show b<w3.heap.size
  omega
 ·exact ⟨some ⟨w.heap.size,0,none⟩,1,[],rfl,Nat.le_refl _,by decide,RowF.of_own hf fun k _ hk=>hk,rfl⟩
set_option maxHeartbeats 2000000 in
set_option maxRecDepth 100000 in
theorem law10_lives (w:World):Calls Tryz.prog 15 #[] w fun e w'=>e= .returned (.bool true)∧Below w.heap.size w w':=by
  have HN:Hid (Calls Tryz.prog 16 #[.slice none 0 0] w (MadeSeg (buildP []) w)):=Lib.hid (seg_Build _ _ w OwnES.nil nil_add)
  have HL:Hid (∀ (w1 w2 w3:World) (b:Nat),w2=w1.alloc (.cells #[.string ⟨#[116]⟩,.string ⟨#[97]⟩] 99)→w3=w2.alloc (.cells #[.int .i64 4,.slice (some ⟨w1.heap.size,0,none⟩) 1 1,.int .i64 7] 55)→b=w2.heap.size→
      Below w.heap.size w w1→Calls Tryz.prog 16 #[.slice (some ⟨b,0,none⟩) 1 1] w3 fun e w'=>∃ S,e= .returned (.tuple #[.pointer (some ⟨S,0,none⟩),.int .i64 0])∧SegAt w' S (buildP [litE])∧Below w1.heap.size w1 w'∧Below w.heap.size w w'):=Lib.hid fun w1 w2 w3 b h2 h3 hb hw=>by
    have h12:Below w1.heap.size w1 w2:=by rw [h2];exact (Below.refl _ _).alloc (Nat.le_refl _) _
    have h13:Below w1.heap.size w1 w3:=by rw [h3];exact h12.alloc h12.size _
    refine (seg_Build _ _ w3 (lit_own h2 h3 hb) lit_add).mono ?_
    rintro e w4 ⟨S,h4,h5,h6,h7⟩
    have h14:=h13.trans (h7.mono h13.size)
    exact ⟨S,h4,h5,h14,hw.trans (h14.mono hw.size)⟩
  have HC:Hid (∀ (S:Nat) (w3:World),SegAt w3 S (buildP [litE])→Calls Tryz.prog 45 #[.pointer (some ⟨S,0,none⟩),.agg #[.string ⟨#[116]⟩,.string ⟨#[97]⟩]] w3 fun e w'=>e= .returned (.int .i64 1)∧Below w3.heap.size w3 w'):=Lib.hid fun S w3 hs=>(seg_Count hs ⟨#[116]⟩ ⟨#[97]⟩ (by decide) (by decide)).mono fun e w' h=>⟨by
    rw [h.1,show keyL _ _=[116,0,97] from rfl,lit_posts];rfl,h.2⟩
  have HI:Hid (∀ (S:Nat) (w3:World),SegAt w3 S (buildP [litE])→Calls Tryz.prog 35 #[.pointer (some ⟨S,0,none⟩),.int .i64 0] w3 fun e w'=>e= .returned (.int .i64 4)∧Below w3.heap.size w3 w'):=Lib.hid fun S w3 hs=>seg_Id hs 0
  have HQ:Hid (∀ (S:Nat) (w3:World),SegAt w3 S (buildP [litE])→Calls Tryz.prog 36 #[.pointer (some ⟨S,0,none⟩),.int .i64 0] w3 fun e w'=>e= .returned (.int .i64 7)∧Below w3.heap.size w3 w'):=Lib.hid fun S w3 hs=>seg_Seq hs 0
  have HE:Hid (∀ (S:Nat) (w3:World),SegAt w3 S (buildP [])→Calls Tryz.prog 31 #[.pointer (some ⟨S,0,none⟩)] w3 fun e w'=>e= .returned (.int .i64 0)∧Below w3.heap.size w3 w'):=Lib.hid fun S w3 hs=>seg_Len hs
  have HK:Hid (∀ (S:Nat) (w3:World),SegAt w3 S (buildP [])→Calls Tryz.prog 33 #[.pointer (some ⟨S,0,none⟩)] w3 fun e w'=>∃ A c,e= .returned (.slice A 0 c)∧Below w3.heap.size w3 w'):=Lib.hid fun S w3 hs=>(seg_Keys hs).mono fun e w' h=>by
    obtain ⟨v,rfl,ho,hb⟩:=h
    obtain ⟨A,c,rfl,_,_⟩:=ho.row
    exact ⟨A,c,rfl,hb⟩
  go_enter Tryz.func15,Tryz.ntmps15
  go_wp2_with (first
    | (go_at_call 16; (with_reducible refine HN.out.mono ?_); rintro e w1 ⟨S1, rfl, hs1, -, hb1⟩
       have HS1:=Lib.hid hs1
       have HW1:=Lib.hid hb1
       clear hs1 hb1)
    | (go_at_call 16; (with_reducible refine (HL.out w1 _ _ _ rfl rfl (by simp) HW1.out).mono ?_); rintro e w2 ⟨S2, rfl, hs2, hb2, hw2⟩
       have HS2:=Lib.hid hs2
       have HS3:=Lib.hid (HS1.out.below hb2)
       have HW2:=Lib.hid hw2
       clear hs2 hb2 hw2)
    | (go_at_call 31; (with_reducible refine (HE.out S1 w2 HS3.out).mono ?_); rintro e w3 ⟨rfl, hb3⟩
       have HS4:=Lib.hid (HS3.out.below hb3)
       have HS5:=Lib.hid (HS2.out.below hb3)
       have HW3:=Lib.hid (HW2.out.trans (hb3.mono HW2.out.size))
       clear hb3)
    | (go_at_call 33; (with_reducible refine (HK.out S1 w3 HS4.out).mono ?_); rintro e w4 ⟨A4, c4, rfl, hb4⟩
       have HS6:=Lib.hid (HS5.out.below hb4)
       have HW4:=Lib.hid (HW3.out.trans (hb4.mono HW3.out.size))
       clear hb4)
    | (go_at_call 35; (with_reducible refine (HI.out S2 w4 HS6.out).mono ?_); rintro e w5 ⟨rfl, hb5⟩
       have HS7:=Lib.hid (HS6.out.below hb5)
       have HW5:=Lib.hid (HW4.out.trans (hb5.mono HW4.out.size))
       clear hb5)
    | (go_at_call 36; (with_reducible refine (HQ.out S2 w5 HS7.out).mono ?_); rintro e w6 ⟨rfl, hb6⟩
       have HS8:=Lib.hid (HS7.out.below hb6)
       have HW6:=Lib.hid (HW5.out.trans (hb6.mono HW5.out.size))
       clear hb6)
    | (go_at_call 45; (with_reducible refine (HC.out S2 w6 HS8.out).mono ?_); rintro e w7 ⟨rfl, hb7⟩
       have HW7:=Lib.hid (HW6.out.trans (hb7.mono HW6.out.size))
       clear hb7))
  go_ret
  exact ⟨rfl,HW7.out⟩
end Go.Proofs.YtmoomnpbiifedaaGreat
set_option linter.unusedVariables false
namespace Go.Proofs.YtmoomnpbiifedaaGreat
open Go Go.RowKit Go.Shelf
def layBinI10_ren:Go.Shelf.Ren:=⟨fun |25=>60|31=>97|32=>98|37=>123|n=>n,fun |0=>0|3=>3|4=>4|22=>22|40=>157|n=>n,fun |n=>n⟩
theorem layBinI10:Lays2.n25 Tryz.prog layBinI10_ren:={
 mixed:=by kernel_rfl
 f25:=Tryz.func60.trans (congrArg some (by kernel_rfl))
 f31:=Tryz.func97.trans (congrArg some (by kernel_rfl))
 f32:=Tryz.func98.trans (congrArg some (by kernel_rfl))
 f37:=Tryz.func123.trans (congrArg some (by kernel_rfl))
 t0:=Tryz.underlying0
 a0:=Tryz.isAgg0
 z0:=Tryz.sizeOf0
 v0:=Tryz.zeroValue0
 t3:=Tryz.underlying3
 a3:=Tryz.isAgg3
 z3:=Tryz.sizeOf3
 v3:=Tryz.zeroValue3
 t4:=Tryz.underlying4
 a4:=Tryz.isAgg4
 z4:=Tryz.sizeOf4
 v4:=Tryz.zeroValue4
 t22:=Tryz.underlying22
 a22:=Tryz.isAgg22
 z22:=Tryz.sizeOf22
 v22:=Tryz.zeroValue22
 t40:=Tryz.underlying157
 a40:=Tryz.isAgg157
 z40:=Tryz.sizeOf157
 v40:=Tryz.zeroValue157}
def aboveZ (l:List Int) (seq:Int):Nat:=l.countP fun y=>decide (seq≤y)
theorem above_count (l:List Int) (seq:Int):l.countP (· <seq)+aboveZ l seq=l.length:=by
 unfold aboveZ
 induction l with
 |nil=>rfl
 |cons y l ih=>
  rw [List.countP_cons,List.countP_cons,List.length_cons]
  by_cases h:y<seq
  ·have h2:¬ seq≤y:=by omega
   simp only [h,h2,decide_true,decide_false,if_true]
   simp
   omega
  ·have h2:seq≤y:=by omega
   simp only [h,h2,decide_true,decide_false]
   simp
   omega
theorem rises_pair:∀ {l:List Int} {x:Int},risesZ x l=true→(∀ y∈l,x<y)∧l.Pairwise (· ≤·)
 |[],_,_=>⟨(fun _ h=>by cases h),List.Pairwise.nil⟩
 |y::l,x,h=>by
  rw [risesZ,Bool.and_eq_true,decide_eq_true_iff] at h
  obtain ⟨h1,h2⟩:=rises_pair h.2
  refine ⟨fun z hz=> ?_,List.Pairwise.cons (fun z hz=>Int.le_of_lt (h1 z hz)) h2⟩
  rcases List.mem_cons.1 hz with rfl|hz
  ·exact h.1
  ·have :=h1 z hz;omega
theorem bin_search (A:Option Addr) (n c:Nat) (l:List Int) (seq:Int) (w:World) (hr:Row w w.heap.size A (ints l)) (hn:l.length=n) (hl:n≤1048576) (hs:l.Pairwise (· ≤·)):
  Calls Tryz.prog 60 #[.slice A n c,.int .i64 seq] w fun e w'=>(∃ z,e= .returned (.tuple #[.int .i64 ((l.countP (· <seq):Nat):Int),.bool z]))∧Below w.heap.size w w':=by
 subst hn
 rcases hr with h0|⟨b,off,rfl,hb,hc⟩
 ·have hl0:l=[]:=by simpa [ints] using h0
  subst hl0
  refine (Any.slices_BinarySearch_int_empty (ρ:=layBinI10_ren) layBinI10 A c seq w).mono ?_
  rintro e w' ⟨rfl,rfl⟩
  exact ⟨⟨false,rfl⟩,Below.refl _ _⟩
 ·refine (Any.slices_BinarySearch_int (ρ:=layBinI10_ren) layBinI10 b off l.length c l seq w (Nat.le_refl _) (by omega) (fun j hj=> ?_) (by rw [List.take_length];exact hs)).mono ?_
  ·rw [List.getD_eq_getElem?_getD,List.getElem?_eq_getElem hj]
   exact hc j _ (by simp [ints,hj])
  ·rintro e w' ⟨rfl,q,rfl⟩
   rw [List.take_length]
   exact ⟨⟨_,rfl⟩,⟨rfl,rfl,rfl,Nat.le_refl _,fun _ _=>rfl⟩⟩
set_option maxHeartbeats 1000000 in
theorem seg_Above {w:World} {S:Nat} {x:PartsP} (h:SegAt w S x) (seq:Int):Calls Tryz.prog 20 #[.pointer (some ⟨S,0,none⟩),.int .i64 seq] w fun e w'=>e= .returned (.int .i64 (aboveZ x.seqs seq:Int))∧Below w.heap.size w w':=by
  obtain ⟨A1,c1,A2,c2,A3,c3,h1,h2,h3,h4,h5⟩:=h.cells
  have hlt:=h.lt
  have hsq:=h.seqs
  have hsm:=h.small.ids
  obtain ⟨q0,q1,q2⟩:=cells3 h1
  have C1:=Lib.hid (bin_search A2 _ c2 x.seqs seq w h5 rfl (by omega) (rises_pair (mayPs_iff.1 h.may).2.2.1).2)
  have hab:=above_count x.seqs seq
  obtain ⟨n,hn⟩:∃ n,n=x.seqs.length:=⟨_,rfl⟩
  obtain ⟨k,hk⟩:∃ k,k=x.seqs.countP (· <seq):=⟨_,rfl⟩
  obtain ⟨a,ha⟩:∃ a,a=aboveZ x.seqs seq:=⟨_,rfl⟩
  rw [← hn,← hk] at C1
  rw [← hn] at q1 hsq
  rw [← hn,← hk,← ha] at hab
  rw [← ha]
  have hw:IntKind.i64.wrap ((n:Int)-(k:Int))=(a:Int):=by rw [IntWalk.i64_in _ (by omega)];omega
  have hna:n≤1048576:=by omega
  have hsub:(n:Int)-(k:Int)=(a:Int):=by omega
  have HQ:Hid (∀ w',Below w.heap.size w w'→w'.cell? ⟨S,1,none⟩=some (.slice A2 n c2)):=Lib.hid fun w' hb=>(hb.cell (p:=⟨S,1,none⟩) hlt).trans q1
  clear h h1 h2 h3 h4 h5 hn hk ha q0 q2 hlt hsm hsq
  go_enter Tryz.func20,Tryz.ntmps20
  go_wp2_with (go_at_call 60; refine C1.out.mono ?_; rintro e w' ⟨⟨z, rfl⟩, hb⟩
               have HB:=Lib.hid hb
               have q1':=HQ.out w' hb
               clear hb)
  go_ret
  exact ⟨rfl,HB.out⟩
end Go.Proofs.YtmoomnpbiifedaaGreat
namespace Go.Proofs.YtmoomnpbiifedaaGreat
open Go Go.RowKit Go.ChangeShapes Go.WideShapes Go.ChangeAt
set_option linter.unusedVariables false
def InFlds (w:World) (a:Option Addr) (len cap:Nat) (l:List Fd):Prop:=
 len≤cap∧cap≤maxLen∧l.length=len∧FRow w w.heap.size a l∧∀ f∈l,f.1.length≤maxLen∧f.2.length≤maxLen
theorem field_cells:Tryz.prog.cellsOf 99=2:=by kernel_rfl
theorem str_cells:Tryz.prog.cellsOf 9=1:=by kernel_rfl
theorem flds_range {f:Nat→Fd} {V0 V1:Nat→Value} {w:World} {b off n:Nat} (h:∀ i,i<n→V0 i= .string ⟨(f i).1.toArray⟩∧V1 i= .string ⟨(f i).2.toArray⟩)
  (hc:∀ i,i<n→w.cell? ⟨b,off+i*2,none⟩=some (V0 i)∧w.cell? ⟨b,off+(i*2+1),none⟩=some (V1 i)):
  ∀ k,k≤n→∀ j u,(flds ((List.range k).map f))[j]?=some u→w.cell? ⟨b,off+j,none⟩=some u
 |0,_,j,u,hu=>by simp [flds] at hu
 |k+1,hk,j,u,hu=>by
  rw [List.range_succ,List.map_append,flds_append] at hu
  have hl:(flds ((List.range k).map f)).length=k*2:=by rw [flds_length,List.length_map,List.length_range]
  by_cases hj:j<k*2
  ·rw [List.getElem?_append_left (by rw [hl];exact hj)] at hu
   exact flds_range h hc k (by omega) j u hu
  ·rw [List.getElem?_append_right (by rw [hl];omega),hl] at hu
   obtain ⟨h0,h1⟩:=h k (by omega)
   obtain ⟨c0,c1⟩:=hc k (by omega)
   rcases hq:j-k*2 with _|_|q
   ·rw [hq] at hu
    simp [flds] at hu
    rw [show j=k*2 by omega,c0,h0,hu]
   ·rw [hq] at hu
    simp [flds] at hu
    rw [show j=k*2+1 by omega,c1,h1,hu]
   ·rw [hq] at hu
    simp [flds] at hu
theorem in_flds {H:Type} {enc:TypeId × Value→H} {W:World} {fuel:Nat} {a:Option Addr} {len cap:Nat} {x:DataW H × List MemPlace}
  (h:DataW.trod enc Tryz.prog W 0 (fun _=>true) true fuel 51 [Value.slice a len cap]=some x):∃ l,InFlds W a len cap l:=by
 rcases Deep.open_slice_pairs Tryz.underlying51 Tryz.underlying99 field_cells rfl rfl str_cells str_cells h with ⟨hcs,_⟩|⟨ad,l,c,m,n,V0,V1,D0,D1,P0,P1,hcs,_,hl,hm,hmm,_,hx⟩
 ·simp at hcs
  obtain ⟨rfl,rfl,rfl⟩:=hcs
  exact ⟨[],Nat.le_refl _,Nat.zero_le _,rfl,FRow.nil,fun p hp=>by cases hp⟩
 ·simp at hcs
  obtain ⟨rfl,rfl,rfl⟩:=hcs
  simp only [if_true] at hmm
  subst hmm
  have each:∀ i,i<m→∃ q:Fd,(V0 i= .string ⟨q.1.toArray⟩∧V1 i= .string ⟨q.2.toArray⟩)∧q.1.length≤maxLen∧q.2.length≤maxLen:=fun i hi=>by
   obtain ⟨_,_,g0,g1⟩:=hx i hi
   obtain ⟨s0,e0,_,k0⟩:=DataW.trod_string Tryz.underlying9 g0
   obtain ⟨s1,e1,_,k1⟩:=DataW.trod_string Tryz.underlying9 g1
   simp only [List.cons.injEq,and_true] at e0 e1
   refine ⟨(s0.data.toList,s1.data.toList),⟨e0,e1⟩,?_,?_⟩
   ·show s0.data.toList.length≤maxLen
    rw [Array.length_toList]
    exact k0
   ·show s1.data.toList.length≤maxLen
    rw [Array.length_toList]
    exact k1
  obtain ⟨f,hf⟩:=Deep.choose_lt each
  by_cases h0:m=0
  ·have hl0:len=0:=by omega
   subst hl0
   exact ⟨[],hl,hm,rfl,FRow.nil,fun p hp=>by cases hp⟩
  ·obtain ⟨c00,_,_,_⟩:=hx 0 (by omega)
   obtain ⟨b,off,spot⟩:=ad
   have hs:spot=none:=by simpa [Addr.add] using World.cell?_spot c00
   subst hs
   have hblt:b<W.heap.size:=by simpa [Addr.add_lit] using World.block_lt_of_cell? W _ c00
   refine ⟨(List.range len).map f,hl,hm,by simp,.inr ⟨b,off,rfl,hblt,flds_range (n:=m) (fun i hi=>(hf i hi).1) (fun i hi=> ?_) len hl⟩,fun p hp=> ?_⟩
   ·obtain ⟨g0,g1,_,_⟩:=hx i hi
    rw [Addr.add_lit] at g0 g1
    exact ⟨g0,g1⟩
   ·obtain ⟨i,hi,rfl⟩:=List.mem_map.1 hp
    have hil:=List.mem_range.1 hi
    exact (hf i (by omega)).2
theorem in_flds_any {H:Type} {enc:TypeId × Value→H} {W:World} {fuel:Nat} {v:Value} {x:DataW H × List MemPlace}
  (h:DataW.trod enc Tryz.prog W 0 (fun _=>true) true fuel 51 [v]=some x):∃ a len cap l,v= .slice a len cap∧InFlds W a len cap l:=by
 have hv:∃ a len cap,v= .slice a len cap:=by
  rcases Deep.open_slice_pairs Tryz.underlying51 Tryz.underlying99 field_cells rfl rfl str_cells str_cells h with ⟨hcs,_⟩|⟨ad,l,c,m,n,V0,V1,D0,D1,P0,P1,hcs,_⟩
  ·simp only [List.cons.injEq,and_true] at hcs
   exact ⟨_,_,_,hcs⟩
  ·simp only [List.cons.injEq,and_true] at hcs
   exact ⟨_,_,_,hcs⟩
 obtain ⟨a,len,cap,rfl⟩:=hv
 obtain ⟨l,hl⟩:=in_flds h
 exact ⟨a,len,cap,l,rfl,hl⟩
theorem doc_cells:Tryz.prog.cellsOf 53=2:=by kernel_rfl
end Go.Proofs.YtmoomnpbiifedaaGreat
namespace Go.Proofs.YtmoomnpbiifedaaGreat
open Go Go.RowKit Go.ChangeShapes Go.WideShapes Go.ChangeAt
set_option linter.unusedVariables false
def catTo (V:Nat→List Value):Nat→List Value
 |0=>[]
 |k+1=>catTo V k++V k
theorem catTo_length {V:Nat→List Value} {z n:Nat} (hz:∀ i,i<n→(V i).length=z):∀ k,k≤n→(catTo V k).length=k*z
 |0,_=>by simp [catTo]
 |k+1,hk=>by rw [catTo,List.length_append,catTo_length hz k (by omega),hz k (by omega),Nat.add_mul,Nat.one_mul]
theorem catTo_row {w:World} {b off z n:Nat} {V:Nat→List Value} (hz:∀ i,i<n→(V i).length=z) (h:∀ i,i<n→∀ j u,(V i)[j]?=some u→w.cell? ⟨b,off+(i*z+j),none⟩=some u):
  ∀ k,k≤n→∀ j u,(catTo V k)[j]?=some u→w.cell? ⟨b,off+j,none⟩=some u
 |0,_,j,u,hu=>by simp [catTo] at hu
 |k+1,hk,j,u,hu=>by
  rw [catTo] at hu
  have hl:=catTo_length hz k (by omega)
  by_cases hj:j<k*z
  ·rw [List.getElem?_append_left (by rw [hl];exact hj)] at hu
   exact catTo_row hz h k (by omega) j u hu
  ·rw [List.getElem?_append_right (by rw [hl];omega),hl] at hu
   have :=h k (by omega) _ _ hu
   rwa [show k*z+(j-k*z)=j by omega] at this
theorem catTo_nest {α:Type} {s:Shape α} {R:Option Addr→List Value→Prop} {V:Nat→List Value} {f:Nat→α} {n:Nat}
  (h:∀ i,i<n→∃ A c,V i=s.pre (f i)++(.slice A (s.mid (f i)).length c::s.post (f i))∧(s.mid (f i)).length≤c∧c≤maxLen∧R A (flds (s.mid (f i)))):∀ k,k≤n→NestC s R ((List.range k).map f) (catTo V k)
 |0,_=>rfl
 |k+1,hk=>by
  have ih:=catTo_nest h k (by omega)
  obtain ⟨A,c,h1,h2,h3,h4⟩:=h k (by omega)
  rw [List.range_succ,List.map_append,catTo,h1]
  exact ih.snoc h2 h3 h4
def InNest {α:Type} (s:Shape α) (good:α→Prop) (w:World) (a:Option Addr) (len cap:Nat) (l:List α):Prop:=
 len≤cap∧cap≤maxLen∧l.length=len∧Nest s w w.heap.size a l∧∀ q∈l,good q
theorem in_nest {α:Type} [Inhabited α] {H:Type} {enc:TypeId × Value→H} {W:World} (s:Shape α) (good:α→Prop) {t e:TypeId} (ht:Tryz.prog.underlying t=some (.slice e)) (ce:Tryz.prog.cellsOf e=s.size)
  (open1:∀ {fuel:Nat} {cs:List Value} {x:DataW H × List MemPlace},DataW.trod enc Tryz.prog W 0 (fun _=>true) true fuel e cs=some x→
   ∃ (q:α) (A:Option Addr) (c:Nat),cs=s.pre q++(.slice A (s.mid q).length c::s.post q)∧(s.mid q).length≤c∧c≤maxLen∧FRow W W.heap.size A (s.mid q)∧good q)
  {fuel:Nat} {a:Option Addr} {len cap:Nat} {x:DataW H × List MemPlace} (h:DataW.trod enc Tryz.prog W 0 (fun _=>true) true fuel t [Value.slice a len cap]=some x):∃ l,InNest s good W a len cap l:=by
 rcases Deep.open_slice ht h with ⟨hcs,_⟩|⟨ad,l,c,m,n,D,Pl,hcs,_,hl,hm,hmm,_,hx⟩
 ·simp at hcs
  obtain ⟨rfl,rfl,rfl⟩:=hcs
  exact ⟨[],Nat.le_refl _,Nat.zero_le _,rfl,NestP.nil,fun p hp=>by cases hp⟩
 ·simp at hcs
  obtain ⟨rfl,rfl,rfl⟩:=hcs
  simp only [if_true] at hmm
  subst hmm
  have each:∀ i,i<m→∃ q:α × List Value,(∃ A c,q.2=s.pre q.1++(.slice A (s.mid q.1).length c::s.post q.1)∧(s.mid q.1).length≤c∧c≤maxLen∧Row W W.heap.size A (flds (s.mid q.1)))∧good q.1∧q.2.length=s.size∧
    ∀ j u,q.2[j]?=some u→W.cell? (ad.add (i*s.size+j))=some u:=fun i hi=>by
   obtain ⟨cs',h1,h2⟩:=hx i hi
   obtain ⟨_,hlen,hcell⟩:=World.cells?_some h1
   obtain ⟨q,A,c,e1,e2,e3,e4,e5⟩:=open1 h2
   rw [ce] at hlen
   refine ⟨(q,cs'),⟨A,c,e1,e2,e3,e4⟩,e5,hlen,fun j u hu=> ?_⟩
   have hj:j<s.size:=by
    rcases Nat.lt_or_ge j s.size with h|h
    ·exact h
    ·rw [List.getElem?_eq_none (by rw [hlen];exact h)] at hu;cases hu
   have :=hcell j (by rw [ce];exact hj)
   rw [Deep.add_add,ce] at this
   rw [this]
   exact hu
  obtain ⟨f,hf⟩:=Deep.choose_lt each
  by_cases h0:m=0
  ·have hl0:len=0:=by omega
   subst hl0
   exact ⟨[],hl,hm,rfl,NestP.nil,fun p hp=>by cases hp⟩
  ·obtain ⟨_,_,hl0,hc0⟩:=hf 0 (by omega)
   obtain ⟨u0,hu0⟩:∃ u,(f 0).2[0]?=some u:=⟨_,List.getElem?_eq_getElem (by rw [hl0];unfold Shape.size;omega)⟩
   have c00:=hc0 0 u0 hu0
   obtain ⟨b,off,spot⟩:=ad
   have hs:spot=none:=by simpa [Addr.add] using World.cell?_spot c00
   subst hs
   have hblt:b<W.heap.size:=by simpa [Addr.add_lit] using World.block_lt_of_cell? W _ c00
   refine ⟨(List.range len).map fun i=>(f i).1,hl,hm,by simp,⟨catTo (fun i=>(f i).2) len,catTo_nest (n:=m) (fun i hi=>(hf i hi).1) len hl,.inr ⟨b,off,rfl,hblt,catTo_row (n:=m) (z:=s.size) (fun i hi=>(hf i hi).2.2.1) (fun i hi j u hu=> ?_) len hl⟩⟩,fun p hp=> ?_⟩
   ·have :=(hf i hi).2.2.2 j u hu
    rwa [Addr.add_lit] at this
   ·obtain ⟨i,hi,rfl⟩:=List.mem_map.1 hp
    have hil:=List.mem_range.1 hi
    exact (hf i (by omega)).2.1
def InFd (l:List Fd):Prop:=∀ f∈l,f.1.length≤maxLen∧f.2.length≤maxLen
theorem open_doc {H:Type} {enc:TypeId × Value→H} {W:World} {fuel:Nat} {cs:List Value} {x:DataW H × List MemPlace} (h:DataW.trod enc Tryz.prog W 0 (fun _=>true) true fuel 53 cs=some x):
  ∃ (q:Dc) (A:Option Addr) (c:Nat),cs=[.int .i64 q.1,.slice A q.2.length c]∧q.2.length≤c∧c≤maxLen∧FRow W W.heap.size A q.2∧InFd q.2:=by
 obtain ⟨y0,y1,n,_,hl,g0,g1⟩:=trod_struct2 Tryz.underlying53 h
 rw [doc_cells] at hl
 obtain ⟨v0,v1,rfl⟩:∃ v0 v1,cs=[v0,v1]:=by
  rcases cs with _|⟨v0,_|⟨v1,_|⟨v2,cs⟩⟩⟩
  ·cases hl
  ·cases hl
  ·exact ⟨_,_,rfl⟩
  ·simp only [List.length_cons] at hl;omega
 ·have ci:Tryz.prog.cellsOf 3=1:=by kernel_rfl
  have cf:Tryz.prog.cellsOf 51=1:=by kernel_rfl
  simp [ci] at g0
  simp [cf] at g1
  obtain ⟨d,e0,_,_⟩:=DataW.trod_int Tryz.underlying3 g0
  obtain ⟨a,len,cap,l,rfl,h1,h2,h3,h4,h5⟩:=in_flds_any g1
  simp only [List.cons.injEq,and_true] at e0
  subst e0
  exact ⟨(d,l),a,cap,by rw [h3],by rw [h3];exact h1,h2,h4,h5⟩
abbrev InDocs:=InNest docS (fun q=>InFd q.2)
theorem in_docs {H:Type} {enc:TypeId × Value→H} {W:World} {fuel:Nat} {a:Option Addr} {len cap:Nat} {x:DataW H × List MemPlace}
  (h:DataW.trod enc Tryz.prog W 0 (fun _=>true) true fuel 27 (Value.slice a len cap).cells.toList=some x):∃ l,InDocs W a len cap l:=
 in_nest docS (fun q=>InFd q.2) Tryz.underlying27 doc_cells (fun h=>open_doc h) (by simpa [Value.cells] using h)
end Go.Proofs.YtmoomnpbiifedaaGreat
