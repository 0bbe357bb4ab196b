import Derived.Test.YtmoomnpbiifedaaGreatMAZz
import Derived.Test.YtmoomnpbiifedaaGreatMAQ10
import Derived.Test.YtmoomnpbiifedaaGreatMAQ27
import Derived.Shelf.SlicesE.Clone
import Derived.Test.YtmoomnpbiifedaaGreatProg
import Derived.Test.YtmoomnpbiifedaaGreatMAQ26
import Derived.Test.YtmoomnpbiifedaaGreatMAQ29
import Derived.Test.YtmoomnpbiifedaaGreatMAQ09
import Derived.Test.YtmoomnpbiifedaaGreatMAQ12
import Derived.Maps.AppendAt
import Derived.Test.YtmoomnpbiifedaaGreatMAQ07
import Derived.Test.YtmoomnpbiifedaaGreatMAQ04
set_option linter.unusedVariables false
namespace Go.Proofs.YtmoomnpbiifedaaGreat
open Go Go.RowKit
theorem owned_set {w:World} {base:Nat} {e:TypeId} {size g n cap k:Nat} {xs:List Value} {u:Value} (h:w.ownsRow base e size (.slice (some ⟨g,0,none⟩) n cap) n xs):(w.setCell ⟨g,k,none⟩ u).ownsRow base e size (.slice (some ⟨g,0,none⟩) n cap) n (xs.set k u):=by
 refine ⟨by rw [List.length_set];exact h.1,?_⟩
 rcases h.2 with ⟨hv,_⟩|⟨g',cap',cur,hv,hg,hh,h1,h2,h3,h4⟩
 ·cases hv
 ·cases hv
  refine .inr ⟨g,cap,cur.setIfInBounds k u,rfl,hg,set_at hh,h1,h2,by simpa using h3,?_⟩
  rw [← h4,Array.toList_setIfInBounds,List.take_set]
theorem owned_free {w:World} {base:Nat} {e:TypeId} {size g n cap k:Nat} {xs:List Value} (h:w.ownsRow base e size (.slice (some ⟨g,0,none⟩) n cap) n xs) (hk:k<n*size):(∃ u,w.cell? ⟨g,k,none⟩=some u)∧w.frozen? ⟨g,k,none⟩=false:=by
 rcases h.2 with ⟨hv,_⟩|⟨g',cap',cur,hv,hg,hh,h1,h2,h3,h4⟩
 ·cases hv
 ·cases hv
  have hkc:k<cur.size:=by
   rw [h3]
   exact Nat.lt_of_lt_of_le hk (Nat.mul_le_mul_right _ h1)
  exact ⟨⟨cur[k],by simp [World.cell?,hh,hkc]⟩,by simp [World.frozen?,hh]⟩
structure PRow (old new:Option Addr→List Value→Prop) (l:List Pn) (j:Nat) (cs:List Value):Prop where
 len:cs.length=l.length*2
 each:∀ i (h:i<l.length),cs[i*2]?=some (.int .i64 l[i].1)∧∃ A c,cs[i*2+1]?=some (.slice A l[i].2.length c)∧l[i].2.length≤c∧c≤maxLen∧(i<j→new A (ints l[i].2))∧(j≤i→old A (ints l[i].2))
section
variable {old new old' new':Option Addr→List Value→Prop} {l:List Pn} {j:Nat} {cs:List Value}
theorem PRow.of (h:PoCells old l cs):PRow old new l 0 cs:=⟨h.len,fun i hi=>by
 obtain ⟨h1,A,c,h2,h3,h4,h5⟩:=h.at_ hi
 have e:l.getD i (0,[])=l[i]:=by simp [hi]
 rw [e] at h1 h2 h3 h5
 exact ⟨h1,A,c,h2,h3,h4,fun h=>by omega,fun _=>h5⟩⟩
theorem PRow.imp (h:PRow old new l j cs) (ho:∀ A xs,old A xs→old' A xs) (hn:∀ A xs,new A xs→new' A xs):PRow old' new' l j cs:=⟨h.len,fun i hi=>by
 obtain ⟨h1,A,c,h2,h3,h4,h5,h6⟩:=h.each i hi
 exact ⟨h1,A,c,h2,h3,h4,fun h=>hn _ _ (h5 h),fun h=>ho _ _ (h6 h)⟩⟩
theorem PRow.put (h:PRow old new l j cs) (hj:j<l.length) {A:Option Addr} {c:Nat} (hc:l[j].2.length≤c∧c≤maxLen) (hn:new A (ints l[j].2)):PRow old new l (j+1) (cs.set (j*2+1) (.slice A l[j].2.length c)):=⟨by rw [List.length_set];exact h.len,fun i hi=>by
 have hl:=h.len
 obtain ⟨h1,A',c',h2,h3,h4,h5,h6⟩:=h.each i hi
 rw [List.getElem?_set_ne (by omega)]
 by_cases hij:i=j
 ·subst hij
  exact ⟨h1,A,c,List.getElem?_set_self (by omega),hc.1,hc.2,fun _=>hn,fun h=>by omega⟩
 ·rw [List.getElem?_set_ne (by omega)]
  exact ⟨h1,A',c',h2,h3,h4,fun h=>h5 (by omega),fun h=>h6 (by omega)⟩⟩
theorem poCells_of:∀ {l:List Pn} {cs:List Value},cs.length=l.length*2→(∀ i (h:i<l.length),cs[i*2]?=some (.int .i64 l[i].1)∧∃ A c,cs[i*2+1]?=some (.slice A l[i].2.length c)∧l[i].2.length≤c∧c≤maxLen∧new A (ints l[i].2))→PoCells new l cs
 |[],cs,hl,h=>List.eq_nil_of_length_eq_zero (by simpa using hl)
 |q::l,cs,hl,h=>by
  rcases cs with _|⟨a,_|⟨b,cs⟩⟩
  ·simp at hl
  ·simp at hl;omega
  ·obtain ⟨h1,A,c,h2,h3,h4,h5⟩:=h 0 (by simp)
   simp at h1 h2
   subst h1 h2
   refine ⟨A,c,cs,rfl,h3,h4,h5,poCells_of (by simp at hl;omega) fun i hi=> ?_⟩
   have :=h (i+1) (by simpa using hi)
   rw [show (i+1)*2=i*2+1+1 by omega] at this
   simpa using this
theorem PRow.all (h:PRow old new l l.length cs):PoCells new l cs:=poCells_of h.len fun i hi=>by
 obtain ⟨h1,A,c,h2,h3,h4,h5,h6⟩:=h.each i hi
 exact ⟨h1,A,c,h2,h3,h4,h5 hi⟩
end
section
variable {old new old' new':Option Addr→List Value→Prop} {l:List En} {j:Nat} {cs:List Value}
end
end Go.Proofs.YtmoomnpbiifedaaGreat
set_option linter.unusedVariables false
namespace Go.Proofs.YtmoomnpbiifedaaGreat
open Go.Shelf Go.RowKit
def layClonePo_ren:Go.Shelf.Ren:=⟨fun |41=>91|n=>n,fun |4=>4|22=>58|23=>63|n=>n,fun |n=>n⟩
theorem layClonePo:SlLaysE0.n41 Tryz.prog layClonePo_ren:={
 mixed:=by kernel_rfl
 f41:=⟨Tryz.f91.name,by kernel_rfl,Tryz.func91.trans (congrArg some (by kernel_rfl))⟩
 t4:=Tryz.underlying4
 a4:=Tryz.isAgg4
 z4:=Tryz.sizeOf4
 v4:=Tryz.zeroValue4
 t22:=Tryz.underlying58
 a22:=Tryz.isAgg58
 z22:=Tryz.sizeOf58
 v22:=Tryz.zeroValue58}
def layCloneI_ren:Go.Shelf.Ren:=⟨fun |41=>26|n=>n,fun |4=>4|22=>22|23=>3|n=>n,fun |n=>n⟩
theorem layCloneI:SlLaysE0.n41 Tryz.prog layCloneI_ren:={
 mixed:=by kernel_rfl
 f41:=⟨Tryz.f26.name,by kernel_rfl,Tryz.func26.trans (congrArg some (by kernel_rfl))⟩
 t4:=Tryz.underlying4
 a4:=Tryz.isAgg4
 z4:=Tryz.sizeOf4
 v4:=Tryz.zeroValue4
 t22:=Tryz.underlying22
 a22:=Tryz.isAgg22
 z22:=Tryz.sizeOf22
 v22:=Tryz.zeroValue22}
end Go.Proofs.YtmoomnpbiifedaaGreat
namespace Go.Proofs.YtmoomnpbiifedaaGreat
open Go Go.RowKit
set_option linter.unusedVariables false
theorem po_oneCell {R:Option Addr→List Value→Prop}:∀ {l:List Pn} {cs:List Value},PoCells R l cs→∀ u∈cs,u.oneCell'=true
 |[],cs,h,u,hu=>by simp only [PoCells] at h;subst h;cases hu
 |q::l,cs,h,u,hu=>by
  obtain ⟨A,c,cs',rfl,_,_,_,h'⟩:=h
  simp only [List.mem_cons] at hu
  rcases hu with rfl|rfl|hu
  ·rfl
  ·rfl
  ·exact po_oneCell h' u hu
theorem clone_row {ρ:Go.Shelf.Ren} (L:SlLaysE0.n41 Tryz.prog ρ) {i0:TypeInfo} {z:Value} {size bytes:Nat} (hi:Tryz.prog.info? (ρ.t 23)=some i0) (hz0:i0.zero=some z) (hz1:i0.size=size) (hz2:i0.bytes=bytes) (hzs:z.cells.size=size) (hsz:0<size)
  (z23:∀ w,(Go.sizeOf (ρ.t 23)).run Tryz.prog w= .ok size w) {base:Nat} {e:TypeId} {v:Value} {n:Nat} {cs:List Value} {w:World} (h:w.ownsRow base e size v n cs) (hn:n≤maxLen) (hbig:n*bytes≤140737488355328) (h1:∀ u∈cs,u.oneCell'=true):
  Calls Tryz.prog (ρ.f 41) #[v] w fun e w'=>∃ v',e= .returned v'∧w'.ownsRow w.heap.size (ρ.t 23) size v' n cs∧Below w.heap.size w w':=by
 rcases h.2 with ⟨rfl,h0⟩|⟨g,cap,cur,rfl,_⟩
 ·have hc:cs=[]:=List.eq_nil_of_length_eq_zero (by rw [h.1,h0];simp)
  subst hc h0
  refine (AnyE.slices_Clone_nil L 0 0 w).mono ?_
  rintro e w' ⟨rfl,rfl⟩
  exact ⟨_,rfl,World.ownsRow_nil _ _ _ _,Below.refl _ _⟩
 ·refine (AnyE.slices_Clone L i0 z size bytes hi hz0 hz1 hz2 hzs hsz z23 g 0 n cap cs w h.1 hn hbig (fun j u hu=> ?_) h1).mono ?_
  ·have :=h.cells (g:=g) rfl j u hu
   simpa [Addr.add_lit] using this
  ·rintro e w' ⟨v',rfl,ho,_,hb⟩
   exact ⟨v',rfl,ho,hb⟩
set_option maxRecDepth 100000 in
theorem clone_po {base:Nat} {v:Value} {n:Nat} {cs:List Value} {w:World} (h:w.ownsRow base 63 2 v n cs) (hn:n≤100000000) (h1:∀ u∈cs,u.oneCell'=true):
  Calls Tryz.prog 91 #[v] w fun e w'=>∃ v',e= .returned v'∧w'.ownsRow w.heap.size 63 2 v' n cs∧Below w.heap.size w w':=by
 obtain ⟨i0,hi0,hz0,hz1,hz2⟩:=info_parts info_posting
 exact clone_row layClonePo hi0 hz0 hz1 hz2 rfl (by decide) Tryz.sizeOf63 h (by unfold maxLen;omega) (by omega) h1
theorem clone_is {A:Option Addr} {n c B:Nat} {l:List Int} {w:World} (hl:l.length=n) (h:Row w B A (ints l)) (hne:0<n) (hn:n≤100000000):
  Calls Tryz.prog 26 #[.slice A n c] w fun e w'=>∃ v',e= .returned v'∧w'.ownsRow w.heap.size 3 1 v' n (ints l)∧Below w.heap.size w w':=by
 obtain ⟨i0,hi0,hz0,hz1,hz2⟩:=info_parts info_int
 rcases h with h0|⟨b,off,rfl,_,hc⟩
 ·have :=congrArg List.length h0
  simp [ints] at this
  subst this
  simp at hl
  omega
 ·refine (AnyE.slices_Clone layCloneI i0 _ 1 8 hi0 hz0 hz1 hz2 rfl (by decide) Tryz.sizeOf3 b off n c (ints l) w (by simp [ints,hl]) (by unfold maxLen;omega) (by omega) hc (ints_oneCell _ _)).mono ?_
  rintro e w' ⟨v',rfl,ho,_,hb⟩
  exact ⟨v',rfl,ho,hb⟩
def GotPo (l:List Pn) (w:World) (e:Ending) (w':World):Prop:=∃ v,e= .returned v∧OwnPP (fun k=>w.heap.size≤k) w' v l∧Below w.heap.size w w'
def PostRelB (l:List Pn) (N:Nat) (V:Value) (w:World) (x:Value) (wr:World):Prop:=∃ (j:Nat) (cs:List Value),j≤l.length∧x= .int .i64 (j:Int)∧wr.ownsRow w.heap.size 63 2 V N cs∧
 PRow (Row wr w.heap.size) (RowP (Of (fun k=>w.heap.size≤k) 3 wr) wr) l j cs∧Below w.heap.size w wr
set_option maxHeartbeats 2000000 in
set_option maxRecDepth 100000 in
theorem buf_Postings {S:Nat→Prop} {w:World} {B:Nat} {l:List En} {up:Int} (h:BufAt S w B l up) (key:ByteArray) (L:List Pn) (hL:L=postsE 0 l key.data.toList) (hln:L.length≤10000000) (hne:∀ p∈L,0<p.2.length∧p.2.length≤100000):
    Calls Tryz.prog 52 #[.pointer (some ⟨B,0,none⟩),.string key] w (GotPo L w):=by
  obtain ⟨v,M,c,g,h⟩:=h
  have c1:=(four_cells h.cells).2.1
  obtain ⟨v1,⟨m,hm,hv1⟩,ho⟩:=h.map.look key.data.toList
  rw [h.stand.posts,← hL] at ho
  have hkv:kV key.data.toList= .string key:=by simp [kV]
  obtain ⟨cs,o1,o2,o3⟩:=ho
  have hcl:=clone_po o1 (by omega) (po_oneCell o3)
  have HLK:Hid (MapK w M c m):=Lib.hid hm
  have HCL:=Lib.hid hcl
  have HPO:Hid (PoCells (Row w w.heap.size) L cs):=Lib.hid (o3.imp fun _ _ h=>RowP.row h fun b hb=>hb.lt)
  have HNE:=Lib.hid hne
  have HV1:=Lib.hid hv1
  have HKV:=Lib.hid hkv
  obtain ⟨N,hN⟩:∃ N,N=L.length:=⟨_,rfl⟩
  rw [← hN] at HCL hln
  have HN:=Lib.hid hN
  clear h hL hm hv1 o1 o2 o3 hcl hne hN hkv
  go_enter Tryz.func52,Tryz.ntmps52
  go_wp2_with (first
    | (refine wpList_lookup_ks _ (by rfl) _ _ (by rfl) M c m key.data.toList (by rfl) HLK.out (by rw [HKV.out]; rfl) ?_
       rw [HV1.out])
    | (go_at_call 91; (with_reducible refine HCL.out.mono ?_); rintro e w1 ⟨V1, rfl, ho1, hb1⟩
       obtain ⟨A1,k1,rfl,hk1,hu1⟩:=owned_roomed ho1
       clear hu1
       have HST:Hid (PostRelB L N (.slice A1 N k1) w (.int .i64 ((0:Nat):Int)) w1):=Lib.hid (by
         exact ⟨0,cs,Nat.zero_le _,rfl,ho1,(PRow.of HPO.out).imp (fun _ _ h=>h.below hb1) fun _ _ h=>h,hb1⟩)
       clear ho1 hb1))
  go_loopw [17] (fun x wr=>PostRelB L N (.slice A1 N k1) w x wr) (fun x _=>N-(intOf x).toNat)
  case atStart=>exact HST.out
  case round=>
    obtain ⟨j,cs2,hj,rfl,hown,hrow,hbw⟩:=hrel
    by_cases hlt:j<N
    · have hjl:j<L.length:=by rw [← HN.out];exact hlt
      obtain ⟨g1,rfl⟩:∃ g1,A1=some ⟨g1,0,none⟩:=by
        rcases hown.2 with ⟨hv,h5⟩|⟨g',cap,cur,hv,_⟩
        · have :=HN.out;omega
        · injection hv with e
          exact ⟨g',e⟩
      obtain ⟨e0,A',c',e1,e2,e3,e4,e5⟩:=hrow.each j hjl
      have hne:=HNE.out _ (List.getElem_mem hjl)
      have hc0:wr.cell? ⟨g1,j*2,none⟩=some (.int .i64 L[j].1):=by have :=hown.cells (g:=g1) rfl _ _ e0;simpa [Addr.add_lit] using this
      have hc1:wr.cell? ⟨g1,j*2+1,none⟩=some (.slice A' L[j].2.length c'):=by have :=hown.cells (g:=g1) rfl _ _ e1;simpa [Addr.add_lit] using this
      have hlt1:=hown.lt g1 rfl
      have hold:=e5 (Nat.le_refl _)
      obtain ⟨csg,frg,hhg⟩:=owned_type9 hown rfl
      obtain ⟨w2,hw2⟩:∃ w2,w2=wr.alloc (.cells #[.int .i64 L[j].1,.slice A' L[j].2.length c'] 63):=⟨_,rfl⟩
      have hb2:Below wr.heap.size wr w2:=by rw [hw2];exact (Below.refl _ _).alloc (Nat.le_refl _) _
      have hbs:=hbw.size
      have hs2:w2.heap.size=wr.heap.size+1:=by rw [hw2];simp
      have hCI:=clone_is (n:=L[j].2.length) (c:=c') rfl (Row.below hold (hb2.mono hbs)) hne.1 (by omega)
      have HAFT:Hid (∀ (w5:World) (A5:Option Addr) (c5:Nat),w5.ownsRow w2.heap.size 3 1 (.slice A5 L[j].2.length c5) L[j].2.length (ints L[j].2)→L[j].2.length≤c5∧c5≤maxLen→Below w2.heap.size w2 w5→
          (∃ u,w5.cell? ⟨g1,j*2+1,none⟩=some u)∧w5.frozen? ⟨g1,j*2+1,none⟩=false∧PostRelB L N (.slice (some ⟨g1,0,none⟩) N k1) w (.int .i64 ((j:Int)+1)) (w5.setCell ⟨g1,j*2+1,none⟩ (.slice A5 L[j].2.length c5))):=Lib.hid fun w5 A5 c5 ho5 hc5 hb5=>by
        have hb25:=hb2.trans (hb5.mono hb2.size)
        have hown5:=owned_below hown hb25
        obtain ⟨f1,f2⟩:=owned_free (k:=j*2+1) hown5 (by omega)
        have hs5:=hb5.size
        have hkeep:∀ k,k<wr.heap.size→k≠g1→(w5.setCell ⟨g1,j*2+1,none⟩ (.slice A5 L[j].2.length c5)).heap[k]?=wr.heap[k]?:=fun k h1 h2=>(set_ne (Ne.symm h2)).trans (hb25.block k h1)
        have hne1:∀ {k:Nat} {u:World},u.heap[g1]?=some (.cells csg 63 frg)→Of (fun k=>w.heap.size≤k) 3 u k→k≠g1:=fun {k u} h1 ⟨_,cs',fr',hh,_⟩ e=>by
          subst e
          rw [h1] at hh
          injection hh with hh
          injection hh with _ h2 _
          exact absurd h2 (by decide)
        have hg5:w5.heap[g1]?=some (.cells csg 63 frg):=(hb25.block _ hlt1.2).trans hhg
        have hn5:RowP (Of (fun k=>w.heap.size≤k) 3 w5) w5 A5 (ints L[j].2):=owned_toI ho5 fun k h1 _=>by omega
        have hn6:RowP (Of (fun k=>w.heap.size≤k) 3 (w5.setCell ⟨g1,j*2+1,none⟩ (.slice A5 L[j].2.length c5))) (w5.setCell ⟨g1,j*2+1,none⟩ (.slice A5 L[j].2.length c5)) A5 (ints L[j].2):=hn5.keepO fun k hk=>set_ne (Ne.symm (hne1 hg5 hk))
        have hrow6:PRow (Row (w5.setCell ⟨g1,j*2+1,none⟩ (.slice A5 L[j].2.length c5)) w.heap.size) (RowP (Of (fun k=>w.heap.size≤k) 3 (w5.setCell ⟨g1,j*2+1,none⟩ (.slice A5 L[j].2.length c5))) (w5.setCell ⟨g1,j*2+1,none⟩ (.slice A5 L[j].2.length c5))) L j cs2:=hrow.imp (fun A xs h=>RowP.keep h fun b hb=>hkeep b (by omega) (by omega)) fun A xs h=>h.keepO fun k hk=>hkeep k hk.lt (hne1 hhg hk)
        refine ⟨f1,f2,j+1,cs2.set (j*2+1) (.slice A5 L[j].2.length c5),hjl,by push_cast;rfl,owned_set hown5,hrow6.put hjl hc5 hn6,⟨?_,?_,?_,?_,fun k hk=> ?_⟩⟩
        · exact hb25.os.trans hbw.os
        · exact hb25.tape.trans hbw.tape
        · exact hb25.output.trans hbw.output
        · simp;omega
        · rw [hkeep k (by omega) (by omega)]
          exact hbw.block k hk
      obtain ⟨dd,hdd⟩:∃ dd,dd=L[j].1:=⟨_,rfl⟩
      obtain ⟨P,hP⟩:∃ P,P=L[j].2:=⟨_,rfl⟩
      rw [← hdd] at hc0 hw2
      rw [← hP] at hc1 hw2 hCI HAFT hne e2
      have HCI:=Lib.hid hCI
      have HW2:=Lib.hid hw2
      have j0:(0:Int)≤j:=by omega
      have j1:(j:Int)<N:=by omega
      obtain ⟨hpl0,hpl⟩:=hne
      clear hown hrow hbw hhg hold e0 e1 e3 e4 e5 hCI hw2 hdd hP hb2
      go_wp2_with (first
        | (go_at_call 26; rw [show wr.alloc _ = w2 from HW2.out.symm]; (with_reducible refine HCI.out.mono ?_); rintro e w5 ⟨V5, rfl, ho5, hb5⟩
           obtain ⟨A5,c5,rfl,hc5,hu5⟩:=owned_roomed ho5
           obtain ⟨⟨u5,hu5'⟩,hf5,hrel5⟩:=HAFT.out w5 A5 c5 ho5 hc5 hb5
           have HREL:=Lib.hid hrel5
           clear hu5 ho5 hb5 hrel5))
      exact ⟨HREL.out,by simp [intOf];omega⟩
    · have hjn:j=L.length:=by have :=HN.out;omega
      subst hjn
      have hfin:OwnPP (fun k=>w.heap.size≤k) wr (.slice A1 N k1) L:=by
        rw [HN.out] at hown
        rw [HN.out]
        exact ⟨cs2,owned_low hown (Nat.zero_le _),fun k hk=>(hown.lt k hk).1,hrow.all⟩
      have HFIN:=Lib.hid hfin
      have HBW:=Lib.hid hbw
      clear hfin hown hrow hbw
      go_wp2
      go_ret
      exact ⟨_,rfl,HFIN.out,HBW.out⟩
end Go.Proofs.YtmoomnpbiifedaaGreat
set_option linter.unusedVariables false
namespace Go.Proofs.YtmoomnpbiifedaaGreat
open Go Go.RowKit
theorem PostsG.of_pp {b0:Nat} {S:Nat→Prop} {w:World} {v:Value} {l:List Pn} (h:OwnPP S w v l):∃ A c,v= .slice A l.length c∧(l.length≤c∧c≤maxLen)∧PostsG b0 w A l:=by
 obtain ⟨cs,h1,_,h2⟩:=h
 obtain ⟨A,c,rfl,hc,hr⟩:=owned_roomed h1
 refine ⟨A,c,rfl,hc,cs,h2.imp fun A xs h=> ?_,.of_own h1⟩
 rcases h with h|⟨b,off,e,⟨_,cs',fr,hh,_⟩,hx⟩
 ·exact .inl h
 ·exact .inr ⟨b,off,e,(Array.getElem?_eq_some_iff.1 hh).1,.inr ⟨cs',fr,hh⟩,hx⟩
def BuildRel1 (B P:Nat) (V:Value) (G:List En) (w:World) (i:Value) (wr:World):Prop:=∃ (k:Nat) (S:Nat→Prop) (v1 v2:Value),k≤G.length∧i= .int .i64 (k:Int)∧BRig S B (G.take k) (lastE (G.take k)) V G w wr∧
 GatI 34 w.heap.size w.heap.size P v1 v2 ((G.take k).map (·.1)) ((G.take k).map (·.2.2)) wr∧¬ S P∧(∀ g,v1.ownBlock=some g→¬ S g)∧∀ g,v2.ownBlock=some g→¬ S g
def BuildRel2 (S:Nat→Prop) (B P base:Nat) (V:Value) (G:List En) (W1 W2 W3:Value) (A1 A2:Option Addr) (w:World) (i:Value) (wr:World):Prop:=∃ (k:Nat) (v4:Value),k≤(keysE G).length∧i= .int .i64 (k:Int)∧BRig S B G (lastE G) V G w wr∧
 GatL 34 w.heap.size base P W1 W2 W3 v4 (keysE G) ((buildP G).lists.take k) wr∧RowG w.heap.size 3 wr A1 (ints (buildP G).ids)∧RowG w.heap.size 3 wr A2 (ints (buildP G).seqs)
set_option maxHeartbeats 16000000 in
set_option maxRecDepth 100000 in
theorem seg_Build (V:Value) (G:List En) (w:World) (hV:OwnES (fun k=>k<w.heap.size) w V G) (hG:AddOk G):Calls Tryz.prog 16 #[V] w (MadeSeg (buildP G) w):=by
  obtain ⟨i0,hi0,hz0,hz1,hz2⟩:=info_parts info_int
  obtain ⟨j0,hj0,hj1,hj2,hj3⟩:=info_parts info_lists
  obtain ⟨AV,cV,rfl,hcV,_⟩:=hV.nest
  have HV:=Lib.hid hV
  have HG:=Lib.hid hG
  obtain ⟨N,hN⟩:∃ N,N=G.length:=⟨_,rfl⟩
  have hN100:N≤100:=by rw [hN];exact hG.few
  rw [← hN] at HV hcV ⊢
  have HN:=Lib.hid hN
  clear hV hG hN
  have HST:Hid (∀ (S:Nat→Prop) (B:Nat) (w1:World),BufAt S w1 B [] (-1)→(∀ k,S k→w.heap.size≤k)→Below w.heap.size w w1→BuildRel1 B w1.heap.size (.slice AV N cV) G w (.int .i64 ((0:Nat):Int)) (w1.alloc (.cells #[.slice none 0 0,.slice none 0 0,.slice none 0 0,.slice none 0 0] 34))):=Lib.hid fun S B w1 hb hS hw1=>by
    have hal:Below w1.heap.size w1 (w1.alloc (.cells #[.slice none 0 0,.slice none 0 0,.slice none 0 0,.slice none 0 0] 34)):=(Below.refl _ _).alloc (Nat.le_refl _) _
    have hbel:=hw1.trans (hal.mono hw1.size)
    refine ⟨0,S,.slice none 0 0,.slice none 0 0,Nat.zero_le _,rfl,⟨hb.below hal,hS,HV.out.keeps fun k hk _=>hbel.block k hk,hbel⟩,⟨heap_alloc_new w1 _,hw1.size,Nat.le_refl _,hbel.size,World.ownsRow_nil _ _ _ _,World.ownsRow_nil _ _ _ _,fun g hg=>by cases hg⟩,fun hs=>Nat.lt_irrefl _ (hb.lt _ hs),(fun g hg=>by cases hg),fun g hg=>by cases hg⟩
  go_enter Tryz.func16,Tryz.ntmps16
  go_wp2_with (go_at_call 49; refine (buf_New w).mono ?_; rintro e w1 ⟨S0, B, rfl, hb1, hS1, hw1⟩
               have HR1:=Lib.hid (HST.out S0 B w1 hb1 hS1 hw1)
               have HP1:Hid (w.heap.size≤w1.heap.size):=Lib.hid hw1.size
               clear hb1 hS1 hw1)
  obtain ⟨P,hP⟩:∃ P,P=w1.heap.size:=⟨_,rfl⟩
  have hR1:=HR1.out
  rw [← hP] at hR1 ⊢
  have HR2:=Lib.hid hR1
  clear HR1 HST hR1 hP HP1
  go_loopw [15] (fun i wr=>BuildRel1 B P (.slice AV N cV) G w i wr) (fun i _=>N-(intOf i).toNat)
  case atStart=>exact HR2.out
  case round=>
    obtain ⟨k,S,v1,v2,hk,rfl,hrig,hgat,hSP,hS1,hS2⟩:=hrel
    rw [← HN.out] at hk
    by_cases hlt:k<N
    · have hkl:k<G.length:=by rw [← HN.out];exact hlt
      obtain ⟨hn0,hnu⟩:=HG.out.next hkl
      obtain ⟨b,c0,A',c',hv,hbb,e0,e1,e2,hadd⟩:=hrig.add HG.out (by rw [List.length_take];omega) hkl hn0 hnu
      have hAV:AV=some ⟨b,0,none⟩:=by injection hv
      subst hAV
      have hts:G.take (k+1)=G.take k++[G[k]]:=List.take_succ_eq_append_getElem hkl
      have htl:(G.take k).length=k:=by rw [List.length_take];omega
      obtain ⟨gk,hgk⟩:∃ gk,gk=G[k]:=⟨_,rfl⟩
      rw [← hgk] at e0 e1 e2 hadd hts
      obtain ⟨q1,d,q3⟩:=gk
      simp only at e0 e1 e2 hadd
      obtain ⟨m,hm⟩:∃ m,m=d.length:=⟨_,rfl⟩
      rw [← hm] at e1 hadd
      obtain ⟨wr1,hwr1⟩:∃ wr1,wr1=wr.alloc (.cells #[.int .i64 q1,.slice A' m c',.int .i64 q3] 55):=⟨_,rfl⟩
      have hal:Below wr.heap.size wr wr1:=by rw [hwr1];exact (Below.refl _ _).alloc (Nat.le_refl _) _
      have hE1:wr1.heap[wr.heap.size]?=some (.cells #[.int .i64 q1,.slice A' m c',.int .i64 q3] 55 (0,0)):=by rw [hwr1];exact heap_alloc_new wr _
      have hsz1:wr1.heap.size=wr.heap.size+1:=by rw [hwr1];simp
      have HADD:=Lib.hid (hadd wr1 hal)
      have HSLT:Hid (∀ k,S k→k<wr.heap.size):=Lib.hid hrig.buf.lt
      obtain ⟨XS,hXS⟩:∃ XS,XS=(G.take k).map (·.1):=⟨_,rfl⟩
      obtain ⟨YS,hYS⟩:∃ YS,YS=(G.take k).map (·.2.2):=⟨_,rfl⟩
      have hXL:XS.length=k:=by rw [hXS,List.length_map,htl]
      have hYL:YS.length=k:=by rw [hYS,List.length_map,htl]
      rw [← hXS,← hYS] at hgat
      have HXL:=Lib.hid hXL
      have HYL:=Lib.hid hYL
      have HXS:=Lib.hid hXS
      have HYS:=Lib.hid hYS
      clear hXS hYS hXL hYL
      have HGAT:=Lib.hid hgat
      have HSP:=Lib.hid hSP
      have HS1:=Lib.hid hS1
      have HS2:=Lib.hid hS2
      have HWR1:=Lib.hid hwr1
      have HAL:=Lib.hid hal
      have HE1:=Lib.hid hE1
      have HSZ1:=Lib.hid hsz1
      have HTS:=Lib.hid hts
      have HTL:=Lib.hid htl
      have k0:(0:Int)≤k:=by omega
      have k1:(k:Int)<N:=by omega
      have HBW:=Lib.hid hrig.bel
      clear hrig hgat hSP hS1 hS2 hwr1 hal hE1 hsz1 hadd hgk hm hts htl hn0 hnu hv hkl
      go_wp2_with (first
                | (go_at_call 50; rw [show wr.alloc _ = wr1 from HWR1.out.symm]; refine HADD.out.mono ?_; rintro e w5 ⟨rfl, S', hrig5, hS5, ho5⟩
                   have hg5:GatI 34 w.heap.size w.heap.size P v1 v2 XS YS w5:=(HGAT.out.below HAL.out).keep (fun j hj hj'=>ho5.block j hj (by rcases hj' with rfl|h|h<;>first|exact HSP.out|exact HS1.out _ h|exact HS2.out _ h)) ho5.size
                   have hE5:w5.heap[wr.heap.size]?=some (.cells #[.int .i64 q1,.slice A' m c',.int .i64 q3] 55 (0,0)):=(ho5.block _ (by rw [HSZ1.out];exact Nat.lt_succ_self _) (fun h=>Nat.lt_irrefl _ (HSLT.out _ h))).trans HE1.out
                   have hSP5:¬ S' P:=fun h=>(hS5 P h).elim HSP.out fun h=>by have :=HGAT.out.lt;have :=HSZ1.out;omega
                   have hS15:∀ g,v1.ownBlock=some g→¬ S' g:=fun g hg h=>(hS5 g h).elim (HS1.out g hg) fun h=>by have :=(HGAT.out.ids.lt g hg).2;have :=HSZ1.out;omega
                   have hS25:∀ g,v2.ownBlock=some g→¬ S' g:=fun g hg h=>(hS5 g h).elim (HS2.out g hg) fun h=>by have :=(HGAT.out.seqs.lt g hg).2;have :=HSZ1.out;omega
                   have p0:=(four10 hg5.cells).1.1
                   have x0:=(cells3 hE5).1
                   have ho1:=hg5.ids
                   rw [HXL.out] at ho1
                   have HO5:=Lib.hid ho1
                   clear ho1
                   have HRIG5:=Lib.hid hrig5
                   have HG5:=Lib.hid hg5
                   have HE5:=Lib.hid hE5
                   have HSP5:=Lib.hid hSP5
                   have HS15:=Lib.hid hS15
                   have HS25:=Lib.hid hS25
                   have HEV:Hid ((∀ g,v1.ownBlock=some g→g<wr.heap.size)∧(∀ g,v2.ownBlock=some g→g<wr.heap.size)∧P<wr.heap.size∧wr.heap.size<w5.heap.size):=Lib.hid ⟨fun g hg=>(HGAT.out.ids.lt g hg).2,fun g hg=>(HGAT.out.seqs.lt g hg).2,HGAT.out.lt,(Array.getElem?_eq_some_iff.1 hE5).1⟩
                   clear hrig5 hg5 hE5 hSP5 hS15 hS25 hS5 ho5)
                |(at_builtin;refine wpList_append_own_at _ rfl (.tmp 26) (.tmp 30) 22 rfl w.heap.size 3 i0 _ 1 8 Tryz.underlying22 hi0 hz0 hz1 hz2 rfl (by omega) v1 k (ints XS) rfl (HO5.out.alloc _) ⟨w5.heap.size,0,none⟩ 1 1 [.int .i64 q1] rfl rfl (news_at w5 [.int .i64 q1] 3) (by intro u hu;simp at hu;subst hu;rfl) (by unfold maxLen;omega) (by omega) (by have :=HG5.out.size;simp;omega) ?_))
      intro v1' w6 hown6 hgrow6 hz6 hat6
      clear hz6
      obtain ⟨g1',cap1',hv1',_,_⟩:=hown6.form (by omega)
      subst hv1'
      have hal5:Below w5.heap.size w5 (w5.alloc (.cells #[.int .i64 q1] 3)):=(Below.refl _ _).alloc (Nat.le_refl _) _
      obtain ⟨hP6,hg6,hb6,hk6⟩:=(HG5.out.below hal5).id (by decide) (by rw [HXL.out];exact hown6) hgrow6 (hat6.imp id fun h=>h.trans (by simp))
      obtain ⟨⟨r0,_⟩,s0,_⟩:=four10 hP6
      obtain ⟨w7,hw7⟩:∃ w7,w7=w6.setCell ⟨P,0,none⟩ (.slice (some ⟨g1',0,none⟩) (k+1) cap1'):=⟨_,rfl⟩
      rw [← hw7] at hg6 hb6 hk6
      have hsz5a:(w5.alloc (.cells #[.int .i64 q1] 3)).heap.size=w5.heap.size+1:=by simp
      have hkk:∀ j,j<w5.heap.size→j≠P→v1.ownBlock≠some j→w7.heap[j]?=w5.heap[j]?:=fun j hj h1 h2=>(hk6 j (by omega) h1 h2).trans (hal5.block j hj)
      have hE7:=(hkk wr.heap.size HEV.out.2.2.2 (by have :=HEV.out.2.2.1;omega) (fun e=>Nat.lt_irrefl _ (HEV.out.1 _ e))).trans HE5.out
      have p1:=(four10 hg6.cells).1.2.1
      have x2:=(cells3 hE7).2.2
      rw [hw7] at p1 x2
      have hS1g:∀ g,(Value.slice (some ⟨g1',0,none⟩) (k+1) cap1').ownBlock=some g→¬ S' g:=fun g hg hs=>by
        rcases hat6 with hat|hat
        · exact HS15.out g (hat▸hg) hs
        · rw [hat] at hg
          injection hg with hg
          have :=HRIG5.out.buf.lt g hs
          omega
      have hb57:Below w.heap.size w5 w7:=(hal5.mono HRIG5.out.bel.size).trans hb6
      have HB57:=Lib.hid hb57
      have HKK:=Lib.hid hkk
      have HS1G:=Lib.hid hS1g
      have ho2:=hg6.seqs
      rw [HYL.out,hw7] at ho2
      have HO7:=Lib.hid ho2
      have hnw:=news_at w7 [.int .i64 q3] 3
      rw [show (⟨w7.heap.size,0,none⟩:Addr)=⟨w6.heap.size,0,none⟩ by rw [hw7];simp,hw7] at hnw
      have HNW:=Lib.hid hnw
      have HSB:Hid (w.heap.size≤((w6.setCell ⟨P,0,none⟩ (.slice (some ⟨g1',0,none⟩) (k+1) cap1')).alloc (.cells #[.int .i64 q3] 3)).heap.size):=Lib.hid (by rw [← hw7];have :=hg6.size;simp;omega)
      clear hnw
      clear ho2
      have HG7:=Lib.hid hg6
      have HW7:=Lib.hid hw7
      have HSZ7:Hid (w5.heap.size≤w7.heap.size):=Lib.hid hb57.size
      clear hown6 hgrow6 hat6 hal5 hP6 hg6 hb6 hk6 hw7 hsz5a hkk hE7 hS1g hb57 p0 x0
      go_wp2_with (at_builtin;refine wpList_append_own_at _ rfl (.tmp 34) (.tmp 37) 22 rfl w.heap.size 3 i0 _ 1 8 Tryz.underlying22 hi0 hz0 hz1 hz2 rfl (by omega) v2 k (ints YS) rfl (HO7.out.alloc _) ⟨w6.heap.size,0,none⟩ 1 1 [.int .i64 q3] rfl rfl HNW.out (by intro u hu;simp at hu;subst hu;rfl) (by unfold maxLen;omega) (by omega) HSB.out ?_)
      intro v2' w8 hown8 hgrow8 hz8 hat8
      clear hz8
      rw [← HW7.out] at hgrow8
      have hat8:v2'.ownBlock=v2.ownBlock∨v2'.ownBlock=some (w7.heap.size+1):=hat8.imp id fun h=>h.trans (by rw [HW7.out];simp)
      obtain ⟨g2',cap2',hv2',_,_⟩:=hown8.form (by omega)
      subst hv2'
      have hal7:Below w7.heap.size w7 (w7.alloc (.cells #[.int .i64 q3] 3)):=(Below.refl _ _).alloc (Nat.le_refl _) _
      obtain ⟨hP8,hg8,hb8,hk8⟩:=(HG7.out.below hal7).seq (by decide) (by rw [HYL.out];exact hown8) hgrow8 (hat8.imp id fun h=>h.trans (by simp))
      obtain ⟨⟨_,r1,_⟩,_,s1,_⟩:=four10 hP8
      have hsz7a:(w7.alloc (.cells #[.int .i64 q3] 3)).heap.size=w7.heap.size+1:=by simp
      have hrel:BuildRel1 B P (.slice (some ⟨b,0,none⟩) N cV) G w (.int .i64 ((k:Int)+1)) (w8.setCell ⟨P,1,none⟩ (.slice (some ⟨g2',0,none⟩) (k+1) cap2')):=by
        refine ⟨k+1,S',.slice (some ⟨g1',0,none⟩) (k+1) cap1',.slice (some ⟨g2',0,none⟩) (k+1) cap2',by rw [← HN.out];omega,by go_num,?_,?_,HSP5.out,HS1G.out,fun g hg hs=> ?_⟩
        · have hbb:=HB57.out.trans ((hal7.mono (by have :=HRIG5.out.bel.size;have :=HSZ7.out;omega)).trans hb8)
          have :=HRIG5.out.keep (w':=w8.setCell ⟨P,1,none⟩ (.slice (some ⟨g2',0,none⟩) (k+1) cap2')) (fun j hj=>by
            have hj5:=HRIG5.out.buf.lt j hj
            have hjP:j≠P:=by rintro rfl;exact HSP5.out hj
            have h57:=HKK.out j hj5 hjP (fun e=>HS15.out j e hj)
            exact ((hk8 j (by have :=HSZ7.out;omega) hjP (fun e=>HS25.out j e hj)).trans (hal7.block j (by have :=HSZ7.out;omega))).trans h57) hbb
          rw [HTS.out,lastE_snoc]
          exact this
        · rw [HTS.out,List.map_append,List.map_append,← HXS.out,← HYS.out]
          exact hg8
        · rcases hat8 with hat|hat
          · exact HS25.out g (hat▸hg) hs
          · rw [hat] at hg
            injection hg with hg
            have :=HRIG5.out.buf.lt g hs
            have :=HSZ7.out
            omega
      have HRL:=Lib.hid hrel
      clear hown8 hgrow8 hat8 hal7 hP8 hg8 hb8 hk8 hsz7a hrel
      go_wp2
      go_roundw
      case rel=>exact HRL.out
      case measure=>simp [intOf];omega
    · have hke:k=N:=by omega
      subst hke
      have htk:G.take k=G:=List.take_of_length_le (by rw [HN.out];exact Nat.le_refl _)
      rw [htk] at hrig hgat
      have hids:G.map (·.1)=(buildP G).ids:=rfl
      have hseqs:G.map (·.2.2)=(buildP G).seqs:=rfl
      rw [hids,hseqs] at hgat
      have HKEY:=Lib.hid (buf_Keys hrig.buf (by have :=HN.out;omega))
      have HRIG:=Lib.hid hrig
      have HGAT:=Lib.hid hgat
      have HSP:=Lib.hid hSP
      obtain ⟨A1,c1,A2,c2,rfl,rfl,hc1,hc2,_,_⟩:=hgat.rowG
      have hl1:(buildP G).ids.length=k:=by rw [HN.out];simp [buildP]
      have hl2:(buildP G).seqs.length=k:=by rw [HN.out];simp [buildP]
      have HL1:=Lib.hid hl1
      have HL2:=Lib.hid hl2
      clear hrig hgat hSP hS1 hS2 htk hids hseqs hlt hc1 hc2 hl1 hl2
      go_wp2_with (go_at_call 51; refine HKEY.out.mono ?_; rintro e w8 ⟨v8, rfl, ho8, hb8⟩
                   have hg8:=HGAT.out.below hb8
                   obtain ⟨A8,c8,rfl,hc8,hu8⟩:=OwnNm.row ho8
                   obtain ⟨⟨_,_,r2,_⟩,_,_,s2,_⟩:=four10 hg8.cells
                   obtain ⟨hgl,hkl,hbl⟩:=hg8.lists (by unfold PoK;decide) (by decide) (bk:=wr.heap.size) (ks:=keysE G) ho8
                   have r2':=(four10 hgl.cells).1.2.2.1
                   have HGL:=Lib.hid hgl
                   have HKL:=Lib.hid hkl
                   have HBL:=Lib.hid hbl
                   have HB8:=Lib.hid hb8
                   have HG8:=Lib.hid hg8
                   obtain ⟨K,hK⟩:∃ K,K=(keysE G).length:=⟨_,rfl⟩
                   rw [← hK] at hc8 r2' ⊢
                   have HK:=Lib.hid hK
                   clear hgl hkl hbl hb8 hg8 hu8 hK)
      obtain ⟨base,hbase⟩:∃ b,b=w8.heap.size:=⟨_,rfl⟩
      have hgl0:=HGL.out
      rw [← hbase] at hgl0
      have hSb:∀ q,S q→q<base:=fun q hq=>by have :=HRIG.out.buf.lt q hq;have :=HB8.out.size;omega
      have hrab:RowG w.heap.size 3 w8 A1 (ints (buildP G).ids)∧RowG w.heap.size 3 w8 A2 (ints (buildP G).seqs):=by
        obtain ⟨_,_,_,_,g1,g2,_,_,hra,hrb⟩:=HG8.out.rowG
        injection g1 with g1 _ _
        injection g2 with g2 _ _
        subst g1 g2
        exact ⟨hra,hrb⟩
      obtain ⟨hra,hrb⟩:=hrab
      have hrel:BuildRel2 S B P base (.slice AV k cV) G (.slice A1 (buildP G).ids.length c1) (.slice A2 (buildP G).seqs.length c2) (.slice A8 K c8) A1 A2 w (.int .i64 ((0:Nat):Int)) (w8.setCell ⟨P,2,none⟩ (.slice A8 K c8)):=by
        refine ⟨0,.slice none 0 0,Nat.zero_le _,rfl,(HRIG.out.below HB8.out).keep (fun q hq=>Below.heap_setCell _ _ _ _ (show q≠P by rintro rfl;exact HSP.out hq)) ?_,?_,hra.keep (.inr rfl) ?_,hrb.keep (.inr rfl) ?_⟩
        · rw [HK.out];exact HBL.out
        · rw [HK.out];exact hgl0
        · rw [HK.out];exact HKL.out
        · rw [HK.out];exact HKL.out
      have HREL:=Lib.hid hrel
      have HSB:=Lib.hid hSb
      have hK4:K≤400000:=by rw [HK.out];exact build_keys HG.out
      have HKK:Hid ((buildP G).lists.length=K):=Lib.hid (by rw [HK.out];simp [buildP])
      clear hrel hSb hgl0 hbase hra hrb HGL HKL HBL HRIG HGAT HG8 r2 s2 r2'
      go_loopw [47] (fun i wr=>BuildRel2 S B P base (.slice AV k cV) G (.slice A1 (buildP G).ids.length c1) (.slice A2 (buildP G).seqs.length c2) (.slice A8 K c8) A1 A2 w i wr) (fun i _=>K-(intOf i).toNat)
      case atStart=>exact HREL.out
      case round=>
        obtain ⟨j,v4,hj,rfl,hrig,hgl,hra,hrb⟩:=hrel
        rw [← HK.out] at hj
        by_cases hjk:j<K
        · have hjl:j<(keysE G).length:=by rw [← HK.out];exact hjk
          have hjl2:j<(buildP G).lists.length:=by rw [HKK.out];exact hjk
          obtain ⟨bk,hkk⟩:=hgl.keys
          obtain ⟨b1,o1,rfl,hb1,hc1⟩:=row_nm (owned_row_of hkk) hjl
          have hgood:=HG.out.good
          have hmem:(keysE G)[j]∈keysE G:=List.getElem_mem hjl
          have hL0:(buildP G).lists[j]=postsE 0 G (keysE G)[j]:=by simp [buildP]
          have hpg:=posts_good hgood (key:=(keysE G)[j])
          have hpl:=posts_len hgood (key:=(keysE G)[j]) G 0 (fun q hq=>hq)
          have hts:(buildP G).lists.take (j+1)=(buildP G).lists.take j++[postsE 0 G (keysE G)[j]]:=by rw [List.take_succ_eq_append_getElem hjl2,hL0]
          obtain ⟨L,hL⟩:∃ L,L=postsE 0 G (keysE G)[j]:=⟨_,rfl⟩
          rw [← hL] at hpg hpl hts
          obtain ⟨X,hX,hX2⟩:=as_text (keysE G)[j]
          rw [← hX] at hc1
          rw [← hX2] at hL
          have hlen4:((buildP G).lists.take j).length=j:=by rw [List.length_take];omega
          obtain ⟨m6,hm6⟩:∃ m,m=L.length:=⟨_,rfl⟩
          have HPO:Hid (∀ W1,Below wr.heap.size wr W1→Calls Tryz.prog 52 #[.pointer (some ⟨B,0,none⟩),.string X] W1 (GotPo L W1)):=Lib.hid fun W1 hb=>
            buf_Postings (hrig.buf.below hb) X L hL (by have :=HN.out;omega) fun p hp=>by have :=hpg p hp;omega
          have HB0:Hid (Below wr.heap.size wr wr.drew):=Lib.hid (Below.refl _ wr).drew
          have HG5:=Lib.hid hgl
          have HLOAD:Hid (∀ W1,Below wr.heap.size wr W1→W1.cell? ⟨P,3,none⟩=some v4):=Lib.hid fun W1 hb=>(four10 (hgl.below hb).cells).1.2.2.2
          have HL0:=Lib.hid (HLOAD.out _ HB0.out)
          have HLL:=Lib.hid hm6
          have HLEN4:=Lib.hid hlen4
          have hjb:j≤400000:=by omega
          have HFIN:Hid (∀ w6 wa W7 v7,Below wr.heap.size wr w6→Below w6.heap.size w6 wa→GatL 34 w.heap.size base P (.slice A1 (buildP G).ids.length c1) (.slice A2 (buildP G).seqs.length c2) (.slice (some ⟨b1,o1,none⟩) K c8) v7 (keysE G) ((buildP G).lists.take j++[L]) W7→Below w.heap.size wa W7→KeptG w.heap.size wa W7→(∀ k,k<base→k≠P→W7.heap[k]?=wa.heap[k]?)→
              (∀ (k:Nat) (cs:Array Value) (t:TypeId) (fr:Nat × Nat),k≠P→wa.heap[k]?=some (.cells cs t fr)→t≠58→W7.heap[k]?=some (.cells cs t fr))→
              BuildRel2 S B P base (.slice AV k cV) G (.slice A1 (buildP G).ids.length c1) (.slice A2 (buildP G).seqs.length c2) (.slice (some ⟨b1,o1,none⟩) K c8) A1 A2 w (.int .i64 ((j:Int)+1)) W7):=Lib.hid fun w6 wa W7 v7 hb6 hba hg7 hb7 hk7 hs7 _=>by
            have hbA:Below wr.heap.size wr wa:=hb6.trans (hba.mono hb6.size)
            have hkA:KeptG w.heap.size wr W7:=(KeptG.of_below hbA hrig.bel.size).trans hk7
            refine ⟨j+1,v7,by rw [← HK.out];omega,by go_num,(hrig.below hbA).keep (fun q hq=>hs7 q (HSB.out q hq) (by rintro rfl;exact HSP.out hq)) hb7,?_,hra.keep (.inr rfl) hkA,hrb.keep (.inr rfl) hkA⟩
            rw [hts]
            exact hg7
          have k0:(0:Int)≤j:=by omega
          have k1:(j:Int)<K:=by omega
          clear hrig hgl hra hrb hkk hgood hmem hL0 hpg hpl hts hL hX hX2 hlen4 hm6 hjl hjl2 hj
          go_upto_region 15 with fail
          refine wp_region_noPanic ?_
          refine wp_region_held_drew (S:=fun _=>True) (by kernel_rfl) trivial (fun hHeld=> ?_)
          refine wpAnyH_take (i:=0) (v:= .pointer (some ⟨P,3,none⟩)) rfl (by kernel_rfl) (by kernel_rfl) (by kernel_rfl) (fun _ _ _ h=>h) (Or.inl ⟨by rfl,fun wx hSw=>by go_simp⟩) (by assumption) ?_
          try simp only [Act.put,zA,zB,zD,zE,zF]
          refine wpAnyH_take (i:=2) (v:= .pointer (some ⟨B,0,none⟩)) rfl (by kernel_rfl) (by kernel_rfl) (by kernel_rfl) (fun _ _ _ h=>h) (Or.inl ⟨by rfl,fun wx hSw=>by go_simp⟩) (by assumption) ?_
          try simp only [Act.put,zA,zB,zC,zD,zE,zF]
          refine wpAnyH_take (i:=3) (v:= .string X) rfl (by kernel_rfl) (by kernel_rfl) (by kernel_rfl) (fun _ _ _ h=>h) (Or.inl ⟨by rfl,fun wx hSw=>by go_simp⟩) (by assumption) ?_
          try simp only [Act.put,zA,zB,zC,zD,zE,zF]
          refine wpAnyH_ready (rs:=[1,4]) (by kernel_rfl) (by simp) ?_
          refine (AllReadyH.cons rfl (fun K hK=> ?_) (AllReadyH.cons rfl (fun K hK=> ?_) AllReadyH.nil))
          · try simp only [zA,zB,zC]
            have hl:=HL0.out
            go_simp
            refine hK.out _ _ ?_ (fun hHeld=> ?_)
            · exact trivial
            clear hK K
            try simp only [Act.put,zA,zB,zC,zD,zE,zF]
            refine wpAnyH_ready (rs:=[4]) (by kernel_rfl) (by simp) ?_
            refine (AllReadyH.cons rfl (fun K hK=> ?_) AllReadyH.nil)
            · try simp only [zA,zB,zC]
              go_simp
              go_at_call 52
              (with_reducible refine (HPO.out _ HB0.out).mono ?_)
              rintro e w6 ⟨v6,rfl,hn6,hb6⟩
              obtain ⟨A6,c6,rfl,hc6,hp6⟩:=PostsG.of_pp (b0:=w.heap.size) hn6
              rw [← HLL.out] at hc6
              have HB6:Hid (Below wr.heap.size wr w6):=Lib.hid (HB0.out.trans hb6)
              have HL6:=Lib.hid (HLOAD.out _ HB6.out)
              have HL6a:=Lib.hid (HLOAD.out _ (HB6.out.alloc HB6.out.size (.cells #[.slice A6 m6 c6] 58)))
              obtain ⟨cs4,ho4,hg4⟩:=(HG5.out.below HB6.out).lists
              have hal6:Below w6.heap.size w6 (w6.alloc (.cells #[.slice A6 m6 c6] 58)):=(Below.refl _ _).alloc (Nat.le_refl _) _
              obtain ⟨g,cap,w7,hrun,hown7,hg7,_,_⟩:=run_append_lies (P:=Tryz.prog) (w6.alloc (.cells #[.slice A6 m6 c6] 58)) 24 24 base 58 j0 _ 1 24 Tryz.underlying24 hj0 hj1 hj2 hj3 rfl (by omega) v4 ((buildP G).lists.take j).length cs4 (ho4.alloc _) ⟨w6.heap.size,0,none⟩ 1 1 [.slice A6 m6 c6] rfl (news_at w6 [.slice A6 m6 c6] 58) (by intro u hu;simp at hu;subst hu;rfl) (by omega) (by unfold maxLen;rw [HLEN4.out];omega) (by rw [HLEN4.out];omega) (by have :=HG5.out.size;have :=HB6.out.size;simp;omega) (w6.heap.size+1) (by simp)
              rw [HLEN4.out] at hown7 hrun
              have hkg6:=KeptG.of_below (b0:=w.heap.size) hal6 (by have :=HG5.out.hbase;have :=HG5.out.size;have :=HB6.out.size;omega)
              obtain ⟨hP7,hG7,hB7,hK7,hS7,hO7⟩:=((HG5.out.below HB6.out).below hal6).list (by unfold PoK;decide) (by decide) (by decide) (by rw [← HLL.out];exact hc6) (hp6.keep hkg6) (ho4.alloc _) (hg4.keep hkg6) (by rw [HLEN4.out,← HLL.out];exact hown7) hg7
              have HRUN:=Lib.hid hrun
              have F7:=Lib.hid (And.intro (four10 hP7).1.2.2.2 (four10 hP7).2.2.2.2)
              have HEND:=Lib.hid (HFIN.out w6 _ _ _ HB6.out hal6 hG7 hB7 hK7 hS7 hO7)
              clear hn6 hb6 hp6 hc6 ho4 hg4 hal6 hown7 hg7 hkg6 hP7 hG7 hB7 hK7 hS7 hO7 hrun
              rw [← HLL.out]
              go_wp2_with fail
              refine hK.out _ _ ?_ (fun hHeld=> ?_)
              · exact trivial
              clear hK K
              try simp only [Act.put,zA,zB,zC,zD,zE,zF]
              refine wpAnyH_ready (rs:=[5]) (by kernel_rfl) (by simp) ?_
              refine (AllReadyH.cons rfl (fun K hK=> ?_) AllReadyH.nil)
              · try simp only [zA,zB,zC]
                go_simp
                refine hK.out _ _ ?_ (fun hHeld=> ?_)
                · exact trivial
                clear hK K
                try simp only [Act.put,zA,zB,zC,zD,zE,zF]
                refine wpAnyH_ready (rs:=[6]) (by kernel_rfl) (by simp) ?_
                refine (AllReadyH.cons rfl (fun K hK=> ?_) AllReadyH.nil)
                · try simp only [zA,zB,zC]
                  refine step_append_known (a:=⟨_,_⟩) ?_ (.tmp 52) (.tmp 56) 24 ?_ v4 (.slice (some ⟨w6.heap.size,0,none⟩) 1 1) ?_ ?_ (.slice (some ⟨g,0,none⟩) (j+1) cap) w7 ?_ ?_
                  · rfl
                  · rfl
                  · rfl
                  · rfl
                  · exact HRUN.out
                  refine hK.out _ _ ?_ (fun hHeld=> ?_)
                  · exact trivial
                  clear hK K
                  try simp only [Act.put,zD,zE,zF]
                  refine wpAnyH_take (i:=7) (v:= .pointer (some ⟨P,3,none⟩)) rfl (by kernel_rfl) (by kernel_rfl) (by kernel_rfl) (fun _ _ _ h=>h) (Or.inl ⟨by rfl,fun wx hSw=>by go_simp⟩) (by assumption) ?_
                  try simp only [Act.put,zA,zB,zC,zD,zE,zF]
                  refine wpAnyH_ready (rs:=[8]) (by kernel_rfl) (by simp) ?_
                  refine (AllReadyH.cons rfl (fun K hK=> ?_) AllReadyH.nil)
                  · try simp only [zA,zB,zC]
                    obtain ⟨f7,f8⟩:=F7.out
                    go_simp
                    refine hK.out _ _ ?_ (fun hHeld=> ?_)
                    · exact trivial
                    clear hK K
                    try simp only [Act.put,zA,zB,zC,zD,zE,zF]
                    refine wpAnyH_done (by kernel_rfl) ?_ _
                    refine NoPanic.normal ?_
                    go_wp2
                    go_roundw
                    case rel=>exact HEND.out
                    case measure=>simp [intOf];omega
          · try simp only [zA,zB,zC]
            go_simp
            go_at_call 52
            (with_reducible refine (HPO.out _ HB0.out).mono ?_)
            rintro e w6 ⟨v6,rfl,hn6,hb6⟩
            obtain ⟨A6,c6,rfl,hc6,hp6⟩:=PostsG.of_pp (b0:=w.heap.size) hn6
            rw [← HLL.out] at hc6
            have HB6:Hid (Below wr.heap.size wr w6):=Lib.hid (HB0.out.trans hb6)
            have HL6:=Lib.hid (HLOAD.out _ HB6.out)
            have HL6a:=Lib.hid (HLOAD.out _ (HB6.out.alloc HB6.out.size (.cells #[.slice A6 m6 c6] 58)))
            obtain ⟨cs4,ho4,hg4⟩:=(HG5.out.below HB6.out).lists
            have hal6:Below w6.heap.size w6 (w6.alloc (.cells #[.slice A6 m6 c6] 58)):=(Below.refl _ _).alloc (Nat.le_refl _) _
            obtain ⟨g,cap,w7,hrun,hown7,hg7,_,_⟩:=run_append_lies (P:=Tryz.prog) (w6.alloc (.cells #[.slice A6 m6 c6] 58)) 24 24 base 58 j0 _ 1 24 Tryz.underlying24 hj0 hj1 hj2 hj3 rfl (by omega) v4 ((buildP G).lists.take j).length cs4 (ho4.alloc _) ⟨w6.heap.size,0,none⟩ 1 1 [.slice A6 m6 c6] rfl (news_at w6 [.slice A6 m6 c6] 58) (by intro u hu;simp at hu;subst hu;rfl) (by omega) (by unfold maxLen;rw [HLEN4.out];omega) (by rw [HLEN4.out];omega) (by have :=HG5.out.size;have :=HB6.out.size;simp;omega) (w6.heap.size+1) (by simp)
            rw [HLEN4.out] at hown7 hrun
            have hkg6:=KeptG.of_below (b0:=w.heap.size) hal6 (by have :=HG5.out.hbase;have :=HG5.out.size;have :=HB6.out.size;omega)
            obtain ⟨hP7,hG7,hB7,hK7,hS7,hO7⟩:=((HG5.out.below HB6.out).below hal6).list (by unfold PoK;decide) (by decide) (by decide) (by rw [← HLL.out];exact hc6) (hp6.keep hkg6) (ho4.alloc _) (hg4.keep hkg6) (by rw [HLEN4.out,← HLL.out];exact hown7) hg7
            have HRUN:=Lib.hid hrun
            have F7:=Lib.hid (And.intro (four10 hP7).1.2.2.2 (four10 hP7).2.2.2.2)
            have HEND:=Lib.hid (HFIN.out w6 _ _ _ HB6.out hal6 hG7 hB7 hK7 hS7 hO7)
            clear hn6 hb6 hp6 hc6 ho4 hg4 hal6 hown7 hg7 hkg6 hP7 hG7 hB7 hK7 hS7 hO7 hrun
            rw [← HLL.out]
            go_wp2_with fail
            refine hK.out _ _ ?_ (fun hHeld=> ?_)
            · exact trivial
            clear hK K
            try simp only [Act.put,zA,zB,zC,zD,zE,zF]
            refine wpAnyH_ready (rs:=[1,5]) (by kernel_rfl) (by simp) ?_
            refine (AllReadyH.cons rfl (fun K hK=> ?_) (AllReadyH.cons rfl (fun K hK=> ?_) AllReadyH.nil))
            · try simp only [zA,zB,zC]
              have hl:=HL6.out
              go_simp
              refine hK.out _ _ ?_ (fun hHeld=> ?_)
              · exact trivial
              clear hK K
              try simp only [Act.put,zA,zB,zC,zD,zE,zF]
              refine wpAnyH_ready (rs:=[5]) (by kernel_rfl) (by simp) ?_
              refine (AllReadyH.cons rfl (fun K hK=> ?_) AllReadyH.nil)
              · try simp only [zA,zB,zC]
                go_simp
                refine hK.out _ _ ?_ (fun hHeld=> ?_)
                · exact trivial
                clear hK K
                try simp only [Act.put,zA,zB,zC,zD,zE,zF]
                refine wpAnyH_ready (rs:=[6]) (by kernel_rfl) (by simp) ?_
                refine (AllReadyH.cons rfl (fun K hK=> ?_) AllReadyH.nil)
                · try simp only [zA,zB,zC]
                  refine step_append_known (a:=⟨_,_⟩) ?_ (.tmp 52) (.tmp 56) 24 ?_ v4 (.slice (some ⟨w6.heap.size,0,none⟩) 1 1) ?_ ?_ (.slice (some ⟨g,0,none⟩) (j+1) cap) w7 ?_ ?_
                  · rfl
                  · rfl
                  · rfl
                  · rfl
                  · exact HRUN.out
                  refine hK.out _ _ ?_ (fun hHeld=> ?_)
                  · exact trivial
                  clear hK K
                  try simp only [Act.put,zD,zE,zF]
                  refine wpAnyH_take (i:=7) (v:= .pointer (some ⟨P,3,none⟩)) rfl (by kernel_rfl) (by kernel_rfl) (by kernel_rfl) (fun _ _ _ h=>h) (Or.inl ⟨by rfl,fun wx hSw=>by go_simp⟩) (by assumption) ?_
                  try simp only [Act.put,zA,zB,zC,zD,zE,zF]
                  refine wpAnyH_ready (rs:=[8]) (by kernel_rfl) (by simp) ?_
                  refine (AllReadyH.cons rfl (fun K hK=> ?_) AllReadyH.nil)
                  · try simp only [zA,zB,zC]
                    obtain ⟨f7,f8⟩:=F7.out
                    go_simp
                    refine hK.out _ _ ?_ (fun hHeld=> ?_)
                    · exact trivial
                    clear hK K
                    try simp only [Act.put,zA,zB,zC,zD,zE,zF]
                    refine wpAnyH_done (by kernel_rfl) ?_ _
                    refine NoPanic.normal ?_
                    go_wp2
                    go_roundw
                    case rel=>exact HEND.out
                    case measure=>simp [intOf];omega
            · try simp only [zA,zB,zC]
              go_simp
              refine hK.out _ _ ?_ (fun hHeld=> ?_)
              · exact trivial
              clear hK K
              try simp only [Act.put,zA,zB,zC,zD,zE,zF]
              refine wpAnyH_ready (rs:=[1]) (by kernel_rfl) (by simp) ?_
              refine (AllReadyH.cons rfl (fun K hK=> ?_) AllReadyH.nil)
              · try simp only [zA,zB,zC]
                have hl:=HL6a.out
                go_simp
                refine hK.out _ _ ?_ (fun hHeld=> ?_)
                · exact trivial
                clear hK K
                try simp only [Act.put,zA,zB,zC,zD,zE,zF]
                refine wpAnyH_ready (rs:=[6]) (by kernel_rfl) (by simp) ?_
                refine (AllReadyH.cons rfl (fun K hK=> ?_) AllReadyH.nil)
                · try simp only [zA,zB,zC]
                  refine step_append_known (a:=⟨_,_⟩) ?_ (.tmp 52) (.tmp 56) 24 ?_ v4 (.slice (some ⟨w6.heap.size,0,none⟩) 1 1) ?_ ?_ (.slice (some ⟨g,0,none⟩) (j+1) cap) w7 ?_ ?_
                  · rfl
                  · rfl
                  · rfl
                  · rfl
                  · exact HRUN.out
                  refine hK.out _ _ ?_ (fun hHeld=> ?_)
                  · exact trivial
                  clear hK K
                  try simp only [Act.put,zD,zE,zF]
                  refine wpAnyH_take (i:=7) (v:= .pointer (some ⟨P,3,none⟩)) rfl (by kernel_rfl) (by kernel_rfl) (by kernel_rfl) (fun _ _ _ h=>h) (Or.inl ⟨by rfl,fun wx hSw=>by go_simp⟩) (by assumption) ?_
                  try simp only [Act.put,zA,zB,zC,zD,zE,zF]
                  refine wpAnyH_ready (rs:=[8]) (by kernel_rfl) (by simp) ?_
                  refine (AllReadyH.cons rfl (fun K hK=> ?_) AllReadyH.nil)
                  · try simp only [zA,zB,zC]
                    obtain ⟨f7,f8⟩:=F7.out
                    go_simp
                    refine hK.out _ _ ?_ (fun hHeld=> ?_)
                    · exact trivial
                    clear hK K
                    try simp only [Act.put,zA,zB,zC,zD,zE,zF]
                    refine wpAnyH_done (by kernel_rfl) ?_ _
                    refine NoPanic.normal ?_
                    go_wp2
                    go_roundw
                    case rel=>exact HEND.out
                    case measure=>simp [intOf];omega
        · have hje:j=K:=by omega
          subst hje
          have htl:(buildP G).lists.take j=(buildP G).lists:=List.take_of_length_le (by rw [HKK.out];exact Nat.le_refl _)
          rw [htl] at hgl
          have hv4:∃ A4 c4,v4= .slice A4 (buildP G).lists.length c4:=by
            obtain ⟨cs4,hl4,_⟩:=hgl.lists
            obtain ⟨A4,c4,e,_⟩:=owned_row hl4
            exact ⟨A4,c4,e⟩
          obtain ⟨A4,c4,rfl⟩:=hv4
          have qq:=(four10 hgl.cells).1
          obtain ⟨n1,hn1⟩:∃ n,n=(buildP G).ids.length:=⟨_,rfl⟩
          obtain ⟨n2,hn2⟩:∃ n,n=(buildP G).seqs.length:=⟨_,rfl⟩
          obtain ⟨n4,hn4⟩:∃ n,n=(buildP G).lists.length:=⟨_,rfl⟩
          have hpat:PAt wr wr.heap.size A1 A2 A8 A4 (buildP G):=⟨hra.row,hrb.row,hgl.rows.1,hgl.rows.2⟩
          have HM:=Lib.hid (seg_Make A1 A2 A8 A4 n1 c1 n2 c2 _ c8 n4 c4 (buildP G) wr hn1.symm hn2.symm HK.out.symm hn4.symm hpat (build_few HG.out) (build_small HG.out) (build_may HG.out))
          have HBE:=Lib.hid hrig.bel
          rw [← hn1,← hn2,← hn4] at qq
          obtain ⟨q0,q1,q2,q3⟩:=qq
          clear hgl hra hrb hrig htl hpat hn1 hn2 hn4
          go_wp2_with (go_at_call 9;refine HM.out.mono ?_;rintro e w9 ⟨S9,rfl,hs9,hS9,hb9⟩)
          go_ret2
          exact ⟨S9,rfl,hs9,Nat.le_trans HBE.out.size hS9,HBE.out.trans (hb9.mono HBE.out.size)⟩
end Go.Proofs.YtmoomnpbiifedaaGreat
set_option linter.unusedVariables false
namespace Go.Proofs.YtmoomnpbiifedaaGreat
open Go Go.RowKit
theorem goodsE_at {l:List Dc} {most:Nat} {start step:Int} {i:Nat} (hi:i<(goodsE l most start step).length):((goodsE l most start step)[i]).2.2=start+step*(i:Int):=by
 simp [goodsE]
section
variable {S:Nat→Prop} {B:Nat} {L:List En} {up:Int} {V:Value} {G:List En} {A1:Option Addr} {one:List En} {w wr w':World}
end
end Go.Proofs.YtmoomnpbiifedaaGreat
set_option linter.unusedVariables false
namespace Go.Proofs.YtmoomnpbiifedaaGreat
open Go Go.RowKit
theorem goodsE_add (l:List Dc) (most:Nat) (start step:Int) (hm:most≤100) (h0:0≤start) (h1:1≤step):AddOk (goodsE l most start step) where
 may q hq:=by
  obtain ⟨d,hd⟩:=goodsE_good l most start step q hq
  rw [hd]
  exact ⟨goodD_may d,fun f hf=>⟨Nat.le_trans (goodUp_name d _ f hf) (by omega),Nat.le_trans (goodUp_text d _ f hf) (by omega)⟩⟩
 rise:=by
  have hat:∀ (i:Nat) (h:i<((goodsE l most start step).map (·.2.2)).length),((goodsE l most start step).map (·.2.2))[i]=start+step*(i:Int):=fun i h=>by
   rw [List.getElem_map]
   exact goodsE_at (by simpa using h)
  refine rises_of ?_ ?_
  ·refine List.pairwise_iff_getElem.2 fun i j hi hj hij=> ?_
   rw [hat i hi,hat j hj]
   have :step*(i:Int)<step*(j:Int):=Int.mul_lt_mul_of_pos_left (by omega) (by omega)
   omega
  ·intro a ha
   obtain ⟨i,hi,rfl⟩:=List.getElem_of_mem ha
   rw [hat i hi]
   have :0≤step*(i:Int):=Int.mul_nonneg (by omega) (by omega)
   omega
 few:=by rw [goodsE_length];omega
end Go.Proofs.YtmoomnpbiifedaaGreat
