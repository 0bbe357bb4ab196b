import Derived.Test.YtldcadpemnpbmaaGreatDoorMLZz
import Derived.Test.YtldcadpemnpbmaaGreatDoorMLQ19
import Derived.Test.YtldcadpemnpbmaaGreatDoorMLQ14
import Derived.Test.YtldcadpemnpbmaaGreatDoorMLQ15
import Derived.Test.YtldcadpemnpbmaaGreatDoorMLQ16
import Derived.Test.YtldcadpemnpbmaaGreatDoorMLQ04
import Derived.Test.YtldcadpemnpbmaaGreatDoorMLQ18
import Derived.Deep.AppendLies
import Derived.Deep.RegionLaw
import Derived.Test.YtldcadpemnpbmaaGreatDoorMLQ10
import Derived.Test.YtldcadpemnpbmaaGreatDoorMLQ05
set_option linter.unusedVariables false
namespace Go.Proofs.YtldcadpemnpbmaaGreatDoor
open Go Go.RowKit
section
variable {w:World} {S:Nat} {x:PartsP}
set_option maxHeartbeats 2000000 in
set_option maxRecDepth 100000 in
theorem seg_CursorP {p:Prop × Nat} (hp0:p.2≤w.heap.size) (h:SegAt w S x) (f g:ByteArray) (hf:f.size≤140737488355328) (hg:g.size≤140737488355328):Calls Tryz.prog 182 #[.pointer (some ⟨S,0,none⟩),.agg #[.string f,.string g]] w fun e w'=>∃ C,e= .returned (.pointer (some ⟨C,0,none⟩))∧w.heap.size≤C∧CAt p C (postsPs x (keyL f.data.toList g.data.toList)) (-1) w'∧Below w.heap.size w w':=by
 obtain ⟨w1,hw1⟩:∃ w1,w1=w.alloc (.cells #[.string f,.string g] 23):=⟨_,rfl⟩
 have hb1:Below w.heap.size w w1:=by rw [hw1];exact (Below.refl _ w).alloc (Nat.le_refl _) _
 have C0:=Lib.hid (word_Key10 f g w1 hf hg)
 have hs:=h.small.at_ (keyL f.data.toList g.data.toList)
 have hm:=may_at h.may (keyL f.data.toList g.data.toList)
 have C1:Hid (∀ w2,Below w1.heap.size w1 w2→Calls Tryz.prog 234 #[.pointer (some ⟨S,0,none⟩),.string (keyB f g)] w2 (GotList (postsPs x (keyL f.data.toList g.data.toList)) w2)):=Lib.hid fun w2 hb=>by
  have :=seg_list ((h.below hb1).below hb) (keyB f g)
  rwa [keyB_list] at this
 obtain ⟨L,hL⟩:∃ L,L=postsPs x (keyL f.data.toList g.data.toList):=⟨_,rfl⟩
 rw [← hL] at C1 hs hm ⊢
 obtain ⟨K,hK⟩:∃ K,K=keyB f g:=⟨_,rfl⟩
 rw [← hK] at C0 C1
 have HG:Hid (GoodG L):=Lib.hid ⟨hm,hs.1,bytes_small hm hs.1 hs.2⟩
 have HB1:=Lib.hid hb1
 have HW1:=Lib.hid hw1
 have HP0:=Lib.hid hp0
 clear h hL hK hb1 hw1 hf hg hs hm hp0
 go_enter Tryz.func182,Tryz.ntmps182
 go_wp2_with (first
  |(go_at_call 87;rw [show w.alloc _=w1 from HW1.out.symm];refine C0.out.mono ?_;rintro e w2 ⟨rfl,hb2⟩)
  |(go_at_call 234;refine (C1.out w2 hb2).mono ?_;rintro e w3 ⟨B,rfl,hla,hb3⟩;have HP3:Hid (p.2≤w3.heap.size):=Lib.hid (Nat.le_trans HP0.out (HB1.out.trans ((hb2.trans (hb3.mono hb2.size)).mono HB1.out.size)).size))
  |(go_at_call 233;refine (cur_New (fu:=p) 0 B L w3 hla HG.out HP3.out).mono ?_;rintro e w4 ⟨C,rfl,hC,hat,hb4⟩))
 go_ret
 have hb3':=HB1.out.trans ((hb2.trans (hb3.mono hb2.size)).mono HB1.out.size)
 exact ⟨C,rfl,Nat.le_trans hb3'.size hC,hat,hb3'.trans (hb4.mono hb3'.size)⟩
end
end Go.Proofs.YtldcadpemnpbmaaGreatDoor
set_option linter.unusedVariables false
namespace Go.Proofs.YtldcadpemnpbmaaGreatDoor
open Go Go.RowKit
attribute [local go_sem] Oper.semAt_some
theorem info_ptr:(Tryz.prog.info? 247).map (fun i=>(i.zero,i.size,i.bytes))=some (some (.pointer none),1,8):=by kernel_rfl
theorem soft_push {p:Prop × Nat} {X:Nat→Prop} {T E:TypeId} {b:Nat} {w w':World} (hb:Below b w w') (hko:KeepsOthers w w') (hkc:∀ (k:Nat) (cs:Array Value) (t:TypeId) (fr:Nat × Nat),w.heap[k]?=some (.cells cs t fr)→t≠T→t≠E→w'.heap[k]?=some (.cells cs t fr))
  (hT:∀ k,¬ Kept p k T) (hE:∀ k,¬ Kept p k E) (hX:∀ k,X k→∃ cs t fr,w.heap[k]?=some (.cells cs t fr)∧t≠T∧t≠E):Soft p X w w':=by
 refine ⟨hb.os,hb.tape,hb.output,hb.size,fun k hk=> ?_⟩
 obtain ⟨o,ho⟩:∃ o,w.heap[k]?=some o:=⟨_,Array.getElem?_eq_getElem hk⟩
 by_cases hc:o.isCells=true
 ·cases o with
  |cells cs t fr=>
   by_cases ht:t≠T∧t≠E
   ·exact .inl ((hkc k cs t fr ho ht.1 ht.2).trans ho.symm)
   ·refine .inr ⟨fun hx=> ?_,_,ho,fun cs' t' fr' e=> ?_⟩
    ·obtain ⟨cs2,t2,fr2,h1,h2⟩:=hX k hx
     rw [ho] at h1
     injection h1 with h1
     injection h1 with _ h1 _
     subst h1
     exact ht h2
    ·injection e with _ e _
     subst e
     by_cases h1:t=T
     ·rw [h1];exact hT k
     ·by_cases h2:t=E
      ·rw [h2];exact hE k
      ·exact absurd ⟨h1,h2⟩ ht
  |_=>cases hc
 ·exact .inl ((hko.same _ _ ho (by simpa using hc)).trans ho.symm)
abbrev CuVar (base B:Nat) (Cs:List Nat):World→Prop:=VarOf 246 247 1 base B Cs.length (ptrsC Cs)
theorem kept_cv (p:Prop × Nat) (k:Nat):¬ Kept p k 246:=by
 rintro (h|h|h|⟨_,_,h⟩)<;>exact absurd h (by decide)
theorem kept_cp (p:Prop × Nat) (k:Nat):¬ Kept p k 247:=by
 rintro (h|h|h|⟨_,_,h⟩)<;>exact absurd h (by decide)
theorem kept_fv (p:Prop × Nat) (k:Nat):¬ Kept p k 46:=by
 rintro (h|h|h|⟨_,_,h⟩)<;>exact absurd h (by decide)
theorem kept_fo (p:Prop × Nat) (k:Nat):¬ Kept p k 53:=by
 rintro (h|h|h|⟨_,_,h⟩)<;>exact absurd h (by decide)
theorem risesM:∀ {l:List Int} {x:Int},risesZ x l=true→(∀ y∈l,x<y)∧l.Pairwise (· ≤·)
 |[],_,_=>⟨(fun _ h=>by cases h),List.Pairwise.nil⟩
 |y::l,x,h=>by
  rw [risesZ,Bool.and_eq_true,decide_eq_true_iff] at h
  obtain ⟨h1,h2⟩:=risesM h.2
  refine ⟨fun z hz=> ?_,List.Pairwise.cons (fun z hz=>Int.le_of_lt (h1 z hz)) h2⟩
  rcases List.mem_cons.1 hz with rfl|hz
  ·exact h.1
  ·have :=h1 z hz;omega
def gradeS (gs:List (List Po)) (d:Int):Option Fo:=if 0<sideF (gs.map fun g=>atC g d) then some (d.toNat,((sideF (gs.map fun g=>atC g d):Nat):Int)) else none
def resP (gs:List (List Po)) (pre:List Int):List Fo:=pre.filterMap (gradeS gs)
theorem resP_snoc (gs:List (List Po)) (pre:List Int) (d:Int):resP gs (pre++[d])=resP gs pre++(match gradeS gs d with|none=>[]|some x=>[x]):=by
 unfold resP
 rw [List.filterMap_append]
 congr 1
 cases h:gradeS gs d<;>simp [h]
theorem resP_length (gs:List (List Po)) (pre:List Int):(resP gs pre).length≤pre.length:=List.length_filterMap_le _ _
theorem var_only {T E:TypeId} {z base B n:Nat} {xs:List Value} {w w':World} {S:Nat→Prop} (h:VarOf T E z base B n xs w) (hb:base≤B) (ho:OnlyIn S w w') (hS:∀ k,S k→k<base):VarOf T E z base B n xs w':=by
 obtain ⟨v,hv,hown⟩:=h
 refine ⟨v,(ho.block B (lt_of_block hv) (fun h=>by have :=hS B h;omega)).trans hv,owned_keep hown fun g hg=> ?_⟩
 obtain ⟨h1,h2⟩:=hown.lt g hg
 exact ho.block g h2 (fun h=>by have :=hS g h;omega)
def PhI (b0 Bc Bl:Nat) (gs:List (List Po)) (v:Value) (w:World) (pre:List Int) (W:World):Prop:=FoVar Bl Bl (resP gs pre) W∧W.heap[Bc]?=some (.cells #[v] 246 (0,0))∧Below b0 w W
theorem PhI.mv {b0 Bc Bl:Nat} {gs:List (List Po)} {v:Value} {w A B:World} {pre:List Int} {Cs:List Nat} (h:PhI b0 Bc Bl gs v w pre A) (ho:OnlyIn (fun k=>k∈Cs) A B) (hC:∀ C∈Cs,C<Bl∧b0≤C∧C≠Bc) (hb:b0≤A.heap.size):PhI b0 Bc Bl gs v w pre B:=
 ⟨var_only h.1 (Nat.le_refl _) ho (fun k hk=>(hC k hk).1),(ho.block Bc (lt_of_block h.2.1) (fun hk=>(hC Bc hk).2.2 rfl)).trans h.2.1,h.2.2.trans (ho.below (fun k hk=>(hC k hk).2.1) hb)⟩
theorem PhI.firm {b0 Bc Bl:Nat} {gs:List (List Po)} {v:Value} {w:World} {N:Nat} (h1:Bc<N) (h2:b0≤N) (s:List Int):Firm N (PhI b0 Bc Bl gs v w s):=(Firm.varOf N).and ((Firm.block h1 _).and (Firm.belowW h2))
theorem soft_putObj {p:Prop × Nat} {X:Nat→Prop} {W:World} {l:Nat} {o o':Obj} (ho:W.heap[l]?=some o) (hc:o.isCells=false) (hX:¬ X l):Soft p X W (W.putObj l o'):=
 Soft.of_one ho hX (fun cs t fr e=>by rw [e] at hc;cases hc) rfl rfl rfl (by simp [World.putObj]) (fun i hi _=>World.putObj_heap_other hi)
theorem placesC_rise {g:List Po} (h:mayB' (-1) g=true) (i:Int):(placesC g i).length≤1099511627776∧(placesC g i).Pairwise (· ≤·)∧∀ x∈placesC g i, -9223372036854775808≤x∧x≤9223372036854775807:=by
 have hl:=placesC_small h i
 by_cases hi:i<0∨(g.length:Int)≤i
 ·rw [placesC_none hi];simp
 ·obtain ⟨k,rfl⟩:=Int.eq_ofNat_of_zero_le (show 0≤i by omega)
  have hk:k<g.length:=by omega
  have key:∀ (l:List Po) (x:Int),mayB' x l=true→∀ q∈l,placesB q.2=true:=by
   intro l
   induction l with
   |nil=>intro _ _ q hq;cases hq
   |cons a r ih=>
    intro x h q hq
    obtain ⟨_,_,h3,h4⟩:=mayB'_cons.1 h
    rcases List.mem_cons.1 hq with rfl|hq
    ·exact h3
    ·exact ih _ h4 q hq
  have hp:placesB (g.getD k (0,[])).2=true:=key g _ h _ (by rw [List.getD_eq_getElem?_getD,List.getElem?_eq_getElem hk];exact List.getElem_mem hk)
  refine ⟨by omega,?_,fun x hx=> ?_⟩
  ·rw [placesC_at hk]
   exact (risesM (placesB_iff.1 hp).1).2
  ·rw [placesC_at hk] at hx
   have :=places_bd hp x hx
   omega
def MkRel13 (b0 Bc:Nat) (gs:List (List Po)) (n:Nat) (w:World) (vi:Value) (wr:World):Prop:=
 ∃ (k:Nat) (Cs:List Nat),k≤n∧vi= .int .i64 (k:Int)∧Cs.length=k∧CuVar b0 Bc Cs wr∧CursAt (True,b0) Cs (gs.take k) (fun _=> -1) wr∧(∀ C∈Cs,b0≤C)∧Below b0 w wr
def listsP (x:PartsP) (f:Nm) (ws:List Nm):List (List Po):=ws.map fun y=>postsPs x (keyL f y)
set_option maxHeartbeats 16000000 in
set_option maxRecDepth 100000 in
theorem match_phrase {w:World} {S:Nat} {x:PartsP} (h:SegAt w S x) (f:ByteArray) (A:Option Addr) (n c:Nat) (ws:List Nm) (hrow:Row w w.heap.size A (strs ws)) (hn:ws.length=n) (hf:f.size≤140737488355328) (hws:∀ y∈ws,y.length≤140737488355328) (hnm:n≤1000) (L:List Fo)
    (hL:∀ xs,AllOf (listsP x f.data.toList ws) xs→resP (listsP x f.data.toList ws) xs=L):
    Calls Tryz.prog 108 #[.pointer (some ⟨S,0,none⟩),.string f,.slice A n c] w (GaveFo L w):=by
  obtain ⟨j0,hj0,jz0,jz1,jz2⟩:=info_parts info_ptr
  obtain ⟨i0,hi0,hz0,hz1,hz2⟩:=info_parts info_found
  refine (callsIn_wide (n:=6)).1 ?_
  obtain ⟨b0,hb0⟩:∃ b0,b0=w.heap.size:=⟨_,rfl⟩
  obtain ⟨w1,hrun,hown1,hgrow1⟩:=run_make_own (P:=Tryz.prog) w w.heap.size 246 247 j0 _ 1 Tryz.underlying246 hj0 jz0 jz1 .i64 .i64 n (by rw [jz2];omega) (by unfold maxLen;omega) (Nat.le_refl _)
  have hb1:Below w.heap.size w w1:=(Below.refl _ w).grown hgrow1 (Nat.le_refl _) (fun k hk=>by cases hk)
  obtain ⟨w2,hw2⟩:∃ w2,w2=w1.alloc (.cells #[.slice (some ⟨w.heap.size,0,none⟩) 0 n] 246):=⟨_,rfl⟩
  obtain ⟨Bc,hBc⟩:∃ Bc,Bc=w1.heap.size:=⟨_,rfl⟩
  have hb2:Below w.heap.size w w2:=by rw [hw2];exact hb1.alloc hb1.size _
  have hBc0:b0≤Bc:=by rw [hBc,hb0];exact hb1.size
  obtain ⟨gs,hgs⟩:∃ gs,gs=listsP x f.data.toList ws:=⟨_,rfl⟩
  have hgl:gs.length=n:=by rw [hgs,listsP,List.length_map,hn]
  have HREL:Hid (MkRel13 b0 Bc gs n w (.int .i64 ((0:Nat):Int)) w2):=Lib.hid ⟨0,[],Nat.zero_le _,rfl,rfl,⟨_,by rw [hw2,hBc];exact heap_alloc_new w1 _,by rw [hw2,hb0];exact hown1.alloc _⟩,CursAt.nil,(fun C hC=>by cases hC),by rw [hb0];exact hb2⟩
  have HSEG:=Lib.hid h
  have HROW:=Lib.hid hrow
  have HN:=Lib.hid hn
  have HWS:=Lib.hid hws
  have HLR:Hid (∀ xs,AllOf gs xs→resP gs xs=L):=Lib.hid (by rw [hgs];exact hL)
  have HGS:=Lib.hid hgs
  have HGL:=Lib.hid hgl
  have HB0:=Lib.hid hb0
  have HW2:=Lib.hid hw2
  have HBC:=Lib.hid hBc
  clear h hrow hn hws hgs hgl hL hw2 hBc hb1 hb2 hown1 hgrow1 hb0
  refine callsIn_of_wp_marks Tryz.func108 rfl trivial ?_ rfl
  simp only [Tryz.ntmps108,List.size_toArray,List.length_cons,List.length_nil,Nat.reduceAdd,Nat.reduceSub,Array.replicate_succ,Array.replicate_zero,List.push_toArray,List.append_toArray,List.nil_append,List.cons_append]
  refine (wpIn_wide (n:=6)).2 ?_
  go_wp2
  rw [← HW2.out,← HBC.out]
  go_loopw [18] (MkRel13 b0 Bc gs n w) (fun i _=>n-(intOf i).toNat)
  case atStart=>exact HREL.out
  case round=>
    obtain ⟨k,Cs,hk,rfl,hcl,⟨v,hv,hown⟩,hcur,hlow,hbw⟩:=hrel
    have hsz:=hbw.size
    rw [hcl] at hown
    have hown0:=hown
    obtain ⟨Av,cv,rfl, -, -⟩:=owned_row hown0
    have cB:=cell_of_one hv
    by_cases hlt:k<n
    · have hkw:k<ws.length:=by rw [HN.out];exact hlt
      have hkg:k<gs.length:=by rw [HGL.out];exact hlt
      have hbw0:Below w.heap.size w wr:=by have h:=hbw;rwa [HB0.out] at h
      obtain ⟨b1,o1,rfl, -,hc1⟩:=row_nm (HROW.out.below hbw0) hkw
      obtain ⟨X,hX0,hX⟩:=as_text ws[k]
      rw [← hX0] at hc1
      have hg:gs[k]=postsPs x (keyL f.data.toList ws[k]):=by simp [HGS.out,listsP]
      have HCU:Hid (∀ w7,Below wr.heap.size wr w7→Calls Tryz.prog 182 #[.pointer (some ⟨S,0,none⟩),.agg #[.string f,.string X]] w7 fun e w'=>∃ C,e= .returned (.pointer (some ⟨C,0,none⟩))∧w7.heap.size≤C∧CAt (True,b0) C gs[k] (-1) w'∧Below w7.heap.size w7 w'):=Lib.hid fun w7 hb7=>by
        have hs7:b0≤w7.heap.size:=by have :=hb7.size;have :=HB0.out;omega
        have :=seg_CursorP (p:=(True,b0)) hs7 ((HSEG.out.below hbw0).below hb7) f X hf (by have :=HWS.out _ (List.getElem_mem hkw);rw [hX0,size_nm];exact this)
        rw [hX] at this
        rwa [hg]
      have htk:gs.take (k+1)=gs.take k++[gs[k]]:=List.take_succ_eq_append_getElem hkg
      have hgk:(gs.take k).length=k:=by rw [List.length_take];omega
      have hlt':=hcur.lt
      have hblk:=hcur.block
      have HFIN:Hid (∀ w7 C v8 w8,Below wr.heap.size wr w7→wr.heap.size≤C→CAt (True,b0) C gs[k] (-1) w7→(w7.alloc (.cells #[.pointer (some ⟨C,0,none⟩)] 247)).grownBy w8 (Value.ownBlock (.slice Av k cv))→w8.ownsRow b0 247 1 v8 (k+1) (ptrsC Cs++[.pointer (some ⟨C,0,none⟩)])→
          (w8.cell? ⟨Bc,0,none⟩=some (.slice Av k cv)∧w8.frozen? ⟨Bc,0,none⟩=false)∧MkRel13 b0 Bc gs n w (.int .i64 ((k:Int)+1)) (w8.setCell ⟨Bc,0,none⟩ v8)):=Lib.hid fun w7 C v8 w8 hb7 hC hat hg hown8=>by
        have hs7:=hb7.size
        have hb0r:b0≤wr.heap.size:=by have :=HB0.out;omega
        have hal:Below w7.heap.size w7 (w7.alloc (.cells #[.pointer (some ⟨C,0,none⟩)] 247)):=(Below.refl _ _).alloc (Nat.le_refl _) _
        obtain ⟨h1,h2,h3,h4,h5⟩:=var_push (by decide) ((hb7.block _ (lt_of_block hv)).trans hv) (owned_below hown hb7) hBc0 (by omega) hal hg hown8
        have hc7:CursAt (True,b0) (Cs++[C]) (gs.take k++[gs[k]]) (fun j=>if j=(gs.take k).length then-1 else-1) w7:=(hcur.below hb7).snoc hat (fun D hD e=>by have :=hlt' D hD;omega)
        have hX7:∀ q,q∈Cs++[C]→∃ cs t fr,w7.heap[q]?=some (.cells cs t fr)∧t≠246∧t≠247:=fun q hq=>by
          obtain ⟨cs,fr,hb⟩:=hc7.block q hq
          exact ⟨cs,_,fr,hb,by decide,by decide⟩
        have hsoft:=soft_push (p:=(True,b0)) (X:=fun q=>q∈Cs++[C]) h3 h4 h5 (kept_cv _) (kept_cp _) hX7
        refine ⟨h1,k+1,Cs++[C],by omega,rfl,by simp [hcl],?_,?_,fun D hD=> ?_,hbw.trans ((hb7.mono hb0r).trans h3)⟩
        · unfold CuVar
          rw [List.length_append,List.length_singleton,hcl,show ptrsC (Cs++[C])=ptrsC Cs++[.pointer (some ⟨C,0,none⟩)] by simp [ptrsC]]
          exact h2
        · rw [htk]
          have :=hc7.soft hsoft (fun C hC=>hC)
          simpa using this
        · rcases List.mem_append.1 hD with hD|hD
          · exact hlow D hD
          · rw [List.mem_singleton] at hD
            rw [hD]
            omega
      have HO:=Lib.hid hown
      have HV:=Lib.hid hv
      have hkn:(k:Int)<(n:Int):=by omega
      obtain ⟨g,hgg⟩:∃ g,g=gs[k]:=⟨_,rfl⟩
      rw [← hgg] at HFIN HCU
      obtain ⟨PL,hPL⟩:∃ PL,PL=ptrsC Cs:=⟨_,rfl⟩
      rw [← hPL] at HFIN HO
      have hb0r:b0≤wr.heap.size:=by have :=HB0.out;omega
      have hBlt:=lt_of_block hv
      clear hkw hkg hcl hcur hlow hbw hbw0 hX0 hX hg htk hgk hlt' hblk hown hown0 hgg hPL hv
      go_wp2
      refine wp_region_noPanic ?_
      go_region_law (first
        | (refine step_append_lies _ (by rfl) _ _ _ (by rfl) b0 247 j0 _ 1 8 Tryz.underlying246 hj0 jz0 jz1 jz2 rfl (by omega) (.slice Av k cv) k PL (by rfl) ((owned_below HO.out HB7.out).alloc _)
            ⟨w7.heap.size,0,none⟩ 1 1 [.pointer (some ⟨C,0,none⟩)] (by rfl) (by rfl) (World.news_of_block (cs:=#[.pointer (some ⟨C,0,none⟩)]) (t:=247) (fr:=(0,0)) (heap_alloc_new w7 _)) (by intro u hu;simp at hu;subst hu;rfl)
            (by omega) (by unfold maxLen;omega) (by omega) (by have :=HB7.out.size;simp;omega) (w7.heap.size+1) (by simp) ?_
           intro gg cap w8 hown8 hgrow hat8 hlt8
           obtain ⟨⟨c8,f8⟩,hm8⟩:=HFIN.out w7 C _ w8 HB7.out HC.out HAT.out hgrow hown8
           have HM8:=Lib.hid hm8
           clear hown8 hgrow hat8 hlt8 hm8)
        | (go_simp; go_at_call 182; (with_reducible refine (HCU.out _ (Below.refl _ _).drew).mono ?_); rintro e w7 ⟨C, rfl, hC7, hat7, hb7⟩
           have HB7:Hid (Below wr.heap.size wr w7):=Lib.hid ((Below.refl wr.heap.size wr).drew.trans hb7)
           have HC:Hid (wr.heap.size≤C):=Lib.hid hC7
           have HAT:=Lib.hid hat7
           have p7:=(HB7.out.cell (p:=⟨Bc,0,none⟩) hBlt).trans cB
           have p7A:∀ o,(w7.alloc o).cell? ⟨Bc,0,none⟩=some (.slice Av k cv):=fun o=>(((Below.refl w7.heap.size w7).alloc (Nat.le_refl _) o).cell (p:=⟨Bc,0,none⟩) (by have :=HB7.out.size;show Bc<_;omega)).trans p7
           clear hb7 hC7 hat7))
      all_goals
        refine NoPanic.normal ?_
        go_wp2
        go_roundw
        case rel=>exact HM8.out
        case measure=>simp [intOf];omega
    · obtain rfl:k=n:=by omega
      have hgt:gs.take k=gs:=List.take_of_length_le (by rw [HGL.out];exact Nat.le_refl _)
      rw [hgt] at hcur
      obtain ⟨Bl,hBl⟩:∃ Bl,Bl=wr.heap.size:=⟨_,rfl⟩
      obtain ⟨w3,hw3⟩:∃ w3,w3=wr.alloc (.cells #[.slice none 0 0] 46):=⟨_,rfl⟩
      have hb3:Below wr.heap.size wr w3:=by rw [hw3];exact (Below.refl _ _).alloc (Nat.le_refl _) _
      have hz3:w3.heap.size=Bl+1:=by rw [hw3,hBl];simp
      have hl3:w3.heap[Bl]?=some (.cells #[.slice none 0 0] 46 (0,0)):=by rw [hw3,hBl];exact heap_alloc_new wr _
      have hv3:=(hb3.block _ (lt_of_block hv)).trans hv
      have c3:=cell_of_one hv3
      have c3A:(wr.alloc (.cells #[.slice none 0 0] 46)).cell? ⟨Bc,0,none⟩=some (.slice Av k cv):=by rw [← hw3];exact c3
      have HCM:=Lib.hid (match_common Av k cv w3)
      have hb0r:b0≤wr.heap.size:=by have :=HB0.out;omega
      have HBW3:Hid (Below b0 w w3):=Lib.hid (hbw.trans (hb3.mono hb0r))
      have HC3:=Lib.hid (hcur.below hb3)
      have HCS:Hid (∀ C∈Cs,C<Bl∧b0≤C∧C≠Bc):=Lib.hid fun C hC=>⟨by rw [hBl];exact hcur.lt C hC,hlow C hC,fun e=>by
        obtain ⟨cs,fr,hb⟩:=hcur.block C hC
        rw [e,hv] at hb
        injection hb with hb
        injection hb with _ hb _
        exact absurd hb (by decide)⟩
      have HR3:Hid (RowT6 247 w3 Av (ptrsC Cs)):=Lib.hid (ptrC_below (RowT6.of_own hown) hb3)
      have HV3:=Lib.hid hv3
      have HL3:=Lib.hid hl3
      have HZ3:=Lib.hid hz3
      have HW3:=Lib.hid hw3
      have HBL:=Lib.hid hBl
      have HCL:=Lib.hid hcl
      have hBcl:Bc<Bl:=by rw [hBl];exact lt_of_block hv
      clear hgt hcur hlow hbw hown hown0 hv hb3 hz3 hl3 hv3 hw3 hBl hcl hlt hsz hb0r
      go_wp2_with (first
        |(rw [← HW3.out,← HBL.out];go_at_call 183;refine HCM.out.mono ?_)
        |(go_at_call 183;rw [← HW3.out];refine HCM.out.mono ?_))
      rintro e w4 ⟨rfl,e4,hb4,hz4⟩
      rw [HZ3.out] at e4 hz4 ⊢
      go_wp2
      have hb34:Below w3.heap.size w3 w4:=hb4
      have hC4:=HC3.out.below hb34
      have hR4:=ptrC_below HR3.out hb34
      have HT:=Lib.hid (common_tells 5 b0 (Bl+1) Av k cv Cs gs w4 (by omega) e4 hR4 HCL.out hC4 (by omega))
      have hl4:=(hb34.block _ (lt_of_block HL3.out)).trans HL3.out
      have hv4:=(hb34.block _ (lt_of_block HV3.out)).trans HV3.out
      have hb0l:b0≤Bl:=by omega
      have HI:Hid (PhI b0 Bc Bl gs (.slice Av k cv) w [] w4):=Lib.hid ⟨⟨_,hl4,World.ownsRow_nil _ _ _ _⟩,hv4,HBW3.out.trans (hb34.mono (by have :=HZ3.out;omega))⟩
      have HZ4:Hid (w4.heap.size=Bl+2):=Lib.hid hz4
      have HX:Hid (∀ q,XC Cs (Bl+1) Av q→q<Bl+2):=Lib.hid fun q hq=>by
        rcases hq with h1|h1|⟨hne,a,ha,h1⟩
        · have :=(HCS.out q h1).1;omega
        · omega
        · rcases hR4 with h2|⟨b,off,e,⟨cs,fr,hbk⟩, -⟩
          · exact absurd (show Cs=[] by cases Cs with|nil=>rfl|cons a t=>simp [ptrsC] at h2) hne
          · rw [ha] at e
            injection e with e
            rw [e] at h1
            have :=(Array.getElem?_eq_some_iff.1 hbk).1
            simp only at h1
            omega
      have HGB:Hid (∀ g∈gs,GoodG g):=Lib.hid fun g hg=>by
        obtain ⟨j,hj,rfl⟩:=List.getElem_of_mem hg
        exact (hC4.at_ j (by rw [hC4.len];exact hj) hj).good
      have hgn:=HGL.out
      clear hb34 hC4 hR4 hl4 hv4 e4 hb4 hz4 c3 c3A cB
      go_wp2
      refine (wpIn_wide (n:=6)).1 ?_
      refine wpIn_range_tells (by omega) (gf:=235) (lb:=#[.pointer (some ⟨Bl+1,0,none⟩)]) rfl (enters_of Tryz.func235 (by kernel_rfl) rfl)
        HT.out (fun hb=>OnlyIn.of_below hb) (fun {A B k o} hk hmv ho hnc=>(hmv.block k (Array.getElem?_eq_some_iff.1 ho).1 (fun hC=>by have :=(HCS.out k hC).1;have :=HZ4.out;omega)).trans ho)
        (fun h k=>h.trans k) (fun W lp o o' hlp ho hc=>soft_putObj ho hc (fun hx=>by have :=HX.out lp hx;have :=HZ4.out;omega)) (fun _=>rfl)
        (PhI b0 Bc Bl gs (.slice Av k cv) w) (fun _ _ _=>False)
        (fun s A' B' h hmv=>h.mv hmv HCS.out (by have :=h.1.lt;omega))
        (fun s=>PhI.firm (by have :=HZ4.out;omega) (by have :=HZ4.out;omega) s)
        (fun c s W l o o' _ _ _ h=>h)
        (fun s x W l o o' hl ho hc h=> ?okf) HI.out ?a1 ?assign ?body ?done ?stop
      case assign=>
        intro lp x W K' hK'
        gi_wp2
        exact hK'
      case okf=>
        obtain ⟨h1,hvD,h2,is,h3,h4⟩:=h
        have hs:Soft (True,b0) (XC Cs (Bl+1) Av) W (W.putObj l o'):=soft_putObj ho hc (fun hx=>by have :=HX.out l hx;have :=HZ4.out;omega)
        exact ⟨h1,hs.keep hvD (.inr (.inl rfl)),ptrC_soft h2 hs (fun hx a ha=> .inr (.inr ⟨(fun e=>hx (by rw [e];rfl)),a,ha,rfl⟩)),is,h3.soft hs (fun C hC=> .inl hC),h4⟩
      case body=>
        rintro lp pre d W ⟨⟨v,hvl,hown⟩,hvc,hbw⟩ ⟨⟨hd0,hd1,hall,hlen⟩,hvD,hrow,is,hcur,hst⟩
        have hpls:plsC gs is k=gs.map fun g=>atC g d:=by
          refine List.ext_getElem (by rw [plsC_length,List.length_map,hgn]) fun j h1 h2=> ?_
          rw [plsC_length] at h1
          have hj:j<gs.length:=by rw [hgn];exact h1
          obtain ⟨s1,s2⟩:=hst j hj
          have hm:=(HGB.out _ (List.getElem_mem hj)).may
          have hil:is j<(gs[j].length:Int):=by
            rcases intLG (is j) (gs[j].length:Int) with h3|h3
            · exact h3
            · rw [docC_behind s2 h3] at s1;omega
          have :=atC_stand hm s2 hil
          rw [s1] at this
          simp [plsC,hj,this]
        have hri:RiseL (plsC gs is k):=fun s hs=>by
          unfold plsC at hs
          obtain ⟨j,hj,rfl⟩:=List.mem_map.1 hs
          have hj':j<gs.length:=by have :=List.mem_range.1 hj;omega
          rw [List.getD_eq_getElem?_getD,List.getElem?_eq_getElem hj']
          exact placesC_rise (HGB.out _ (List.getElem_mem hj')).may _
        have hsn:=resP_snoc gs pre d
        have hrl:=resP_length gs pre
        have hprl:pre.length≤2147483648:=by omega
        obtain ⟨q,hq⟩:∃ q,q=sideF (gs.map fun g=>atC g d):=⟨_,rfl⟩
        have hgr:gradeS gs d=if 0<q then some (d.toNat,(q:Int)) else none:=by rw [hq];rfl
        have hsq:sideF (plsC gs is k)=q:=by rw [hpls,hq]
        obtain ⟨L0,hL0⟩:∃ L0,L0=resP gs pre:=⟨_,rfl⟩
        rw [← hL0] at hsn hrl hown
        obtain ⟨m,hm⟩:∃ m,m=L0.length:=⟨_,rfl⟩
        rw [← hm] at hown hrl
        have hown0:=hown
        obtain ⟨A5,c5,rfl, -, -⟩:=owned_row hown0
        have cl:=cell_of_one hvl
        have cc:=cell_of_one hvc
        have hbs:Bl+2≤W.heap.size∨Bl<W.heap.size:= .inr (lt_of_block hvl)
        have HBS:Hid (Bl<W.heap.size):=Lib.hid (lt_of_block hvl)
        have HPL:=Lib.hid (match_places (p:=(True,b0)) trivial Av k cv Cs gs is W hrow HCL.out hcur (by omega))
        have HRI:=Lib.hid hri
        have HSQ:=Lib.hid hsq
        have HVL:=Lib.hid hvl
        have HVC:=Lib.hid hvc
        have HO:=Lib.hid hown
        have HM:=Lib.hid hm
        have HBW:=Lib.hid hbw
        have HXT:Hid (∀ q,XC Cs (Bl+1) Av q→∀ w',Below W.heap.size W w'→∃ cs t fr,w'.heap[q]?=some (.cells cs t fr)∧t≠46∧t≠53):=Lib.hid (fun q hq w' hb'=>by
          have key:∀ (q:Nat) (cs:Array Value) (t:TypeId) (fr:Nat × Nat),W.heap[q]?=some (.cells cs t fr)→t≠46→t≠53→∃ cs t fr,w'.heap[q]?=some (.cells cs t fr)∧t≠46∧t≠53:=fun q cs t fr h1 h2 h3=>⟨cs,t,fr,(hb'.block q (Array.getElem?_eq_some_iff.1 h1).1).trans h1,h2,h3⟩
          rcases hq with h1|h1|⟨hne,a,ha,h1⟩
          · obtain ⟨cs,fr,hbk⟩:=hcur.block q h1
            exact key q _ _ _ hbk (by decide) (by decide)
          · rw [h1]
            exact key _ _ _ _ hvD (by decide) (by decide)
          · rcases hrow with h2|⟨b,off,e,⟨cs,fr,hbk⟩, -⟩
            · exact absurd (show Cs=[] by cases Cs with|nil=>rfl|cons a t=>simp [ptrsC] at h2) hne
            · rw [ha] at e
              injection e with e
              rw [← h1,e]
              exact key _ _ _ _ hbk (by decide) (by decide))
        by_cases hqp:0<q
        · have hqg:decide ((q:Int)>0)=true:=decide_eq_true (by omega)
          have hqg2:decide ((0:Int)<(q:Int))=true:=decide_eq_true (by omega)
          rw [hgr,if_pos hqp] at hsn
          have HSN:=Lib.hid hsn
          have hdn:(d.toNat:Int)=d:=Int.toNat_of_nonneg hd0
          have HDN:=Lib.hid hdn
          clear hpls hri hsn hsq hgr hq hL0 hm hown hown0 hvl hvc hbw hrow hcur hst hall hlen hdn hbs hvD
          gi_wp2_with (first
            |(gi_at_call 184;refine (CallsIn.inRound lp (callsIn_wide.2 HPL.out)).mono ?_;rintro e w5 ⟨v5,rfl,ho5,hb5⟩;have HB5:=Lib.hid hb5;obtain ⟨A6,c6,rfl,hc6,hlis⟩:=ho5.lists;rw [plsC_length] at hc6 ⊢;have HS:=Lib.hid (match_Side A6 k c6 (plsC gs is k) w5 hlis (plsC_length _ _ _) hc6 HRI.out (by omega));rw [HSQ.out] at HS;clear ho5 hb5 hlis hc6)
            |(refine ⟨trivial,?_⟩;gi_at_call 184;refine (CallsIn.inRound lp (callsIn_wide.2 HPL.out)).mono ?_;rintro e w5 ⟨v5,rfl,ho5,hb5⟩;have HB5:=Lib.hid hb5;obtain ⟨A6,c6,rfl,hc6,hlis⟩:=ho5.lists;rw [plsC_length] at hc6 ⊢;have HS:=Lib.hid (match_Side A6 k c6 (plsC gs is k) w5 hlis (plsC_length _ _ _) hc6 HRI.out (by omega));rw [HSQ.out] at HS;clear ho5 hb5 hlis hc6)
            |(gi_at_call 57;refine (CallsIn.inRound lp (callsIn_wide.2 HS.out)).mono ?_;rintro e w6 ⟨rfl,hb6⟩;have HB6:Hid (Below W.heap.size W w6):=Lib.hid (HB5.out.trans (hb6.mono HB5.out.size));have cl6:=(HB6.out.cell (p:=⟨Bl,0,none⟩) (lt_of_block HVL.out)).trans cl;clear hb6)
            |(refine ⟨trivial,?_⟩;gi_at_call 57;refine (CallsIn.inRound lp (callsIn_wide.2 HS.out)).mono ?_;rintro e w6 ⟨rfl,hb6⟩;have HB6:Hid (Below W.heap.size W w6):=Lib.hid (HB5.out.trans (hb6.mono HB5.out.size));have cl6:=(HB6.out.cell (p:=⟨Bl,0,none⟩) (lt_of_block HVL.out)).trans cl;clear hb6)
            |(gi_at_builtin;refine wpListIn_append_own _ rfl (.tmp 39) (.tmp 43) 46 rfl Bl 53 i0 _ 2 16 Tryz.underlying46 hi0 hz0 hz1 hz2 rfl (by omega) _ m (foC L0) rfl ((owned_below HO.out HB6.out).alloc _) ⟨w6.heap.size,0,none⟩ 1 1 [.int .i64 d,.int .i64 (q:Int)] rfl rfl (news_at w6 [.int .i64 d,.int .i64 (q:Int)] 53) (by intro u hu;simp at hu;rcases hu with rfl|rfl<;>rfl) (by unfold maxLen;omega) (by omega) (by have :=HB6.out.size;have :=HBS.out;simp;omega) ?_))
          intro v7 w7 hown7 hg7 _
          obtain ⟨g',cap',hv',_,_⟩:=hown7.form (by omega)
          have hfoc:foC L0++[.int .i64 d,.int .i64 (q:Int)]=foC (L0++[(d.toNat,(q:Int))]):=by rw [foC_append];simp [foC,HDN.out]
          rw [hfoc] at hown7
          have hb6:=HB6.out
          have hbl6:Bl≤w6.heap.size:=by have :=hb6.size;have :=HBS.out;omega
          obtain ⟨⟨cB1,fB1⟩,hvo,hbb,hko,hkc⟩:=var_push (by decide) ((hb6.block _ (lt_of_block HVL.out)).trans HVL.out) (owned_below HO.out hb6) (Nat.le_refl _) hbl6 ((Below.refl _ w6).alloc (Nat.le_refl _) _) hg7 hown7
          have hk7:=hkc _ _ _ _ ((hb6.block _ (lt_of_block HVC.out)).trans HVC.out) (by decide) (by decide)
          have hsf:=soft_push (p:=(True,b0)) (X:=XC Cs (Bl+1) Av) hbb hko hkc (kept_fv _) (kept_fo _) (fun q hq=>HXT.out q hq w6 hb6)
          have hfin:PhI b0 Bc Bl gs (.slice Av k cv) w (pre++[d]) (w7.setCell ⟨Bl,0,none⟩ v7):=by
            refine ⟨?_,hk7,HBW.out.trans ((hb6.mono (by have :=HBS.out;omega)).trans (hbb.mono hb0l))⟩
            rw [HSN.out]
            unfold FoVar
            rw [List.length_append,← HM.out]
            exact hvo
          have HF:=Lib.hid (And.intro ((⟨hb6.size,fun q o hq _=>(hb6.block q (Array.getElem?_eq_some_iff.1 hq).1).trans hq⟩:KeepsOthers W w6).trans hko) (And.intro ((Soft.of_below hb6).trans hsf) hfin))
          subst hv'
          clear hvo hbb hko hkc hk7 hfin hown7 hg7 hb6 hsf hfoc
          gi_wp2
          exact HF.out
        · have hqg:decide ((q:Int)>0)=false:=decide_eq_false (by omega)
          have hqg2:decide ((0:Int)<(q:Int))=false:=decide_eq_false (by omega)
          have hqg3:decide (0<q)=false:=decide_eq_false hqp
          have hqg4:decide (q>0)=false:=decide_eq_false hqp
          rw [hgr,if_neg hqp] at hsn
          have HSN:=Lib.hid hsn
          clear hpls hri hsn hsq hgr hq hL0 hm hown hown0 hvl hvc hbw hrow hcur hst hall hlen hqp hbs hvD
          gi_wp2_with (first
            |(gi_at_call 184;refine (CallsIn.inRound lp (callsIn_wide.2 HPL.out)).mono ?_;rintro e w5 ⟨v5,rfl,ho5,hb5⟩;have HB5:=Lib.hid hb5;obtain ⟨A6,c6,rfl,hc6,hlis⟩:=ho5.lists;rw [plsC_length] at hc6 ⊢;have HS:=Lib.hid (match_Side A6 k c6 (plsC gs is k) w5 hlis (plsC_length _ _ _) hc6 HRI.out (by omega));rw [HSQ.out] at HS;clear ho5 hb5 hlis hc6)
            |(refine ⟨trivial,?_⟩;gi_at_call 184;refine (CallsIn.inRound lp (callsIn_wide.2 HPL.out)).mono ?_;rintro e w5 ⟨v5,rfl,ho5,hb5⟩;have HB5:=Lib.hid hb5;obtain ⟨A6,c6,rfl,hc6,hlis⟩:=ho5.lists;rw [plsC_length] at hc6 ⊢;have HS:=Lib.hid (match_Side A6 k c6 (plsC gs is k) w5 hlis (plsC_length _ _ _) hc6 HRI.out (by omega));rw [HSQ.out] at HS;clear ho5 hb5 hlis hc6)
            |(gi_at_call 57;refine (CallsIn.inRound lp (callsIn_wide.2 HS.out)).mono ?_;rintro e w6 ⟨rfl,hb6⟩;have HB6:Hid (Below W.heap.size W w6):=Lib.hid (HB5.out.trans (hb6.mono HB5.out.size));have cl6:=(HB6.out.cell (p:=⟨Bl,0,none⟩) (lt_of_block HVL.out)).trans cl;clear hb6)
            |(refine ⟨trivial,?_⟩;gi_at_call 57;refine (CallsIn.inRound lp (callsIn_wide.2 HS.out)).mono ?_;rintro e w6 ⟨rfl,hb6⟩;have HB6:Hid (Below W.heap.size W w6):=Lib.hid (HB5.out.trans (hb6.mono HB5.out.size));have cl6:=(HB6.out.cell (p:=⟨Bl,0,none⟩) (lt_of_block HVL.out)).trans cl;clear hb6))
          refine ⟨⟨HB6.out.size,fun q o hq _=>(HB6.out.block q (Array.getElem?_eq_some_iff.1 hq).1).trans hq⟩,Soft.of_below HB6.out,?_,(HB6.out.block _ (lt_of_block HVC.out)).trans HVC.out,HBW.out.trans (HB6.out.mono (by have :=HBS.out;omega))⟩
          have hvo:FoVar Bl Bl L0 w6:=VarOf.below ⟨_,HVL.out,by rw [← HM.out];exact HO.out⟩ HB6.out
          rw [HSN.out]
          simpa using hvo
      case done=>
        rintro D' ys W hD2 hys ⟨⟨v,hvl,hown⟩,hvc,hbw⟩ hK'
        have hr:=HLR.out ys hys
        rw [hr] at hown
        have hown':=hown
        obtain ⟨A5,c5,rfl, -, -⟩:=owned_row hown'
        have cB:=cell_of_one hvl
        have HBW:=Lib.hid hbw
        have HRV:Hid (FoVar Bl Bl L W):=Lib.hid ⟨_,hvl,hown⟩
        have HVV:=Lib.hid hvl
        obtain ⟨m,hm⟩:∃ m,m=L.length:=⟨_,rfl⟩
        rw [← hm] at cB HVV
        clear hys hown hown' hbw hvl hm hvc hr
        dsimp only
        go_wp2
        refine ⟨by simp,.inl ⟨_,_,rfl,run_takeDeferred hK',?_⟩⟩
        refine ⟨_,results_tmp rfl _ _ _,?_⟩
        obtain ⟨v2,hv2,ho2⟩:=Firm.varOf 0 W D' _ (.deferred none) (Nat.zero_le _) hK' rfl HRV.out
        have hne:Bl≠D':=by have :=HZ4.out;omega
        rw [World.putObj_heap_other hne,HVV.out] at hv2
        simp at hv2
        subst hv2
        have hbb:=Firm.belowW (N:=w4.heap.size) (n0:=b0) (w0:=w) (by have :=HZ4.out;omega) W D' _ (.deferred none) hD2 hK' rfl HBW.out
        rw [HB0.out] at hbb
        exact ⟨_,rfl,owned_low ho2 (by have :=HB0.out;omega),hbb⟩
      case stop=>
        rintro D' c pre W _ _ hh _
        exact hh.elim
end Go.Proofs.YtldcadpemnpbmaaGreatDoor
set_option linter.unusedVariables false
namespace Go.Proofs.YtldcadpemnpbmaaGreatDoor
open Go Go.RowKit
theorem res_rise (gs:List (List Po)):∀ {xs:List Int},xs.Pairwise (· <·)→(∀ x∈xs,0≤x)→RiseF (resP gs xs)
 |[],_,_=>List.Pairwise.nil
 |x::xs,h,h0=>by
  obtain ⟨h1,h2⟩:=List.pairwise_cons.1 h
  have ih:=res_rise gs h2 (fun y hy=>h0 y (List.mem_cons_of_mem _ hy))
  have hx:=h0 x (List.mem_cons_self ..)
  unfold resP at ih ⊢
  rw [List.filterMap_cons]
  cases hg:gradeS gs x with
  |none=>exact ih
  |some u=>
   refine List.pairwise_cons.2 ⟨fun z hz=> ?_,ih⟩
   obtain ⟨y,hy,hyz⟩:=List.mem_filterMap.1 hz
   have hy1:=h1 y hy
   have e1:u.1=x.toNat:=by unfold gradeS at hg;split at hg<;>simp at hg;rw [← hg]
   have e2:z.1=y.toNat:=by unfold gradeS at hyz;split at hyz<;>simp at hyz;rw [← hyz]
   rw [e1,e2]
   omega
theorem res_sc (gs:List (List Po)) {xs:List Int} (h:xs.Pairwise (· <·)) (h0:∀ x∈xs,0≤x) (d:Nat):scF (resP gs xs) d=if (d:Int)∈xs then (gradeS gs (d:Int)).map (·.2) else none:=by
 by_cases hm:(d:Int)∈xs
 ·rw [if_pos hm]
  cases hg:gradeS gs (d:Int) with
  |none=>
   cases hs:scF (resP gs xs) d with
   |none=>rfl
   |some s=>
    have :=sc_mem hs
    unfold resP at this
    obtain ⟨y,hy,hyz⟩:=List.mem_filterMap.1 this
    have e2:d=y.toNat:=by unfold gradeS at hyz;split at hyz<;>simp at hyz;exact hyz.1.symm
    have :y=(d:Int):=by have :=h0 y hy;omega
    rw [this,hg] at hyz
    cases hyz
  |some u=>
   have e1:u.1=d:=by unfold gradeS at hg;split at hg<;>simp at hg;rw [← hg]
   have :u∈resP gs xs:=List.mem_filterMap.2 ⟨_,hm,hg⟩
   have :=sc_of_mem (res_rise gs h h0) this
   rw [e1] at this
   exact this
 ·rw [if_neg hm]
  cases hs:scF (resP gs xs) d with
  |none=>rfl
  |some s=>
   have :=sc_mem hs
   unfold resP at this
   obtain ⟨y,hy,hyz⟩:=List.mem_filterMap.1 this
   have e2:d=y.toNat:=by unfold gradeS at hyz;split at hyz<;>simp at hyz;exact hyz.1.symm
   have :y=(d:Int):=by have :=h0 y hy;omega
   rw [this] at hy
   exact absurd hy hm
theorem res_is {G:List En} (hg:GoodE G) (hl:G.length≤2147483648) {f:Nm} (h0:(0:UInt8)∉f) {ws:List Nm} (hne:ws≠[]) {xs:List Int} (h:AllOf (listsE G f ws) xs):
  resP (listsE G f ws) xs=tabF (docsE G).length fun i=>if 0<phraseD ((docsE G).getD i []) f ws then some ((phraseD ((docsE G).getD i []) f ws:Nat):Int) else none:=by
 obtain ⟨h1,h2⟩:=h
 have hx0:∀ x∈xs,0≤x:=fun x hx=>((h2 x).1 hx).1
 refine tab_of (res_rise _ h1 hx0) fun d=> ?_
 rw [res_sc _ h1 hx0,docsE_length]
 by_cases hd:d<G.length
 ·rw [if_pos hd,docsE_at hd]
  have hs:=side_doc hg h0 ws hd
  by_cases hm:(d:Int)∈xs
  ·rw [if_pos hm]
   unfold gradeS
   rw [hs]
   split<;>rfl
  ·rw [if_neg hm]
   have hz:phraseD G[d].2.1 f ws=0:=by
    rw [← hs]
    refine side_nil ?_
    have hn:¬ AllC (listsE G f ws) (d:Int):=fun hall=>hm ((h2 d).2 ⟨by omega,by omega,hall⟩)
    have :∃ g∈listsE G f ws,¬ inC g (d:Int):=Classical.byContradiction fun hh=>hn fun g hgm=>Classical.byContradiction fun h3=>hh ⟨g,hgm,h3⟩
    obtain ⟨g,hgm,hni⟩:=this
    exact List.mem_map.2 ⟨g,hgm,atC_none hni⟩
   rw [hz,if_neg (by omega)]
 ·rw [if_neg hd]
  by_cases hm:(d:Int)∈xs
  ·exfalso
   have :=lists_in hne (by omega) ((h2 d).1 hm).2.2
   omega
  ·rw [if_neg hm]
end Go.Proofs.YtldcadpemnpbmaaGreatDoor
set_option linter.unusedVariables false
namespace Go.Proofs.YtldcadpemnpbmaaGreatDoor
open Go Go.RowKit
set_option maxHeartbeats 1000000 in
theorem match_And (va vb:Value) (a b:List Fo) (w:World) (ha:InFo w va a) (hb:InFo w vb b) (hfa:FewF a) (hfb:FewF b):Calls Tryz.prog 56 #[va,vb] w (GaveFo (andF a b) w):=by
 have C:=Lib.hid (match_kept 119 andB match_and1 va vb a b w ha hb hfa hfb)
 obtain ⟨A,c,rfl, -, -, -⟩:=ha
 obtain ⟨A2,c2,rfl, -, -, -⟩:=hb
 obtain ⟨n,hn⟩:∃ n,n=a.length:=⟨_,rfl⟩
 obtain ⟨n2,hn2⟩:∃ n2,n2=b.length:=⟨_,rfl⟩
 rw [← hn,← hn2] at C
 rw [← hn,← hn2]
 clear hn hn2 hfa hfb
 go_enter Tryz.func56,Tryz.ntmps56
 go_wp2_with (go_at_call 118;refine C.out.mono ?_;rintro e w' ⟨v,rfl,h1,h2⟩)
 go_ret
 exact ⟨v,rfl,h1,h2⟩
set_option maxHeartbeats 1000000 in
theorem match_Or (va vb:Value) (a b:List Fo) (w:World) (ha:InFo w va a) (hb:InFo w vb b) (hfa:FewF a) (hfb:FewF b):Calls Tryz.prog 110 #[va,vb] w (GaveFo (orF a b) w):=by
 have C:=Lib.hid (match_kept 185 orB match_or1 va vb a b w ha hb hfa hfb)
 obtain ⟨A,c,rfl, -, -, -⟩:=ha
 obtain ⟨A2,c2,rfl, -, -, -⟩:=hb
 obtain ⟨n,hn⟩:∃ n,n=a.length:=⟨_,rfl⟩
 obtain ⟨n2,hn2⟩:∃ n2,n2=b.length:=⟨_,rfl⟩
 rw [← hn,← hn2] at C
 rw [← hn,← hn2]
 clear hn hn2 hfa hfb
 go_enter Tryz.func110,Tryz.ntmps110
 go_wp2_with (go_at_call 118;refine C.out.mono ?_;rintro e w' ⟨v,rfl,h1,h2⟩)
 go_ret
 exact ⟨v,rfl,h1,h2⟩
def EveryRel (n:Nat) (w:World) (vo vd vi:Value) (wr:World):Prop:=∃ k:Nat,k≤n∧vi= .int .i64 (k:Int)∧OwnFo w.heap.size wr vo (everyF k)∧Below w.heap.size w wr
theorem every_few {n:Nat} (h:n≤1048576):FewF (everyF n):=⟨by rw [every_length];omega,fun x hx=>by
 have :=(tab_low x hx).2
 injection this with this
 omega⟩
set_option maxHeartbeats 4000000 in
set_option maxRecDepth 100000 in
theorem match_every (n:Nat) (hn:n≤1048576) (w:World):Calls Tryz.prog 186 #[.int .i64 (n:Int)] w (GaveFo (everyF n) w):=by
 obtain ⟨i0,hi0,hz0,hz1,hz2⟩:=info_parts info_found
 have hmx:∀ (w:World) (ts:Array TypeId) (t:TypeId),(Builtin.max_ ts t #[.int .i64 n,.int .i64 0]).run Tryz.prog w= .ok (.int .i64 (n:Int)) w:=fun w ts t=>by rw [run_max_int2];first|(congr 2;done)|(congr 2;split<;>omega)
 obtain ⟨w1,hrun,hown1,hgrow1⟩:=run_make_own (P:=Tryz.prog) w w.heap.size 46 53 i0 _ 2 Tryz.underlying46 hi0 hz0 hz1 .i64 .i64 n (by rw [hz2];omega) (by unfold maxLen;omega) (Nat.le_refl _)
 have hb1:Below w.heap.size w w1:=(Below.refl _ w).grown hgrow1 (Nat.le_refl _) (fun k hk=>by cases hk)
 have HREL:Hid (EveryRel n w (.slice (some ⟨w.heap.size,0,none⟩) 0 n) undef (.int .i64 ((0:Nat):Int)) w1):=Lib.hid ⟨0,Nat.zero_le _,rfl,hown1,hb1⟩
 clear hown1 hgrow1 hb1
 go_enter Tryz.func186,Tryz.ntmps186
 go_wp2
 go_loopw [3,4,9] (fun vo vd vi wr=>EveryRel n w vo undef vi wr) (fun _ _ i _=>n-(intOf i).toNat)
 case atStart=>exact HREL.out
 case round=>
  obtain ⟨k,hk,rfl,hown,hbw⟩:=hrel
  by_cases hlt:k<n
  ·have hkn:(k:Int)<(n:Int):=by omega
   have hsz:=hbw.size
   unfold OwnFo at hown
   rw [every_length] at hown
   have hown0:=hown
   obtain ⟨Av,cv,rfl, -, -⟩:=owned_row hown0
   obtain ⟨L,hL⟩:∃ L,L=everyF k:=⟨_,rfl⟩
   rw [← hL] at hown
   have HL:=Lib.hid hL
   have HO:=Lib.hid hown
   clear hL hown hown0
   go_wp2_with (at_builtin;refine wpList_append_own _ rfl (.tmp 12) (.tmp 15) 46 rfl w.heap.size 53 i0 _ 2 16 Tryz.underlying46 hi0 hz0 hz1 hz2 rfl (by omega) _ k (foC L) rfl (HO.out.alloc _) ⟨wr.heap.size,0,none⟩ 1 1 [.int .i64 (k:Int),.int .i64 0] rfl rfl (news_at wr [.int .i64 (k:Int),.int .i64 0] 53) (by intro u hu;simp at hu;rcases hu with rfl|rfl<;>rfl) (by unfold maxLen;omega) (by omega) (by simp;omega) ?_)
   intro v5 w5 hown5 hg5 _
   have hb5:Below w.heap.size wr w5:=((Below.refl _ wr).alloc (by omega) _).grown hg5 (by simp;omega) fun j hj=>(HO.out.lt j hj).1
   have hfin:EveryRel n w v5 undef (.int .i64 ((k:Int)+1)) w5:=by
    refine ⟨k+1,by omega,rfl,?_,hbw.trans hb5⟩
    unfold OwnFo
    rw [every_length,every_succ,foC_append,← HL.out]
    exact hown5
   have HF:=Lib.hid hfin
   clear hfin hb5 hg5 hown5
   go_wp2
   go_roundw
   case rel=>exact HF.out
   case measure=>simp [intOf];omega
  ·obtain rfl:k=n:=by omega
   have HO:=Lib.hid hown
   clear hown hlt
   go_wp2
   go_ret
   exact ⟨_,rfl,HO.out,hbw⟩
set_option maxHeartbeats 1000000 in
theorem match_Not (va:Value) (a:List Fo) (n:Nat) (w:World) (ha:InFo w va a) (hfa:FewF a) (hn:n≤1048576):Calls Tryz.prog 111 #[va,.int .i64 (n:Int)] w (GaveFo (notF a n) w):=by
 have C0:=Lib.hid (match_every n hn w)
 have C1:Hid (∀ w1 v,Below w.heap.size w w1→OwnFo w.heap.size w1 v (everyF n)→Calls Tryz.prog 118 #[v,va,.func (.func 187) #[] #[]] w1 (GaveFo (notF a n) w1)):=Lib.hid fun w1 v hb ho=>
  match_kept 187 notB' match_not1 v va (everyF n) a w1 ho.in_ (ha.later hb) (every_few hn) hfa
 obtain ⟨A,c,rfl, -, -, -⟩:=ha
 obtain ⟨m,hm⟩:∃ m,m=a.length:=⟨_,rfl⟩
 rw [← hm] at C1
 rw [← hm]
 clear hm hfa
 go_enter Tryz.func111,Tryz.ntmps111
 go_wp2_with (first
  |(go_at_call 186;refine C0.out.mono ?_;rintro e w1 ⟨v1,rfl,ho1,hb1⟩;have C2:=Lib.hid (C1.out w1 v1 hb1 ho1);have HB1:=Lib.hid hb1;obtain ⟨A1,c1,rfl, -, -⟩:=owned_row ho1;clear ho1 hb1)
  |(go_at_call 118;refine C2.out.mono ?_;rintro e w' ⟨v,rfl,h1,h2⟩))
 go_ret
 exact ⟨v,rfl,h1.low HB1.out.size,HB1.out.trans (h2.mono HB1.out.size)⟩
end Go.Proofs.YtldcadpemnpbmaaGreatDoor
set_option linter.unusedVariables false
namespace Go.Proofs.YtldcadpemnpbmaaGreatDoor
open Go Go.RowKit
def MayS (q:Qy):Prop:=∃ d,1≤d∧mayQ d q=0
theorem MayS.kid {k:Int} {t:Tm} {ws:List Nm} {ks:List Qy} (h:MayS (.mk k t ws ks)):∀ q∈ks,MayS q:=fun q hq=>by
 obtain ⟨d,hd,hm⟩:=h
 obtain ⟨h1,h2,h3⟩:=mayQ_zero hm
 exact ⟨d+1,by omega,mayKs_zero h3 q hq⟩
theorem few_of {G:List En} (hG:AddOk G) {q:Qy} (hq:sizeQ q≤600000):FewF (foundP (docsE G) q):=by
 refine ⟨Nat.le_trans (tab_length _ _) (by rw [docsE_length];have :=hG.few;omega),fun x hx=> ?_⟩
 obtain ⟨_,h1,h2⟩:=found_low (M:=500) (fun f hf s=>by
  obtain ⟨e,he,rfl⟩:=List.mem_map.1 hf
  exact (hG.good e he).wordsS s) x hx
 have :500*sizeQ q≤300000000:=by omega
 omega
theorem sizeL_take (ks:List Qy):∀ j,sizeL (ks.take j)≤sizeL ks:=by
 induction ks with
 |nil=>intro j;simp
 |cons a l ih=>
  intro j
  cases j with
  |zero=>simp [sizeL]
  |succ j=>rw [List.take_succ_cons,sizeL,sizeL];have :=ih j;omega
def StepOk (K:Nat) (kd:Int) (D:List (List Fd)):Prop:=(∀ args w,(callFunc K args).run Tryz.prog w= .ok (.enter K args) w)∧(∀ k:Qy,foundP D (.mk kd ([],[]) [] [k])=foundP D k)∧
 ∀ (k:Qy) (l:List Qy) (k':Qy) (va vb:Value) (w:World),InFo w va (foundP D (.mk kd ([],[]) [] (k::l)))→InFo w vb (foundP D k')→FewF (foundP D (.mk kd ([],[]) [] (k::l)))→FewF (foundP D k')→Calls Tryz.prog K #[va,vb] w (GaveFo (foundP D (.mk kd ([],[]) [] (k::(l++[k'])))) w)
theorem step_and (D:List (List Fd)):StepOk 56 2 D:=by
 refine ⟨enters_of Tryz.func56 (by kernel_rfl) rfl,fun k=>by rw [found_and];rfl,fun k l k' va vb w h1 h2 h3 h4=> ?_⟩
 rw [found_and,List.map_append,List.foldl_append,← found_and D ([],[]) []]
 exact match_And va vb _ _ w h1 h2 h3 h4
theorem step_or (D:List (List Fd)):StepOk 110 3 D:=by
 refine ⟨enters_of Tryz.func110 (by kernel_rfl) rfl,fun k=>by rw [found_or];rfl,fun k l k' va vb w h1 h2 h3 h4=> ?_⟩
 rw [found_or,List.map_append,List.foldl_append,← found_or D ([],[]) []]
 exact match_Or va vb _ _ w h1 h2 h3 h4
def FoundOk (n:Nat) (G:List En) (S:Nat):Prop:=∀ (q:Qy) (v:Value) (w:World),deepQ q≤n→MayS q→QIn w q v→SegAt w S (buildP G)→Calls Tryz.prog 49 #[.pointer (some ⟨S,0,none⟩),v] w (GaveFo (foundP (docsE G) q) w)
def JndRel (D:List (List Fd)) (kd:Int) (k:Qy) (ks:List Qy) (w:World) (vl vi:Value) (wr:World):Prop:=∃ j:Nat,j≤ks.length∧vi= .int .i64 (j:Int)∧OwnFo w.heap.size wr vl (foundP D (.mk kd ([],[]) [] (k::ks.take j)))∧Below w.heap.size w wr
set_option maxHeartbeats 8000000 in
set_option maxRecDepth 100000 in
theorem match_joined {G:List En} (hG:AddOk G) {S n:Nat} (ih:FoundOk n G S) {K:Nat} {kd:Int} (hK:StepOk K kd (docsE G)) (k:Qy) (ks:List Qy) (Kb:Option Addr) (m c:Nat) (ds:List Value) (w:World) (hm:ks.length+1=m) (hmc:m≤c) (hm9:m≤9)
  (hrow:RowP (fun b=>b<w.heap.size) w Kb ds) (hks:QsAt (fun b=>b<w.heap.size) w (k::ks) ds) (hseg:SegAt w S (buildP G)) (hdeep:∀ q∈k::ks,deepQ q≤n) (hmay:∀ q∈k::ks,MayS q) (hsz:1+sizeL (k::ks)≤600000):
  Calls Tryz.prog 109 #[.pointer (some ⟨S,0,none⟩),.slice Kb m c,.func (.func K) #[] #[]] w (GaveFo (foundP (docsE G) (.mk kd ([],[]) [] (k::ks))) w):=by
 obtain ⟨eK,hK0,hK1⟩:=hK
 obtain ⟨b,off,k0,f0,x0,A0,n0,c0,K0,m0,d0,rfl,hblt,hv0,p0,p1,p2,p3,p4⟩:=kid_at hrow hks (i:=0) (by simp)
 rw [zB] at hv0
 simp only [Nat.zero_mul,Nat.add_zero] at p0 p1 p2 p3 p4
 obtain ⟨AN,hAN⟩:∃ AN:Addr,(if c=1 then some (⟨b,off,none⟩:Addr) else some ⟨b,off+5,none⟩)=some AN:=by split<;>exact ⟨_,rfl⟩
 have HI0:=Lib.hid (ih k _ w (hdeep k (List.mem_cons_self ..)) (hmay k (List.mem_cons_self ..)) hv0 hseg)
 have HKID:Hid (∀ wr j,Below w.heap.size w wr→j<ks.length→∃ k' f x A n1 c1 K' m' d',QIn wr (ks.getD j k) (qV k' f x A n1 c1 K' m' d')∧AN=⟨b,off+5,none⟩∧wr.cell? ⟨b,off+5+j*5,none⟩=some (.int .i64 k')∧wr.cell? ⟨b,off+5+j*5+1,none⟩=some (.string f)∧wr.cell? ⟨b,off+5+j*5+2,none⟩=some (.string x)∧
   wr.cell? ⟨b,off+5+j*5+3,none⟩=some (.slice A n1 c1)∧wr.cell? ⟨b,off+5+j*5+4,none⟩=some (.slice K' m' d')):=Lib.hid fun wr j hb hj=>by
  obtain ⟨b',off',k',f,x,A,n1,c1,K',m',d',e,hb',hv,q0,q1,q2,q3,q4⟩:=kid_at hrow hks (i:=j+1) (by simp;omega)
  injection e with e
  injection e with e1 e2
  subst e1 e2
  rw [zC] at hv
  have hg:ks.getD j k=ks[j]:=by simp [List.getD_eq_getElem?_getD,hj]
  have ho:off+(j+1)*5=off+5+j*5:=by omega
  rw [ho] at q0 q1 q2 q3 q4
  have hc1':¬ c=1:=by omega
  rw [if_neg hc1'] at hAN
  injection hAN with hAN
  refine ⟨k',f,x,A,n1,c1,K',m',d',by rw [hg];exact QIn.later hv hb,hAN.symm,?_,?_,?_,?_,?_⟩
  ·exact (hb.cell (p:=⟨b,_,none⟩) hblt).trans q0
  ·exact (hb.cell (p:=⟨b,_,none⟩) hblt).trans q1
  ·exact (hb.cell (p:=⟨b,_,none⟩) hblt).trans q2
  ·exact (hb.cell (p:=⟨b,_,none⟩) hblt).trans q3
  ·exact (hb.cell (p:=⟨b,_,none⟩) hblt).trans q4
 have HIH:Hid (∀ wr j v,Below w.heap.size w wr→j<ks.length→QIn wr (ks.getD j k) v→Calls Tryz.prog 49 #[.pointer (some ⟨S,0,none⟩),v] wr (GaveFo (foundP (docsE G) (ks.getD j k)) wr)):=Lib.hid fun wr j v hb hj hv=>by
  have hg:ks.getD j k=ks[j]:=by simp [List.getD_eq_getElem?_getD,hj]
  have hmem:ks.getD j k∈k::ks:=by rw [hg];exact List.mem_cons_of_mem _ (List.getElem_mem hj)
  exact ih _ v wr (hdeep _ hmem) (hmay _ hmem) hv (hseg.below hb)
 have HST:Hid (∀ wr j va vb,j<ks.length→InFo wr va (foundP (docsE G) (.mk kd ([],[]) [] (k::ks.take j)))→InFo wr vb (foundP (docsE G) (ks.getD j k))→Calls Tryz.prog K #[va,vb] wr (GaveFo (foundP (docsE G) (.mk kd ([],[]) [] (k::ks.take (j+1)))) wr)):=Lib.hid fun wr j va vb hj h1 h2=>by
  have hg:ks.getD j k=ks[j]:=by simp [List.getD_eq_getElem?_getD,hj]
  rw [List.take_succ_eq_append_getElem hj,← hg]
  have s1:sizeQ (.mk kd ([],[]) [] (k::ks.take j))≤600000:=by
   rw [sizeQ,sizeL]
   rw [sizeL] at hsz
   have :=sizeL_take ks j
   omega
  have s2:sizeQ (ks.getD j k)≤600000:=by
   rw [hg]
   have :=sizeL_mem (List.getElem_mem hj)
   rw [sizeL] at hsz
   omega
  exact hK1 k (ks.take j) (ks.getD j k) va vb wr h1 h2 (few_of hG s1) (few_of hG s2)
 have HK0:=Lib.hid (hK0 k)
 have hm1:(1:Int)≤(m:Int):=by omega
 have hm0:0<m:=by omega
 have hm0i:(0:Int)<(m:Int):=by omega
 obtain ⟨kl,hkl⟩:∃ kl,kl=ks.length:=⟨_,rfl⟩
 have hmk:m-1=kl:=by omega
 have HKL:=Lib.hid hkl
 clear hrow hks hseg hdeep hmay hsz hv0 ih hK0 hK1 hm hkl
 go_enter Tryz.func109,Tryz.ntmps109
 go_wp2_with (go_at_call 49;(with_reducible refine HI0.out.mono ?_))
 rintro e w1 ⟨v1,rfl,ho1,hb1⟩
 have HREL:Hid (JndRel (docsE G) kd k ks w v1 (.int .i64 ((0:Nat):Int)) w1):=Lib.hid ⟨0,Nat.zero_le _,rfl,by rw [List.take_zero,HK0.out];exact ho1,hb1⟩
 obtain ⟨A1,c1,rfl, -, -⟩:=owned_row ho1
 clear ho1 hb1
 go_wp2
 go_loopw [7,18] (JndRel (docsE G) kd k ks w) (fun _ i _=>kl-(intOf i).toNat)
 case atStart=>exact HREL.out
 case round=>
  obtain ⟨j,hj,rfl,hown,hbw⟩:=hrel
  have hown0:=hown
  obtain ⟨A2,c2,rfl, -, -⟩:=owned_row hown0
  rw [← HKL.out] at hj
  by_cases hlt:j<kl
  ·have hlk:j<ks.length:=by rw [← HKL.out];exact hlt
   obtain ⟨k',f,x,A,n1,c1',K',m',d',hq,eA,q0,q1,q2,q3,q4⟩:=HKID.out wr j hbw hlk
   subst eA
   have HF2:Hid (∀ w2,Below wr.heap.size wr w2→Calls Tryz.prog 49 #[.pointer (some ⟨S,0,none⟩),qV k' f x A n1 c1' K' m' d'] w2 (GaveFo (foundP (docsE G) (ks.getD j k)) w2)):=Lib.hid fun w2 hb=>HIH.out w2 j _ (hbw.trans (hb.mono hbw.size)) hlk (hq.later hb)
   have HJ2:Hid (∀ w2 w3 vb,Below wr.heap.size wr w2→Below w2.heap.size w2 w3→OwnFo w2.heap.size w3 vb (foundP (docsE G) (ks.getD j k))→Calls Tryz.prog K #[.slice A2 (foundP (docsE G) (.mk kd ([],[]) [] (k::ks.take j))).length c2,vb] w3 (GaveFo (foundP (docsE G) (.mk kd ([],[]) [] (k::ks.take (j+1)))) w3)):=Lib.hid fun w2 w3 vb h1 h2 h3=>HST.out w3 j _ vb hlk ((OwnFo.in_ hown).later (h1.trans (h2.mono h1.size))) h3.in_
   have HBW:=Lib.hid hbw
   have HLK:=Lib.hid hlk
   have hjn:(j:Int)<(kl:Int):=by omega
   have hbx:Below wr.heap.size wr (wr.alloc (.cells #[.int .i64 k',.string f,.string x,.slice A n1 c1',.slice K' m' d'] 27)):=(Below.refl _ _).alloc (Nat.le_refl _) _
   have HBX:=Lib.hid hbx
   obtain ⟨Lj,hLj⟩:∃ Lj,Lj=(foundP (docsE G) (.mk kd ([],[]) [] (k::ks.take j))).length:=⟨_,rfl⟩
   rw [← hLj] at HJ2 ⊢
   clear hq hlk hown hown0 hbw hbx hLj
   generalize ks.getD j k=kj at HF2 HJ2
   go_wp2_with (first
    |(go_at_call 49;(with_reducible refine (HF2.out _ HBX.out).mono ?_);rintro e w3 ⟨v3,rfl,ho3,hb3⟩;have HJ3:=Lib.hid (HJ2.out _ w3 v3 HBX.out hb3 ho3);have HB3:Hid (Below wr.heap.size wr w3):=Lib.hid (HBX.out.trans (hb3.mono HBX.out.size));obtain ⟨A3,c3,rfl, -, -⟩:=owned_row ho3;clear ho3 hb3)
    |(go_at_fn K;(with_reducible refine HJ3.out.mono ?_)))
   rintro e w4 ⟨v4,rfl,ho4,hb4⟩
   have hbt:Below w.heap.size w w4:=HBW.out.trans ((HB3.out.trans (hb4.mono HB3.out.size)).mono HBW.out.size)
   have HF:Hid (JndRel (docsE G) kd k ks w v4 (.int .i64 ((j:Int)+1)) w4):=Lib.hid ⟨j+1,HLK.out,rfl,ho4.low (Nat.le_trans HBW.out.size HB3.out.size),hbt⟩
   clear ho4 hb4 hbt
   go_wp2
   go_roundw
   case rel=>exact HF.out
   case measure=>simp [intOf];omega
  ·have hjk:j=ks.length:=by rw [← HKL.out];omega
   have hown2:=hown
   rw [hjk,List.take_length] at hown2
   have HO:=Lib.hid hown2
   have hlen:(foundP (docsE G) (.mk kd ([],[]) [] (k::ks.take j))).length=(foundP (docsE G) (.mk kd ([],[]) [] (k::ks))).length:=by rw [hjk,List.take_length]
   rw [hlen]
   obtain ⟨Lj,hLj⟩:∃ Lj,Lj=(foundP (docsE G) (.mk kd ([],[]) [] (k::ks))).length:=⟨_,rfl⟩
   have HLJ:=Lib.hid hLj
   rw [← hLj]
   have HO2:Hid (OwnFo w.heap.size wr (.slice A2 Lj c2) (foundP (docsE G) (.mk kd ([],[]) [] (k::ks)))):=Lib.hid (by have :=HO.out;rw [hlen] at hown;rw [hLj];rw [hjk,List.take_length] at hown;exact hown)
   clear hown hown0 hown2 hlen hLj HO
   have hnl:¬ (j:Int)<(kl:Int):=by omega
   have hdl:decide ((j:Int)<(kl:Int))=false:=decide_eq_false hnl
   clear hjk hnl
   go_wp2
   go_ret
   exact ⟨_,rfl,HO2.out,hbw⟩
end Go.Proofs.YtldcadpemnpbmaaGreatDoor
