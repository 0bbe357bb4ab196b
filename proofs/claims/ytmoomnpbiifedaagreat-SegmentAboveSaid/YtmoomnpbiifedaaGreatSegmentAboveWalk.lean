import Derived.Test.YtmoomnpbiifedaaGreatMVQ18
import Derived.Test.YtmoomnpbiifedaaGreatMVQ11
set_option linter.unusedVariables false
namespace Go.Proofs.YtmoomnpbiifedaaGreat
open Go Go.RowKit
def aboveE (G:List En) (seq:Int) (k:Nat):Nat:=aboveZ ((G.take k).map (·.2.2)) seq
theorem aboveE_le (G:List En) (seq:Int) (k:Nat):aboveE G seq k≤k:=by
 refine Nat.le_trans List.countP_le_length ?_
 simp
 omega
theorem aboveE_next {G:List En} {k:Nat} (h:k<G.length) (seq:Int):aboveE G seq (k+1)=aboveE G seq k+if seq≤G[k].2.2 then 1 else 0:=by
 unfold aboveE aboveZ
 rw [List.take_succ_eq_append_getElem h,List.map_append,List.countP_append]
 simp [List.countP_cons]
theorem aboveE_all (G:List En) (seq:Int):aboveE G seq G.length=aboveZ (buildP G).seqs seq:=by
 unfold aboveE
 rw [List.take_length]
 rfl
def AboveRel (G:List En) (seq:Int) (w:World) (n i:Value) (wr:World):Prop:=∃ k:Nat,k≤G.length∧n= .int .i64 (aboveE G seq k:Int)∧i= .int .i64 (k:Int)∧w=wr
set_option maxHeartbeats 4000000 in
set_option maxRecDepth 100000 in
theorem walk_SegmentAbove (a0:Option Addr) (len0 cap0:Nat) (z0:List Dc) (a1:Int) (W:World) (h0:InDocs W a0 len0 cap0 z0) (h1:(Lit.int .i64 a1).wf=true):
    Calls Tryz.prog 6 #[.slice a0 len0 cap0,.int .i64 a1] W fun e W'=>e= .returned (.bool true)∧Below W.heap.size W W':=by
  obtain ⟨g1,g2,g3,g4,g5⟩:=h0
  have HN:=Lib.hid g4
  have HFD:=Lib.hid g5
  have HL3:=Lib.hid g3
  obtain ⟨G,hG⟩:∃ G,G=goodsE z0 10 3 4:=⟨_,rfl⟩
  have hGl:G.length≤10:=by rw [hG,goodsE_length];omega
  have HADD:Hid (AddOk G):=Lib.hid (by rw [hG];exact goodsE_add _ _ _ _ (by omega) (by omega) (by omega))
  have HGD:Hid (Calls Tryz.prog 14 #[.slice a0 len0 cap0,.int .i64 10,.int .i64 3,.int .i64 4] W (GaveEn G W)):=Lib.hid (by
    rw [hG]
    exact ref09_Good a0 len0 cap0 z0 10 3 4 W HL3.out HN.out (by unfold maxLen at g2;omega) (by omega) (by omega) (by omega) fun q hq f hf=>by
      have :=HFD.out q hq f hf
      unfold maxLen at this
      omega)
  clear h1 g3 g4 g5 hG
  obtain ⟨N,hN⟩:∃ N,N=G.length:=⟨_,rfl⟩
  rw [← hN] at hGl
  have HHN:=Lib.hid hN
  clear hN
  go_enter Tryz.func6,Tryz.ntmps6
  go_wp2_with (first
    | (go_at_call 14; (with_reducible refine HGD.out.mono ?_); rintro e w1 ⟨V, rfl, ho1, hb1⟩
       obtain ⟨AG,cG,rfl,hcG,hu⟩:=ho1.nest
       rw [← HHN.out] at hcG ⊢
       have HO1:Hid (OwnES (fun k=>W.heap.size≤k) w1 (.slice AG N cG) G):=Lib.hid (by rw [HHN.out];exact ho1)
       have HW1:=Lib.hid hb1
       clear ho1 hb1 hu)
    | (go_at_call 16; (with_reducible refine (seg_Build (.slice AG N cG) G w1 HO1.out.small HADD.out).mono ?_); rintro e w2 ⟨S, rfl, hs2, -, hb2⟩
       have HS2:=Lib.hid hs2
       have HO2:=Lib.hid (HO1.out.later hb2)
       have HW2:=Lib.hid (HW1.out.trans (hb2.mono HW1.out.size))
       clear hs2 hb2))
  go_loopw [8,9] (fun n i wr=>AboveRel G a1 w2 n i wr) (fun _ i _=>N-(intOf i).toNat)
  case atStart=>exact ⟨0,Nat.zero_le _,rfl,rfl,rfl⟩
  case round=>
    obtain ⟨k,hk,rfl,rfl,rfl⟩:=hrel
    have hle:=aboveE_le G a1 k
    rw [← HHN.out] at hk
    by_cases hkN:k<N
    · have hkG:k<G.length:=by have :=HHN.out;omega
      obtain ⟨b,c0,A,c,hv, -, -, -,hx0,hz0, -, -, -⟩:=HO2.out.at_ hkG
      have hx:=aboveE_next hkG a1
      obtain ⟨q,hq⟩:∃ q,q=G[k].2.2:=⟨_,rfl⟩
      rw [← hq] at hx hz0
      have hAG:AG=some ⟨b,0,none⟩:=by injection hv
      clear hv
      subst hAG
      have hz:w2.cell? ⟨b,k*3+2,none⟩=some (.int .i64 q):=hz0
      have k0:(0:Int)≤k:=by omega
      have k1:(k:Int)<N:=by omega
      obtain ⟨M,hM⟩:∃ M,M=aboveE G a1 k:=⟨_,rfl⟩
      obtain ⟨M',hM'⟩:∃ M',M'=aboveE G a1 (k+1):=⟨_,rfl⟩
      rw [← hM] at hle hx ⊢
      rw [← hM'] at hx
      have HM':=Lib.hid hM'
      have m0:(0:Int)≤M:=by omega
      clear hq hx0 hz0 hM hM'
      rcases Int.lt_or_le q a1 with hc|hc
      · rw [if_neg (by omega)] at hx
        have HX:=Lib.hid hx
        clear hx
        go_wp2
        exact ⟨⟨k+1,hkG,by rw [← HM'.out,HX.out];rfl,by go_num,rfl⟩,by simp [intOf];omega⟩
      · rw [if_pos hc] at hx
        have HX:=Lib.hid hx
        clear hx
        go_wp2
        exact ⟨⟨k+1,hkG,by rw [← HM'.out,HX.out];go_num,by go_num,rfl⟩,by simp [intOf];omega⟩
    · have hke:k=N:=by omega
      subst hke
      have hall:=aboveE_all G a1
      rw [← HHN.out] at hall
      rw [hall] at hle ⊢
      obtain ⟨M,hM⟩:∃ M,M=aboveZ (buildP G).seqs a1:=⟨_,rfl⟩
      have HAB:Hid (Calls Tryz.prog 20 #[.pointer (some ⟨S,0,none⟩),.int .i64 a1] w2 fun e w'=>e= .returned (.int .i64 (M:Int))∧Below w2.heap.size w2 w'):=Lib.hid (by rw [hM];exact seg_Above HS2.out a1)
      rw [← hM] at hle ⊢
      have ka:(k:Int)≤k:=Int.le_refl _
      clear hM hall
      go_wp2_with (first
        | (go_at_call 20; (with_reducible refine HAB.out.mono ?_); rintro e w3 ⟨rfl, hb3⟩
           have HW3:=Lib.hid (HW2.out.trans (hb3.mono HW2.out.size))
           clear hb3)
        | (go_at_call 15; (with_reducible refine (law10_lives w3).mono ?_); rintro e w4 ⟨rfl, hb4⟩
           have HW4:=Lib.hid (HW3.out.trans (hb4.mono HW3.out.size))
           clear hb4))
      go_ret
      exact ⟨rfl,HW4.out⟩
end Go.Proofs.YtmoomnpbiifedaaGreat
