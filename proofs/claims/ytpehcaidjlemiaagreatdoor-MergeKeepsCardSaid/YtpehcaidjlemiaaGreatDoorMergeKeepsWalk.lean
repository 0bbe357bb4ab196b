import Derived.Test.YtpehcaidjlemiaaGreatDoorMKZz
import Derived.Test.YtpehcaidjlemiaaGreatDoorMKQ31
import Derived.Test.YtpehcaidjlemiaaGreatDoorMKQ33
import Derived.Test.YtpehcaidjlemiaaGreatDoorMKQ34
import Derived.Test.YtpehcaidjlemiaaGreatDoorMKQ30
import Derived.Test.YtpehcaidjlemiaaGreatDoorMKQ06
import Derived.Test.YtpehcaidjlemiaaGreatDoorMKQ35
import Derived.Test.YtpehcaidjlemiaaGreatDoorMKQ02
import Derived.Deep.CutRange
set_option maxHeartbeats 8000000
set_option maxRecDepth 100000
set_option linter.unusedVariables false
namespace Go.Proofs.YtpehcaidjlemiaaGreatDoor
open Go Go.RowKit
theorem qzw (r:List Bool) (b:Bool):qbf (r++[b])=qbf r++if b then [r.length] else []:=by
 unfold qbf;rw [List.length_append,List.length_singleton,List.range_succ,List.filter_append];congr 1
 ·refine List.filter_congr fun k hk=> ?_
  have :=List.mem_range.1 hk;simp [List.getD_eq_getElem?_getD,List.getElem?_append_left this]
 ·cases b<;>simp [List.getD_eq_getElem?_getD]
theorem qzx {G:List En} {r:List Bool} (b:Bool) (h:r.length<G.length):qaP G (r++[b])=qaP G r++if b then [G[r.length]] else []:=by
 unfold qaP;rw [qzw,List.map_append];cases b
 ·simp
 ·simp [List.getD_eq_getElem?_getD,h]
def qdL (L:List En):List Int:=L.map (·.1)
structure qdB (lo:Nat) (xs ys:List Int) (vs vi:Value) (w6 wr:World):Prop where
 many:qcA 3 1 lo wr [vs,vi] [xs.length,ys.length] [qab xs,qab ys]
 size:lo<=wr.heap.size
 below:Below lo w6 wr
section
variable {lo:Nat} {xs ys:List Int} {vs vi v':Value} {w6 wr w':World} {a:Int}
theorem qdB.later (h:qdB lo xs ys vs vi w6 wr) (hb:Below wr.heap.size wr w'):qdB lo xs ys vs vi w6 w':=⟨h.many.below hb,Nat.le_trans h.size hb.size,h.below.trans (hb.mono h.size)⟩
theorem qdB.own0 (h:qdB lo xs ys vs vi w6 wr):wr.ownsRow lo 3 1 vs xs.length (qab xs):=h.many.own 0 (by simp)
theorem qdB.own1 (h:qdB lo xs ys vs vi w6 wr):wr.ownsRow lo 3 1 vi ys.length (qab ys):=h.many.own 1 (by simp)
theorem qdB.seq (h:qdB lo xs ys vs vi w6 wr) (ho:w'.ownsRow lo 3 1 v' (xs.length+1) (qab xs++[.int .i64 a])) (hg:wr.grownBy w' vs.ownBlock) (hv:v'.ownBlock=vs.ownBlock∨v'.ownBlock=some wr.heap.size):qdB lo (xs++[a]) ys v' vi w6 w':=by
 have hm:=h.many.grow (q:=0) (by simp) ho hg fun g hg'=>by
  rcases hv with e|e
  ·exact .inl (by rw [<- hg',e];rfl)
  ·rw [e] at hg';injection hg' with hg';exact .inr (by omega)
 refine ⟨?_,Nat.le_trans h.size hg.size,h.below.grown hg h.size fun k hk=>(h.own0.lt k hk).1⟩;have e:qab (xs++[a])=qab xs++[.int .i64 a]:=by simp [qab]
 rw [List.length_append,List.length_singleton,e];exact hm
theorem qdB.id (h:qdB lo xs ys vs vi w6 wr) (ho:w'.ownsRow lo 3 1 v' (ys.length+1) (qab ys++[.int .i64 a])) (hg:wr.grownBy w' vi.ownBlock) (hv:v'.ownBlock=vi.ownBlock∨v'.ownBlock=some wr.heap.size):qdB lo xs (ys++[a]) vs v' w6 w':=by
 have hm:=h.many.grow (q:=1) (by simp) ho hg fun g hg'=>by
  rcases hv with e|e
  ·exact .inl (by rw [<- hg',e];rfl)
  ·rw [e] at hg';injection hg' with hg';exact .inr (by omega)
 refine ⟨?_,Nat.le_trans h.size hg.size,h.below.grown hg h.size fun k hk=>(h.own1.lt k hk).1⟩;have e:qab (ys++[a])=qab ys++[.int .i64 a]:=by simp [qab]
 rw [List.length_append,List.length_singleton,e];exact hm
end
def qpX (G:List En) (r:List Bool) (lo:Nat) (w6:World) (vs vi i:Value) (wr:World):Prop:=∃ k:Nat,k<=G.length/\i= .int .i64 (k:Int)/\qdB lo (qaj (qaP G (r.take k))) (qdL (qaP G (r.take k))) vs vi w6 wr
def qzy (L:List En) (M:Nat) (w:World) (e:Ending) (w':World):Prop:=∃ A1 c1 A2 c2 A3 n3 c3 A4 n4 c4,e= .returned (.agg #[.slice A1 M c1,.slice A2 M c2,.slice A3 n3 c3,.slice A4 n4 c4])/\Row w' w'.heap.size A1 (qab (qdL L))/\Row w' w'.heap.size A2 (qab (qaj L))/\Below w.heap.size w w'
theorem walk_MergeKeeps (a0:Option Addr) (len0 cap0:Nat) (z0:List Dc) (a1:Option Addr) (len1 cap1:Nat) (z1:List Bool) (W:World) (h0:qiQ W a0 len0 cap0 z0) (h1:qid W a1 len1 cap1 z1) (hT:Tab W):
    Calls Tryz.prog 6 #[.slice a0 len0 cap0,.slice a1 len1 cap1] W fun e W'=>e= .returned (.bool true)/\Below W.heap.size W W':=by
  obtain ⟨hz1,hlc,hr1⟩:=h1;obtain ⟨j0,ji0,jz0,jz1,jz2⟩:=info_parts qc7;obtain ⟨g1,g2,g3,g4,g5⟩:=h0;have HG1:Calls Tryz.prog 10 #[.slice a0 len0 cap0,.int .i64 10,.int .i64 0,.int .i64 3] W (qpG (qco z0 10 0 3) W):=qyp a0 len0 cap0 z0 10 0 3 W g3 g4 (by unfold maxLen at g2;omega) (by omega) (by omega) (by omega) fun q hq f hf=>by
    have :=g5 q hq f hf;unfold maxLen at this;omega
  obtain ⟨G,hG⟩:∃ G,G=qco z0 10 0 3:=⟨_,rfl⟩;have hadd:qch G:=by rw [hG];exact qyO _ _ _ _ (by omega) (by omega) (by omega)
  have hlen:G.length<=10:=by rw [hG,qiO];omega
  rw [<- hG] at HG1;have HGOOD:=qH HG1;have HADD:=qH hadd;obtain ⟨N,hN⟩:∃ N,N=G.length:=⟨_,rfl⟩;rw [<- hN] at hlen;have HN:=qH hN;have HT:=qH hT;have HR1:=qH hr1;have HZ1:=qH hz1;clear g1 g2 g3 g4 g5 hG hadd hN hT HG1 hr1 hz1;obtain ⟨r,hr⟩:∃ r,r=qfm z1 N:=⟨_,rfl⟩;have hrl:r.length=N:=by rw [hr,qy7]
  have HRL:=qH hrl;have HRR:=qH hr;clear hr hrl
  go_enter Tryz.func6,Tryz.ntmps6
  go_upto_region 6 with (first
    | (go_at_call 10; (with_reducible refine HGOOD.out.mono ?_); rintro e w1 ⟨V, rfl, ho1, hb1⟩
       obtain ⟨AG,cG,rfl,hcG,hu⟩:=ho1.nest;rw [<- HN.out] at hcG ⊢;have HO1:Hid (qa0 (fun k=>W.heap.size<=k) w1 (.slice AG N cG) G):=qH (by rw [HN.out];exact ho1);have HB1:=qH hb1;clear ho1 hb1 hu)
    | (go_at_call 11; (with_reducible refine (qzq (.slice AG N cG) G w1 HO1.out.small HADD.out).mono ?_); rintro e w2 ⟨S, rfl, hs2, -, hb2⟩
       have HS2:=qH hs2;have HO2:=qH (HO1.out.later hb2);have HB2:=qH (HB1.out.trans (hb2.mono HB1.out.size));clear hs2 hb2)
    | (go_at_call 12; (with_reducible refine (qzc a1 len1 cap1 z1 N w2 HZ1.out ((HR1.out.below HB2.out).more HB2.out.size) (by omega) hlc).mono ?_); rintro e w3 ⟨D, B, rfl, hrow3, hset3, hb3⟩
       rw [<- HRR.out] at hrow3 hset3;have HROW3:=qH hrow3;have HSET3:=qH hset3;have HS3:=qH (HS2.out.below hb3);have HO3:=qH (HO2.out.later hb3);have HB3:=qH (HB2.out.trans (hb3.mono HB2.out.size));clear hrow3 hset3 hb3))
  obtain ⟨L,hL⟩:∃ L,L=qaP G r:=⟨_,rfl⟩;have HL:=qH hL;clear hL;have HMM:Hid (∀ (w':World) (b1 b2:Nat),qkG w3 S B b1 b2 r w'->Calls Tryz.prog 14 #[.slice (some ⟨b1,0,none⟩) 1 1,.slice (some ⟨b2,0,none⟩) 1 1] w' (qeu (qad L) w')):=qH fun w' b1 b2 h=>by
    obtain ⟨base,hset⟩:=h.set;have :=qy3 1 1 h.c1 h.c2 (HS3.out.below h.below) hset (HT.out.below (HB3.out.trans (h.below.mono HB3.out.size)) HT.out.lt) HADD.out (by rw [<- HN.out];omega) (by rw [HRL.out,HN.out]);rwa [<- HL.out] at this
  have HLIT:=qH (qy5 (S:=S) (b1:=w3.heap.size) (b2:=w3.heap.size+1) (Below.refl _ w3) HSET3.out rfl rfl)
  go_upto_region 7 with (go_at_call 14; (with_reducible refine (HMM.out _ _ _ HLIT.out).mono ?_); rintro e w6 ⟨S6, rfl, hs6, -, hb6⟩
                         have HB36:=qH (HLIT.out.below.trans (hb6.mono HLIT.out.below.size));have HS6:=qH hs6;have HB6:=qH (HB3.out.trans (HB36.out.mono HB3.out.size));have HO6:=qH (HO3.out.later HB36.out);have HROW6:=qH (qao HROW3.out HB36.out);clear hb6 hs6)
  clear HMM HLIT HSET3 HS3 HO3 HROW3;have hst:qpX G r w6.heap.size w6 (.slice none 0 0) (.slice none 0 0) (.int .i64 0) w6:=⟨0,Nat.zero_le _,rfl,by simpa [qab,qaj,qdL,qaP,qbf] using qjo 3 1 w6.heap.size w6 2,Nat.le_refl _,Below.refl _ _⟩;have HST:=qH hst;clear hst;go_wp2
  go_loopw [12,13,14] (fun vs vi i wr=>qpX G r w6.heap.size w6 vs vi i wr) (fun _ _ i _=>N-(intOf i).toNat)
  case atStart=>exact HST.out
  case round=>
    clear HST;obtain ⟨k,hk,rfl,hat⟩:=hrel;rw [<- HN.out] at hk;by_cases hkn:k<N
    · have hkl:k<G.length:=by rw [<- HN.out];exact hkn
      have hkr:k<r.length:=by rw [HRL.out];exact hkn
      obtain ⟨b3,o3,e3,hb3,hc3⟩:=qk4 (qbv HROW6.out) hkr;have hc4:=(hat.below.cell (p:=⟨b3,o3+k,none⟩) hb3).trans hc3;have htk:r.take (k+1)=r.take k++[r.getD k false]:=by
        rw [List.take_succ_eq_append_getElem hkr,List.getD_eq_getElem?_getD,List.getElem?_eq_getElem hkr];rfl
      have htl:(r.take k).length=k:=by rw [List.length_take];omega
      have hsn:=qzx (G:=G) (r:=r.take k) (r.getD k false) (by omega);rw [<- htk] at hsn;have hge:G[(r.take k).length]'(by omega)=G[k]:=by simp only [htl]
      rw [hge] at hsn;obtain ⟨b,hbd⟩:∃ b,b=r.getD k false:=⟨_,rfl⟩;rw [<- hbd] at hsn hc4;have hk1:(k:Int)<(N:Int):=by omega
      simp only [Option.some.injEq,Addr.mk.injEq] at e3;obtain ⟨rfl,rfl, -⟩:=e3;rw [Nat.zero_add] at hc4;have hHAT:=qH hat;have HSN:=qH hsn;clear hsn hge htk htl hbd hc3 hb3 hkr;cases b with
      |true=>
        obtain ⟨bg,c0,Af,cf,hV,hbS,hbg,e0,e1,e2,hc1,hc2,hrf⟩:=HO6.out.at_ hkl;simp only [Value.slice.injEq] at hV;obtain ⟨rfl, -,rfl⟩:=hV;have f0:=(hat.below.cell (p:=⟨bg,k*3,none⟩) hbg).trans e0;have f2:=(hat.below.cell (p:=⟨bg,k*3+2,none⟩) hbg).trans e2;obtain ⟨q1,hq1⟩:∃ q,q=G[k].1:=⟨_,rfl⟩;obtain ⟨q3,hq3⟩:∃ q,q=G[k].2.2:=⟨_,rfl⟩;rw [<- hq1] at f0;have HQ1:=qH hq1;rw [<- hq3] at f2;have hS1:qaj (qaP G (r.take (k+1)))=qaj (qaP G (r.take k))++[q3]:=by rw [HSN.out,hq3];simp [qaj]
        have hS2:qdL (qaP G (r.take (k+1)))=qdL (qaP G (r.take k))++[q1]:=by rw [HSN.out,hq1];simp [qdL]
        have hlx:(qaj (qaP G (r.take k))).length<=k:=by
          unfold qaj qaP qbf;rw [List.length_map,List.length_map];have h1:=List.length_filter_le (fun i=>(r.take k).getD i false) (List.range (r.take k).length);rw [List.length_range] at h1;have h2:(r.take k).length<=k:=List.length_take_le k r;omega
        have hly:(qdL (qaP G (r.take k))).length<=k:=by
          have e:(qdL (qaP G (r.take k))).length=(qaj (qaP G (r.take k))).length:=by simp [qaj,qdL]
          omega
        obtain ⟨xs,hxs⟩:∃ xs,xs=qaj (qaP G (r.take k)):=⟨_,rfl⟩;obtain ⟨ys,hys⟩:∃ ys,ys=qdL (qaP G (r.take k)):=⟨_,rfl⟩;rw [<- hxs] at hS1 hlx hat;rw [<- hys] at hS2 hly hat;have HS1:=qH hS1;have HS2b:=qH hS2;have HAT:=qH hat;have hsz:=hat.size;obtain ⟨nx,hnx⟩:∃ nx,nx=xs.length:=⟨_,rfl⟩;obtain ⟨ny,hny⟩:∃ ny,ny=ys.length:=⟨_,rfl⟩;rw [<- hnx] at hlx;rw [<- hny] at hly;have HNX:=qH hnx;have HNY:=qH hny;have hdr:=hat.below;clear hS1 hS2 hxs hys hnx hny hq1 hq3 e1 e2 hrf f0 hc1 hc2 hbS hat hHAT HSN
        go_wp2_with (first
          | (at_builtin; refine wpList_append_own_at _ rfl (.tmp 56) (.tmp 62) 23 rfl w6.heap.size 3 j0 _ 1 8 Tryz.underlying23 ji0 jz0 jz1 jz2 rfl (by omega) u12 nx (qab xs) rfl (by rw [HNX.out]; exact (HAT.out.own0.alloc _)) ⟨wr.heap.size, 0, none⟩ 1 1 [.int .i64 q3] rfl rfl (qaN wr [.int .i64 q3] 3) (by intro u hu; simp at hu; subst hu; rfl) (by unfold maxLen; omega) (by omega) (by simp; omega) ?_
             intro v7 w7 hown7 hgrow7 hz7 hat7;have hal:=(Below.refl wr.heap.size wr).alloc (Nat.le_refl _) (.cells #[.int .i64 q3] 3);rw [HNX.out] at hown7;have HAT7:=qH ((HAT.out.later hal).seq hown7 hgrow7 hat7);have hsz7:=HAT7.out.size;have f7:=(HAT7.out.below.cell (p:=⟨bg,k*3,none⟩) hbg).trans e0;rw [<- HQ1.out] at f7;clear hown7 hgrow7 hat7 hz7 hal)
          | (at_builtin; refine wpList_append_own_at _ rfl (.tmp 64) (.tmp 71) 23 rfl w6.heap.size 3 j0 _ 1 8 Tryz.underlying23 ji0 jz0 jz1 jz2 rfl (by omega) u13 ny (qab ys) rfl (by rw [HNY.out]; exact (HAT7.out.own1.alloc _)) ⟨w7.heap.size, 0, none⟩ 1 1 [.int .i64 q1] rfl rfl (qaN w7 [.int .i64 q1] 3) (by intro u hu; simp at hu; subst hu; rfl) (by unfold maxLen; omega) (by omega) (by simp; omega) ?_
             intro v8 w8 hown8 hgrow8 hz8 hat8;have hal:=(Below.refl w7.heap.size w7).alloc (Nat.le_refl _) (.cells #[.int .i64 q1] 3);rw [HNY.out] at hown8;have HAT8:=qH ((HAT7.out.later hal).id hown8 hgrow8 hat8);clear hown8 hgrow8 hat8 hz8 hal))
        go_roundw
        case rel=>exact ⟨k+1,hkl,by go_num,by rw [HS1.out,HS2b.out];exact HAT8.out⟩
        case measure=>simp [intOf];omega
      |false=>
        have hsm:qaP G (r.take (k+1))=qaP G (r.take k):=by rw [HSN.out];simp
        have HSM:=qH hsm;clear hsm HSN;go_wp2;go_roundw
        case rel=>exact ⟨k+1,hkl,by go_num,by rw [HSM.out];exact hHAT.out⟩
        case measure=>simp [intOf];omega
    · have hkn':k=N:=by omega
      subst hkn';have htk:r.take k=r:=List.take_of_length_le (by rw [HRL.out];exact Nat.le_refl _);rw [htk,<- HL.out] at hat;obtain ⟨M,hM⟩:∃ M,M=L.length:=⟨_,rfl⟩;have hM1:(qaj L).length=M:=by rw [hM];simp [qaj]
      have hM2:(qdL L).length=M:=by rw [hM];simp [qdL]
      have hMle:M<=1000:=by
        rw [hM,HL.out];have h1:=(qhl (L:=G) (r:=r) (by rw [HRL.out,HN.out])).length_le;have :=HN.out;omega
      have ho0:=hat.own0;have ho1:=hat.own1;rw [hM1] at ho0;rw [hM2] at ho1;obtain ⟨Av,cv,rfl, -⟩:=qbn ho0;obtain ⟨Aw,cw,rfl, -⟩:=qbn ho1;have HW0:=qH (qbv ho0);have HW1:=qH (qbv ho1);have hbi:(qad L).ids.length=M:=by rw [hM];simp [qad]
      have hbs:(qad L).seqs.length=M:=by rw [hM];simp [qad]
      have HPR:Hid (Calls Tryz.prog 23 #[.pointer (some ⟨S6,0,none⟩)] wr (qzy L M wr)):=qH ((qzs (HS6.out.below hat.below)).mono fun e w' ⟨A1,c1,A2,c2,A3,c3,A4,c4,h1,h2,h3⟩=>⟨A1,c1,A2,c2,A3,(qad L).keys.length,c3,A4,(qad L).lists.length,c4,h1.trans (by rw [hbi,hbs]),h2.ids,h2.seqs,h3⟩);have HS9:=qH (HS6.out.below hat.below);have HBR:=qH (HB6.out.trans (hat.below.mono HB6.out.size));have HLEN:Hid (∀ w',Below wr.heap.size wr w'->Calls Tryz.prog 20 #[.pointer (some ⟨S6,0,none⟩)] w' fun e w''=>e= .returned (.int .i64 (M:Int))/\Below w'.heap.size w' w''):=qH fun w' h=>by
        have :=qjG (HS9.out.below h);rwa [hbi] at this
      have HSM:Hid (∀ (A C:Option Addr) (c d:Nat) (xs:List Int) w',xs.length=M->Row w' w'.heap.size A (qab xs)->Row w' w'.heap.size C (qab xs)->Calls Tryz.prog 24 #[.slice A M c,.slice C M d] w' fun e w''=>e= .returned (.bool true)/\Below w'.heap.size w' w''):=qH fun A C c d xs w' hx h1 h2=>
        qzu A C M M c d xs w' hx hx h1 h2 (by omega)
      have HM1:=qH hM1;have HM2:=qH hM2;clear ho0 ho1 hat hM1 hM2 hM htk hbi hbs
      go_wp2_with (first
        | (go_at_call 23; (with_reducible refine HPR.out.mono ?_); rintro e w9 ⟨A1, c1, A2, c2, A3, n3, c3, A4, n4, c4, rfl, hp1, hp2, hb9⟩
           have hal:=(Below.refl w9.heap.size w9).alloc (Nat.le_refl _) (.cells #[.slice A1 M c1,.slice A2 M c2,.slice A3 n3 c3,.slice A4 n4 c4] 62);have hbl:=heap_alloc_new w9 (.cells #[.slice A1 M c1,.slice A2 M c2,.slice A3 n3 c3,.slice A4 n4 c4] 62);obtain ⟨w10,hw10⟩:∃ w10,w10=w9.alloc (.cells #[.slice A1 M c1,.slice A2 M c2,.slice A3 n3 c3,.slice A4 n4 c4] 62):=⟨_,rfl⟩;rw [<- hw10] at hal hbl;have HB10:=qH (hb9.trans (hal.mono hb9.size));have HP1:=qH (Row.later hp1 hal);have HP2:=qH (Row.later hp2 hal);have HBL:=qH hbl;have HW10:=qH hw10;obtain ⟨⟨q0,q1,q2,q3⟩, -⟩:=qa1 hbl;have HX0:=qH (Row.later HW0.out HB10.out);have HX1:=qH (Row.later HW1.out HB10.out);clear hp1 hp2 hb9 hal hbl hw10)
        | (go_at_call 24; rw [<- HW10.out]; (with_reducible refine (HSM.out A2 Av c2 cv (qaj L) w10 HM1.out HP2.out HX0.out).mono ?_); rintro e w11 ⟨rfl, hb11⟩
           have HB11:=qH (HB10.out.trans (hb11.mono HB10.out.size));have HX11:=qH (Row.later HX1.out hb11);have HP11:=qH (Row.later HP1.out hb11);obtain ⟨⟨r0,r1,r2,r3⟩, -⟩:=qa1 ((hb11.block _ (Array.getElem?_eq_some_iff.1 HBL.out).1).trans HBL.out);clear hb11)
        | (go_at_call 24; (with_reducible refine (HSM.out A1 Aw c1 cw (qdL L) w11 HM2.out HP11.out HX11.out).mono ?_); rintro e w12 ⟨rfl, hb12⟩
           have HB12:=qH (HB11.out.trans (hb12.mono HB11.out.size));clear hb12)
        | (go_at_call 20; (with_reducible refine (HLEN.out w12 HB12.out).mono ?_); rintro e w13 ⟨rfl, hb13⟩
           have HB13:=qH (HB12.out.trans (hb13.mono HB12.out.size));clear hb13)
        | (go_at_call 18; (with_reducible refine (qt3 qzv w13).mono ?_); rintro e w14 ⟨rfl, hb14⟩
           have HB14:=qH (HB13.out.trans (hb14.mono HB13.out.size));clear hb14))
      go_ret;exact ⟨rfl,HBR.out.trans (HB14.out.mono HBR.out.size)⟩
end Go.Proofs.YtpehcaidjlemiaaGreatDoor
