import Derived.Test.YtmoomnpbiifedaaGreatMBZz
import Derived.Test.YtmoomnpbiifedaaGreatMBQ24
import Derived.Test.YtmoomnpbiifedaaGreatMBQ25
import Derived.Test.YtmoomnpbiifedaaGreatMBQ10
import Derived.Test.YtmoomnpbiifedaaGreatMBQ12
import Derived.Maps.AppendAt
set_option linter.unusedVariables false
namespace Go.Proofs.YtmoomnpbiifedaaGreat
open Go Go.RowKit
def GaveParts (x:PartsP) (w:World) (e:Ending) (w':World):Prop:=∃ A1 c1 A2 c2 A3 c3 A4 c4,e= .returned (.agg #[.slice A1 x.ids.length c1,.slice A2 x.seqs.length c2,.slice A3 x.keys.length c3,.slice A4 x.lists.length c4])∧PAt w' w'.heap.size A1 A2 A3 A4 x∧Below w.heap.size w w'
theorem PostsG.of_p0 {b0 base:Nat} {w:World} {v:Value} {l:List Pn} (h:OwnP0 base w v l):∃ A c,v= .slice A l.length c∧(l.length≤c∧c≤maxLen)∧PostsG b0 w A l:=by
 obtain ⟨cs,h1,h2⟩:=h
 obtain ⟨A,c,rfl,hc,hr⟩:=owned_roomed h1
 exact ⟨A,c,rfl,hc,cs,h2.imp fun _ _ h=> .of_safe h,.of_own h1⟩
abbrev zeroP:Array Value:=#[.slice none 0 0,.slice none 0 0,.slice none 0 0,.slice none 0 0]
def RefBuild1 (R P:Nat) (G:List En) (w:World) (i:Value) (wr:World):Prop:=∃ (k:Nat) (v1 v2:Value),k≤G.length∧i= .int .i64 (k:Int)∧wr.heap[R]?=some (.cells zeroP 26 (0,0))∧
 GatI 26 w.heap.size (P+1) P v1 v2 ((G.take k).map (·.1)) ((G.take k).map (·.2.2)) wr∧Below w.heap.size w wr
def RefBuild2 (R P base:Nat) (G:List En) (W1 W2 W3:Value) (A1 A2:Option Addr) (w:World) (i:Value) (wr:World):Prop:=∃ (k:Nat) (v4:Value),k≤(keysE G).length∧i= .int .i64 (k:Int)∧wr.heap[R]?=some (.cells zeroP 26 (0,0))∧
 GatL 26 w.heap.size base P W1 W2 W3 v4 (keysE G) ((buildP G).lists.take k) wr∧RowG w.heap.size 3 wr A1 (ints (buildP G).ids)∧RowG w.heap.size 3 wr A2 (ints (buildP G).seqs)∧Below w.heap.size w wr
set_option maxHeartbeats 16000000 in
set_option maxRecDepth 100000 in
theorem ref10_Build (AV:Option Addr) (N cV:Nat) (G:List En) (w:World) (hN:G.length=N) (hV:Nest enS w w.heap.size AV G) (hG:AddOk G):Calls Tryz.prog 13 #[.slice AV N cV] w (GaveParts (buildP G) w):=by
  obtain ⟨i0,hi0,hz0,hz1,hz2⟩:=info_parts info_int
  obtain ⟨j0,hj0,hj1,hj2,hj3⟩:=info_parts info_lists
  have hN100:N≤100:=by rw [← hN];exact hG.few
  have HV:=Lib.hid hV
  have HG:=Lib.hid hG
  have HN:=Lib.hid hN
  clear hV hG hN
  obtain ⟨P,hP⟩:∃ P,P=w.heap.size+1:=⟨_,rfl⟩
  have HST:Hid (RefBuild1 w.heap.size P G w (.int .i64 ((0:Nat):Int)) ((w.alloc (.cells zeroP 26)).alloc (.cells zeroP 26))):=Lib.hid (by
    have hbel:Below w.heap.size w ((w.alloc (.cells zeroP 26)).alloc (.cells zeroP 26)):=((Below.refl _ w).alloc (Nat.le_refl _) _).alloc (by simp) _
    refine ⟨0,.slice none 0 0,.slice none 0 0,Nat.zero_le _,rfl,?_,⟨?_,by omega,by omega,by simp;omega,World.ownsRow_nil _ _ _ _,World.ownsRow_nil _ _ _ _,fun g hg=>by cases hg⟩,hbel⟩
    · rw [Below.heap_alloc _ _ _ (by simp)]
      exact heap_alloc_new w _
    · rw [hP]
      simpa using heap_alloc_new (w.alloc (.cells zeroP 26)) (.cells zeroP 26))
  have HP:=Lib.hid hP
  go_enter Tryz.func13,Tryz.ntmps13
  go_wp2
  rw [← hP]
  clear hP
  go_loopw [4] (fun i wr=>RefBuild1 w.heap.size P G w i wr) (fun i _=>N-(intOf i).toNat)
  case atStart=>exact HST.out
  case round=>
    clear HST
    obtain ⟨k,v1,v2,hk,rfl,hR,hgat,hbw⟩:=hrel
    rw [HN.out] at hk
    by_cases hlt:k<N
    · have hkl:k<G.length:=by rw [HN.out];exact hlt
      have hnr:=Nest.below HV.out hbw
      obtain ⟨b,off,A',c',e1,hbb,g1, -,g3, -, -, -⟩:=enS_at hnr hkl
      subst e1
      have hts:G.take (k+1)=G.take k++[G[k]]:=List.take_succ_eq_append_getElem hkl
      have htl:(G.take k).length=k:=by rw [List.length_take];omega
      obtain ⟨gk,hgk⟩:∃ gk,gk=G[k]:=⟨_,rfl⟩
      rw [← hgk] at g1 g3 hts
      obtain ⟨q1,d,q3⟩:=gk
      simp only at g1 g3
      obtain ⟨XS,hXS⟩:∃ XS,XS=(G.take k).map (·.1):=⟨_,rfl⟩
      obtain ⟨YS,hYS⟩:∃ YS,YS=(G.take k).map (·.2.2):=⟨_,rfl⟩
      have hXL:XS.length=k:=by rw [hXS,List.length_map,htl]
      have hYL:YS.length=k:=by rw [hYS,List.length_map,htl]
      rw [← hXS,← hYS] at hgat
      obtain ⟨W1,hW1⟩:∃ W1,W1=(wr.alloc (.cells #[.int .i64 q1] 3)).drew:=⟨_,rfl⟩
      have hal:Below wr.heap.size wr W1:=by rw [hW1];exact ((Below.refl _ wr).alloc (Nat.le_refl _) _).drew
      have hs1:W1.heap.size=wr.heap.size+1:=by rw [hW1];simp
      have hg1:=hgat.below hal
      have ho1:=hg1.ids
      rw [hXL] at ho1
      obtain ⟨g,cap,w7,hrun,hown7,hgr7,hat7,_⟩:=run_append_lies (P:=Tryz.prog) W1 22 22 (P+1) 3 i0 _ 1 8 Tryz.underlying22 hi0 hz0 hz1 hz2 rfl (by omega) v1 k (ints XS) ho1 ⟨wr.heap.size,0,none⟩ 1 1 [.int .i64 q1] rfl (by rw [hW1];exact news_at wr [.int .i64 q1] 3) (by intro u hu;simp at hu;subst hu;rfl) (by omega) (by unfold maxLen;omega) (by omega) hg1.size W1.heap.size rfl
      obtain ⟨hP7,hg8,hb8,hk8⟩:=hg1.id (v':= .slice (some ⟨g,0,none⟩) (k+1) cap) (by decide) (by rw [hXL];exact hown7) hgr7 (hat7.imp (fun h=>h.symm) fun h=>by rw [h];rfl)
      have hap7:=hg1.apart
      obtain ⟨w8,hw8⟩:∃ w8,w8=w7.setCell ⟨P,0,none⟩ (.slice (some ⟨g,0,none⟩) (k+1) cap):=⟨_,rfl⟩
      rw [← hw8] at hg8 hb8 hk8
      have hbw8:Below w.heap.size w w8:=hbw.trans ((hal.mono hbw.size).trans hb8)
      have hRP:w.heap.size≠P:=by have :=HP.out;omega
      have hR8:w8.heap[w.heap.size]?=some (.cells zeroP 26 (0,0)):=(hk8 _ (by have :=hbw.size;have :=(Array.getElem?_eq_some_iff.1 hR).1;omega) hRP (fun e=>by have :=(ho1.lt _ e).1;have :=HP.out;omega)).trans ((hal.block _ (Array.getElem?_eq_some_iff.1 hR).1).trans hR)
      obtain ⟨W2,hW2⟩:∃ W2,W2=(w8.alloc (.cells #[.int .i64 q3] 3)).drew:=⟨_,rfl⟩
      have hal2:Below w8.heap.size w8 W2:=by rw [hW2];exact ((Below.refl _ w8).alloc (Nat.le_refl _) _).drew
      have hg2:=hg8.below hal2
      have ho2:=hg2.seqs
      rw [hYL] at ho2
      obtain ⟨g',cap',w9,hrun9,hown9,hgr9,hat9,_⟩:=run_append_lies (P:=Tryz.prog) W2 22 22 (P+1) 3 i0 _ 1 8 Tryz.underlying22 hi0 hz0 hz1 hz2 rfl (by omega) v2 k (ints YS) ho2 ⟨w8.heap.size,0,none⟩ 1 1 [.int .i64 q3] rfl (by rw [hW2];exact news_at w8 [.int .i64 q3] 3) (by intro u hu;simp at hu;subst hu;rfl) (by omega) (by unfold maxLen;omega) (by omega) hg2.size W2.heap.size rfl
      obtain ⟨hP9,hg10,hb10,hk10⟩:=hg2.seq (v':= .slice (some ⟨g',0,none⟩) (k+1) cap') (by decide) (by rw [hYL];exact hown9) hgr9 (hat9.imp (fun h=>h.symm) fun h=>by rw [h];rfl)
      have hrel:RefBuild1 w.heap.size P G w (.int .i64 ((k:Int)+1)) (w9.setCell ⟨P,1,none⟩ (.slice (some ⟨g',0,none⟩) (k+1) cap')):=by
        refine ⟨k+1,.slice (some ⟨g,0,none⟩) (k+1) cap,.slice (some ⟨g',0,none⟩) (k+1) cap',by rw [HN.out];omega,by go_num,?_,?_,hbw8.trans ((hal2.mono hbw8.size).trans hb10)⟩
        · exact (hk10 _ (by have :=(Array.getElem?_eq_some_iff.1 hR8).1;have :=hal2.size;omega) hRP (fun e=>by have :=(ho2.lt _ e).1;have :=HP.out;omega)).trans ((hal2.block _ (Array.getElem?_eq_some_iff.1 hR8).1).trans hR8)
        · rw [hts,List.map_append,List.map_append,← hXS,← hYS]
          exact hg10
      have HREL:=Lib.hid hrel
      have HL0:Hid (wr.drew.cell? ⟨P,0,none⟩=some v1):=Lib.hid (four10 hgat.cells).1.1
      have HLA:Hid (W1.cell? ⟨P,0,none⟩=some v1):=Lib.hid (four10 hg1.cells).1.1
      have HX0:Hid (wr.drew.cell? ⟨b,off+k*3,none⟩=some (.int .i64 q1)):=Lib.hid g1
      have hg38:w8.cell? ⟨b,off+k*3+2,none⟩=some (.int .i64 q3):=by
        obtain ⟨b',off',_,_,e1,_,_,_,g3',_⟩:=enS_at (Nest.below HV.out hbw8) hkl
        injection e1 with e1
        injection e1 with e1 e2 _
        subst e1 e2
        rw [← hgk] at g3'
        exact g3'
      have HX2:Hid (w8.drew.cell? ⟨b,off+k*3+2,none⟩=some (.int .i64 q3)):=Lib.hid hg38
      have HL2:Hid (w8.drew.cell? ⟨P,1,none⟩=some v2):=Lib.hid (four10 hg8.cells).1.2.1
      have HLB:Hid (W2.cell? ⟨P,1,none⟩=some v2):=Lib.hid (four10 hg2.cells).1.2.1
      have HRUN1:=Lib.hid hrun
      have HRUN2:=Lib.hid hrun9
      have F7:=Lib.hid (And.intro (four10 hP7).1.1 (four10 hP7).2.1)
      have F9:=Lib.hid (And.intro (four10 hP9).1.2.1 (four10 hP9).2.2.1)
      rw [hW1] at HRUN1 HLA
      rw [hW2] at HRUN2 HLB
      have HW8:=Lib.hid hw8
      have k0:(0:Int)≤k:=by omega
      have k1:(k:Int)<N:=by omega
      clear hR hgat hbw hkl hnr hbb g1 g3 hts htl hgk hXS hYS hXL hYL hW1 hal hs1 hg1 ho1 hrun hown7 hgr7 hat7 hP7 hg8 hb8 hk8 hap7 hw8 hbw8 hRP hR8 hW2 hal2 hg2 ho2 hrun9 hown9 hgr9 hat9 hP9 hg10 hb10 hk10 hrel hg38
      go_upto_region 5 with fail
      refine wp_region_noPanic ?_
      refine wp_region_held_drew (S:=fun _=>True) (by kernel_rfl) trivial (fun hHeld=> ?_)
      refine wpAnyH_take (i:=0) (v:= .pointer (some ⟨P,0,none⟩)) rfl (by kernel_rfl) (by kernel_rfl) (by kernel_rfl) (fun _ _ _ h=>h) (Or.inl ⟨by rfl,fun wx hSw=>by go_simp⟩) (by assumption) ?_
      try simp only [Act.put,zA,zB,zD,zE,zF]
      refine wpAnyH_take (i:=2) (v:= .slice (some ⟨b,off,none⟩) N cV) rfl (by kernel_rfl) (by kernel_rfl) (by kernel_rfl) (fun _ _ _ h=>h) (Or.inl ⟨by rfl,fun wx hSw=>by go_simp⟩) (by assumption) ?_
      try simp only [Act.put,zA,zB,zC,zD,zE,zF]
      refine wpAnyH_take (i:=3) (v:= .int .i64 (k:Int)) rfl (by kernel_rfl) (by kernel_rfl) (by kernel_rfl) (fun _ _ _ h=>h) (Or.inl ⟨by rfl,fun wx hSw=>by go_simp⟩) (by assumption) ?_
      try simp only [Act.put,zA,zB,zC,zD,zE,zF]
      refine wpAnyH_take (i:=4) (v:= .pointer (some ⟨b,off+k*3,none⟩)) rfl (by kernel_rfl) (by kernel_rfl) (by kernel_rfl) (fun _ _ _ h=>h) (Or.inl ⟨by rfl,fun wx hSw=>by go_simp⟩) (by assumption) ?_
      try simp only [Act.put,zA,zB,zC,zD,zE,zF]
      refine wpAnyH_take (i:=5) (v:= .pointer (some ⟨b,off+k*3,none⟩)) rfl (by kernel_rfl) (by kernel_rfl) (by kernel_rfl) (fun _ _ _ h=>h) (Or.inl ⟨by rfl,fun wx hSw=>by go_simp⟩) (by assumption) ?_
      try simp only [Act.put,zA,zB,zC,zD,zE,zF]
      refine wpAnyH_take (i:=6) (v:= .pointer (some ⟨b,off+k*3,none⟩)) rfl (by kernel_rfl) (by kernel_rfl) (by kernel_rfl) (fun _ _ _ h=>h) (Or.inl ⟨by rfl,fun wx hSw=>by go_simp⟩) (by assumption) ?_
      try simp only [Act.put,zA,zB,zC,zD,zE,zF]
      refine wpAnyH_ready (rs:=[1,7]) (by kernel_rfl) (by simp) ?_
      refine (AllReadyH.cons rfl (fun K hK=> ?_) (AllReadyH.cons rfl (fun K hK=> ?_) AllReadyH.nil))
      · try simp only [zA,zB,zC]
        have hl:=HL0.out
        go_simp
        refine hK.out _ _ ?_ (fun hHeld=> ?_)
        · exact trivial
        clear hK K
        try simp only [Act.put,zA,zB,zC,zD,zE,zF]
        refine wpAnyH_ready (rs:=[7]) (by kernel_rfl) (by simp) ?_
        refine (AllReadyH.cons rfl (fun K hK=> ?_) AllReadyH.nil)
        · try simp only [zA,zB,zC]
          have hx:=HX0.out
          go_simp
          refine hK.out _ _ ?_ (fun hHeld=> ?_)
          · exact trivial
          clear hK K
          try simp only [Act.put,zA,zB,zC,zD,zE,zF]
          refine wpAnyH_ready (rs:=[8]) (by kernel_rfl) (by simp) ?_
          refine (AllReadyH.cons rfl (fun K hK=> ?_) AllReadyH.nil)
          · try simp only [zA,zB,zC]
            go_simp
            refine hK.out _ _ ?_ (fun hHeld=> ?_)
            · exact trivial
            clear hK K
            try simp only [Act.put,zA,zB,zC,zD,zE,zF]
            refine wpAnyH_ready (rs:=[9]) (by kernel_rfl) (by simp) ?_
            refine (AllReadyH.cons rfl (fun K hK=> ?_) AllReadyH.nil)
            · try simp only [zA,zB,zC]
              refine step_append_known (a:=⟨_,_⟩) ?_ (.tmp 13) (.tmp 20) 22 ?_ v1 (.slice (some ⟨wr.heap.size,0,none⟩) 1 1) ?_ ?_ (.slice (some ⟨g,0,none⟩) (k+1) cap) w7 ?_ ?_
              · rfl
              · rfl
              · rfl
              · rfl
              · exact HRUN1.out
              refine hK.out _ _ ?_ (fun hHeld=> ?_)
              · exact trivial
              clear hK K
              try simp only [Act.put,zD,zE,zF]
              refine wpAnyH_take (i:=10) (v:= .pointer (some ⟨P,0,none⟩)) rfl (by kernel_rfl) (by kernel_rfl) (by kernel_rfl) (fun _ _ _ h=>h) (Or.inl ⟨by rfl,fun wx hSw=>by go_simp⟩) (by assumption) ?_
              try simp only [Act.put,zA,zB,zC,zD,zE,zF]
              refine wpAnyH_ready (rs:=[11]) (by kernel_rfl) (by simp) ?_
              refine (AllReadyH.cons rfl (fun K hK=> ?_) AllReadyH.nil)
              · try simp only [zA,zB,zC]
                obtain ⟨f7,f8⟩:=F7.out
                go_simp
                refine hK.out _ _ ?_ (fun hHeld=> ?_)
                · exact trivial
                clear hK K
                try simp only [Act.put,zA,zB,zC,zD,zE,zF]
                refine wpAnyH_done (by kernel_rfl) ?_ _
                refine NoPanic.normal ?_
                rw [show w7.setCell _ _=w8 from HW8.out.symm]
                go_upto_region 6 with fail
                refine wp_region_noPanic ?_
                refine wp_region_held_drew (S:=fun _=>True) (by kernel_rfl) trivial (fun hHeld=> ?_)
                refine wpAnyH_take (i:=0) (v:= .pointer (some ⟨P,1,none⟩)) rfl (by kernel_rfl) (by kernel_rfl) (by kernel_rfl) (fun _ _ _ h=>h) (Or.inl ⟨by rfl,fun wx hSw=>by go_simp⟩) (by assumption) ?_
                try simp only [Act.put,zA,zB,zD,zE,zF]
                refine wpAnyH_take (i:=2) (v:= .slice (some ⟨b,off,none⟩) N cV) rfl (by kernel_rfl) (by kernel_rfl) (by kernel_rfl) (fun _ _ _ h=>h) (Or.inl ⟨by rfl,fun wx hSw=>by go_simp⟩) (by assumption) ?_
                try simp only [Act.put,zA,zB,zC,zD,zE,zF]
                refine wpAnyH_take (i:=3) (v:= .int .i64 (k:Int)) rfl (by kernel_rfl) (by kernel_rfl) (by kernel_rfl) (fun _ _ _ h=>h) (Or.inl ⟨by rfl,fun wx hSw=>by go_simp⟩) (by assumption) ?_
                try simp only [Act.put,zA,zB,zC,zD,zE,zF]
                refine wpAnyH_take (i:=4) (v:= .pointer (some ⟨b,off+k*3,none⟩)) rfl (by kernel_rfl) (by kernel_rfl) (by kernel_rfl) (fun _ _ _ h=>h) (Or.inl ⟨by rfl,fun wx hSw=>by go_simp⟩) (by assumption) ?_
                try simp only [Act.put,zA,zB,zC,zD,zE,zF]
                refine wpAnyH_take (i:=5) (v:= .pointer (some ⟨b,off+k*3+2,none⟩)) rfl (by kernel_rfl) (by kernel_rfl) (by kernel_rfl) (fun _ _ _ h=>h) (Or.inl ⟨by rfl,fun wx hSw=>by go_simp⟩) (by assumption) ?_
                try simp only [Act.put,zA,zB,zC,zD,zE,zF]
                refine wpAnyH_ready (rs:=[1,6]) (by kernel_rfl) (by simp) ?_
                refine (AllReadyH.cons rfl (fun K hK=> ?_) (AllReadyH.cons rfl (fun K hK=> ?_) AllReadyH.nil))
                · try simp only [zA,zB,zC]
                  have hl:=HL2.out
                  go_simp
                  refine hK.out _ _ ?_ (fun hHeld=> ?_)
                  · exact trivial
                  clear hK K
                  try simp only [Act.put,zA,zB,zC,zD,zE,zF]
                  refine wpAnyH_ready (rs:=[6]) (by kernel_rfl) (by simp) ?_
                  refine (AllReadyH.cons rfl (fun K hK=> ?_) AllReadyH.nil)
                  · try simp only [zA,zB,zC]
                    have hx:=HX2.out
                    go_simp
                    refine hK.out _ _ ?_ (fun hHeld=> ?_)
                    · exact trivial
                    clear hK K
                    try simp only [Act.put,zA,zB,zC,zD,zE,zF]
                    refine wpAnyH_ready (rs:=[7]) (by kernel_rfl) (by simp) ?_
                    refine (AllReadyH.cons rfl (fun K hK=> ?_) AllReadyH.nil)
                    · try simp only [zA,zB,zC]
                      go_simp
                      refine hK.out _ _ ?_ (fun hHeld=> ?_)
                      · exact trivial
                      clear hK K
                      try simp only [Act.put,zA,zB,zC,zD,zE,zF]
                      refine wpAnyH_ready (rs:=[8]) (by kernel_rfl) (by simp) ?_
                      refine (AllReadyH.cons rfl (fun K hK=> ?_) AllReadyH.nil)
                      · try simp only [zA,zB,zC]
                        refine step_append_known (a:=⟨_,_⟩) ?_ (.tmp 24) (.tmp 30) 22 ?_ v2 (.slice (some ⟨w8.heap.size,0,none⟩) 1 1) ?_ ?_ (.slice (some ⟨g',0,none⟩) (k+1) cap') w9 ?_ ?_
                        · rfl
                        · rfl
                        · rfl
                        · rfl
                        · exact HRUN2.out
                        refine hK.out _ _ ?_ (fun hHeld=> ?_)
                        · exact trivial
                        clear hK K
                        try simp only [Act.put,zD,zE,zF]
                        refine wpAnyH_take (i:=9) (v:= .pointer (some ⟨P,1,none⟩)) rfl (by kernel_rfl) (by kernel_rfl) (by kernel_rfl) (fun _ _ _ h=>h) (Or.inl ⟨by rfl,fun wx hSw=>by go_simp⟩) (by assumption) ?_
                        try simp only [Act.put,zA,zB,zC,zD,zE,zF]
                        refine wpAnyH_ready (rs:=[10]) (by kernel_rfl) (by simp) ?_
                        refine (AllReadyH.cons rfl (fun K hK=> ?_) AllReadyH.nil)
                        · try simp only [zA,zB,zC]
                          obtain ⟨f7,f8⟩:=F9.out
                          go_simp
                          refine hK.out _ _ ?_ (fun hHeld=> ?_)
                          · exact trivial
                          clear hK K
                          try simp only [Act.put,zA,zB,zC,zD,zE,zF]
                          refine wpAnyH_done (by kernel_rfl) ?_ _
                          refine NoPanic.normal ?_
                          go_wp2
                          go_roundw
                          case rel=>exact HREL.out
                          case measure=>simp [intOf];omega
                · try simp only [zA,zB,zC]
                  have hx:=HX2.out
                  go_simp
                  refine hK.out _ _ ?_ (fun hHeld=> ?_)
                  · exact trivial
                  clear hK K
                  try simp only [Act.put,zA,zB,zC,zD,zE,zF]
                  refine wpAnyH_ready (rs:=[1,7]) (by kernel_rfl) (by simp) ?_
                  refine (AllReadyH.cons rfl (fun K hK=> ?_) (AllReadyH.cons rfl (fun K hK=> ?_) AllReadyH.nil))
                  · try simp only [zA,zB,zC]
                    have hl:=HL2.out
                    go_simp
                    refine hK.out _ _ ?_ (fun hHeld=> ?_)
                    · exact trivial
                    clear hK K
                    try simp only [Act.put,zA,zB,zC,zD,zE,zF]
                    refine wpAnyH_ready (rs:=[7]) (by kernel_rfl) (by simp) ?_
                    refine (AllReadyH.cons rfl (fun K hK=> ?_) AllReadyH.nil)
                    · try simp only [zA,zB,zC]
                      go_simp
                      refine hK.out _ _ ?_ (fun hHeld=> ?_)
                      · exact trivial
                      clear hK K
                      try simp only [Act.put,zA,zB,zC,zD,zE,zF]
                      refine wpAnyH_ready (rs:=[8]) (by kernel_rfl) (by simp) ?_
                      refine (AllReadyH.cons rfl (fun K hK=> ?_) AllReadyH.nil)
                      · try simp only [zA,zB,zC]
                        refine step_append_known (a:=⟨_,_⟩) ?_ (.tmp 24) (.tmp 30) 22 ?_ v2 (.slice (some ⟨w8.heap.size,0,none⟩) 1 1) ?_ ?_ (.slice (some ⟨g',0,none⟩) (k+1) cap') w9 ?_ ?_
                        · rfl
                        · rfl
                        · rfl
                        · rfl
                        · exact HRUN2.out
                        refine hK.out _ _ ?_ (fun hHeld=> ?_)
                        · exact trivial
                        clear hK K
                        try simp only [Act.put,zD,zE,zF]
                        refine wpAnyH_take (i:=9) (v:= .pointer (some ⟨P,1,none⟩)) rfl (by kernel_rfl) (by kernel_rfl) (by kernel_rfl) (fun _ _ _ h=>h) (Or.inl ⟨by rfl,fun wx hSw=>by go_simp⟩) (by assumption) ?_
                        try simp only [Act.put,zA,zB,zC,zD,zE,zF]
                        refine wpAnyH_ready (rs:=[10]) (by kernel_rfl) (by simp) ?_
                        refine (AllReadyH.cons rfl (fun K hK=> ?_) AllReadyH.nil)
                        · try simp only [zA,zB,zC]
                          obtain ⟨f7,f8⟩:=F9.out
                          go_simp
                          refine hK.out _ _ ?_ (fun hHeld=> ?_)
                          · exact trivial
                          clear hK K
                          try simp only [Act.put,zA,zB,zC,zD,zE,zF]
                          refine wpAnyH_done (by kernel_rfl) ?_ _
                          refine NoPanic.normal ?_
                          go_wp2
                          go_roundw
                          case rel=>exact HREL.out
                          case measure=>simp [intOf];omega
                  · try simp only [zA,zB,zC]
                    go_simp
                    refine hK.out _ _ ?_ (fun hHeld=> ?_)
                    · exact trivial
                    clear hK K
                    try simp only [Act.put,zA,zB,zC,zD,zE,zF]
                    refine wpAnyH_ready (rs:=[1]) (by kernel_rfl) (by simp) ?_
                    refine (AllReadyH.cons rfl (fun K hK=> ?_) AllReadyH.nil)
                    · try simp only [zA,zB,zC]
                      have hl:=HLB.out
                      go_simp
                      refine hK.out _ _ ?_ (fun hHeld=> ?_)
                      · exact trivial
                      clear hK K
                      try simp only [Act.put,zA,zB,zC,zD,zE,zF]
                      refine wpAnyH_ready (rs:=[8]) (by kernel_rfl) (by simp) ?_
                      refine (AllReadyH.cons rfl (fun K hK=> ?_) AllReadyH.nil)
                      · try simp only [zA,zB,zC]
                        refine step_append_known (a:=⟨_,_⟩) ?_ (.tmp 24) (.tmp 30) 22 ?_ v2 (.slice (some ⟨w8.heap.size,0,none⟩) 1 1) ?_ ?_ (.slice (some ⟨g',0,none⟩) (k+1) cap') w9 ?_ ?_
                        · rfl
                        · rfl
                        · rfl
                        · rfl
                        · exact HRUN2.out
                        refine hK.out _ _ ?_ (fun hHeld=> ?_)
                        · exact trivial
                        clear hK K
                        try simp only [Act.put,zD,zE,zF]
                        refine wpAnyH_take (i:=9) (v:= .pointer (some ⟨P,1,none⟩)) rfl (by kernel_rfl) (by kernel_rfl) (by kernel_rfl) (fun _ _ _ h=>h) (Or.inl ⟨by rfl,fun wx hSw=>by go_simp⟩) (by assumption) ?_
                        try simp only [Act.put,zA,zB,zC,zD,zE,zF]
                        refine wpAnyH_ready (rs:=[10]) (by kernel_rfl) (by simp) ?_
                        refine (AllReadyH.cons rfl (fun K hK=> ?_) AllReadyH.nil)
                        · try simp only [zA,zB,zC]
                          obtain ⟨f7,f8⟩:=F9.out
                          go_simp
                          refine hK.out _ _ ?_ (fun hHeld=> ?_)
                          · exact trivial
                          clear hK K
                          try simp only [Act.put,zA,zB,zC,zD,zE,zF]
                          refine wpAnyH_done (by kernel_rfl) ?_ _
                          refine NoPanic.normal ?_
                          go_wp2
                          go_roundw
                          case rel=>exact HREL.out
                          case measure=>simp [intOf];omega
      · try simp only [zA,zB,zC]
        have hx:=HX0.out
        go_simp
        refine hK.out _ _ ?_ (fun hHeld=> ?_)
        · exact trivial
        clear hK K
        try simp only [Act.put,zA,zB,zC,zD,zE,zF]
        refine wpAnyH_ready (rs:=[1,8]) (by kernel_rfl) (by simp) ?_
        refine (AllReadyH.cons rfl (fun K hK=> ?_) (AllReadyH.cons rfl (fun K hK=> ?_) AllReadyH.nil))
        · try simp only [zA,zB,zC]
          have hl:=HL0.out
          go_simp
          refine hK.out _ _ ?_ (fun hHeld=> ?_)
          · exact trivial
          clear hK K
          try simp only [Act.put,zA,zB,zC,zD,zE,zF]
          refine wpAnyH_ready (rs:=[8]) (by kernel_rfl) (by simp) ?_
          refine (AllReadyH.cons rfl (fun K hK=> ?_) AllReadyH.nil)
          · try simp only [zA,zB,zC]
            go_simp
            refine hK.out _ _ ?_ (fun hHeld=> ?_)
            · exact trivial
            clear hK K
            try simp only [Act.put,zA,zB,zC,zD,zE,zF]
            refine wpAnyH_ready (rs:=[9]) (by kernel_rfl) (by simp) ?_
            refine (AllReadyH.cons rfl (fun K hK=> ?_) AllReadyH.nil)
            · try simp only [zA,zB,zC]
              refine step_append_known (a:=⟨_,_⟩) ?_ (.tmp 13) (.tmp 20) 22 ?_ v1 (.slice (some ⟨wr.heap.size,0,none⟩) 1 1) ?_ ?_ (.slice (some ⟨g,0,none⟩) (k+1) cap) w7 ?_ ?_
              · rfl
              · rfl
              · rfl
              · rfl
              · exact HRUN1.out
              refine hK.out _ _ ?_ (fun hHeld=> ?_)
              · exact trivial
              clear hK K
              try simp only [Act.put,zD,zE,zF]
              refine wpAnyH_take (i:=10) (v:= .pointer (some ⟨P,0,none⟩)) rfl (by kernel_rfl) (by kernel_rfl) (by kernel_rfl) (fun _ _ _ h=>h) (Or.inl ⟨by rfl,fun wx hSw=>by go_simp⟩) (by assumption) ?_
              try simp only [Act.put,zA,zB,zC,zD,zE,zF]
              refine wpAnyH_ready (rs:=[11]) (by kernel_rfl) (by simp) ?_
              refine (AllReadyH.cons rfl (fun K hK=> ?_) AllReadyH.nil)
              · try simp only [zA,zB,zC]
                obtain ⟨f7,f8⟩:=F7.out
                go_simp
                refine hK.out _ _ ?_ (fun hHeld=> ?_)
                · exact trivial
                clear hK K
                try simp only [Act.put,zA,zB,zC,zD,zE,zF]
                refine wpAnyH_done (by kernel_rfl) ?_ _
                refine NoPanic.normal ?_
                rw [show w7.setCell _ _=w8 from HW8.out.symm]
                go_upto_region 6 with fail
                refine wp_region_noPanic ?_
                refine wp_region_held_drew (S:=fun _=>True) (by kernel_rfl) trivial (fun hHeld=> ?_)
                refine wpAnyH_take (i:=0) (v:= .pointer (some ⟨P,1,none⟩)) rfl (by kernel_rfl) (by kernel_rfl) (by kernel_rfl) (fun _ _ _ h=>h) (Or.inl ⟨by rfl,fun wx hSw=>by go_simp⟩) (by assumption) ?_
                try simp only [Act.put,zA,zB,zD,zE,zF]
                refine wpAnyH_take (i:=2) (v:= .slice (some ⟨b,off,none⟩) N cV) rfl (by kernel_rfl) (by kernel_rfl) (by kernel_rfl) (fun _ _ _ h=>h) (Or.inl ⟨by rfl,fun wx hSw=>by go_simp⟩) (by assumption) ?_
                try simp only [Act.put,zA,zB,zC,zD,zE,zF]
                refine wpAnyH_take (i:=3) (v:= .int .i64 (k:Int)) rfl (by kernel_rfl) (by kernel_rfl) (by kernel_rfl) (fun _ _ _ h=>h) (Or.inl ⟨by rfl,fun wx hSw=>by go_simp⟩) (by assumption) ?_
                try simp only [Act.put,zA,zB,zC,zD,zE,zF]
                refine wpAnyH_take (i:=4) (v:= .pointer (some ⟨b,off+k*3,none⟩)) rfl (by kernel_rfl) (by kernel_rfl) (by kernel_rfl) (fun _ _ _ h=>h) (Or.inl ⟨by rfl,fun wx hSw=>by go_simp⟩) (by assumption) ?_
                try simp only [Act.put,zA,zB,zC,zD,zE,zF]
                refine wpAnyH_take (i:=5) (v:= .pointer (some ⟨b,off+k*3+2,none⟩)) rfl (by kernel_rfl) (by kernel_rfl) (by kernel_rfl) (fun _ _ _ h=>h) (Or.inl ⟨by rfl,fun wx hSw=>by go_simp⟩) (by assumption) ?_
                try simp only [Act.put,zA,zB,zC,zD,zE,zF]
                refine wpAnyH_ready (rs:=[1,6]) (by kernel_rfl) (by simp) ?_
                refine (AllReadyH.cons rfl (fun K hK=> ?_) (AllReadyH.cons rfl (fun K hK=> ?_) AllReadyH.nil))
                · try simp only [zA,zB,zC]
                  have hl:=HL2.out
                  go_simp
                  refine hK.out _ _ ?_ (fun hHeld=> ?_)
                  · exact trivial
                  clear hK K
                  try simp only [Act.put,zA,zB,zC,zD,zE,zF]
                  refine wpAnyH_ready (rs:=[6]) (by kernel_rfl) (by simp) ?_
                  refine (AllReadyH.cons rfl (fun K hK=> ?_) AllReadyH.nil)
                  · try simp only [zA,zB,zC]
                    have hx:=HX2.out
                    go_simp
                    refine hK.out _ _ ?_ (fun hHeld=> ?_)
                    · exact trivial
                    clear hK K
                    try simp only [Act.put,zA,zB,zC,zD,zE,zF]
                    refine wpAnyH_ready (rs:=[7]) (by kernel_rfl) (by simp) ?_
                    refine (AllReadyH.cons rfl (fun K hK=> ?_) AllReadyH.nil)
                    · try simp only [zA,zB,zC]
                      go_simp
                      refine hK.out _ _ ?_ (fun hHeld=> ?_)
                      · exact trivial
                      clear hK K
                      try simp only [Act.put,zA,zB,zC,zD,zE,zF]
                      refine wpAnyH_ready (rs:=[8]) (by kernel_rfl) (by simp) ?_
                      refine (AllReadyH.cons rfl (fun K hK=> ?_) AllReadyH.nil)
                      · try simp only [zA,zB,zC]
                        refine step_append_known (a:=⟨_,_⟩) ?_ (.tmp 24) (.tmp 30) 22 ?_ v2 (.slice (some ⟨w8.heap.size,0,none⟩) 1 1) ?_ ?_ (.slice (some ⟨g',0,none⟩) (k+1) cap') w9 ?_ ?_
                        · rfl
                        · rfl
                        · rfl
                        · rfl
                        · exact HRUN2.out
                        refine hK.out _ _ ?_ (fun hHeld=> ?_)
                        · exact trivial
                        clear hK K
                        try simp only [Act.put,zD,zE,zF]
                        refine wpAnyH_take (i:=9) (v:= .pointer (some ⟨P,1,none⟩)) rfl (by kernel_rfl) (by kernel_rfl) (by kernel_rfl) (fun _ _ _ h=>h) (Or.inl ⟨by rfl,fun wx hSw=>by go_simp⟩) (by assumption) ?_
                        try simp only [Act.put,zA,zB,zC,zD,zE,zF]
                        refine wpAnyH_ready (rs:=[10]) (by kernel_rfl) (by simp) ?_
                        refine (AllReadyH.cons rfl (fun K hK=> ?_) AllReadyH.nil)
                        · try simp only [zA,zB,zC]
                          obtain ⟨f7,f8⟩:=F9.out
                          go_simp
                          refine hK.out _ _ ?_ (fun hHeld=> ?_)
                          · exact trivial
                          clear hK K
                          try simp only [Act.put,zA,zB,zC,zD,zE,zF]
                          refine wpAnyH_done (by kernel_rfl) ?_ _
                          refine NoPanic.normal ?_
                          go_wp2
                          go_roundw
                          case rel=>exact HREL.out
                          case measure=>simp [intOf];omega
                · try simp only [zA,zB,zC]
                  have hx:=HX2.out
                  go_simp
                  refine hK.out _ _ ?_ (fun hHeld=> ?_)
                  · exact trivial
                  clear hK K
                  try simp only [Act.put,zA,zB,zC,zD,zE,zF]
                  refine wpAnyH_ready (rs:=[1,7]) (by kernel_rfl) (by simp) ?_
                  refine (AllReadyH.cons rfl (fun K hK=> ?_) (AllReadyH.cons rfl (fun K hK=> ?_) AllReadyH.nil))
                  · try simp only [zA,zB,zC]
                    have hl:=HL2.out
                    go_simp
                    refine hK.out _ _ ?_ (fun hHeld=> ?_)
                    · exact trivial
                    clear hK K
                    try simp only [Act.put,zA,zB,zC,zD,zE,zF]
                    refine wpAnyH_ready (rs:=[7]) (by kernel_rfl) (by simp) ?_
                    refine (AllReadyH.cons rfl (fun K hK=> ?_) AllReadyH.nil)
                    · try simp only [zA,zB,zC]
                      go_simp
                      refine hK.out _ _ ?_ (fun hHeld=> ?_)
                      · exact trivial
                      clear hK K
                      try simp only [Act.put,zA,zB,zC,zD,zE,zF]
                      refine wpAnyH_ready (rs:=[8]) (by kernel_rfl) (by simp) ?_
                      refine (AllReadyH.cons rfl (fun K hK=> ?_) AllReadyH.nil)
                      · try simp only [zA,zB,zC]
                        refine step_append_known (a:=⟨_,_⟩) ?_ (.tmp 24) (.tmp 30) 22 ?_ v2 (.slice (some ⟨w8.heap.size,0,none⟩) 1 1) ?_ ?_ (.slice (some ⟨g',0,none⟩) (k+1) cap') w9 ?_ ?_
                        · rfl
                        · rfl
                        · rfl
                        · rfl
                        · exact HRUN2.out
                        refine hK.out _ _ ?_ (fun hHeld=> ?_)
                        · exact trivial
                        clear hK K
                        try simp only [Act.put,zD,zE,zF]
                        refine wpAnyH_take (i:=9) (v:= .pointer (some ⟨P,1,none⟩)) rfl (by kernel_rfl) (by kernel_rfl) (by kernel_rfl) (fun _ _ _ h=>h) (Or.inl ⟨by rfl,fun wx hSw=>by go_simp⟩) (by assumption) ?_
                        try simp only [Act.put,zA,zB,zC,zD,zE,zF]
                        refine wpAnyH_ready (rs:=[10]) (by kernel_rfl) (by simp) ?_
                        refine (AllReadyH.cons rfl (fun K hK=> ?_) AllReadyH.nil)
                        · try simp only [zA,zB,zC]
                          obtain ⟨f7,f8⟩:=F9.out
                          go_simp
                          refine hK.out _ _ ?_ (fun hHeld=> ?_)
                          · exact trivial
                          clear hK K
                          try simp only [Act.put,zA,zB,zC,zD,zE,zF]
                          refine wpAnyH_done (by kernel_rfl) ?_ _
                          refine NoPanic.normal ?_
                          go_wp2
                          go_roundw
                          case rel=>exact HREL.out
                          case measure=>simp [intOf];omega
                  · try simp only [zA,zB,zC]
                    go_simp
                    refine hK.out _ _ ?_ (fun hHeld=> ?_)
                    · exact trivial
                    clear hK K
                    try simp only [Act.put,zA,zB,zC,zD,zE,zF]
                    refine wpAnyH_ready (rs:=[1]) (by kernel_rfl) (by simp) ?_
                    refine (AllReadyH.cons rfl (fun K hK=> ?_) AllReadyH.nil)
                    · try simp only [zA,zB,zC]
                      have hl:=HLB.out
                      go_simp
                      refine hK.out _ _ ?_ (fun hHeld=> ?_)
                      · exact trivial
                      clear hK K
                      try simp only [Act.put,zA,zB,zC,zD,zE,zF]
                      refine wpAnyH_ready (rs:=[8]) (by kernel_rfl) (by simp) ?_
                      refine (AllReadyH.cons rfl (fun K hK=> ?_) AllReadyH.nil)
                      · try simp only [zA,zB,zC]
                        refine step_append_known (a:=⟨_,_⟩) ?_ (.tmp 24) (.tmp 30) 22 ?_ v2 (.slice (some ⟨w8.heap.size,0,none⟩) 1 1) ?_ ?_ (.slice (some ⟨g',0,none⟩) (k+1) cap') w9 ?_ ?_
                        · rfl
                        · rfl
                        · rfl
                        · rfl
                        · exact HRUN2.out
                        refine hK.out _ _ ?_ (fun hHeld=> ?_)
                        · exact trivial
                        clear hK K
                        try simp only [Act.put,zD,zE,zF]
                        refine wpAnyH_take (i:=9) (v:= .pointer (some ⟨P,1,none⟩)) rfl (by kernel_rfl) (by kernel_rfl) (by kernel_rfl) (fun _ _ _ h=>h) (Or.inl ⟨by rfl,fun wx hSw=>by go_simp⟩) (by assumption) ?_
                        try simp only [Act.put,zA,zB,zC,zD,zE,zF]
                        refine wpAnyH_ready (rs:=[10]) (by kernel_rfl) (by simp) ?_
                        refine (AllReadyH.cons rfl (fun K hK=> ?_) AllReadyH.nil)
                        · try simp only [zA,zB,zC]
                          obtain ⟨f7,f8⟩:=F9.out
                          go_simp
                          refine hK.out _ _ ?_ (fun hHeld=> ?_)
                          · exact trivial
                          clear hK K
                          try simp only [Act.put,zA,zB,zC,zD,zE,zF]
                          refine wpAnyH_done (by kernel_rfl) ?_ _
                          refine NoPanic.normal ?_
                          go_wp2
                          go_roundw
                          case rel=>exact HREL.out
                          case measure=>simp [intOf];omega
        · try simp only [zA,zB,zC]
          go_simp
          refine hK.out _ _ ?_ (fun hHeld=> ?_)
          · exact trivial
          clear hK K
          try simp only [Act.put,zA,zB,zC,zD,zE,zF]
          refine wpAnyH_ready (rs:=[1]) (by kernel_rfl) (by simp) ?_
          refine (AllReadyH.cons rfl (fun K hK=> ?_) AllReadyH.nil)
          · try simp only [zA,zB,zC]
            have hl:=HLA.out
            go_simp
            refine hK.out _ _ ?_ (fun hHeld=> ?_)
            · exact trivial
            clear hK K
            try simp only [Act.put,zA,zB,zC,zD,zE,zF]
            refine wpAnyH_ready (rs:=[9]) (by kernel_rfl) (by simp) ?_
            refine (AllReadyH.cons rfl (fun K hK=> ?_) AllReadyH.nil)
            · try simp only [zA,zB,zC]
              refine step_append_known (a:=⟨_,_⟩) ?_ (.tmp 13) (.tmp 20) 22 ?_ v1 (.slice (some ⟨wr.heap.size,0,none⟩) 1 1) ?_ ?_ (.slice (some ⟨g,0,none⟩) (k+1) cap) w7 ?_ ?_
              · rfl
              · rfl
              · rfl
              · rfl
              · exact HRUN1.out
              refine hK.out _ _ ?_ (fun hHeld=> ?_)
              · exact trivial
              clear hK K
              try simp only [Act.put,zD,zE,zF]
              refine wpAnyH_take (i:=10) (v:= .pointer (some ⟨P,0,none⟩)) rfl (by kernel_rfl) (by kernel_rfl) (by kernel_rfl) (fun _ _ _ h=>h) (Or.inl ⟨by rfl,fun wx hSw=>by go_simp⟩) (by assumption) ?_
              try simp only [Act.put,zA,zB,zC,zD,zE,zF]
              refine wpAnyH_ready (rs:=[11]) (by kernel_rfl) (by simp) ?_
              refine (AllReadyH.cons rfl (fun K hK=> ?_) AllReadyH.nil)
              · try simp only [zA,zB,zC]
                obtain ⟨f7,f8⟩:=F7.out
                go_simp
                refine hK.out _ _ ?_ (fun hHeld=> ?_)
                · exact trivial
                clear hK K
                try simp only [Act.put,zA,zB,zC,zD,zE,zF]
                refine wpAnyH_done (by kernel_rfl) ?_ _
                refine NoPanic.normal ?_
                rw [show w7.setCell _ _=w8 from HW8.out.symm]
                go_upto_region 6 with fail
                refine wp_region_noPanic ?_
                refine wp_region_held_drew (S:=fun _=>True) (by kernel_rfl) trivial (fun hHeld=> ?_)
                refine wpAnyH_take (i:=0) (v:= .pointer (some ⟨P,1,none⟩)) rfl (by kernel_rfl) (by kernel_rfl) (by kernel_rfl) (fun _ _ _ h=>h) (Or.inl ⟨by rfl,fun wx hSw=>by go_simp⟩) (by assumption) ?_
                try simp only [Act.put,zA,zB,zD,zE,zF]
                refine wpAnyH_take (i:=2) (v:= .slice (some ⟨b,off,none⟩) N cV) rfl (by kernel_rfl) (by kernel_rfl) (by kernel_rfl) (fun _ _ _ h=>h) (Or.inl ⟨by rfl,fun wx hSw=>by go_simp⟩) (by assumption) ?_
                try simp only [Act.put,zA,zB,zC,zD,zE,zF]
                refine wpAnyH_take (i:=3) (v:= .int .i64 (k:Int)) rfl (by kernel_rfl) (by kernel_rfl) (by kernel_rfl) (fun _ _ _ h=>h) (Or.inl ⟨by rfl,fun wx hSw=>by go_simp⟩) (by assumption) ?_
                try simp only [Act.put,zA,zB,zC,zD,zE,zF]
                refine wpAnyH_take (i:=4) (v:= .pointer (some ⟨b,off+k*3,none⟩)) rfl (by kernel_rfl) (by kernel_rfl) (by kernel_rfl) (fun _ _ _ h=>h) (Or.inl ⟨by rfl,fun wx hSw=>by go_simp⟩) (by assumption) ?_
                try simp only [Act.put,zA,zB,zC,zD,zE,zF]
                refine wpAnyH_take (i:=5) (v:= .pointer (some ⟨b,off+k*3+2,none⟩)) rfl (by kernel_rfl) (by kernel_rfl) (by kernel_rfl) (fun _ _ _ h=>h) (Or.inl ⟨by rfl,fun wx hSw=>by go_simp⟩) (by assumption) ?_
                try simp only [Act.put,zA,zB,zC,zD,zE,zF]
                refine wpAnyH_ready (rs:=[1,6]) (by kernel_rfl) (by simp) ?_
                refine (AllReadyH.cons rfl (fun K hK=> ?_) (AllReadyH.cons rfl (fun K hK=> ?_) AllReadyH.nil))
                · try simp only [zA,zB,zC]
                  have hl:=HL2.out
                  go_simp
                  refine hK.out _ _ ?_ (fun hHeld=> ?_)
                  · exact trivial
                  clear hK K
                  try simp only [Act.put,zA,zB,zC,zD,zE,zF]
                  refine wpAnyH_ready (rs:=[6]) (by kernel_rfl) (by simp) ?_
                  refine (AllReadyH.cons rfl (fun K hK=> ?_) AllReadyH.nil)
                  · try simp only [zA,zB,zC]
                    have hx:=HX2.out
                    go_simp
                    refine hK.out _ _ ?_ (fun hHeld=> ?_)
                    · exact trivial
                    clear hK K
                    try simp only [Act.put,zA,zB,zC,zD,zE,zF]
                    refine wpAnyH_ready (rs:=[7]) (by kernel_rfl) (by simp) ?_
                    refine (AllReadyH.cons rfl (fun K hK=> ?_) AllReadyH.nil)
                    · try simp only [zA,zB,zC]
                      go_simp
                      refine hK.out _ _ ?_ (fun hHeld=> ?_)
                      · exact trivial
                      clear hK K
                      try simp only [Act.put,zA,zB,zC,zD,zE,zF]
                      refine wpAnyH_ready (rs:=[8]) (by kernel_rfl) (by simp) ?_
                      refine (AllReadyH.cons rfl (fun K hK=> ?_) AllReadyH.nil)
                      · try simp only [zA,zB,zC]
                        refine step_append_known (a:=⟨_,_⟩) ?_ (.tmp 24) (.tmp 30) 22 ?_ v2 (.slice (some ⟨w8.heap.size,0,none⟩) 1 1) ?_ ?_ (.slice (some ⟨g',0,none⟩) (k+1) cap') w9 ?_ ?_
                        · rfl
                        · rfl
                        · rfl
                        · rfl
                        · exact HRUN2.out
                        refine hK.out _ _ ?_ (fun hHeld=> ?_)
                        · exact trivial
                        clear hK K
                        try simp only [Act.put,zD,zE,zF]
                        refine wpAnyH_take (i:=9) (v:= .pointer (some ⟨P,1,none⟩)) rfl (by kernel_rfl) (by kernel_rfl) (by kernel_rfl) (fun _ _ _ h=>h) (Or.inl ⟨by rfl,fun wx hSw=>by go_simp⟩) (by assumption) ?_
                        try simp only [Act.put,zA,zB,zC,zD,zE,zF]
                        refine wpAnyH_ready (rs:=[10]) (by kernel_rfl) (by simp) ?_
                        refine (AllReadyH.cons rfl (fun K hK=> ?_) AllReadyH.nil)
                        · try simp only [zA,zB,zC]
                          obtain ⟨f7,f8⟩:=F9.out
                          go_simp
                          refine hK.out _ _ ?_ (fun hHeld=> ?_)
                          · exact trivial
                          clear hK K
                          try simp only [Act.put,zA,zB,zC,zD,zE,zF]
                          refine wpAnyH_done (by kernel_rfl) ?_ _
                          refine NoPanic.normal ?_
                          go_wp2
                          go_roundw
                          case rel=>exact HREL.out
                          case measure=>simp [intOf];omega
                · try simp only [zA,zB,zC]
                  have hx:=HX2.out
                  go_simp
                  refine hK.out _ _ ?_ (fun hHeld=> ?_)
                  · exact trivial
                  clear hK K
                  try simp only [Act.put,zA,zB,zC,zD,zE,zF]
                  refine wpAnyH_ready (rs:=[1,7]) (by kernel_rfl) (by simp) ?_
                  refine (AllReadyH.cons rfl (fun K hK=> ?_) (AllReadyH.cons rfl (fun K hK=> ?_) AllReadyH.nil))
                  · try simp only [zA,zB,zC]
                    have hl:=HL2.out
                    go_simp
                    refine hK.out _ _ ?_ (fun hHeld=> ?_)
                    · exact trivial
                    clear hK K
                    try simp only [Act.put,zA,zB,zC,zD,zE,zF]
                    refine wpAnyH_ready (rs:=[7]) (by kernel_rfl) (by simp) ?_
                    refine (AllReadyH.cons rfl (fun K hK=> ?_) AllReadyH.nil)
                    · try simp only [zA,zB,zC]
                      go_simp
                      refine hK.out _ _ ?_ (fun hHeld=> ?_)
                      · exact trivial
                      clear hK K
                      try simp only [Act.put,zA,zB,zC,zD,zE,zF]
                      refine wpAnyH_ready (rs:=[8]) (by kernel_rfl) (by simp) ?_
                      refine (AllReadyH.cons rfl (fun K hK=> ?_) AllReadyH.nil)
                      · try simp only [zA,zB,zC]
                        refine step_append_known (a:=⟨_,_⟩) ?_ (.tmp 24) (.tmp 30) 22 ?_ v2 (.slice (some ⟨w8.heap.size,0,none⟩) 1 1) ?_ ?_ (.slice (some ⟨g',0,none⟩) (k+1) cap') w9 ?_ ?_
                        · rfl
                        · rfl
                        · rfl
                        · rfl
                        · exact HRUN2.out
                        refine hK.out _ _ ?_ (fun hHeld=> ?_)
                        · exact trivial
                        clear hK K
                        try simp only [Act.put,zD,zE,zF]
                        refine wpAnyH_take (i:=9) (v:= .pointer (some ⟨P,1,none⟩)) rfl (by kernel_rfl) (by kernel_rfl) (by kernel_rfl) (fun _ _ _ h=>h) (Or.inl ⟨by rfl,fun wx hSw=>by go_simp⟩) (by assumption) ?_
                        try simp only [Act.put,zA,zB,zC,zD,zE,zF]
                        refine wpAnyH_ready (rs:=[10]) (by kernel_rfl) (by simp) ?_
                        refine (AllReadyH.cons rfl (fun K hK=> ?_) AllReadyH.nil)
                        · try simp only [zA,zB,zC]
                          obtain ⟨f7,f8⟩:=F9.out
                          go_simp
                          refine hK.out _ _ ?_ (fun hHeld=> ?_)
                          · exact trivial
                          clear hK K
                          try simp only [Act.put,zA,zB,zC,zD,zE,zF]
                          refine wpAnyH_done (by kernel_rfl) ?_ _
                          refine NoPanic.normal ?_
                          go_wp2
                          go_roundw
                          case rel=>exact HREL.out
                          case measure=>simp [intOf];omega
                  · try simp only [zA,zB,zC]
                    go_simp
                    refine hK.out _ _ ?_ (fun hHeld=> ?_)
                    · exact trivial
                    clear hK K
                    try simp only [Act.put,zA,zB,zC,zD,zE,zF]
                    refine wpAnyH_ready (rs:=[1]) (by kernel_rfl) (by simp) ?_
                    refine (AllReadyH.cons rfl (fun K hK=> ?_) AllReadyH.nil)
                    · try simp only [zA,zB,zC]
                      have hl:=HLB.out
                      go_simp
                      refine hK.out _ _ ?_ (fun hHeld=> ?_)
                      · exact trivial
                      clear hK K
                      try simp only [Act.put,zA,zB,zC,zD,zE,zF]
                      refine wpAnyH_ready (rs:=[8]) (by kernel_rfl) (by simp) ?_
                      refine (AllReadyH.cons rfl (fun K hK=> ?_) AllReadyH.nil)
                      · try simp only [zA,zB,zC]
                        refine step_append_known (a:=⟨_,_⟩) ?_ (.tmp 24) (.tmp 30) 22 ?_ v2 (.slice (some ⟨w8.heap.size,0,none⟩) 1 1) ?_ ?_ (.slice (some ⟨g',0,none⟩) (k+1) cap') w9 ?_ ?_
                        · rfl
                        · rfl
                        · rfl
                        · rfl
                        · exact HRUN2.out
                        refine hK.out _ _ ?_ (fun hHeld=> ?_)
                        · exact trivial
                        clear hK K
                        try simp only [Act.put,zD,zE,zF]
                        refine wpAnyH_take (i:=9) (v:= .pointer (some ⟨P,1,none⟩)) rfl (by kernel_rfl) (by kernel_rfl) (by kernel_rfl) (fun _ _ _ h=>h) (Or.inl ⟨by rfl,fun wx hSw=>by go_simp⟩) (by assumption) ?_
                        try simp only [Act.put,zA,zB,zC,zD,zE,zF]
                        refine wpAnyH_ready (rs:=[10]) (by kernel_rfl) (by simp) ?_
                        refine (AllReadyH.cons rfl (fun K hK=> ?_) AllReadyH.nil)
                        · try simp only [zA,zB,zC]
                          obtain ⟨f7,f8⟩:=F9.out
                          go_simp
                          refine hK.out _ _ ?_ (fun hHeld=> ?_)
                          · exact trivial
                          clear hK K
                          try simp only [Act.put,zA,zB,zC,zD,zE,zF]
                          refine wpAnyH_done (by kernel_rfl) ?_ _
                          refine NoPanic.normal ?_
                          go_wp2
                          go_roundw
                          case rel=>exact HREL.out
                          case measure=>simp [intOf];omega
    · have hke:k=N:=by omega
      subst hke
      have htk:G.take k=G:=List.take_of_length_le (by rw [HN.out];exact Nat.le_refl _)
      rw [htk] at hgat
      have hids:G.map (·.1)=(buildP G).ids:=rfl
      have hseqs:G.map (·.2.2)=(buildP G).seqs:=rfl
      rw [hids,hseqs] at hgat
      have HKEY:=Lib.hid (ref09_Keys AV k cV G wr HN.out (Nest.later HV.out hbw) HG.out.good (by omega))
      have HGAT:=Lib.hid hgat
      obtain ⟨A1,c1,A2,c2,rfl,rfl,hc1,hc2,_,_⟩:=hgat.rowG
      have HBW:=Lib.hid hbw
      have HR:=Lib.hid hR
      have hRP:w.heap.size≠P:=by have :=HP.out;omega
      have HRP:=Lib.hid hRP
      clear hgat hbw hR htk hids hseqs hlt hc1 hc2 hRP
      go_wp2_with (go_at_call 46; refine HKEY.out.mono ?_; rintro e w8 ⟨v8, rfl, ho8, hb8⟩
                   have hg8:=HGAT.out.below hb8
                   obtain ⟨A8,c8,rfl,hc8,hu8⟩:=OwnNm.row ho8
                   obtain ⟨⟨_,_,r2,_⟩,_,_,s2,_⟩:=four10 hg8.cells
                   obtain ⟨hgl,hkl,hbl⟩:=hg8.lists (by unfold PoK;decide) (by decide) (bk:=wr.heap.size) (ks:=keysE G) ho8
                   have r2':=(four10 hgl.cells).1.2.2.1
                   have HGL:=Lib.hid hgl
                   have HKL:=Lib.hid hkl
                   have HBL:=Lib.hid hbl
                   have HB8:=Lib.hid hb8
                   have HG8:=Lib.hid hg8
                   obtain ⟨K,hK⟩:∃ K,K=(keysE G).length:=⟨_,rfl⟩
                   rw [← hK] at hc8 r2' ⊢
                   have HK:=Lib.hid hK
                   clear hgl hkl hbl hb8 hg8 hu8 hK)
      obtain ⟨base,hbase⟩:∃ b,b=w8.heap.size:=⟨_,rfl⟩
      have hgl0:=HGL.out
      rw [← hbase] at hgl0
      have hrab:RowG w.heap.size 3 w8 A1 (ints (buildP G).ids)∧RowG w.heap.size 3 w8 A2 (ints (buildP G).seqs):=by
        obtain ⟨_,_,_,_,g1,g2,_,_,hra,hrb⟩:=HG8.out.rowG
        injection g1 with g1 _ _
        injection g2 with g2 _ _
        subst g1 g2
        exact ⟨hra,hrb⟩
      obtain ⟨hra,hrb⟩:=hrab
      have hR8:(w8.setCell ⟨P,2,none⟩ (.slice A8 K c8)).heap[w.heap.size]?=some (.cells zeroP 26 (0,0)):=(Below.heap_setCell _ _ _ _ HRP.out).trans ((HB8.out.block _ (Array.getElem?_eq_some_iff.1 HR.out).1).trans HR.out)
      have hbs:w.heap.size<base:=by rw [hbase];have :=(Array.getElem?_eq_some_iff.1 HR.out).1;have :=HB8.out.size;omega
      have HBS:=Lib.hid hbs
      have hrel:RefBuild2 w.heap.size P base G (.slice A1 (buildP G).ids.length c1) (.slice A2 (buildP G).seqs.length c2) (.slice A8 K c8) A1 A2 w (.int .i64 ((0:Nat):Int)) (w8.setCell ⟨P,2,none⟩ (.slice A8 K c8)):=by
        refine ⟨0,.slice none 0 0,Nat.zero_le _,rfl,hR8,?_,hra.keep (.inr rfl) ?_,hrb.keep (.inr rfl) ?_,?_⟩
        · rw [HK.out];exact hgl0
        · rw [HK.out];exact HKL.out
        · rw [HK.out];exact HKL.out
        · rw [HK.out];exact (HBW.out.trans (HB8.out.mono HBW.out.size)).trans HBL.out
      have HREL:=Lib.hid hrel
      have hK4:K≤400000:=by rw [HK.out];exact build_keys HG.out
      have HKK:Hid ((buildP G).lists.length=K):=Lib.hid (by rw [HK.out];simp [buildP])
      have HL1:Hid ((buildP G).ids.length=k):=Lib.hid (by rw [← HN.out];simp [buildP])
      have HL2:Hid ((buildP G).seqs.length=k):=Lib.hid (by rw [← HN.out];simp [buildP])
      clear hrel hgl0 hbase hra hrb HGL HKL HBL HGAT HG8 hR8 hbs r2 s2 r2'
      go_loopw [5] (fun i wr=>RefBuild2 w.heap.size P base G (.slice A1 (buildP G).ids.length c1) (.slice A2 (buildP G).seqs.length c2) (.slice A8 K c8) A1 A2 w i wr) (fun i _=>K-(intOf i).toNat)
      case atStart=>exact HREL.out
      case round=>
        obtain ⟨j,v4,hj,rfl,hR,hgl,hra,hrb,hbw⟩:=hrel
        rw [← HK.out] at hj
        have q2:=(four10 hgl.cells).1.2.2.1
        by_cases hjk:j<K
        · have hjl:j<(keysE G).length:=by rw [← HK.out];exact hjk
          have hjl2:j<(buildP G).lists.length:=by rw [HKK.out];exact hjk
          obtain ⟨bk,hkk⟩:=hgl.keys
          obtain ⟨b1,o1,rfl,hb1,hc1⟩:=row_nm (owned_row_of hkk) hjl
          have hgood:=HG.out.good
          have hL0:(buildP G).lists[j]=postsE 0 G (keysE G)[j]:=by simp [buildP]
          have hts:(buildP G).lists.take (j+1)=(buildP G).lists.take j++[postsE 0 G (keysE G)[j]]:=by rw [List.take_succ_eq_append_getElem hjl2,hL0]
          obtain ⟨L,hL⟩:∃ L,L=postsE 0 G (keysE G)[j]:=⟨_,rfl⟩
          rw [← hL] at hts
          obtain ⟨X,hX,hX2⟩:=as_text (keysE G)[j]
          rw [← hX] at hc1
          rw [← hX2] at hL
          have hlen4:((buildP G).lists.take j).length=j:=by rw [List.length_take];omega
          obtain ⟨m6,hm6⟩:∃ m,m=L.length:=⟨_,rfl⟩
          have HPO:Hid (∀ W1,Below wr.heap.size wr W1→Calls Tryz.prog 47 #[.slice AV k cV,.string X] W1 (GaveP0 L W1)):=Lib.hid fun W1 hb=>by
            rw [hL]
            exact ref09_Postings0 AV k cV G X W1 HN.out (Nest.later HV.out (hbw.trans (hb.mono hbw.size))) hgood (by omega)
          have HB0:Hid (Below wr.heap.size wr wr.drew):=Lib.hid (Below.refl _ wr).drew
          have HG5:=Lib.hid hgl
          have HLOAD:Hid (∀ W1,Below wr.heap.size wr W1→W1.cell? ⟨P,3,none⟩=some v4):=Lib.hid fun W1 hb=>(four10 (hgl.below hb).cells).1.2.2.2
          have HL0:=Lib.hid (HLOAD.out _ HB0.out)
          have HK0:Hid (wr.drew.cell? ⟨P,2,none⟩=some (.slice (some ⟨b1,o1,none⟩) K c8)):=Lib.hid q2
          have HX0:Hid (wr.drew.cell? ⟨b1,o1+j,none⟩=some (.string X)):=Lib.hid hc1
          have HLL:=Lib.hid hm6
          have HLEN4:=Lib.hid hlen4
          have hjb:j≤400000:=by omega
          have HFIN:Hid (∀ w6 wa W7 v7,Below wr.heap.size wr w6→Below w6.heap.size w6 wa→GatL 26 w.heap.size base P (.slice A1 (buildP G).ids.length c1) (.slice A2 (buildP G).seqs.length c2) (.slice (some ⟨b1,o1,none⟩) K c8) v7 (keysE G) ((buildP G).lists.take j++[L]) W7→Below w.heap.size wa W7→KeptG w.heap.size wa W7→(∀ k,k<base→k≠P→W7.heap[k]?=wa.heap[k]?)→
              RefBuild2 w.heap.size P base G (.slice A1 (buildP G).ids.length c1) (.slice A2 (buildP G).seqs.length c2) (.slice (some ⟨b1,o1,none⟩) K c8) A1 A2 w (.int .i64 ((j:Int)+1)) W7):=Lib.hid fun w6 wa W7 v7 hb6 hba hg7 hb7 hk7 hs7=>by
            have hbA:Below wr.heap.size wr wa:=hb6.trans (hba.mono hb6.size)
            have hkA:KeptG w.heap.size wr W7:=(KeptG.of_below hbA hbw.size).trans hk7
            refine ⟨j+1,v7,by rw [← HK.out];omega,by go_num,(hs7 _ HBS.out HRP.out).trans ((hbA.block _ (Array.getElem?_eq_some_iff.1 hR).1).trans hR),?_,hra.keep (.inr rfl) hkA,hrb.keep (.inr rfl) hkA,hbw.trans ((hbA.mono hbw.size).trans hb7)⟩
            rw [hts]
            exact hg7
          have k0:(0:Int)≤j:=by omega
          have k1:(j:Int)<K:=by omega
          clear hgl hra hrb hkk hgood hL0 hts hL hX hX2 hlen4 hm6 hjl hjl2 hj hR hbw hb1
          go_upto_region 11 with fail
          refine wp_region_noPanic ?_
          refine wp_region_held_drew (S:=fun _=>True) (by kernel_rfl) trivial (fun hHeld=> ?_)
          refine wpAnyH_take (i:=0) (v:= .pointer (some ⟨P,3,none⟩)) rfl (by kernel_rfl) (by kernel_rfl) (by kernel_rfl) (fun _ _ _ h=>h) (Or.inl ⟨by rfl,fun wx hSw=>by go_simp⟩) (by assumption) ?_
          try simp only [Act.put,zA,zB,zD,zE,zF]
          refine wpAnyH_take (i:=2) (v:= .slice AV k cV) rfl (by kernel_rfl) (by kernel_rfl) (by kernel_rfl) (fun _ _ _ h=>h) (Or.inl ⟨by rfl,fun wx hSw=>by go_simp⟩) (by assumption) ?_
          try simp only [Act.put,zA,zB,zC,zD,zE,zF]
          refine wpAnyH_take (i:=3) (v:= .pointer (some ⟨P,2,none⟩)) rfl (by kernel_rfl) (by kernel_rfl) (by kernel_rfl) (fun _ _ _ h=>h) (Or.inl ⟨by rfl,fun wx hSw=>by go_simp⟩) (by assumption) ?_
          try simp only [Act.put,zA,zB,zC,zD,zE,zF]
          refine wpAnyH_take (i:=5) (v:= .int .i64 (j:Int)) rfl (by kernel_rfl) (by kernel_rfl) (by kernel_rfl) (fun _ _ _ h=>h) (Or.inl ⟨by rfl,fun wx hSw=>by go_simp⟩) (by assumption) ?_
          try simp only [Act.put,zA,zB,zC,zD,zE,zF]
          refine wpAnyH_ready (rs:=[1,4]) (by kernel_rfl) (by simp) ?_
          refine (AllReadyH.cons rfl (fun K hK=> ?_) (AllReadyH.cons rfl (fun K hK=> ?_) AllReadyH.nil))
          · try simp only [zA,zB,zC]
            have hl:=HL0.out
            go_simp
            refine hK.out _ _ ?_ (fun hHeld=> ?_)
            · exact trivial
            clear hK K
            try simp only [Act.put,zA,zB,zC,zD,zE,zF]
            refine wpAnyH_ready (rs:=[4]) (by kernel_rfl) (by simp) ?_
            refine (AllReadyH.cons rfl (fun K hK=> ?_) AllReadyH.nil)
            · try simp only [zA,zB,zC]
              have hl:=HK0.out
              go_simp
              refine hK.out _ _ ?_ (fun hHeld=> ?_)
              · exact trivial
              clear hK K
              try simp only [Act.put,zA,zB,zC,zD,zE,zF]
              refine wpAnyH_take (i:=6) (v:= .pointer (some ⟨b1,o1+j,none⟩)) rfl (by kernel_rfl) (by kernel_rfl) (by kernel_rfl) (fun _ _ _ h=>h) (Or.inl ⟨by rfl,fun wx hSw=>by go_simp⟩) (by assumption) ?_
              try simp only [Act.put,zA,zB,zC,zD,zE,zF]
              refine wpAnyH_ready (rs:=[7]) (by kernel_rfl) (by simp) ?_
              refine (AllReadyH.cons rfl (fun K hK=> ?_) AllReadyH.nil)
              · try simp only [zA,zB,zC]
                have hl:=HX0.out
                go_simp
                refine hK.out _ _ ?_ (fun hHeld=> ?_)
                · exact trivial
                clear hK K
                try simp only [Act.put,zA,zB,zC,zD,zE,zF]
                refine wpAnyH_ready (rs:=[8]) (by kernel_rfl) (by simp) ?_
                refine (AllReadyH.cons rfl (fun K hK=> ?_) AllReadyH.nil)
                · try simp only [zA,zB,zC]
                  go_simp
                  go_at_call 47
                  (with_reducible refine (HPO.out _ HB0.out).mono ?_)
                  rintro e w6 ⟨v6,rfl,hn6,hb6⟩
                  obtain ⟨A6,c6,rfl,hc6,hp6⟩:=PostsG.of_p0 (b0:=w.heap.size) hn6
                  rw [← HLL.out] at hc6
                  have HB6:Hid (Below wr.heap.size wr w6):=Lib.hid (HB0.out.trans hb6)
                  have HL6:=Lib.hid (HLOAD.out _ HB6.out)
                  have HL6a:=Lib.hid (HLOAD.out _ (HB6.out.alloc HB6.out.size (.cells #[.slice A6 m6 c6] 58)))
                  obtain ⟨cs4,ho4,hg4⟩:=(HG5.out.below HB6.out).lists
                  have hal6:Below w6.heap.size w6 (w6.alloc (.cells #[.slice A6 m6 c6] 58)):=(Below.refl _ _).alloc (Nat.le_refl _) _
                  obtain ⟨g,cap,w7,hrun,hown7,hg7,_,_⟩:=run_append_lies (P:=Tryz.prog) (w6.alloc (.cells #[.slice A6 m6 c6] 58)) 24 24 base 58 j0 _ 1 24 Tryz.underlying24 hj0 hj1 hj2 hj3 rfl (by omega) v4 ((buildP G).lists.take j).length cs4 (ho4.alloc _) ⟨w6.heap.size,0,none⟩ 1 1 [.slice A6 m6 c6] rfl (news_at w6 [.slice A6 m6 c6] 58) (by intro u hu;simp at hu;subst hu;rfl) (by omega) (by unfold maxLen;rw [HLEN4.out];omega) (by rw [HLEN4.out];omega) (by have :=HG5.out.size;have :=HB6.out.size;simp;omega) (w6.heap.size+1) (by simp)
                  rw [HLEN4.out] at hown7 hrun
                  have hkg6:=KeptG.of_below (b0:=w.heap.size) hal6 (by have :=HG5.out.hbase;have :=HG5.out.size;have :=HB6.out.size;omega)
                  obtain ⟨hP7,hG7,hB7,hK7,hS7,_⟩:=((HG5.out.below HB6.out).below hal6).list (by unfold PoK;decide) (by decide) (by decide) (by rw [← HLL.out];exact hc6) (hp6.keep hkg6) (ho4.alloc _) (hg4.keep hkg6) (by rw [HLEN4.out,← HLL.out];exact hown7) hg7
                  have HRUN:=Lib.hid hrun
                  have F7:=Lib.hid (And.intro (four10 hP7).1.2.2.2 (four10 hP7).2.2.2.2)
                  have HEND:=Lib.hid (HFIN.out w6 _ _ _ HB6.out hal6 hG7 hB7 hK7 hS7)
                  clear hn6 hb6 hp6 hc6 ho4 hg4 hal6 hown7 hg7 hkg6 hP7 hG7 hB7 hK7 hS7 hrun
                  rw [← HLL.out]
                  go_wp2_with fail
                  refine hK.out _ _ ?_ (fun hHeld=> ?_)
                  · exact trivial
                  clear hK K
                  try simp only [Act.put,zA,zB,zC,zD,zE,zF]
                  refine wpAnyH_ready (rs:=[9]) (by kernel_rfl) (by simp) ?_
                  refine (AllReadyH.cons rfl (fun K hK=> ?_) AllReadyH.nil)
                  · try simp only [zA,zB,zC]
                    go_simp
                    refine hK.out _ _ ?_ (fun hHeld=> ?_)
                    · exact trivial
                    clear hK K
                    try simp only [Act.put,zA,zB,zC,zD,zE,zF]
                    refine wpAnyH_ready (rs:=[10]) (by kernel_rfl) (by simp) ?_
                    refine (AllReadyH.cons rfl (fun K hK=> ?_) AllReadyH.nil)
                    · try simp only [zA,zB,zC]
                      refine step_append_known (a:=⟨_,_⟩) ?_ (.tmp 44) (.tmp 52) 24 ?_ v4 (.slice (some ⟨w6.heap.size,0,none⟩) 1 1) ?_ ?_ (.slice (some ⟨g,0,none⟩) (j+1) cap) w7 ?_ ?_
                      · rfl
                      · rfl
                      · rfl
                      · rfl
                      · exact HRUN.out
                      refine hK.out _ _ ?_ (fun hHeld=> ?_)
                      · exact trivial
                      clear hK K
                      try simp only [Act.put,zD,zE,zF]
                      refine wpAnyH_take (i:=11) (v:= .pointer (some ⟨P,3,none⟩)) rfl (by kernel_rfl) (by kernel_rfl) (by kernel_rfl) (fun _ _ _ h=>h) (Or.inl ⟨by rfl,fun wx hSw=>by go_simp⟩) (by assumption) ?_
                      try simp only [Act.put,zA,zB,zC,zD,zE,zF]
                      refine wpAnyH_ready (rs:=[12]) (by kernel_rfl) (by simp) ?_
                      refine (AllReadyH.cons rfl (fun K hK=> ?_) AllReadyH.nil)
                      · try simp only [zA,zB,zC]
                        obtain ⟨f7,f8⟩:=F7.out
                        go_simp
                        refine hK.out _ _ ?_ (fun hHeld=> ?_)
                        · exact trivial
                        clear hK K
                        try simp only [Act.put,zA,zB,zC,zD,zE,zF]
                        refine wpAnyH_done (by kernel_rfl) ?_ _
                        refine NoPanic.normal ?_
                        go_wp2
                        go_roundw
                        case rel=>exact HEND.out
                        case measure=>simp [intOf];omega
          · try simp only [zA,zB,zC]
            have hl:=HK0.out
            go_simp
            refine hK.out _ _ ?_ (fun hHeld=> ?_)
            · exact trivial
            clear hK K
            try simp only [Act.put,zA,zB,zC,zD,zE,zF]
            refine wpAnyH_take (i:=6) (v:= .pointer (some ⟨b1,o1+j,none⟩)) rfl (by kernel_rfl) (by kernel_rfl) (by kernel_rfl) (fun _ _ _ h=>h) (Or.inl ⟨by rfl,fun wx hSw=>by go_simp⟩) (by assumption) ?_
            try simp only [Act.put,zA,zB,zC,zD,zE,zF]
            refine wpAnyH_ready (rs:=[1,7]) (by kernel_rfl) (by simp) ?_
            refine (AllReadyH.cons rfl (fun K hK=> ?_) (AllReadyH.cons rfl (fun K hK=> ?_) AllReadyH.nil))
            · try simp only [zA,zB,zC]
              have hl:=HL0.out
              go_simp
              refine hK.out _ _ ?_ (fun hHeld=> ?_)
              · exact trivial
              clear hK K
              try simp only [Act.put,zA,zB,zC,zD,zE,zF]
              refine wpAnyH_ready (rs:=[7]) (by kernel_rfl) (by simp) ?_
              refine (AllReadyH.cons rfl (fun K hK=> ?_) AllReadyH.nil)
              · try simp only [zA,zB,zC]
                have hl:=HX0.out
                go_simp
                refine hK.out _ _ ?_ (fun hHeld=> ?_)
                · exact trivial
                clear hK K
                try simp only [Act.put,zA,zB,zC,zD,zE,zF]
                refine wpAnyH_ready (rs:=[8]) (by kernel_rfl) (by simp) ?_
                refine (AllReadyH.cons rfl (fun K hK=> ?_) AllReadyH.nil)
                · try simp only [zA,zB,zC]
                  go_simp
                  go_at_call 47
                  (with_reducible refine (HPO.out _ HB0.out).mono ?_)
                  rintro e w6 ⟨v6,rfl,hn6,hb6⟩
                  obtain ⟨A6,c6,rfl,hc6,hp6⟩:=PostsG.of_p0 (b0:=w.heap.size) hn6
                  rw [← HLL.out] at hc6
                  have HB6:Hid (Below wr.heap.size wr w6):=Lib.hid (HB0.out.trans hb6)
                  have HL6:=Lib.hid (HLOAD.out _ HB6.out)
                  have HL6a:=Lib.hid (HLOAD.out _ (HB6.out.alloc HB6.out.size (.cells #[.slice A6 m6 c6] 58)))
                  obtain ⟨cs4,ho4,hg4⟩:=(HG5.out.below HB6.out).lists
                  have hal6:Below w6.heap.size w6 (w6.alloc (.cells #[.slice A6 m6 c6] 58)):=(Below.refl _ _).alloc (Nat.le_refl _) _
                  obtain ⟨g,cap,w7,hrun,hown7,hg7,_,_⟩:=run_append_lies (P:=Tryz.prog) (w6.alloc (.cells #[.slice A6 m6 c6] 58)) 24 24 base 58 j0 _ 1 24 Tryz.underlying24 hj0 hj1 hj2 hj3 rfl (by omega) v4 ((buildP G).lists.take j).length cs4 (ho4.alloc _) ⟨w6.heap.size,0,none⟩ 1 1 [.slice A6 m6 c6] rfl (news_at w6 [.slice A6 m6 c6] 58) (by intro u hu;simp at hu;subst hu;rfl) (by omega) (by unfold maxLen;rw [HLEN4.out];omega) (by rw [HLEN4.out];omega) (by have :=HG5.out.size;have :=HB6.out.size;simp;omega) (w6.heap.size+1) (by simp)
                  rw [HLEN4.out] at hown7 hrun
                  have hkg6:=KeptG.of_below (b0:=w.heap.size) hal6 (by have :=HG5.out.hbase;have :=HG5.out.size;have :=HB6.out.size;omega)
                  obtain ⟨hP7,hG7,hB7,hK7,hS7,_⟩:=((HG5.out.below HB6.out).below hal6).list (by unfold PoK;decide) (by decide) (by decide) (by rw [← HLL.out];exact hc6) (hp6.keep hkg6) (ho4.alloc _) (hg4.keep hkg6) (by rw [HLEN4.out,← HLL.out];exact hown7) hg7
                  have HRUN:=Lib.hid hrun
                  have F7:=Lib.hid (And.intro (four10 hP7).1.2.2.2 (four10 hP7).2.2.2.2)
                  have HEND:=Lib.hid (HFIN.out w6 _ _ _ HB6.out hal6 hG7 hB7 hK7 hS7)
                  clear hn6 hb6 hp6 hc6 ho4 hg4 hal6 hown7 hg7 hkg6 hP7 hG7 hB7 hK7 hS7 hrun
                  rw [← HLL.out]
                  go_wp2_with fail
                  refine hK.out _ _ ?_ (fun hHeld=> ?_)
                  · exact trivial
                  clear hK K
                  try simp only [Act.put,zA,zB,zC,zD,zE,zF]
                  refine wpAnyH_ready (rs:=[9]) (by kernel_rfl) (by simp) ?_
                  refine (AllReadyH.cons rfl (fun K hK=> ?_) AllReadyH.nil)
                  · try simp only [zA,zB,zC]
                    go_simp
                    refine hK.out _ _ ?_ (fun hHeld=> ?_)
                    · exact trivial
                    clear hK K
                    try simp only [Act.put,zA,zB,zC,zD,zE,zF]
                    refine wpAnyH_ready (rs:=[10]) (by kernel_rfl) (by simp) ?_
                    refine (AllReadyH.cons rfl (fun K hK=> ?_) AllReadyH.nil)
                    · try simp only [zA,zB,zC]
                      refine step_append_known (a:=⟨_,_⟩) ?_ (.tmp 44) (.tmp 52) 24 ?_ v4 (.slice (some ⟨w6.heap.size,0,none⟩) 1 1) ?_ ?_ (.slice (some ⟨g,0,none⟩) (j+1) cap) w7 ?_ ?_
                      · rfl
                      · rfl
                      · rfl
                      · rfl
                      · exact HRUN.out
                      refine hK.out _ _ ?_ (fun hHeld=> ?_)
                      · exact trivial
                      clear hK K
                      try simp only [Act.put,zD,zE,zF]
                      refine wpAnyH_take (i:=11) (v:= .pointer (some ⟨P,3,none⟩)) rfl (by kernel_rfl) (by kernel_rfl) (by kernel_rfl) (fun _ _ _ h=>h) (Or.inl ⟨by rfl,fun wx hSw=>by go_simp⟩) (by assumption) ?_
                      try simp only [Act.put,zA,zB,zC,zD,zE,zF]
                      refine wpAnyH_ready (rs:=[12]) (by kernel_rfl) (by simp) ?_
                      refine (AllReadyH.cons rfl (fun K hK=> ?_) AllReadyH.nil)
                      · try simp only [zA,zB,zC]
                        obtain ⟨f7,f8⟩:=F7.out
                        go_simp
                        refine hK.out _ _ ?_ (fun hHeld=> ?_)
                        · exact trivial
                        clear hK K
                        try simp only [Act.put,zA,zB,zC,zD,zE,zF]
                        refine wpAnyH_done (by kernel_rfl) ?_ _
                        refine NoPanic.normal ?_
                        go_wp2
                        go_roundw
                        case rel=>exact HEND.out
                        case measure=>simp [intOf];omega
            · try simp only [zA,zB,zC]
              have hl:=HX0.out
              go_simp
              refine hK.out _ _ ?_ (fun hHeld=> ?_)
              · exact trivial
              clear hK K
              try simp only [Act.put,zA,zB,zC,zD,zE,zF]
              refine wpAnyH_ready (rs:=[1,8]) (by kernel_rfl) (by simp) ?_
              refine (AllReadyH.cons rfl (fun K hK=> ?_) (AllReadyH.cons rfl (fun K hK=> ?_) AllReadyH.nil))
              · try simp only [zA,zB,zC]
                have hl:=HL0.out
                go_simp
                refine hK.out _ _ ?_ (fun hHeld=> ?_)
                · exact trivial
                clear hK K
                try simp only [Act.put,zA,zB,zC,zD,zE,zF]
                refine wpAnyH_ready (rs:=[8]) (by kernel_rfl) (by simp) ?_
                refine (AllReadyH.cons rfl (fun K hK=> ?_) AllReadyH.nil)
                · try simp only [zA,zB,zC]
                  go_simp
                  go_at_call 47
                  (with_reducible refine (HPO.out _ HB0.out).mono ?_)
                  rintro e w6 ⟨v6,rfl,hn6,hb6⟩
                  obtain ⟨A6,c6,rfl,hc6,hp6⟩:=PostsG.of_p0 (b0:=w.heap.size) hn6
                  rw [← HLL.out] at hc6
                  have HB6:Hid (Below wr.heap.size wr w6):=Lib.hid (HB0.out.trans hb6)
                  have HL6:=Lib.hid (HLOAD.out _ HB6.out)
                  have HL6a:=Lib.hid (HLOAD.out _ (HB6.out.alloc HB6.out.size (.cells #[.slice A6 m6 c6] 58)))
                  obtain ⟨cs4,ho4,hg4⟩:=(HG5.out.below HB6.out).lists
                  have hal6:Below w6.heap.size w6 (w6.alloc (.cells #[.slice A6 m6 c6] 58)):=(Below.refl _ _).alloc (Nat.le_refl _) _
                  obtain ⟨g,cap,w7,hrun,hown7,hg7,_,_⟩:=run_append_lies (P:=Tryz.prog) (w6.alloc (.cells #[.slice A6 m6 c6] 58)) 24 24 base 58 j0 _ 1 24 Tryz.underlying24 hj0 hj1 hj2 hj3 rfl (by omega) v4 ((buildP G).lists.take j).length cs4 (ho4.alloc _) ⟨w6.heap.size,0,none⟩ 1 1 [.slice A6 m6 c6] rfl (news_at w6 [.slice A6 m6 c6] 58) (by intro u hu;simp at hu;subst hu;rfl) (by omega) (by unfold maxLen;rw [HLEN4.out];omega) (by rw [HLEN4.out];omega) (by have :=HG5.out.size;have :=HB6.out.size;simp;omega) (w6.heap.size+1) (by simp)
                  rw [HLEN4.out] at hown7 hrun
                  have hkg6:=KeptG.of_below (b0:=w.heap.size) hal6 (by have :=HG5.out.hbase;have :=HG5.out.size;have :=HB6.out.size;omega)
                  obtain ⟨hP7,hG7,hB7,hK7,hS7,_⟩:=((HG5.out.below HB6.out).below hal6).list (by unfold PoK;decide) (by decide) (by decide) (by rw [← HLL.out];exact hc6) (hp6.keep hkg6) (ho4.alloc _) (hg4.keep hkg6) (by rw [HLEN4.out,← HLL.out];exact hown7) hg7
                  have HRUN:=Lib.hid hrun
                  have F7:=Lib.hid (And.intro (four10 hP7).1.2.2.2 (four10 hP7).2.2.2.2)
                  have HEND:=Lib.hid (HFIN.out w6 _ _ _ HB6.out hal6 hG7 hB7 hK7 hS7)
                  clear hn6 hb6 hp6 hc6 ho4 hg4 hal6 hown7 hg7 hkg6 hP7 hG7 hB7 hK7 hS7 hrun
                  rw [← HLL.out]
                  go_wp2_with fail
                  refine hK.out _ _ ?_ (fun hHeld=> ?_)
                  · exact trivial
                  clear hK K
                  try simp only [Act.put,zA,zB,zC,zD,zE,zF]
                  refine wpAnyH_ready (rs:=[9]) (by kernel_rfl) (by simp) ?_
                  refine (AllReadyH.cons rfl (fun K hK=> ?_) AllReadyH.nil)
                  · try simp only [zA,zB,zC]
                    go_simp
                    refine hK.out _ _ ?_ (fun hHeld=> ?_)
                    · exact trivial
                    clear hK K
                    try simp only [Act.put,zA,zB,zC,zD,zE,zF]
                    refine wpAnyH_ready (rs:=[10]) (by kernel_rfl) (by simp) ?_
                    refine (AllReadyH.cons rfl (fun K hK=> ?_) AllReadyH.nil)
                    · try simp only [zA,zB,zC]
                      refine step_append_known (a:=⟨_,_⟩) ?_ (.tmp 44) (.tmp 52) 24 ?_ v4 (.slice (some ⟨w6.heap.size,0,none⟩) 1 1) ?_ ?_ (.slice (some ⟨g,0,none⟩) (j+1) cap) w7 ?_ ?_
                      · rfl
                      · rfl
                      · rfl
                      · rfl
                      · exact HRUN.out
                      refine hK.out _ _ ?_ (fun hHeld=> ?_)
                      · exact trivial
                      clear hK K
                      try simp only [Act.put,zD,zE,zF]
                      refine wpAnyH_take (i:=11) (v:= .pointer (some ⟨P,3,none⟩)) rfl (by kernel_rfl) (by kernel_rfl) (by kernel_rfl) (fun _ _ _ h=>h) (Or.inl ⟨by rfl,fun wx hSw=>by go_simp⟩) (by assumption) ?_
                      try simp only [Act.put,zA,zB,zC,zD,zE,zF]
                      refine wpAnyH_ready (rs:=[12]) (by kernel_rfl) (by simp) ?_
                      refine (AllReadyH.cons rfl (fun K hK=> ?_) AllReadyH.nil)
                      · try simp only [zA,zB,zC]
                        obtain ⟨f7,f8⟩:=F7.out
                        go_simp
                        refine hK.out _ _ ?_ (fun hHeld=> ?_)
                        · exact trivial
                        clear hK K
                        try simp only [Act.put,zA,zB,zC,zD,zE,zF]
                        refine wpAnyH_done (by kernel_rfl) ?_ _
                        refine NoPanic.normal ?_
                        go_wp2
                        go_roundw
                        case rel=>exact HEND.out
                        case measure=>simp [intOf];omega
              · try simp only [zA,zB,zC]
                go_simp
                go_at_call 47
                (with_reducible refine (HPO.out _ HB0.out).mono ?_)
                rintro e w6 ⟨v6,rfl,hn6,hb6⟩
                obtain ⟨A6,c6,rfl,hc6,hp6⟩:=PostsG.of_p0 (b0:=w.heap.size) hn6
                rw [← HLL.out] at hc6
                have HB6:Hid (Below wr.heap.size wr w6):=Lib.hid (HB0.out.trans hb6)
                have HL6:=Lib.hid (HLOAD.out _ HB6.out)
                have HL6a:=Lib.hid (HLOAD.out _ (HB6.out.alloc HB6.out.size (.cells #[.slice A6 m6 c6] 58)))
                obtain ⟨cs4,ho4,hg4⟩:=(HG5.out.below HB6.out).lists
                have hal6:Below w6.heap.size w6 (w6.alloc (.cells #[.slice A6 m6 c6] 58)):=(Below.refl _ _).alloc (Nat.le_refl _) _
                obtain ⟨g,cap,w7,hrun,hown7,hg7,_,_⟩:=run_append_lies (P:=Tryz.prog) (w6.alloc (.cells #[.slice A6 m6 c6] 58)) 24 24 base 58 j0 _ 1 24 Tryz.underlying24 hj0 hj1 hj2 hj3 rfl (by omega) v4 ((buildP G).lists.take j).length cs4 (ho4.alloc _) ⟨w6.heap.size,0,none⟩ 1 1 [.slice A6 m6 c6] rfl (news_at w6 [.slice A6 m6 c6] 58) (by intro u hu;simp at hu;subst hu;rfl) (by omega) (by unfold maxLen;rw [HLEN4.out];omega) (by rw [HLEN4.out];omega) (by have :=HG5.out.size;have :=HB6.out.size;simp;omega) (w6.heap.size+1) (by simp)
                rw [HLEN4.out] at hown7 hrun
                have hkg6:=KeptG.of_below (b0:=w.heap.size) hal6 (by have :=HG5.out.hbase;have :=HG5.out.size;have :=HB6.out.size;omega)
                obtain ⟨hP7,hG7,hB7,hK7,hS7,_⟩:=((HG5.out.below HB6.out).below hal6).list (by unfold PoK;decide) (by decide) (by decide) (by rw [← HLL.out];exact hc6) (hp6.keep hkg6) (ho4.alloc _) (hg4.keep hkg6) (by rw [HLEN4.out,← HLL.out];exact hown7) hg7
                have HRUN:=Lib.hid hrun
                have F7:=Lib.hid (And.intro (four10 hP7).1.2.2.2 (four10 hP7).2.2.2.2)
                have HEND:=Lib.hid (HFIN.out w6 _ _ _ HB6.out hal6 hG7 hB7 hK7 hS7)
                clear hn6 hb6 hp6 hc6 ho4 hg4 hal6 hown7 hg7 hkg6 hP7 hG7 hB7 hK7 hS7 hrun
                rw [← HLL.out]
                go_wp2_with fail
                refine hK.out _ _ ?_ (fun hHeld=> ?_)
                · exact trivial
                clear hK K
                try simp only [Act.put,zA,zB,zC,zD,zE,zF]
                refine wpAnyH_ready (rs:=[1,9]) (by kernel_rfl) (by simp) ?_
                refine (AllReadyH.cons rfl (fun K hK=> ?_) (AllReadyH.cons rfl (fun K hK=> ?_) AllReadyH.nil))
                · try simp only [zA,zB,zC]
                  have hl:=HL6.out
                  go_simp
                  refine hK.out _ _ ?_ (fun hHeld=> ?_)
                  · exact trivial
                  clear hK K
                  try simp only [Act.put,zA,zB,zC,zD,zE,zF]
                  refine wpAnyH_ready (rs:=[9]) (by kernel_rfl) (by simp) ?_
                  refine (AllReadyH.cons rfl (fun K hK=> ?_) AllReadyH.nil)
                  · try simp only [zA,zB,zC]
                    go_simp
                    refine hK.out _ _ ?_ (fun hHeld=> ?_)
                    · exact trivial
                    clear hK K
                    try simp only [Act.put,zA,zB,zC,zD,zE,zF]
                    refine wpAnyH_ready (rs:=[10]) (by kernel_rfl) (by simp) ?_
                    refine (AllReadyH.cons rfl (fun K hK=> ?_) AllReadyH.nil)
                    · try simp only [zA,zB,zC]
                      refine step_append_known (a:=⟨_,_⟩) ?_ (.tmp 44) (.tmp 52) 24 ?_ v4 (.slice (some ⟨w6.heap.size,0,none⟩) 1 1) ?_ ?_ (.slice (some ⟨g,0,none⟩) (j+1) cap) w7 ?_ ?_
                      · rfl
                      · rfl
                      · rfl
                      · rfl
                      · exact HRUN.out
                      refine hK.out _ _ ?_ (fun hHeld=> ?_)
                      · exact trivial
                      clear hK K
                      try simp only [Act.put,zD,zE,zF]
                      refine wpAnyH_take (i:=11) (v:= .pointer (some ⟨P,3,none⟩)) rfl (by kernel_rfl) (by kernel_rfl) (by kernel_rfl) (fun _ _ _ h=>h) (Or.inl ⟨by rfl,fun wx hSw=>by go_simp⟩) (by assumption) ?_
                      try simp only [Act.put,zA,zB,zC,zD,zE,zF]
                      refine wpAnyH_ready (rs:=[12]) (by kernel_rfl) (by simp) ?_
                      refine (AllReadyH.cons rfl (fun K hK=> ?_) AllReadyH.nil)
                      · try simp only [zA,zB,zC]
                        obtain ⟨f7,f8⟩:=F7.out
                        go_simp
                        refine hK.out _ _ ?_ (fun hHeld=> ?_)
                        · exact trivial
                        clear hK K
                        try simp only [Act.put,zA,zB,zC,zD,zE,zF]
                        refine wpAnyH_done (by kernel_rfl) ?_ _
                        refine NoPanic.normal ?_
                        go_wp2
                        go_roundw
                        case rel=>exact HEND.out
                        case measure=>simp [intOf];omega
                · try simp only [zA,zB,zC]
                  go_simp
                  refine hK.out _ _ ?_ (fun hHeld=> ?_)
                  · exact trivial
                  clear hK K
                  try simp only [Act.put,zA,zB,zC,zD,zE,zF]
                  refine wpAnyH_ready (rs:=[1]) (by kernel_rfl) (by simp) ?_
                  refine (AllReadyH.cons rfl (fun K hK=> ?_) AllReadyH.nil)
                  · try simp only [zA,zB,zC]
                    have hl:=HL6a.out
                    go_simp
                    refine hK.out _ _ ?_ (fun hHeld=> ?_)
                    · exact trivial
                    clear hK K
                    try simp only [Act.put,zA,zB,zC,zD,zE,zF]
                    refine wpAnyH_ready (rs:=[10]) (by kernel_rfl) (by simp) ?_
                    refine (AllReadyH.cons rfl (fun K hK=> ?_) AllReadyH.nil)
                    · try simp only [zA,zB,zC]
                      refine step_append_known (a:=⟨_,_⟩) ?_ (.tmp 44) (.tmp 52) 24 ?_ v4 (.slice (some ⟨w6.heap.size,0,none⟩) 1 1) ?_ ?_ (.slice (some ⟨g,0,none⟩) (j+1) cap) w7 ?_ ?_
                      · rfl
                      · rfl
                      · rfl
                      · rfl
                      · exact HRUN.out
                      refine hK.out _ _ ?_ (fun hHeld=> ?_)
                      · exact trivial
                      clear hK K
                      try simp only [Act.put,zD,zE,zF]
                      refine wpAnyH_take (i:=11) (v:= .pointer (some ⟨P,3,none⟩)) rfl (by kernel_rfl) (by kernel_rfl) (by kernel_rfl) (fun _ _ _ h=>h) (Or.inl ⟨by rfl,fun wx hSw=>by go_simp⟩) (by assumption) ?_
                      try simp only [Act.put,zA,zB,zC,zD,zE,zF]
                      refine wpAnyH_ready (rs:=[12]) (by kernel_rfl) (by simp) ?_
                      refine (AllReadyH.cons rfl (fun K hK=> ?_) AllReadyH.nil)
                      · try simp only [zA,zB,zC]
                        obtain ⟨f7,f8⟩:=F7.out
                        go_simp
                        refine hK.out _ _ ?_ (fun hHeld=> ?_)
                        · exact trivial
                        clear hK K
                        try simp only [Act.put,zA,zB,zC,zD,zE,zF]
                        refine wpAnyH_done (by kernel_rfl) ?_ _
                        refine NoPanic.normal ?_
                        go_wp2
                        go_roundw
                        case rel=>exact HEND.out
                        case measure=>simp [intOf];omega
        · have hje:j=K:=by omega
          subst hje
          have htl:(buildP G).lists.take j=(buildP G).lists:=List.take_of_length_le (by rw [HKK.out];exact Nat.le_refl _)
          rw [htl] at hgl
          have hv4:∃ A4 c4,v4= .slice A4 (buildP G).lists.length c4:=by
            obtain ⟨cs4,hl4,_⟩:=hgl.lists
            obtain ⟨A4,c4,e,_⟩:=owned_row hl4
            exact ⟨A4,c4,e⟩
          obtain ⟨A4,c4,rfl⟩:=hv4
          obtain ⟨⟨q0,q1,_,q3⟩,_⟩:=four10 hgl.cells
          obtain ⟨_,f0,f1,f2,f3⟩:=four10 hR
          have HG4:=Lib.hid hgl
          have HR4:=Lib.hid hR
          have HRA:=Lib.hid hra
          have HRB:=Lib.hid hrb
          have HBF:=Lib.hid hbw
          obtain ⟨n1,hn1⟩:∃ n,n=(buildP G).ids.length:=⟨_,rfl⟩
          obtain ⟨n2,hn2⟩:∃ n,n=(buildP G).seqs.length:=⟨_,rfl⟩
          obtain ⟨n4,hn4⟩:∃ n,n=(buildP G).lists.length:=⟨_,rfl⟩
          rw [← hn1] at q0
          rw [← hn2] at q1
          rw [← hn4] at q3
          have HN1:=Lib.hid hn1
          have HN2:=Lib.hid hn2
          have HN4:=Lib.hid hn4
          clear hgl hR hra hrb hbw htl hn1 hn2 hn4
          go_wp2
          have hne:w.heap.size≠P:=HRP.out
          have nk:¬ PoK 26:=by unfold PoK;decide
          have e0:=heap_setCell_same wr w.heap.size 0 _ _ (.slice A1 n1 c1) HR4.out
          have e1:=heap_setCell_same _ w.heap.size 1 _ _ (.slice A2 n2 c2) e0
          have e2:=heap_setCell_same _ w.heap.size 2 _ _ (.slice A8 j c8) e1
          have e3:=heap_setCell_same _ w.heap.size 3 _ _ (.slice A4 n4 c4) e2
          have g0:=HG4.out.setOther (o:=0) HR4.out (Nat.le_refl _) hne nk (by decide) (by decide) (.slice A1 n1 c1)
          have g1:=g0.setOther (o:=1) e0 (Nat.le_refl _) hne nk (by decide) (by decide) (.slice A2 n2 c2)
          have g2:=g1.setOther (o:=2) e1 (Nat.le_refl _) hne nk (by decide) (by decide) (.slice A8 j c8)
          have g3:=g2.setOther (o:=3) e2 (Nat.le_refl _) hne nk (by decide) (by decide) (.slice A4 n4 c4)
          have k0:KeptG w.heap.size wr (wr.setCell ⟨w.heap.size,0,none⟩ (.slice A1 n1 c1)):=KeptG.setCell HR4.out (Nat.le_refl _) nk _
          have k1:=k0.trans (KeptG.setCell (o:=1) e0 (Nat.le_refl _) nk (.slice A2 n2 c2))
          have k2:=k1.trans (KeptG.setCell (o:=2) e1 (Nat.le_refl _) nk (.slice A8 j c8))
          have k3:=k2.trans (KeptG.setCell (o:=3) e2 (Nat.le_refl _) nk (.slice A4 n4 c4))
          have hbF:=((((HBF.out).setCell (p:=⟨w.heap.size,0,none⟩) (Nat.le_refl _) (.slice A1 n1 c1)).setCell (p:=⟨w.heap.size,1,none⟩) (Nat.le_refl _) (.slice A2 n2 c2)).setCell (p:=⟨w.heap.size,2,none⟩) (Nat.le_refl _) (.slice A8 j c8)).setCell (p:=⟨w.heap.size,3,none⟩) (Nat.le_refl _) (.slice A4 n4 c4)
          obtain ⟨WF,hWF⟩:∃ WF,WF=(((wr.setCell ⟨w.heap.size,0,none⟩ (.slice A1 n1 c1)).setCell ⟨w.heap.size,1,none⟩ (.slice A2 n2 c2)).setCell ⟨w.heap.size,2,none⟩ (.slice A8 j c8)).setCell ⟨w.heap.size,3,none⟩ (.slice A4 n4 c4):=⟨_,rfl⟩
          rw [← hWF] at e3 g3 k3 hbF ⊢
          have eF:WF.heap[w.heap.size]?=some (.cells #[.slice A1 n1 c1,.slice A2 n2 c2,.slice A8 j c8,.slice A4 n4 c4] 26 (0,0)):=e3
          refine bodyPost_ret (results_cell_row (P:=Tryz.prog) rfl _ _ w.heap.size 26 _ (0,0) _ rfl eF Tryz.underlying26 rfl (by kernel_rfl)) rfl ?_
          exact ⟨A1,c1,A2,c2,A8,c8,A4,c4,by rw [← HN1.out,← HN2.out,← HN4.out,HK.out];rfl,⟨(HRA.out.keep (.inr rfl) k3).row,(HRB.out.keep (.inr rfl) k3).row,g3.rows.1,g3.rows.2⟩,hbF⟩
end Go.Proofs.YtmoomnpbiifedaaGreat
