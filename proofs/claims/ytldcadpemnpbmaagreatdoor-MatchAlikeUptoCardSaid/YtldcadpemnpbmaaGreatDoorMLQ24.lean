import Derived.Test.YtldcadpemnpbmaaGreatDoorMLQ23
import Derived.Test.YtldcadpemnpbmaaGreatDoorMLQ22
import Derived.Test.YtldcadpemnpbmaaGreatDoorMLQ21
import Derived.BigCall
import Derived.Deep.RegionLaw
import Derived.IntWalk
import Derived.Test.YtldcadpemnpbmaaGreatDoorMLQ02
import Derived.Test.YtldcadpemnpbmaaGreatDoorMLQ04
import Derived.Test.YtldcadpemnpbmaaGreatDoorMLQ03
import Derived.Shelf.SlSortCmp.WholeK
import Derived.Deep.RegionHeld3
import Derived.Shelf.SlSortCmp.NoneTotal
import Derived.Test.YtldcadpemnpbmaaGreatDoorProg
namespace Go.Proofs.YtldcadpemnpbmaaGreatDoor
open Go Go.RowKit
set_option linter.unusedVariables false
def boxQ2 (w:World) (k:Int) (f x:ByteArray) (A:Option Addr) (n c:Nat) (K:Option Addr) (m d:Nat):World:=(boxQ w k f x A n c K m d).alloc (.cells #[.int .i64 0,.string ⟨#[]⟩,.string ⟨#[]⟩,.slice none 0 0,.slice none 0 0] 27)
theorem boxQ2_of {w wr:World} {k:Int} {f x:ByteArray} {A K:Option Addr} {n c m d:Nat} (h:Below (w.heap.size+2) (boxQ2 w k f x A n c K m d) wr):
  Below w.heap.size w wr∧(wr.cell? ⟨w.heap.size,0,none⟩=some (.int .i64 k)∧wr.cell? ⟨w.heap.size,1,none⟩=some (.string f)∧wr.cell? ⟨w.heap.size,2,none⟩=some (.string x)∧wr.cell? ⟨w.heap.size,3,none⟩=some (.slice A n c)∧wr.cell? ⟨w.heap.size,4,none⟩=some (.slice K m d))∧
  wr.heap[w.heap.size+1]?=some (.cells #[.int .i64 0,.string ⟨#[]⟩,.string ⟨#[]⟩,.slice none 0 0,.slice none 0 0] 27 (0,0)):=by
 have hs:(boxQ w k f x A n c K m d).heap.size=w.heap.size+1:=boxQ_size
 have h1:Below (boxQ w k f x A n c K m d).heap.size (boxQ w k f x A n c K m d) wr:=((Below.refl _ _).alloc (Nat.le_refl _) _).trans (h.mono (by rw [hs];omega))
 have h0:=boxQ_of h1
 refine ⟨h0.1,h0.2,(h.block (w.heap.size+1) (by omega)).trans ?_⟩
 have :=heap_alloc_new (boxQ w k f x A n c K m d) (.cells #[.int .i64 0,.string ⟨#[]⟩,.string ⟨#[]⟩,.slice none 0 0,.slice none 0 0] 27)
 rwa [hs] at this
theorem below_drew12 {w w':World} (h:Below w.drew.heap.size w.drew w'):Below w.heap.size w w':=⟨h.os,h.tape,h.output,h.size,h.block⟩
def KidsGood (w:World) (D:Nat) (ks:List Qy):Prop:=∀ q∈ks,∀ (v:Value) (w':World),Below w.heap.size w w'→QIn w' q v→Calls Tryz.prog 8 #[v,.int .i64 ((D:Int)+1)] w' (GaveQ (goodQ (D+1) q) w')
def GoodRel (w2:World) (z B D:Nat) (GK:Int) (M:Nat) (ks:List Qy) (i:Value) (wr:World):Prop:=∃ j:Nat,j≤M∧j≤ks.length∧i= .int .i64 (j:Int)∧∃ v,GoodAt w2 z B GK ⟨#[]⟩ ⟨#[]⟩ (.slice none 0 0) ((ks.take j).map (goodQ (D+1))) v wr
def PhrRel (w2:World) (z B:Nat) (fb:ByteArray) (ws:List Nm) (i:Value) (wr:World):Prop:=∃ j:Nat,j≤3∧j≤ws.length∧i= .int .i64 (j:Int)∧∃ v,WordsAt w2 z B 5 fb ⟨#[]⟩ (.slice none 0 0) ((ws.take j).filter mayWord) v wr
def NoPhr (w2:World) (z:Nat) (GK:Int) (ws:List Nm) (wr:World):Prop:=Below z w2 wr∧¬ (GK=5∧0<(goodWs ws).length)
set_option maxHeartbeats 8000000 in
set_option maxRecDepth 100000 in
theorem good_step (D:Nat) (k:Int) (t:Tm) (ws:List Nm) (ks:List Qy) (f x:ByteArray) (A:Option Addr) (c:Nat) (K:Option Addr) (d:Nat) (ds:List Value) (w:World) (hD:D≤100) (hraw:RawQ 100000000 (.mk k t ws ks)) (hf:f.data.toList=t.1) (hx:x.data.toList=t.2)
    (hA:RowP (fun b=>b<w.heap.size) w A (strs ws)) (hK:RowP (fun b=>b<w.heap.size) w K ds) (hks:QsAt (fun b=>b<w.heap.size) w ks ds) (hkids:D<4→KidsGood w D ks):
    Calls Tryz.prog 8 #[qV k f x A ws.length c K ks.length d,.int .i64 (D:Int)] w (GaveQ (goodQ D (.mk k t ws ks)) w):=by
  rw [RawQ] at hraw
  obtain ⟨⟨hk1,hk2⟩,ht,hws,hrl⟩:=hraw
  have hfs:f.data.toList.length=f.size:=Array.length_toList
  have hxs:x.data.toList.length=x.size:=Array.length_toList
  have hfl:f.size≤100000000:=by rw [← hfs,hf];exact ht.1
  have hxl:x.size≤100000000:=by rw [← hxs,hx];exact ht.2
  obtain ⟨w2,hw2⟩:∃ w2,w2=boxQ2 w k f x A ws.length c K ks.length d:=⟨_,rfl⟩
  have HW2:=Lib.hid hw2
  have HB:Hid (∀ wr,Below (w.heap.size+2) w2 wr→Below w.heap.size w wr∧(wr.cell? ⟨w.heap.size,0,none⟩=some (.int .i64 k)∧wr.cell? ⟨w.heap.size,1,none⟩=some (.string f)∧wr.cell? ⟨w.heap.size,2,none⟩=some (.string x)∧wr.cell? ⟨w.heap.size,3,none⟩=some (.slice A ws.length c)∧wr.cell? ⟨w.heap.size,4,none⟩=some (.slice K ks.length d))∧
    wr.heap[w.heap.size+1]?=some (.cells #[.int .i64 0,.string ⟨#[]⟩,.string ⟨#[]⟩,.slice none 0 0,.slice none 0 0] 27 (0,0))):=Lib.hid fun wr h=>by
    rw [hw2] at h
    exact boxQ2_of h
  have hs2:w2.heap.size=w.heap.size+2:=by rw [hw2];simp [boxQ2,boxQ]
  have HN:Hid (∀ w',Calls Tryz.prog 24 #[.string f] w' fun e w''=>e= .returned (.bool (nameB t.1))∧Below w'.heap.size w' w''):=Lib.hid fun w'=>by rw [← hf];exact ref08_Name f w' (by omega)
  obtain ⟨y,hy⟩:∃ y,y=nameB t.1:=⟨_,rfl⟩
  rw [← hy] at HN
  obtain ⟨fb,hfb1,hfb2,hfb⟩:∃ fb:ByteArray,(y=true→f=fb)∧(y=false→fb=⟨#[116]⟩)∧fb.data.toList=goodFn t.1:=by
    unfold goodFn
    rw [← hy]
    cases y with
    |true=>exact ⟨f,fun _=>rfl,(fun h=>by cases h),by rw [if_pos rfl,hf]⟩
    |false=>exact ⟨⟨#[116]⟩,(fun h=>by cases h),fun _=>rfl,rfl⟩
  obtain ⟨kk,hkk1,hkk2,hkk⟩:∃ kk:Int,(k<0→ -(k+1)=kk)∧(¬ k<0→k=kk)∧goodK k=1+kk%5:=by
    unfold goodK
    by_cases h:k<0
    · exact ⟨-(k+1),fun _=>rfl,fun h'=>absurd h h',by rw [if_pos h]⟩
    · exact ⟨k,fun h'=>absurd h' h,fun _=>rfl,by rw [if_neg h]⟩
  have hkk0:0≤kk:=by
    by_cases h:k<0
    · have :=hkk1 h;omega
    · have :=hkk2 h;omega
  have hkk9:kk≤9223372036854775807:=by
    by_cases h:k<0
    · have :=hkk1 h;omega
    · have :=hkk2 h;omega
  have HFB1:=Lib.hid hfb1
  have HFB2:=Lib.hid hfb2
  have HFB:=Lib.hid hfb
  have HK1:=Lib.hid hkk1
  have HK2:Hid (0≤k→k=kk):=Lib.hid fun h=>hkk2 (by omega)
  have HKK:=Lib.hid hkk
  have HS2:=Lib.hid hs2
  have HX:=Lib.hid hx
  have HROW:Hid (∀ wr,Below w.heap.size w wr→Row wr w.heap.size A (strs ws)):=Lib.hid fun wr h=>Row.below (RowP.row hA fun _ h=>h) h
  have HWS:=Lib.hid hws
  have HKI:=Lib.hid hkids
  have HKA:Hid (KidsAt w w2 ks K):=Lib.hid (kids_at hK hks (HB.out _ (Below.refl _ _)).1)
  clear hw2 hy hs2 hf hx hfb1 hfb2 hfb hkk1 hkk2 hkk hA hK hks hkids hws hrl ht hfs hxs
  go_enter Tryz.func8,Tryz.ntmps8
  go_upto_if 22 with (go_at_call 24;rw [show (w.alloc _).alloc _=w2 from HW2.out.symm];(with_reducible refine (HN.out _).mono ?_);rintro e w3 ⟨rfl,hb3⟩;have HB3:Hid (Below (w.heap.size+2) w2 w3):=Lib.hid (by rw [← HS2.out];exact hb3);clear hb3)
  go_cut [5] from 21 to 22 (fun s wx=>s= .string fb∧w3=wx)
  case first=>
    cases y with
    |true=>
      have e:=HFB1.out rfl
      subst e
      go_wp2_with fail
      go_meet
      exact ⟨rfl,rfl⟩
    |false=>
      have e:=HFB2.out rfl
      subst e
      go_wp2_with fail
      go_meet
      exact ⟨rfl,rfl⟩
  case rest=>
    obtain ⟨rfl,rfl⟩:=hcut
    obtain ⟨hb0,⟨a0,a1,a2,a3,a4⟩,r0⟩:=HB.out _ HB3.out
    have HB0:=Lib.hid hb0
    have R0:=Lib.hid r0
    clear hb0 r0
    go_upto_if 26 with fail
    go_cut [7] from 25 to 29 (fun s wx=>s= .int .i64 kk∧w3=wx)
    case first=>
      by_cases h0:k<0
      · have e:=HK1.out h0
        subst e
        go_wp2_with fail
        go_meet
        exact ⟨rfl,rfl⟩
      · have e:=HK2.out (by omega)
        subst e
        go_wp2_with fail
        go_meet
        exact ⟨rfl,rfl⟩
    case rest=>
      obtain ⟨rfl,rfl⟩:=hcut
      obtain ⟨GK,hGK⟩:∃ GK,1+kk%5=GK:=⟨_,rfl⟩
      have hg1:1≤GK:=by omega
      have hg5:GK≤5:=by omega
      have hgood:goodK k=GK:=by rw [HKK.out,hGK]
      have HG:=Lib.hid hgood
      obtain ⟨⟨r0,r1,r2,r3,r4⟩,f0,f1,f2,f3,f4⟩:=five_cells R0.out
      obtain ⟨KB,hKB⟩:∃ KB,KB=decide ((2≤GK∧GK≤4)∧D<4∧0<ks.length):=⟨_,rfl⟩
      have HKB:=Lib.hid hKB
      clear hgood hKB
      go_upto_region 9 with fail
      go_cut [48] from 33 to 48 (fun s wx=>s= .bool KB∧w3=wx)
      case first=>
        by_cases e1:2≤GK
        · by_cases e2:GK≤4
          · have d1:decide (2≤GK)=true:=decide_eq_true e1
            have d2:decide (GK≤4)=true:=decide_eq_true e2
            by_cases e3:D<4
            · have d3:decide ((D:Int)<4)=true:=decide_eq_true (by omega)
              by_cases e4:ks.length=0
              · have hb:KB=false:=by rw [HKB.out];simp [e4]
                have d4:decide (0<ks.length)=false:=by simp [e4]
                subst hb
                clear e4
                go_wp2_with fail
                go_meet
                exact ⟨rfl,rfl⟩
              · have hb:KB=true:=by rw [HKB.out];exact decide_eq_true ⟨⟨e1,e2⟩,e3,by omega⟩
                subst hb
                have d4:0<ks.length:=by omega
                clear e4
                go_wp2_with fail
                go_meet
                exact ⟨rfl,rfl⟩
            · have hb:KB=false:=by rw [HKB.out];exact decide_eq_false fun h=>e3 h.2.1
              have d3:decide ((D:Int)<4)=false:=decide_eq_false (by omega)
              subst hb
              go_wp2_with fail
              go_meet
              exact ⟨rfl,rfl⟩
          · have hb:KB=false:=by rw [HKB.out];exact decide_eq_false fun h=>e2 h.1.2
            have d1:decide (2≤GK)=true:=decide_eq_true e1
            have d2:decide (GK≤4)=false:=decide_eq_false e2
            subst hb
            go_wp2_with fail
            go_meet
            exact ⟨rfl,rfl⟩
        · have hb:KB=false:=by rw [HKB.out];exact decide_eq_false fun h=>e1 h.1.1
          have d1:decide (2≤GK)=false:=decide_eq_false e1
          subst hb
          go_wp2_with fail
          go_meet
          exact ⟨rfl,rfl⟩
      case rest=>
        obtain ⟨rfl,rfl⟩:=hcut
        clear hGK
        go_upto_if 48 with fail
        go_cut [] from 49 to 77 (fun wx=>w3=wx∧KB=false)
        case first=>
          cases KB with
          |false=>
            go_wp2_with fail
            go_meet
            exact ⟨rfl,trivial⟩
          |true=>
            have hcond:(2≤GK∧GK≤4)∧D<4∧0<ks.length:=of_decide_eq_true HKB.out.symm
            obtain ⟨⟨e1,e2⟩,e3,e4⟩:=hcond
            obtain ⟨M,hM1,hM2,hM3⟩:∃ M:Nat,(GK=4→M=1)∧(¬ GK=4→M=3)∧M=if GK=4 then 1 else 3:=by
              by_cases h:GK=4
              · exact ⟨1,fun _=>rfl,fun h'=>absurd h h',by rw [if_pos h]⟩
              · exact ⟨3,fun h'=>absurd h' h,fun _=>rfl,by rw [if_neg h]⟩
            have hM4:M≤3:=by rw [hM3];split<;>omega
            have HM1:=Lib.hid hM1
            have HM2:=Lib.hid hM2
            have HM3:=Lib.hid hM3
            clear hM1 hM2 hM3
            go_upto_if 52 with fail
            obtain ⟨w4,hw4⟩:∃ w4,w4=w3.alloc (.cells #[.int .i64 GK,.string ⟨#[]⟩,.string ⟨#[]⟩,.slice none 0 0,.slice none 0 0] 27):=⟨_,rfl⟩
            obtain ⟨B,hB⟩:∃ B,B=w3.heap.size:=⟨_,rfl⟩
            have hBz:w.heap.size+2≤B:=by have h1:=HB3.out.size;have h2:=HS2.out;omega
            have hG4:GoodAt w2 (w.heap.size+2) B GK ⟨#[]⟩ ⟨#[]⟩ (.slice none 0 0) [] (.slice none 0 0) w4:=by
              refine ⟨by rw [hw4,hB];exact heap_alloc_new _ _,OwnQs.nil,?_,hBz⟩
              rw [hw4]
              exact HB3.out.trans ((Below.refl _ _).alloc (by omega) _)
            rw [← hw4,← hB]
            have HG4:=Lib.hid hG4
            clear hw4 hB hG4 a0 a1 a2 a3 a4 r0 r1 r2 r3 r4 f0 f1 f2 f3 f4
            go_cut [9] from 51 to 52 (fun s wx=>s= .int .i64 (M:Int)∧w4=wx)
            case first=>
              by_cases h4:GK=4
              · have e:=HM1.out h4
                subst h4 e
                go_wp2_with fail
                go_meet
                exact ⟨rfl,rfl⟩
              · have e:=HM2.out h4
                have e5:(GK==4)=false:=by rw [beq_eq_false_iff_ne];exact h4
                subst e
                clear h4
                go_wp2_with fail
                go_meet
                exact ⟨rfl,rfl⟩
            case rest=>
              obtain ⟨rfl,rfl⟩:=hcut
              obtain ⟨j0,hj0,hj1,hj2,hj3⟩:=info_parts info_query
              go_wp2_with fail
              go_loopw [10] (fun i wr=>GoodRel w2 (w.heap.size+2) B D GK M ks i wr) (fun i _=>M-(intOf i).toNat)
              case atStart=>exact ⟨0,by omega,by omega,rfl,_,by rw [List.take_zero];exact HG4.out⟩
              case round=>
                obtain ⟨j,hjM,hjk,rfl,v,hat⟩:=hrel
                obtain ⟨hb0,⟨a0,a1,a2,a3,a4⟩,r0⟩:=HB.out _ hat.2.2.1
                clear a0 a1 a2 a3
                have HB0:=Lib.hid hb0
                have R1:=Lib.hid r0
                clear hb0 r0
                have hBl:=hat.lt
                by_cases hlt:j<M∧j<ks.length
                · obtain ⟨hlM,hlk⟩:=hlt
                  obtain ⟨b,off,k',f',x',A',n',c',K',m',d',e',hbl,hv,c0,c1,c2,c3,c4⟩:=HKA.out wr (by rw [HS2.out];exact hat.2.2.1) j hlk
                  subst e'
                  obtain ⟨cs,h1,h2⟩:=hat.2.1
                  obtain ⟨A4,c5,e4, -⟩:=owned_row h1
                  have hln:((ks.take j).map (goodQ (D+1))).length=j:=by rw [List.length_map,List.length_take];omega
                  rw [hln] at h1 e4
                  subst e4
                  have hq4:∀ W,Below wr.heap.size wr W→W.cell? ⟨B,4,none⟩=some (.slice A4 j c5):=fun W hW=>(five_cells (hat.later hW).1).1.2.2.2.2
                  have hq5:∀ W,Below wr.heap.size wr W→W.cell? ⟨w.heap.size,4,none⟩=some (.slice (some ⟨b,off,none⟩) ks.length d):=fun W hW=>((HB.out W (hat.later hW).2.2.1).2.1).2.2.2.2
                  have hq6:∀ W,Below wr.heap.size wr W→W.cell? ⟨b,off+j*5,none⟩=some (.int .i64 k')∧W.cell? ⟨b,off+j*5+1,none⟩=some (.string f')∧W.cell? ⟨b,off+j*5+2,none⟩=some (.string x')∧W.cell? ⟨b,off+j*5+3,none⟩=some (.slice A' n' c')∧W.cell? ⟨b,off+j*5+4,none⟩=some (.slice K' m' d'):=fun W hW=>by
                    have hbr:b<wr.heap.size:=by have :=hat.2.2.1.size;have :=HS2.out;omega
                    exact ⟨(hW.cell (p:=⟨b,off+j*5,none⟩) hbr).trans c0,(hW.cell (p:=⟨b,off+j*5+1,none⟩) hbr).trans c1,(hW.cell (p:=⟨b,off+j*5+2,none⟩) hbr).trans c2,(hW.cell (p:=⟨b,off+j*5+3,none⟩) hbr).trans c3,(hW.cell (p:=⟨b,off+j*5+4,none⟩) hbr).trans c4⟩
                  have HQ4:=Lib.hid hq4
                  have HQ5:=Lib.hid hq5
                  have HQ6:=Lib.hid hq6
                  have HAT:=Lib.hid hat
                  have HLN:=Lib.hid hln
                  have HO:=Lib.hid h1
                  have HQS:=Lib.hid h2
                  have HV:=Lib.hid hv
                  have HCALL:Hid (∀ W,Below wr.heap.size wr W→Calls Tryz.prog 8 #[qV k' f' x' A' n' c' K' m' d',.int .i64 ((D:Int)+1)] W (GaveQ (goodQ (D+1) ks[j]) W)):=
                    Lib.hid fun W hW=>HKI.out e3 _ (List.getElem_mem hlk) _ W (HB0.out.trans (hW.mono HB0.out.size)) (hv.later hW)
                  have i0:(0:Int)≤j:=by omega
                  have i1:(j:Int)<ks.length:=by omega
                  have i2:(j:Int)<M:=by omega
                  have HTK:Hid ((ks.take (j+1)).map (goodQ (D+1))=(ks.take j).map (goodQ (D+1))++[goodQ (D+1) ks[j]]):=Lib.hid (by rw [List.take_succ_eq_append_getElem hlk,List.map_append];rfl)
                  have iw:IntKind.i64.wrap ((D:Int)+1)=(D:Int)+1:=IntWalk.i64_in _ (by omega)
                  clear hat h1 h2 hv hln hq4 hq5 hq6 c0 c1 c2 c3 c4 a4
                  have q4:=HQ4.out wr (Below.refl _ _)
                  have q5:=HQ5.out wr (Below.refl _ _)
                  obtain ⟨q60,q61,q62,q63,q64⟩:=HQ6.out wr (Below.refl _ _)
                  go_wp2
                  go_region_law (first
                    | (refine step_append_lies _ (by rfl) _ _ _ (by rfl) (B + 1) 27 j0 _ 5 88 Tryz.underlying25 hj0 hj1 hj2 hj3 rfl (by omega) (.slice A4 j c5) j cs (by rfl) ((owned_below HO.out HB6.out).alloc _)
                        ⟨w6.heap.size,0,none⟩ 1 1 (qC k6 f6 x6 A6 n6 c6 K6 m6 d6) (by rfl) (by rfl) (World.news_of_block (cs:=#[.int .i64 k6,.string f6,.string x6,.slice A6 n6 c6,.slice K6 m6 d6]) (t:=27) (fr:=(0,0)) (heap_alloc_new w6 _)) (HQ7.out.one)
                        (by omega) (by unfold maxLen;omega) (by omega) (by have :=HB6.out.size;simp;omega) (w6.heap.size+1) (by simp) ?_
                       intro gg cap w8 hown8 hgrow hat8 hlt8
                       rw [← HLN.out] at hown8
                       obtain ⟨⟨c8,f8⟩,hd8⟩:=HAT.out.push (g:=gg) (by rw [HLN.out];exact HO.out) HQS.out HB6.out HQ7.out hown8 hgrow rfl (hat8.imp id fun h=>by omega)
                       rw [HLN.out] at hd8
                       have HD8:=Lib.hid hd8
                       clear hown8 hgrow hat8 hlt8 hd8)
                    | (go_simp; go_at_call 8; (with_reducible refine (HCALL.out _ (Below.refl _ _).drew).mono ?_); rintro e w6 ⟨v6, rfl, hq6, hb6⟩
                       obtain ⟨k6,f6,x6,A6,n6,c6,K6,m6,d6,rfl,hq7⟩:=hq6
                       have HB6:Hid (Below wr.heap.size wr w6):=Lib.hid (below_drew12 hb6)
                       have HQ7:Hid (QAt (fun b=>wr.heap.size≤b∧b<w6.heap.size) w6 (goodQ (D+1) ks[j]) (qC k6 f6 x6 A6 n6 c6 K6 m6 d6)):=Lib.hid hq7
                       have q4a:=HQ4.out w6 HB6.out
                       have q4b:∀ o,(w6.alloc o).cell? ⟨B,4,none⟩=some (.slice A4 j c5):=fun o=>HQ4.out _ (HB6.out.alloc HB6.out.size o)
                       clear hb6 hq7))
                  all_goals
                    go_wp2
                    go_roundw
                    case rel=>exact ⟨j+1,by omega,by omega,by go_num,_,by rw [HTK.out];exact HD8.out⟩
                    case measure=>simp [intOf];omega
                · have hlist:(ks.take j).map (goodQ (D+1))=goodL M (D+1) ks:=by
                    rw [goodL_map]
                    by_cases h:j=M
                    · rw [h]
                    · rw [List.take_of_length_le (by omega),List.take_of_length_le (by omega)]
                  rw [hlist] at hat
                  have hlen:(goodL M (D+1) ks).length=j:=by rw [← hlist,List.length_map,List.length_take];omega
                  have hgq:Qy.mk GK ([],[]) [] (goodL M (D+1) ks)=goodQ D (.mk k t ws ks):=by
                    rw [goodQ,HG.out,if_pos ⟨⟨e1,e2⟩,e3,e4⟩,HM3.out]
                  have hAt:=hat
                  obtain ⟨A4,c5,rfl,hqv⟩:=hat.done (C:=w.heap.size+1) (y0:= .int .i64 GK) (y1:= .string ⟨#[]⟩) (y2:= .string ⟨#[]⟩) (y3:= .slice none 0 0) (y4:=v) (by have :=hat.2.2.2;omega) hlen
                  obtain ⟨⟨b40,b41,b42,b43,b44⟩, -⟩:=five_cells hAt.1
                  obtain ⟨⟨s0,s1,s2,s3,s4⟩,g0,g1,g2,g3,g4⟩:=five_cells R1.out
                  have hfin:GaveQ (goodQ D (.mk k t ws ks)) w (.returned (qV GK ⟨#[]⟩ ⟨#[]⟩ none 0 0 A4 j c5)) (set5 wr (w.heap.size+1) (.int .i64 GK) (.string ⟨#[]⟩) (.string ⟨#[]⟩) (.slice none 0 0) (.slice A4 j c5)):=
                    ⟨_,rfl,by rw [← hgq];exact hqv.imp fun b hb=>⟨by omega,hb.2⟩,set5_below HB0.out (by omega)⟩
                  obtain ⟨⟨t0,t1,t2,t3,t4⟩, -⟩:=five_cells (set5_at (y0:= .int .i64 GK) (y1:= .string ⟨#[]⟩) (y2:= .string ⟨#[]⟩) (y3:= .slice none 0 0) (y4:= .slice A4 j c5) R1.out)
                  obtain ⟨we,hwe⟩:∃ we,we=set5 wr (w.heap.size+1) (.int .i64 GK) (.string ⟨#[]⟩) (.string ⟨#[]⟩) (.slice none 0 0) (.slice A4 j c5):=⟨_,rfl⟩
                  rw [← hwe] at hfin t0 t1 t2 t3 t4
                  have HFIN:=Lib.hid hfin
                  have HWE:=Lib.hid hwe
                  have T0:=Lib.hid t0
                  have T1:=Lib.hid t1
                  have T2:=Lib.hid t2
                  have T3:=Lib.hid t3
                  have T4:=Lib.hid t4
                  have hsp:(j<ks.length∧¬ j<M)∨¬ j<ks.length:=by omega
                  clear hfin hqv hwe hat hAt hlist hlen hgq t0 t1 t2 t3 t4 hlt
                  rcases hsp with ⟨h1,h2⟩|h1
                  all_goals
                    go_wp2
                    rw [show (((((wr.setCell _ _).setCell _ _).setCell _ _).setCell _ _).setCell _ _)=we from HWE.out.symm]
                    exact bodyPost_ret (v:=qV GK ⟨#[]⟩ ⟨#[]⟩ none 0 0 A4 j c5) (by simp [results,Tryz.results8,go_sem,T0.out,T1.out,T2.out,T3.out,T4.out]) rfl HFIN.out
        case rest=>
          obtain ⟨rfl,hkb⟩:=hcut
          have HNK:Hid (¬ ((2≤GK∧GK≤4)∧D<4∧0<ks.length)):=Lib.hid (by rw [HKB.out] at hkb;exact of_decide_eq_false hkb)
          clear hkb
          go_upto_if 80 with fail
          go_cut [] from 79 to 116 (fun wx=>NoPhr w2 (w.heap.size+2) GK ws wx)
          case first=>
            by_cases h5:GK=5
            · have H5:=Lib.hid h5
              have e5:(GK==5)=true:=by rw [h5];rfl
              clear h5
              rw [e5]
              go_upto_region 21 with fail
              obtain ⟨w4,hw4⟩:∃ w4,w4=w3.alloc (.cells #[.int .i64 5,.string fb,.string ⟨#[]⟩,.slice none 0 0,.slice none 0 0] 27):=⟨_,rfl⟩
              obtain ⟨B,hB⟩:∃ B,B=w3.heap.size:=⟨_,rfl⟩
              have hBz:w.heap.size+2≤B:=by have h1:=HB3.out.size;have h2:=HS2.out;omega
              have hG4:WordsAt w2 (w.heap.size+2) B 5 fb ⟨#[]⟩ (.slice none 0 0) [] (.slice none 0 0) w4:=by
                refine ⟨by rw [hw4,hB];exact heap_alloc_new _ _,OwnNm.nil,?_,hBz⟩
                rw [hw4]
                exact HB3.out.trans ((Below.refl _ _).alloc (by omega) _)
              rw [← hw4,← hB]
              have HG4:=Lib.hid hG4
              clear hw4 hB hG4 a0 a1 a2 a3 a4 r0 r1 r2 r3 r4 f0 f1 f2 f3 f4
              obtain ⟨j0,hj0,hj1,hj2,hj3⟩:=info_parts info_string
              go_wp2_with fail
              go_loopw [12] (fun i wr=>PhrRel w2 (w.heap.size+2) B fb ws i wr) (fun i _=>3-(intOf i).toNat)
              case atStart=>exact ⟨0,by omega,by omega,rfl,_,by rw [List.take_zero];exact HG4.out⟩
              case round=>
                obtain ⟨j,hjM,hjk,rfl,v,hat⟩:=hrel
                obtain ⟨hb0,⟨a0,a1,a2,a3,a4⟩,r0⟩:=HB.out _ hat.2.2.1
                clear a0 a1 a2 a4
                have HB0:=Lib.hid hb0
                have R1:=Lib.hid r0
                clear hb0 r0
                have hBl:=hat.lt
                by_cases hlt:j<3∧j<ws.length
                · obtain ⟨hl3,hlk⟩:=hlt
                  obtain ⟨b1,o1,e1,hb1,hc1⟩:=row_str (HROW.out wr HB0.out) hlk
                  subst e1
                  obtain ⟨u,hu,hu2⟩:=as_text ws[j]
                  rw [← hu] at hc1
                  have hul:=HWS.out _ (List.getElem_mem hlk)
                  have HT3:Hid (∀ w',Calls Tryz.prog 25 #[.string u] w' fun e w''=>e= .returned (.bool (mayWord ws[j]))∧Below w'.heap.size w' w''):=Lib.hid fun w'=>by rw [← hu2];exact ref_May u w' (by rw [hu,size_nm];omega)
                  have hbr:b1<wr.heap.size:=by have :=HB0.out.size;omega
                  have hq5:∀ W,Below wr.heap.size wr W→W.cell? ⟨w.heap.size,3,none⟩=some (.slice (some ⟨b1,o1,none⟩) ws.length c)∧W.cell? ⟨b1,o1+j,none⟩=some (.string u):=fun W hW=>⟨((HB.out W (hat.later hW).2.2.1).2.1).2.2.2.1,(hW.cell (p:=⟨b1,o1+j,none⟩) hbr).trans hc1⟩
                  have HQ5:=Lib.hid hq5
                  have HAT:=Lib.hid hat
                  have HU:=Lib.hid hu
                  have i0:(0:Int)≤j:=by omega
                  have i1:(j:Int)<ws.length:=by omega
                  have i2:(j:Int)<3:=by omega
                  obtain ⟨mw,hmw⟩:∃ mw,mw=mayWord ws[j]:=⟨_,rfl⟩
                  rw [← hmw] at HT3
                  have HTK:Hid ((ws.take (j+1)).filter mayWord=(ws.take j).filter mayWord++(if mw=true then [ws[j]] else [])):=Lib.hid (by
                    rw [List.take_succ_eq_append_getElem hlk,List.filter_append,hmw]
                    congr 1
                    cases h:mayWord ws[j]<;>simp [h])
                  clear hat hu hu2 hul hmw hq5
                  cases mw with
                  |false=>
                    go_wp2_with (go_at_call 25;(with_reducible refine (HT3.out _).mono ?_);rintro e w5 ⟨rfl,hb5⟩;have HA5:=Lib.hid (HAT.out.later hb5);clear hb5)
                    go_roundw
                    case rel=>exact ⟨j+1,by omega,by omega,by go_num,_,by rw [HTK.out,if_neg (by decide),List.append_nil];exact HA5.out⟩
                    case measure=>simp [intOf];omega
                  |true=>
                    have hno:=HAT.out.2.1
                    obtain ⟨l',hl'⟩:∃ l',l'=(ws.take j).filter mayWord:=⟨_,rfl⟩
                    rw [← hl'] at hno HAT HTK
                    obtain ⟨nl,hnl⟩:∃ nl,nl=l'.length:=⟨_,rfl⟩
                    have hnl3:nl≤3:=by
                      rw [hnl,hl']
                      have :=List.length_filter_le mayWord (ws.take j)
                      rw [List.length_take] at this
                      omega
                    obtain ⟨A4,c5,e4, -⟩:=owned_row (show wr.ownsRow (B+1) 9 1 v l'.length (strs l') from hno)
                    rw [← hnl] at e4
                    subst e4
                    have HNL:=Lib.hid hnl
                    clear hno hl' hnl
                    go_upto_region 26 with (go_at_call 25;(with_reducible refine (HT3.out _).mono ?_);rintro e w5 ⟨rfl,hb5⟩;have HB5:=Lib.hid hb5;clear hb5;clear a3)
                    have HA5:=Lib.hid (HAT.out.later HB5.out)
                    have hq4:∀ W,Below w5.heap.size w5 W→W.cell? ⟨B,3,none⟩=some (.slice A4 nl c5):=fun W hW=>(five_cells (HA5.out.later hW).1).1.2.2.2.1
                    have q4:=hq4 w5 (Below.refl _ _)
                    have q4b:∀ o,(w5.alloc o).cell? ⟨B,3,none⟩=some (.slice A4 nl c5):=fun o=>hq4 _ ((Below.refl _ _).alloc (Nat.le_refl _) o)
                    obtain ⟨q50,q51⟩:=HQ5.out w5 HB5.out
                    have hBl5:B<w5.heap.size:=HA5.out.lt
                    have HO:Hid (w5.ownsRow (B+1) 9 1 (.slice A4 nl c5) nl (strs l')):=Lib.hid (by rw [HNL.out];have :=HA5.out.2.1;rw [HNL.out] at this;exact this)
                    clear hq4
                    go_region_law (first
                      | (refine step_append_lies _ (by rfl) _ _ _ (by rfl) (B + 1) 9 j0 _ 1 16 Tryz.underlying24 hj0 hj1 hj2 hj3 rfl (by omega) (.slice A4 nl c5) nl (strs l') (by rfl) (HO.out.drew.alloc _)
                          ⟨w5.drew.heap.size,0,none⟩ 1 1 [.string u] (by rfl) (by rfl) (World.news_of_block (cs:=#[.string u]) (t:=9) (fr:=(0,0)) (heap_alloc_new w5.drew _)) (by intro u hu;simp at hu;subst hu;rfl)
                          (by omega) (by unfold maxLen;omega) (by omega) (by simp;omega) (w5.heap.size+1) (by simp) ?_
                         intro gg cap w8 hown8 hgrow hat8 hlt8
                         rw [HU.out] at hown8
                         obtain ⟨⟨c8,f8⟩,hd8⟩:=HA5.out.push (v':= .slice (some ⟨gg,0,none⟩) (nl+1) cap) (W:=(w5.alloc (.cells #[.string u] 9)).drew) (by rw [← HNL.out];exact hown8) ((Below.refl _ w5).alloc (Nat.le_refl _) _).drew hgrow
                         have HD8:=Lib.hid hd8
                         clear hown8 hgrow hat8 hlt8 hd8))
                    all_goals
                      go_wp2
                      go_roundw
                      case rel=>exact ⟨j+1,by omega,by omega,by go_num,_,by rw [HTK.out,if_pos trivial];exact HD8.out⟩
                      case measure=>simp [intOf];omega
                · have hlist:(ws.take j).filter mayWord=goodWs ws:=by
                    unfold goodWs
                    by_cases h:j=3
                    · rw [h]
                    · rw [List.take_of_length_le (by omega),List.take_of_length_le (by omega)]
                  rw [hlist] at hat
                  obtain ⟨nl,hnl⟩:∃ nl,nl=(goodWs ws).length:=⟨_,rfl⟩
                  have hgq:0<nl→Qy.mk 5 (goodFn t.1,[]) (goodWs ws) []=goodQ D (.mk k t ws ks):=fun h=>by
                    rw [goodQ,HG.out,if_neg HNK.out,if_pos ⟨H5.out,by omega⟩]
                  have hAt:=hat
                  obtain ⟨A4,c5,rfl,hqv⟩:=hat.done (C:=w.heap.size+1) (n:=nl) (y0:= .int .i64 5) (y1:= .string fb) (y2:= .string ⟨#[]⟩) (y3:=v) (y4:= .slice none 0 0) (by have :=hat.2.2.2;omega) hnl.symm HFB.out
                  obtain ⟨⟨b40,b41,b42,b43,b44⟩, -⟩:=five_cells hAt.1
                  obtain ⟨⟨s0,s1,s2,s3,s4⟩,g0,g1,g2,g3,g4⟩:=five_cells R1.out
                  have HAt:=Lib.hid hAt
                  have HNL:=Lib.hid hnl
                  have hsp:(j<ws.length∧¬ j<3)∨¬ j<ws.length:=by omega
                  by_cases hn0:nl=0
                  · have HFIN:Hid (NoPhr w2 (w.heap.size+2) GK ws wr):=Lib.hid ⟨HAt.out.2.2.1,fun h=>by have :=HNL.out;omega⟩
                    subst hn0
                    clear hqv hat hAt hlist hgq hnl hlt
                    rcases hsp with ⟨h1,h2⟩|h1
                    all_goals
                      go_wp2_with fail
                      go_meet
                      exact HFIN.out
                  · have hfin:GaveQ (goodQ D (.mk k t ws ks)) w (.returned (qV 5 fb ⟨#[]⟩ A4 nl c5 none 0 0)) (set5 wr (w.heap.size+1) (.int .i64 5) (.string fb) (.string ⟨#[]⟩) (.slice A4 nl c5) (.slice none 0 0)):=
                      ⟨_,rfl,by rw [← hgq (by omega)];exact hqv.imp fun b hb=>⟨by omega,hb.2⟩,set5_below HB0.out (by omega)⟩
                    obtain ⟨⟨t0,t1,t2,t3,t4⟩, -⟩:=five_cells (set5_at (y0:= .int .i64 5) (y1:= .string fb) (y2:= .string ⟨#[]⟩) (y3:= .slice A4 nl c5) (y4:= .slice none 0 0) R1.out)
                    obtain ⟨we,hwe⟩:∃ we,we=set5 wr (w.heap.size+1) (.int .i64 5) (.string fb) (.string ⟨#[]⟩) (.slice A4 nl c5) (.slice none 0 0):=⟨_,rfl⟩
                    rw [← hwe] at hfin t0 t1 t2 t3 t4
                    have HFIN:=Lib.hid hfin
                    have HWE:=Lib.hid hwe
                    have T0:=Lib.hid t0
                    have T1:=Lib.hid t1
                    have T2:=Lib.hid t2
                    have T3:=Lib.hid t3
                    have T4:=Lib.hid t4
                    have hn1:0<nl:=by omega
                    clear hfin hqv hwe hat hAt hlist hgq t0 t1 t2 t3 t4 hlt hnl hn0
                    rcases hsp with ⟨h1,h2⟩|h1
                    all_goals
                      go_wp2
                      rw [show (((((wr.setCell _ _).setCell _ _).setCell _ _).setCell _ _).setCell _ _)=we from HWE.out.symm]
                      exact bodyPost_ret (v:=qV 5 fb ⟨#[]⟩ A4 nl c5 none 0 0) (by simp [results,Tryz.results8,go_sem,T0.out,T1.out,T2.out,T3.out,T4.out]) rfl HFIN.out
            · have HFIN:Hid (NoPhr w2 (w.heap.size+2) GK ws w3):=Lib.hid ⟨HB3.out,fun h=>h5 h.1⟩
              have e5:(GK==5)=false:=by rw [beq_eq_false_iff_ne];exact h5
              clear h5
              go_wp2_with fail
              go_meet
              exact HFIN.out
          case rest=>
            obtain ⟨hbc,hnp⟩:=hcut
            clear a0 a1 a2 a3 a4 r0 r1 r2 r3 r4 f0 f1 f2 f3 f4
            obtain ⟨hb0,⟨a0,a1,a2,a3,a4⟩,r0⟩:=HB.out _ hbc
            have HNP:=Lib.hid hnp
            have HBC:=Lib.hid hbc
            have HT3:Hid (∀ w',Calls Tryz.prog 25 #[.string x] w' fun e w''=>e= .returned (.bool (mayWord t.2))∧Below w'.heap.size w' w''):=Lib.hid fun w'=>by rw [← HX.out];exact ref_May x w' (by omega)
            obtain ⟨mw,hmw⟩:∃ mw,mw=mayWord t.2:=⟨_,rfl⟩
            rw [← hmw] at HT3
            obtain ⟨xb,hxb1,hxb2,hxb⟩:∃ xb:ByteArray,(mw=true→x=xb)∧(mw=false→xb=⟨#[97]⟩)∧xb.data.toList=goodWd t.2:=by
              unfold goodWd
              rw [← hmw]
              cases mw with
              |true=>exact ⟨x,fun _=>rfl,(fun h=>by cases h),by rw [if_pos rfl,HX.out]⟩
              |false=>exact ⟨⟨#[97]⟩,(fun h=>by cases h),fun _=>rfl,rfl⟩
            have X1:=Lib.hid hxb1
            have X2:=Lib.hid hxb2
            have X3:=Lib.hid hxb
            clear hnp hbc hb0 r0 hmw hxb1 hxb2 hxb
            go_upto_if 123 with (go_at_call 25;(with_reducible refine (HT3.out _).mono ?_);rintro e w5 ⟨rfl,hb5⟩;have HB5:Hid (Below (w.heap.size+2) w2 w5):=Lib.hid (HBC.out.trans (hb5.mono (by have :=HBC.out.size;have :=HS2.out;omega)));clear hb5)
            go_cut [14] from 122 to 123 (fun s wx=>s= .string xb∧w5=wx)
            case first=>
              cases mw with
              |true=>
                have e:=X1.out rfl
                subst e
                go_wp2_with fail
                go_meet
                exact ⟨rfl,rfl⟩
              |false=>
                have e:=X2.out rfl
                subst e
                go_wp2_with fail
                go_meet
                exact ⟨rfl,rfl⟩
            case rest=>
              obtain ⟨rfl,rfl⟩:=hcut
              obtain ⟨hb0, -,r0⟩:=HB.out _ HB5.out
              have hgq:Qy.mk 1 (goodFn t.1,goodWd t.2) [] []=goodQ D (.mk k t ws ks):=by
                rw [goodQ,HG.out,if_neg HNK.out,if_neg HNP.out]
              obtain ⟨⟨s0,s1,s2,s3,s4⟩,g0,g1,g2,g3,g4⟩:=five_cells r0
              have hfin:GaveQ (goodQ D (.mk k t ws ks)) w (.returned (qV 1 fb xb none 0 0 none 0 0)) (set5 w5 (w.heap.size+1) (.int .i64 1) (.string fb) (.string xb) (.slice none 0 0) (.slice none 0 0)):=
                ⟨_,rfl,by rw [← hgq];exact QV.mk (ds:=[]) rfl rfl HFB.out X3.out (Nat.le_refl _) (Nat.le_refl _) (.inl rfl) (.inl rfl) QsAt.nil,set5_below hb0 (by omega)⟩
              obtain ⟨⟨t0,t1,t2,t3,t4⟩, -⟩:=five_cells (set5_at (y0:= .int .i64 1) (y1:= .string fb) (y2:= .string xb) (y3:= .slice none 0 0) (y4:= .slice none 0 0) r0)
              obtain ⟨we,hwe⟩:∃ we,we=set5 w5 (w.heap.size+1) (.int .i64 1) (.string fb) (.string xb) (.slice none 0 0) (.slice none 0 0):=⟨_,rfl⟩
              rw [← hwe] at hfin t0 t1 t2 t3 t4
              have HFIN:=Lib.hid hfin
              have HWE:=Lib.hid hwe
              have T0:=Lib.hid t0
              have T1:=Lib.hid t1
              have T2:=Lib.hid t2
              have T3:=Lib.hid t3
              have T4:=Lib.hid t4
              clear hfin hwe hgq t0 t1 t2 t3 t4 hb0 r0
              go_wp2
              rw [show (((((w5.setCell _ _).setCell _ _).setCell _ _).setCell _ _).setCell _ _)=we from HWE.out.symm]
              exact bodyPost_ret (v:=qV 1 fb xb none 0 0 none 0 0) (by simp [results,Tryz.results8,go_sem,T0.out,T1.out,T2.out,T3.out,T4.out]) rfl HFIN.out
end Go.Proofs.YtldcadpemnpbmaaGreatDoor
namespace Go.Proofs.YtldcadpemnpbmaaGreatDoor
open Go Go.RowKit
set_option linter.unusedVariables false
theorem ref12_Good (m:Nat):∀ (q:Qy) (D:Nat) (v:Value) (w:World),4≤D+m→D≤100→RawQ 100000000 q→QIn w q v→Calls Tryz.prog 8 #[v,.int .i64 (D:Int)] w (GaveQ (goodQ D q) w):=by
 induction m with
 |zero=>
  intro q D v w hm hD hraw hq
  obtain ⟨k,t,ws,ks,f,x,A,c,K,d,ds,rfl,rfl,hf,hx,hc,hdd,hA,hK,hks⟩:=hq.open_
  exact good_step D k t ws ks f x A c K d ds w hD hraw hf hx hA hK hks fun h=>by omega
 |succ m ih=>
  intro q D v w hm hD hraw hq
  obtain ⟨k,t,ws,ks,f,x,A,c,K,d,ds,rfl,rfl,hf,hx,hc,hdd,hA,hK,hks⟩:=hq.open_
  refine good_step D k t ws ks f x A c K d ds w hD hraw hf hx hA hK hks fun h q hq v w' hb hv=> ?_
  have h1:=hraw
  rw [RawQ] at h1
  have :=ih q (D+1) v w' (by omega) (by omega) (rawL_mem h1.2.2.2 hq) hv
  rwa [show ((D+1:Nat):Int)=(D:Int)+1 by omega] at this
end Go.Proofs.YtldcadpemnpbmaaGreatDoor
set_option linter.unusedVariables false
namespace Go.Proofs.YtldcadpemnpbmaaGreatDoor
open Go Go.RowKit
theorem gtr_str (t:TypeId) (a b:ByteArray):binOp .gtr t (.string a) (.string b)=pure (.bool !(Op.bytesLess a.toList b.toList || a.toList==b.toList)):=by simp [binOp,Op.stringOp]
attribute [local go_sem] gtr_str
theorem is_nan8 (s:ByteArray) (w:World):Calls Tryz.prog 261 #[.string s] w fun e w'=>e= .returned (.bool false)∧w=w':=by
 go_enter Tryz.func261,Tryz.ntmps261
 go_wp2
 go_ret
 exact ⟨by simp,rfl⟩
set_option maxHeartbeats 1000000 in
theorem cmp_compare8 (x y:ByteArray) (w:World):Calls Tryz.prog 219 #[.string x,.string y] w fun e w'=>e= .returned (.int .i64 (cmpN x.data.toList y.data.toList))∧w=w':=by
 have e1:Op.bytesLess x.toList y.toList=decide (x.data.toList<y.data.toList):=by rw [Lib.toList_data,Lib.toList_data,less_of]
 have e2:(x.toList==y.toList)=decide (x.data.toList=y.data.toList):=by rw [Lib.toList_data,Lib.toList_data,Bool.eq_iff_iff];simp
 by_cases h1:x.data.toList<y.data.toList
 ·have hc:cmpN x.data.toList y.data.toList= -1:=by simp [cmpN,h1]
  rw [decide_eq_true h1] at e1
  rw [hc]
  clear e2 hc h1
  go_enter Tryz.func219,Tryz.ntmps219
  go_wp2_with (go_at_call 261;refine (is_nan8 _ _).mono ?_;rintro e w' ⟨rfl,rfl⟩)
  go_ret
  exact ⟨rfl,rfl⟩
 ·rw [decide_eq_false h1] at e1
  by_cases h2:x.data.toList=y.data.toList
  ·have hc:cmpN x.data.toList y.data.toList=0:=by simp [cmpN,h2]
   rw [decide_eq_true h2] at e2
   rw [hc]
   clear hc h1 h2
   go_enter Tryz.func219,Tryz.ntmps219
   go_wp2_with (go_at_call 261;refine (is_nan8 _ _).mono ?_;rintro e w' ⟨rfl,rfl⟩)
   go_ret
   exact ⟨rfl,rfl⟩
  ·have hc:cmpN x.data.toList y.data.toList=1:=by simp [cmpN,h1,h2]
   rw [decide_eq_false h2] at e2
   rw [hc]
   clear hc h1 h2
   go_enter Tryz.func219,Tryz.ntmps219
   go_wp2_with (go_at_call 261;refine (is_nan8 _ _).mono ?_;rintro e w' ⟨rfl,rfl⟩)
   go_ret
   exact ⟨rfl,rfl⟩
open Go.Sort
def Grew (w w':World):Prop:=∃ q os,w'=grow (w.drewN q) os
theorem Grew.alloc {w w':World} (h:Grew w w') (o:Obj):Grew w (w'.alloc o):=by
 obtain ⟨q,os,rfl⟩:=h
 exact ⟨q,os++#[o],by rw [alloc_eq_grow,grow_grow]⟩
theorem Grew.refl (w:World):Grew w w:=⟨0,#[],by rw [grow_empty];rfl⟩
theorem Grew.trans {w w1 w2:World} (h:Grew w w1) (k:Grew w1 w2):Grew w w2:=by
 obtain ⟨q,os,rfl⟩:=h
 obtain ⟨q2,os2,rfl⟩:=k
 refine ⟨q+q2,os++os2,?_⟩
 rw [← grow_grow]
 congr 1
 show grow ((w.drewN q).drewN q2) os=_
 congr 1
 exact World.drewN_drewN w q q2
theorem Grew.drew {w w':World} (h:Grew w w'):Grew w w'.drew:=h.trans ⟨1,#[],by rw [grow_empty];rfl⟩
theorem Grew.below {w w':World} (h:Grew w w'):Below w.heap.size w w':=by
 obtain ⟨q,os,rfl⟩:=h
 exact ⟨rfl,rfl,rfl,by simp [grow],fun k hk=>heap_grow_old _ _ hk⟩
set_option maxHeartbeats 1000000 in
theorem word_Key_at (f g:ByteArray) (w:World) (hf:f.size≤140737488355328) (hg:g.size≤140737488355328):
  Calls Tryz.prog 87 #[.agg #[.string f,.string g]] w fun e w'=>e= .returned (.string (keyB f g))∧Grew w w':=by
 go_enter Tryz.func87,Tryz.ntmps87
 go_wp2
 go_ret
 exact ⟨rfl,(Grew.refl w).alloc _⟩
set_option maxHeartbeats 4000000 in
set_option maxRecDepth 100000 in
theorem invert_cmp (a b c d:ByteArray) (w:World) (ha:a.size≤1073741824) (hb:b.size≤1073741824) (hc:c.size≤1073741824) (hd:d.size≤1073741824):
    Calls Tryz.prog 218 #[.agg #[.string a,.string b],.agg #[.string c,.string d]] w fun e w'=>e= .returned (.int .i64 (cmpN (keyL a.data.toList b.data.toList) (keyL c.data.toList d.data.toList)))∧Grew w w':=by
  obtain ⟨w1,hw1⟩:∃ w1,w1=(w.alloc (.cells #[.string a,.string b] 23)).alloc (.cells #[.string c,.string d] 23):=⟨_,rfl⟩
  have hg1:Grew w w1:=by rw [hw1];exact ((Grew.refl w).alloc _).alloc _
  have hcell:∀ w',Below w1.heap.size w1 w'→w'.cell? ⟨w.heap.size,0,none⟩=some (.string a)∧w'.cell? ⟨w.heap.size,1,none⟩=some (.string b)∧w'.cell? ⟨w.heap.size+1,0,none⟩=some (.string c)∧w'.cell? ⟨w.heap.size+1,1,none⟩=some (.string d):=fun w' h=>by
    have hs1:w1.heap.size=w.heap.size+2:=by rw [hw1];simp
    have h0:w1.heap[w.heap.size]?=some (.cells #[.string a,.string b] 23 (0,0)):=by rw [hw1,Below.heap_alloc _ _ _ (by simp)];exact heap_alloc_new _ _
    have h1:w1.heap[w.heap.size+1]?=some (.cells #[.string c,.string d] 23 (0,0)):=by
      rw [hw1]
      have :=heap_alloc_new (w.alloc (.cells #[.string a,.string b] 23)) (.cells #[.string c,.string d] 23)
      rwa [World.size_alloc] at this
    have h0':=(h.block _ (by omega)).trans h0
    have h1':=(h.block _ (by omega)).trans h1
    exact ⟨by simp [World.cell?,h0'],by simp [World.cell?,h0'],by simp [World.cell?,h1'],by simp [World.cell?,h1']⟩
  have hk1:=fun w'=>word_Key_at a b w' (by omega) (by omega)
  have hk2:=fun w'=>word_Key_at c d w' (by omega) (by omega)
  have hcmp:=fun w'=>cmp_compare8 (keyB a b) (keyB c d) w'
  rw [keyB_list,keyB_list] at hcmp
  obtain ⟨K1,hK1⟩:∃ K1,K1=keyB a b:=⟨_,rfl⟩
  obtain ⟨K2,hK2⟩:∃ K2,K2=keyB c d:=⟨_,rfl⟩
  obtain ⟨R,hR⟩:∃ R,R=cmpN (keyL a.data.toList b.data.toList) (keyL c.data.toList d.data.toList):=⟨_,rfl⟩
  rw [← hK1] at hk1 hcmp
  rw [← hK2] at hk2 hcmp
  rw [← hR] at hcmp ⊢
  have HG1:=Lib.hid hg1
  have HC:=Lib.hid hcell
  have HK1:=Lib.hid hk1
  have HK2:=Lib.hid hk2
  have HCM:=Lib.hid hcmp
  have HW1:=Lib.hid hw1
  clear hw1 hg1 hcell hk1 hk2 hcmp hK1 hK2 hR
  go_enter Tryz.func218,Tryz.ntmps218
  go_wp2
  rw [show (w.alloc _).alloc _=w1 from HW1.out.symm]
  have hst:Grew w1 w1.drew:=(Grew.refl w1).drew
  have HST:Hid (Grew w1 w1.drew):=Lib.hid hst
  clear hst
  go_region_held3 (fun w'=>(w'.cell? ⟨w.heap.size,0,none⟩=some (.string a)∧w'.cell? ⟨w.heap.size,1,none⟩=some (.string b)∧w'.cell? ⟨w.heap.size+1,0,none⟩=some (.string c)∧w'.cell? ⟨w.heap.size+1,1,none⟩=some (.string d))∧Grew w1 w')
    (first|exact ⟨HC.out _ HST.out.below,HST.out⟩|exact ⟨HC.out _ HG4.out.below,HG4.out⟩|exact ⟨HC.out _ HG5.out.below,HG5.out⟩)
    (first
      | (go_at_call 87; (with_reducible refine (HK1.out _).mono ?_); rintro e w4 ⟨rfl, hg4⟩
         have HG4:Hid (Grew w1 w4):=Lib.hid (HST.out.trans hg4))
      | (go_at_call 87; (with_reducible refine (HK2.out _).mono ?_); rintro e w5 ⟨rfl, hg5⟩
         have HG5:Hid (Grew w1 w5):=Lib.hid (HG4.out.trans hg5))
      |(go_at_call 219;(with_reducible refine (HCM.out _).mono ?_);rintro e w6 ⟨rfl,rfl⟩))
  all_goals
    go_wp2
    go_ret
    exact ⟨rfl,HG1.out.trans HG5.out⟩
end Go.Proofs.YtldcadpemnpbmaaGreatDoor
set_option linter.unusedVariables false
namespace Go.Proofs.YtldcadpemnpbmaaGreatDoor
open Go.Shelf Go.RowKit
def laySortTm_ren:Go.Shelf.Ren:=⟨fun |6=>259|14=>290|15=>85|20=>306|21=>307|22=>308|23=>309|24=>310|25=>311|26=>312|27=>313|28=>143|29=>144|46=>327|47=>294|48=>295|49=>328|50=>329|57=>332|n=>n,fun |0=>0|3=>3|4=>4|5=>5|9=>9|22=>29|24=>23|25=>293|39=>128|45=>329|46=>330|50=>100|53=>198|55=>103|66=>349|70=>276|76=>362|77=>184|n=>n,fun |n=>n⟩
theorem laySortTm:SlLaysF0.n6 Tryz.prog laySortTm_ren:={
 mixed:=by kernel_rfl
 f6:=⟨Tryz.f259.name,by kernel_rfl,Tryz.func259.trans (congrArg some (by kernel_rfl))⟩
 f14:=⟨Tryz.f290.name,by kernel_rfl,Tryz.func290.trans (congrArg some (by kernel_rfl))⟩
 f15:=Tryz.func85.trans (congrArg some (by kernel_rfl))
 f20:=⟨Tryz.f306.name,by kernel_rfl,Tryz.func306.trans (congrArg some (by kernel_rfl))⟩
 f21:=⟨Tryz.f307.name,by kernel_rfl,Tryz.func307.trans (congrArg some (by kernel_rfl))⟩
 f22:=⟨Tryz.f308.name,by kernel_rfl,Tryz.func308.trans (congrArg some (by kernel_rfl))⟩
 f23:=⟨Tryz.f309.name,by kernel_rfl,Tryz.func309.trans (congrArg some (by kernel_rfl))⟩
 f24:=⟨Tryz.f310.name,by kernel_rfl,Tryz.func310.trans (congrArg some (by kernel_rfl))⟩
 f25:=⟨Tryz.f311.name,by kernel_rfl,Tryz.func311.trans (congrArg some (by kernel_rfl))⟩
 f26:=⟨Tryz.f312.name,by kernel_rfl,Tryz.func312.trans (congrArg some (by kernel_rfl))⟩
 f27:=⟨Tryz.f313.name,by kernel_rfl,Tryz.func313.trans (congrArg some (by kernel_rfl))⟩
 f28:=Tryz.func143.trans (congrArg some (by kernel_rfl))
 f29:=Tryz.func144.trans (congrArg some (by kernel_rfl))
 f46:=⟨Tryz.f327.name,by kernel_rfl,Tryz.func327.trans (congrArg some (by kernel_rfl))⟩
 f47:=Tryz.func294.trans (congrArg some (by kernel_rfl))
 f48:=Tryz.func295.trans (congrArg some (by kernel_rfl))
 f49:=⟨Tryz.f328.name,by kernel_rfl,Tryz.func328.trans (congrArg some (by kernel_rfl))⟩
 f50:=⟨Tryz.f329.name,by kernel_rfl,Tryz.func329.trans (congrArg some (by kernel_rfl))⟩
 f57:=⟨Tryz.f332.name,by kernel_rfl,Tryz.func332.trans (congrArg some (by kernel_rfl))⟩
 t0:=Tryz.underlying0
 a0:=Tryz.isAgg0
 z0:=Tryz.sizeOf0
 v0:=Tryz.zeroValue0
 t3:=Tryz.underlying3
 a3:=Tryz.isAgg3
 z3:=Tryz.sizeOf3
 v3:=Tryz.zeroValue3
 t4:=Tryz.underlying4
 a4:=Tryz.isAgg4
 z4:=Tryz.sizeOf4
 v4:=Tryz.zeroValue4
 t5:=Tryz.underlying5
 a5:=Tryz.isAgg5
 z5:=Tryz.sizeOf5
 v5:=Tryz.zeroValue5
 t9:=Tryz.underlying9
 a9:=Tryz.isAgg9
 z9:=Tryz.sizeOf9
 v9:=Tryz.zeroValue9
 t22:=Tryz.underlying29
 a22:=Tryz.isAgg29
 z22:=Tryz.sizeOf29
 v22:=Tryz.zeroValue29
 t25:=Tryz.underlying293
 a25:=Tryz.isAgg293
 z25:=Tryz.sizeOf293
 v25:=Tryz.zeroValue293
 t39:=Tryz.underlying128
 a39:=Tryz.isAgg128
 z39:=Tryz.sizeOf128
 v39:=Tryz.zeroValue128
 t45:=Tryz.underlying329
 a45:=Tryz.isAgg329
 z45:=Tryz.sizeOf329
 v45:=Tryz.zeroValue329
 t46:=Tryz.underlying330
 a46:=Tryz.isAgg330
 z46:=Tryz.sizeOf330
 v46:=Tryz.zeroValue330
 t50:=Tryz.underlying100
 a50:=Tryz.isAgg100
 z50:=Tryz.sizeOf100
 v50:=Tryz.zeroValue100
 t53:=Tryz.underlying198
 a53:=Tryz.isAgg198
 z53:=Tryz.sizeOf198
 v53:=Tryz.zeroValue198
 t55:=Tryz.underlying103
 a55:=Tryz.isAgg103
 z55:=Tryz.sizeOf103
 v55:=Tryz.zeroValue103
 t66:=Tryz.underlying349
 a66:=Tryz.isAgg349
 z66:=Tryz.sizeOf349
 v66:=Tryz.zeroValue349
 t70:=Tryz.underlying276
 a70:=Tryz.isAgg276
 z70:=Tryz.sizeOf276
 v70:=Tryz.zeroValue276
 t76:=Tryz.underlying362
 a76:=Tryz.isAgg362
 z76:=Tryz.sizeOf362
 v76:=Tryz.zeroValue362
 t77:=Tryz.underlying184
 a77:=Tryz.isAgg184
 z77:=Tryz.sizeOf184
 v77:=Tryz.zeroValue184}
end Go.Proofs.YtldcadpemnpbmaaGreatDoor
