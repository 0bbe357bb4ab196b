import Derived.Test.YtldcadpemnpbmaaGreatDoorMLQ25
import Derived.Lib.AppendZerosOnto
import Derived.Lib.AppendZeros
import Derived.Test.YtldcadpemnpbmaaGreatDoorMLQ08
import Derived.Test.YtldcadpemnpbmaaGreatDoorMLQ23
import Derived.Test.YtldcadpemnpbmaaGreatDoorMLQ06
import Derived.Deep.AppendLies
import Derived.Deep.RegionHeld3
import Derived.Deep.DeepCutAuto
import Derived.Test.YtldcadpemnpbmaaGreatDoorMLQ04
import Derived.Test.YtldcadpemnpbmaaGreatDoorMLQ09
import Derived.Test.YtldcadpemnpbmaaGreatDoorMLQ24
import Derived.Test.YtldcadpemnpbmaaGreatDoorMLQ05
set_option linter.unusedVariables false
namespace Go.Proofs.YtldcadpemnpbmaaGreatDoor
open Go Go.RowKit
theorem info_ints8:(Tryz.prog.info? 88).map (fun i=>(i.zero,i.size,i.bytes))=some (some (.slice none 0 0),1,24):=by kernel_rfl
def OwnII (base base':Nat) (w:World) (v:Value) (ll:List (List Int)):Prop:=∃ cs:List Value,w.ownsRow base 88 1 v ll.length cs∧cs.length=ll.length∧∀ (i:Nat) (c:Value) (l:List Int),cs[i]?=some c→ll[i]?=some l→OwnI base' w c l
theorem OwnII.below {base base':Nat} {w w':World} {v:Value} {ll:List (List Int)} (h:OwnII base base' w v ll) (hb:Below w.heap.size w w'):OwnII base base' w' v ll:=by
 obtain ⟨cs,h1,h2,h3⟩:=h
 exact ⟨cs,owned_below h1 hb,h2,fun i c l hc hl=>owned_below (h3 i c l hc hl) hb⟩
theorem OwnII.low {base base' b:Nat} {w:World} {v:Value} {ll:List (List Int)} (h:OwnII base base' w v ll) (hb:b≤base) (hb':b≤base'):OwnII b b w v ll:=by
 obtain ⟨cs,h1,h2,h3⟩:=h
 exact ⟨cs,owned_low h1 hb,h2,fun i c l hc hl=>owned_low (h3 i c l hc hl) hb'⟩
theorem OwnII.push {base base':Nat} {w w':World} {v v' u:Value} {ll:List (List Int)} {l:List Int} {cs:List Value} (h1:w.ownsRow base 88 1 v ll.length cs) (h2:cs.length=ll.length) (h3:∀ (i:Nat) (c:Value) (l:List Int),cs[i]?=some c→ll[i]?=some l→OwnI base' w c l) (hu:OwnI base' w u l)
  (hown:w'.ownsRow base 88 1 v' (ll.length+1) (cs++[u])) (hg:w.grownBy w' v.ownBlock):OwnII base base' w' v' (ll++[l]):=by
 have hk:∀ (c:Value) (l:List Int),OwnI base' w c l→OwnI base' w' c l:=fun c l ho=>ho.kept hg (owned_other ho h1 (by decide))
 refine ⟨cs++[u],by rw [List.length_append,List.length_singleton];exact hown,by simp [h2],fun i c l' hc hl=> ?_⟩
 by_cases hi:i<cs.length
 ·rw [List.getElem?_append_left hi] at hc
  rw [List.getElem?_append_left (by omega)] at hl
  exact hk _ _ (h3 i c l' hc hl)
 ·rw [List.getElem?_append_right (by omega)] at hc hl
  have hz:i-cs.length=0:=by
   by_cases hz:i-cs.length=0
   ·exact hz
   ·rw [List.getElem?_eq_none (by simp;omega)] at hc;cases hc
  rw [hz] at hc
  rw [show i-ll.length=0 by omega] at hl
  cases hc
  cases hl
  exact hk _ _ hu
def IRows (w:World) (B:Nat) (A:Option Addr) (ll:List (List Int)):Prop:=∃ cs:List Value,cs.length=ll.length∧Row w B A cs∧∀ (i:Nat) (c:Value) (l:List Int),cs[i]?=some c→ll[i]?=some l→∃ A' c',c= .slice A' l.length c'∧l.length≤c'∧Row w B A' (ints l)
theorem OwnII.rows {base base':Nat} {w:World} {v:Value} {ll:List (List Int)} (h:OwnII base base' w v ll):∃ A c,v= .slice A ll.length c∧ll.length≤c∧IRows w w.heap.size A ll:=by
 obtain ⟨cs,h1,h2,h3⟩:=h
 obtain ⟨A,c,rfl,hc,hr⟩:=owned_row h1
 exact ⟨A,c,rfl,hc,cs,h2,hr,fun i c l hc hl=>owned_row (h3 i c l hc hl)⟩
def GotInv (ts:List Tm) (ll:List (List Int)) (w:World) (e:Ending) (w':World):Prop:=∃ v1 v2,e= .returned (.tuple #[v1,v2])∧OwnTm w.heap.size w' v1 ts∧OwnII w.heap.size w.heap.size w' v2 ll∧Below w.heap.size w w'
def InvRel (g:List Gr) (ts:List Tm) (base base':Nat) (w6:World) (o i:Value) (wr:World):Prop:=∃ (k:Nat) (vo:Value),vo=o∧k≤ts.length∧i= .int .i64 (k:Int)∧OwnII base base' wr o ((ts.take k).map (getG g))∧Below w6.heap.size w6 wr
theorem GrAt.keys {base:Nat} {w:World} {B:Nat} {g:List Gr} (h:GrAt base w B g):∃ m,MapAt w B m∧m.map (·.1)=g.map (·.1)∧m.length=g.length:=by
 obtain ⟨m,h1,_,h3,h4,_⟩:=h
 refine ⟨m,h1,List.ext_getElem (by simp [h3]) fun i hi hj=> ?_,h3⟩
 have hi':i<m.length:=by simpa using hi
 have hj':i<g.length:=by simpa using hj
 simpa using (h4 i _ _ (List.getElem?_eq_getElem hi') (List.getElem?_eq_getElem hj')).1
theorem addG_length (t:Tm) (a:Int):∀ g:List Gr,(addG g t a).length≤g.length+1
 |[]=>Nat.le_refl _
 |p::g=>by
  have :=addG_length t a g
  rw [addG]
  split
  ·simp
  ·simp only [List.length_cons];omega
theorem groupsF_length:∀ (s:List (Tm × Int)) (g:List Gr),(s.foldl (fun g p=>addG g p.1 p.2) g).length≤g.length+s.length
 |[],g=>Nat.le_refl _
 |p::s,g=>by
  have h1:=groupsF_length s (addG g p.1 p.2)
  have h2:=addG_length p.1 p.2 g
  rw [List.foldl_cons,List.length_cons]
  omega
theorem groupsT_length (s:List (Tm × Int)):(groupsT s).length≤s.length:=by have :=groupsF_length s [];simpa [groupsT] using this
theorem groupsT_short {l:List Fd} (ht:∀ f∈l,f.1.length≤536870912∧f.2.length≤134217728):∀ t∈(groupsT (tellD l)).map (·.1),t.1.length≤536870912∧t.2.length≤536870912:=fun t h=>by
 obtain ⟨f,hf,h1,h2⟩:=(tellD_mem t l).1 ((groups_mem _ _).1 h)
 obtain ⟨g1,g2⟩:=ht f hf
 have :=words_size h2
 exact ⟨by rw [h1];exact g1,by omega⟩
set_option maxHeartbeats 4000000 in
set_option maxRecDepth 100000 in
theorem doc_Invert (id:Int) (A:Option Addr) (n c:Nat) (l:List Fd) (w:World) (hl:l.length=n) (hr:FRow w w.heap.size A l) (hn:n≤100) (ht:∀ f∈l,f.1.length≤536870912∧f.2.length≤134217728) (hw:∀ f∈l,(words f.2).length≤1048576) (hap:ApartF l) (h0:NoZero l):
    Calls Tryz.prog 163 #[docV id A n c] w (GotInv (termsD l) ((termsD l).map (placesD l)) w):=by
  obtain ⟨i0,hi0,hz0,hz1,hz2⟩:=info_parts info_ints8
  have HS:=Lib.hid (fun w' (h:Below w.heap.size w w')=>doc_stands id A n c l w' hl (hr.later h) hn (fun f hf=>by have :=(ht f hf).2;omega) hw)
  have hlen:=tellD_len (M:=1048576) l hw
  have hlen2:(tellD l).length≤104857600:=Nat.le_trans hlen (Nat.le_trans (Nat.mul_le_mul_right _ (by omega:l.length≤100)) (by omega))
  have hgl:(groupsT (tellD l)).length≤134217727:=by have :=groupsT_length (tellD l);omega
  have HSH:=Lib.hid (groupsT_short ht)
  have HTS:=Lib.hid (fun (ts:List Tm)=>terms_sorted (ts:=ts) hap h0)
  have HPL:Hid (∀ t,getG (groupsT (tellD l)) t=placesD l t):=Lib.hid fun t=>by rw [getG_groups,placesS_D hap]
  obtain ⟨g,hg⟩:∃ g,g=groupsT (tellD l):=⟨_,rfl⟩
  have HS':Hid (∀ w',Below w.heap.size w w'→Calls Tryz.prog 196 #[docV id A n c] w' fun e w''=>∃ B,e= .returned (.map (some B))∧GrAt w'.heap.size w'' B g∧Below w'.heap.size w' w''):=Lib.hid fun w' h=>by rw [hg];exact HS.out w' h
  rw [← hg] at hgl HSH HTS HPL
  obtain ⟨w1,hw1⟩:∃ w1,w1=boxD w id A n c:=⟨_,rfl⟩
  have hb1:Below w.heap.size w w1:=by rw [hw1];exact boxD_below _ _ _ _ _
  have hcc:=boxD_cells (w:=w) (id:=id) (A:=A) (n:=n) (c:=c) (Below.refl _ _)
  rw [← hw1] at hcc
  obtain ⟨hc0,hc1⟩:=hcc
  have HB1:=Lib.hid hb1
  have HW1:=Lib.hid hw1
  obtain ⟨td,htd⟩:∃ td,td=termsD l:=⟨_,rfl⟩
  obtain ⟨pd,hpd⟩:∃ pd,pd=placesD l:=⟨_,rfl⟩
  rw [← htd] at HTS ⊢
  rw [← hpd] at HPL ⊢
  clear HS hr ht hw hap h0 hlen hlen2 hg hb1 hw1 htd hpd
  go_enter Tryz.func163,Tryz.ntmps163
  go_wp2_with (first
    | (go_at_call 196; rw [show w.alloc _ = w1 from HW1.out.symm]
       (with_reducible refine (HS'.out w1 HB1.out).mono ?_)
       rintro e w4 ⟨B,rfl,hg4,hb4⟩
       obtain ⟨m,hm,hmk,hml⟩:=hg4.keys
       obtain ⟨w5,hw5⟩:∃ w5,w5=w4.alloc (.cells #[.map (some B)] 260):=⟨_,rfl⟩
       have hb5:Below w4.heap.size w4 w5:=by rw [hw5];exact (Below.refl _ _).alloc (Nat.le_refl _) _
       have hc5:w5.cell? ⟨w4.heap.size,0,none⟩=some (.map (some B)):=by have :=heap_alloc_new w4 (.cells #[.map (some B)] 260);rw [← hw5] at this;exact cell_of_one this
       have HSO:=Lib.hid (keys_sorted w4.heap.size B m w5 ((hb5.block B (Array.getElem?_eq_some_iff.1 hm).1).trans hm) hc5 (by omega) (by rw [hmk];exact HSH.out))
       have HG4:=Lib.hid hg4
       have HB4:=Lib.hid hb4
       have HB5:=Lib.hid hb5
       have HW5:=Lib.hid hw5
       rw [hmk] at HSO
       clear hg4 hb4 hm hmk hml hw5 hb5 hc5)
    |(go_at_call 217;(with_reducible refine (maps_Keys B w4).mono ?_);rintro e w5' ⟨rfl,rfl⟩;rw [← HW5.out])
    | (go_at_call 216; (with_reducible refine HSO.out.mono ?_); rintro e w6 ⟨v6, ts, rfl, hp6, hs6, ho6, hb6⟩
       obtain ⟨A6,c6,rfl,hc6,hr6⟩:=ho6.row
       have hts:=HTS.out ts hp6 hs6
       have htl:ts.length≤134217727:=by rw [hp6.length_eq,List.length_map];exact hgl
       obtain ⟨w7,hrun,hown7,hgrow7⟩:=run_make_own (P:=Tryz.prog) w6 w6.heap.size 111 88 i0 _ 1 Tryz.underlying111 hi0 hz0 hz1 .i64 .i64 ts.length (by rw [hz2];omega) (by unfold maxLen;omega) (Nat.le_refl _)
       have HTD:=Lib.hid hts
       have HO6:=Lib.hid ho6
       have HB6:=Lib.hid hb6
       have HR6:=Lib.hid hr6
       clear hts hp6 hs6 ho6 hb6 hr6))
  have hb7:Below w6.heap.size w6 w7:=(Below.refl _ _).grown hgrow7 (Nat.le_refl _) (fun k hk=>by cases hk)
  have hs7:=hb7.size
  have HB7:=Lib.hid hb7
  have HO7:Hid (OwnII w6.heap.size w1.heap.size w7 (.slice (some ⟨w6.heap.size,0,none⟩) 0 ts.length) []):=Lib.hid ⟨[],hown7,rfl,fun i c l hc=>by cases hc⟩
  have h46:Below w4.heap.size w4 w6:=HB5.out.trans (HB6.out.mono HB5.out.size)
  have h06:Below w.heap.size w w6:=HB1.out.trans ((HB4.out.trans (h46.mono HB4.out.size)).mono HB1.out.size)
  have hs46:=h46.size
  have hs06:=h06.size
  have H46:=Lib.hid h46
  have H06:=Lib.hid h06
  clear hrun hown7 hgrow7 hb7 h46 h06
  go_loopw [6,19] (fun o i wr=>InvRel g ts w6.heap.size w1.heap.size w6 o i wr) (fun _ i _=>ts.length-(intOf i).toNat)
  case atStart=>exact ⟨0,_,rfl,by omega,rfl,HO7.out,HB7.out⟩
  case round=>
    obtain ⟨k,vo,rfl,hk,rfl,hoo,hbw⟩:=hrel
    have h6r:Below w6.heap.size w6 wr:=hbw
    have hs6r:=h6r.size
    by_cases hlt:k<ts.length
    · obtain ⟨b1,o1,e1,hb1,hf1,hf2⟩:=(HR6.out.below h6r).at_ hlt
      subst e1
      obtain ⟨x,hx,hx2⟩:=as_text ts[k].1
      obtain ⟨y,hy,hy2⟩:=as_text ts[k].2
      rw [← hx] at hf1
      rw [← hy] at hf2
      have htk:(x.data.toList,y.data.toList)=ts[k]:=Prod.ext hx2 hy2
      have hsu:(ts.take (k+1)).map (getG g)=(ts.take k).map (getG g)++[getG g (x.data.toList,y.data.toList)]:=by rw [htk,List.take_succ_eq_append_getElem hlt,List.map_append];rfl
      obtain ⟨w8,hw8⟩:∃ w8,w8=wr.alloc (.cells #[.string x,.string y] 23):=⟨_,rfl⟩
      have hb8:Below wr.heap.size wr w8:=by rw [hw8];exact (Below.refl _ _).alloc (Nat.le_refl _) _
      have hs8:=hb8.size
      have hgr:GrAt w1.heap.size w8 B g:=HG4.out.below (H46.out.trans ((h6r.trans (hb8.mono hs6r)).mono hs46))
      obtain ⟨u,⟨m',hm',hv'⟩,hown'⟩:=hgr.look (x.data.toList,y.data.toList)
      obtain ⟨cs,hcs1,hcs2,hcs3⟩:=hoo.below hb8
      have hul:((ts.take k).map (getG g)).length=k:=by rw [List.length_map,List.length_take];omega
      obtain ⟨lg,hlg⟩:∃ lg,lg=getG g (x.data.toList,y.data.toList):=⟨_,rfl⟩
      rw [← hlg] at hsu hown'
      obtain ⟨A9,c9,hu,_,_⟩:=owned_row hown'
      have hpush:∀ (v':Value) (w9 w10:World),Below w8.heap.size w8 w9→w10.ownsRow w6.heap.size 88 1 v' (k+1) (cs++[u])→w9.grownBy w10 vo.ownBlock→OwnII w6.heap.size w1.heap.size w10 v' ((ts.take (k+1)).map (getG g)):=fun v' w9 w10 h1 h2 h3=>by
        rw [hsu]
        exact OwnII.push (owned_below hcs1 h1) hcs2 (fun i c l hc hl=>owned_below (hcs3 i c l hc hl) h1) (owned_below hown' h1) (by rw [hul];exact h2) h3
      have hcl:cs.length=k:=by rw [hcs2,hul]
      rw [hul] at hcs1
      have hkl:k≤134217727:=by omega
      have i0':(0:Int)≤k:=by omega
      have i1:(k:Int)<ts.length:=by omega
      have HPU:=Lib.hid hpush
      have HCS:=Lib.hid hcs1
      have HM':=Lib.hid hm'
      have HV':=Lib.hid hv'
      have HU:=Lib.hid hu
      have HW8:=Lib.hid hw8
      have HB8:=Lib.hid hb8
      have HBW:=Lib.hid hbw
      clear hx hx2 hy hy2 htk hsu hw8 hb8 hgr hm' hv' hown' hoo hcs1 hcs2 hcs3 hul hlg hu hpush hbw h6r
      go_wp2_with (first
        | (refine wpList_lookup_tm _ (by rfl) _ _ (by rfl) B m' (x.data.toList, y.data.toList) (by rfl) (by rw [← HW8.out]; exact HM'.out) (by rfl) ?_
           rw [HV'.out,HU.out])
        | (at_builtin; refine wpList_append_own _ rfl (.tmp 23) (.tmp 27) 111 rfl w6.heap.size 88 i0 _ 1 24 Tryz.underlying111 hi0 hz0 hz1 hz2 rfl (by omega) _ k cs rfl (by rw [← HW8.out]; exact HCS.out.alloc _) ⟨wr.heap.size + 1, 0, none⟩ 1 1 [.slice A9 lg.length c9] rfl rfl (by have := news_at (wr.alloc (.cells #[.string x, .string y] 23)) [.slice A9 lg.length c9] 88; rwa [World.size_alloc] at this) (by intro u hu; simp at hu; subst hu; rfl) (by unfold maxLen; omega) (by omega) (by simp; omega) ?_
           intro v' w10 hown10 hg10 hz10
           clear hz10))
      refine ⟨⟨k+1,v',rfl,by omega,by go_num,HPU.out v' (w8.alloc (.cells #[.slice A9 lg.length c9] 88)) w10 ((Below.refl _ _).alloc (Nat.le_refl _) _) (by rw [HU.out];exact hown10) (by rw [HW8.out];exact hg10),?_⟩,by simp [intOf];omega⟩
      have h8:Below w6.heap.size w6 w8:=HBW.out.trans (HB8.out.mono hs6r)
      have h9:Below w6.heap.size w6 (w8.alloc (.cells #[.slice A9 lg.length c9] 88)):=h8.alloc (by omega) _
      exact h9.grown (by rw [HW8.out];exact hg10) h9.size (fun j hj=>(HCS.out.lt j hj).1)
    · have hkl:k=ts.length:=by omega
      subst hkl
      rw [List.take_length] at hoo
      have hmap:ts.map (getG g)=td.map pd:=by rw [HTD.out];exact List.map_congr_left fun t _=>HPL.out t
      rw [hmap] at hoo
      have hs5:=HB5.out.size
      have hs1:=HB1.out.size
      have hs4:=HB4.out.size
      have HOO:=Lib.hid (hoo.low (b:=w.heap.size) (by omega) (by omega))
      have HOT:Hid (OwnTm w.heap.size wr (.slice A6 ts.length c6) td):=Lib.hid (by
        have :=(HO6.out.below h6r).low (b:=w.heap.size) (by omega)
        rw [← HTD.out]
        exact this)
      have HBR:Hid (Below w.heap.size w wr):=Lib.hid (H06.out.trans (hbw.mono hs06))
      clear hoo hmap hbw h6r
      go_wp2
      go_ret2
      exact ⟨_,_,rfl,HOT.out,HOO.out,HBR.out⟩
end Go.Proofs.YtldcadpemnpbmaaGreatDoor
set_option linter.unusedVariables false
namespace Go.Proofs.YtldcadpemnpbmaaGreatDoor
open Go Go.RowKit
def Since (a:Nat) (w:World) (k:Nat):Prop:=a≤k∧k<w.heap.size
theorem owned_toI {S:Nat→Prop} {w:World} {base:Nat} {A:Option Addr} {n c:Nat} {ps:List Int} (h:w.ownsRow base 3 1 (.slice A n c) n (ints ps)) (hS:∀ k,base≤k→k<w.heap.size→S k):RowP (Of S 3 w) w A (ints ps):=by
 rcases h.2 with ⟨hv,hn⟩|⟨g,cap,cur,hv,hg,hh,hnc,hcp,hcs,htake⟩
 ·refine .inl (List.eq_nil_of_length_eq_zero ?_)
  rw [h.1,hn]
 ·injection hv with h1 h2 h3
  subst h1
  rcases owned_row_of h with h0|⟨b,off,e,hb,hc⟩
  ·exact .inl h0
  ·injection e with e
   injection e with e1 e2
   subst e1 e2
   exact .inr ⟨g,0,rfl,⟨hS g hg hb,_,_,hh,rfl⟩,hc⟩
structure TurnAt (S:Nat→Prop) (M c i:Nat) (d:List Fd) (g:List GP) (ts:List Tm) (V1 V2:Value) (w:World) (j:Nat) (wr:World):Prop where
 map:PmAt (fun k=>S k∨Since w.heap.size wr k) wr M c (turnP i d g (ts.take j))
 only:OnlyIn (MapB S w M) w wr
 terms:OwnTm w.heap.size wr V1 ts
 stands:OwnII w.heap.size w.heap.size wr V2 (ts.map (placesD d))
section
variable {S:Nat→Prop} {M c i:Nat} {d:List Fd} {g:List GP} {ts:List Tm} {V1 V2:Value} {w:World} {j:Nat} {wr w':World}
theorem TurnAt.below (h:TurnAt S M c i d g ts V1 V2 w j wr) (hb:Below wr.heap.size wr w'):TurnAt S M c i d g ts V1 V2 w j w':=
 ⟨(h.map.keep fun k _ hk=>hb.block k hk).imp fun k hk=>hk.imp id fun hk=>⟨hk.1,Nat.lt_of_lt_of_le hk.2 hb.size⟩,h.only.trans (OnlyIn.of_below hb),h.terms.below hb,h.stands.below hb⟩
theorem TurnAt.places (h:TurnAt S M c i d g ts V1 V2 w j wr) (hj:j<ts.length):∃ b off A' c',(∃ c2,V2= .slice (some ⟨b,off,none⟩) ts.length c2)∧(∃ cs fr,wr.heap[b]?=some (.cells cs 88 fr))∧wr.cell? ⟨b,off+j,none⟩=some (.slice A' (placesD d ts[j]).length c')∧(placesD d ts[j]).length≤c'∧c'≤maxLen∧
  RowP (Of (fun k=>S k∨Since w.heap.size wr k) 3 wr) wr A' (ints (placesD d ts[j])):=by
 obtain ⟨cs,h1,h2,h3⟩:=h.stands
 rw [List.length_map] at h1 h2
 obtain ⟨A,c2,rfl,hc,hr⟩:=owned_row h1
 obtain ⟨b,off,rfl,hb,hcell⟩:=Row.at_ hr (by omega)
 have ho:=h3 j cs[j] (placesD d ts[j]) (List.getElem?_eq_getElem (by omega)) (by rw [List.getElem?_map,List.getElem?_eq_getElem hj];rfl)
 obtain ⟨A',c',e,hr'⟩:=owned_roomed ho
 have :=hcell j cs[j] (List.getElem?_eq_getElem (by omega))
 rw [e] at this
 unfold OwnI at ho
 rw [e] at ho
 exact ⟨b,off,A',c',⟨c2,rfl⟩,owned_type9 h1 rfl,this,hr'.1.1,hr'.1.2,owned_toI ho fun k h1 h2=> .inr ⟨h1,h2⟩⟩
theorem TurnAt.put (h:TurnAt S M c i d g ts V1 V2 w j wr) (hj:j<ts.length) (hM:M<w.heap.size):
  ∃ (v:Value) (n:Nat) (cs:List Value) (m:List EntK),MapK wr M c m∧v=valK m (keyT ts[j])∧n=(getP (turnP i d g (ts.take j)) (keyT ts[j])).length∧wr.ownsRow 0 153 2 v n cs∧
   ∀ (A':Option Addr) (c':Nat),RowP (Of (fun k=>S k∨Since w.heap.size wr k) 3 wr) wr A' (ints (placesD d ts[j]))→(placesD d ts[j]).length≤c'→c'≤maxLen→
   ∀ (gg cap:Nat) (w5:World),w5.ownsRow 0 153 2 (.slice (some ⟨gg,0,none⟩) (n+1) cap) (n+1) (cs++[.int .i64 i,.slice A' (placesD d ts[j]).length c'])→
    (wr.drew.alloc (.cells #[.int .i64 i,.slice A' (placesD d ts[j]).length c'] 153)).grownBy w5 v.ownBlock→(v.ownBlock=some gg∨gg=wr.heap.size+1)→gg<w5.heap.size→
    MapK w5 M c m∧(∀ k,k<wr.heap.size→v.ownBlock≠some k→w5.heap[k]?=wr.heap[k]?)∧v.ownBlock≠some M∧
    ∀ w6,MapK w6 M c ((entK m (keyT ts[j])).set (posK m (keyT ts[j])) (keyT ts[j],.slice (some ⟨gg,0,none⟩) (n+1) cap))→w5.grownBy w6 (some M)→TurnAt S M c i d g ts V1 V2 w (j+1) w6:=by
 have hsz:=h.only.size
 obtain ⟨m,h1,h2,h3,h4,h5⟩:=h.map
 have hrow:=posK_getP (keyT ts[j]) h3 h4
 obtain ⟨v,hv⟩:∃ v,v=valK m (keyT ts[j]):=⟨_,rfl⟩
 rw [← hv] at hrow
 have hnm:=hrow.not_map h1
 obtain ⟨cs,q1,q2,q3⟩:=id hrow
 refine ⟨v,_,cs,m,h1,hv,rfl,q1,fun A' c' hpl hc' hcx gg cap w5 hown5 hg5 hat hlt5=> ?_⟩
 have hal:Below wr.heap.size wr (wr.drew.alloc (.cells #[.int .i64 i,.slice A' (placesD d ts[j]).length c'] 153)):=(Below.refl _ _).drew.alloc (Nat.le_refl _) _
 have hs4:=hal.size
 have hs5:=hg5.size
 have hk5:∀ k,k<wr.heap.size→v.ownBlock≠some k→w5.heap[k]?=wr.heap[k]?:=fun k hk hne=>(hg5.block k (Nat.lt_of_lt_of_le hk hs4) (fun e=>hne e.symm)).trans (hal.block k hk)
 have hM5:MapK w5 M c m:=(hk5 M (by omega) hnm).trans h1
 refine ⟨hM5,hk5,hnm,fun w6 hM6 hg6=> ?_⟩
 have hs6:=hg6.size
 have hgM:gg≠M:=fun e=>by
  obtain ⟨cs',fr,hh⟩:=owned_type9 hown5 rfl
  rw [e] at hh
  unfold MapK at hM5
  rw [hM5] at hh
  cases hh
 have hk6:∀ k,k<wr.heap.size→k≠M→v.ownBlock≠some k→w6.heap[k]?=wr.heap[k]?:=fun k hk hne hne2=>(hg6.block k (by omega) (fun e=>hne (by cases e;rfl))).trans (hk5 k hk hne2)
 have hop:OwnPP (fun k=>S k∨Since w.heap.size w6 k) w6 (.slice (some ⟨gg,0,none⟩) ((getP (turnP i d g (ts.take j)) (keyT ts[j])).length+1) cap) (getP (turnP i d g (ts.take j)) (keyT ts[j])++[((i:Int),placesD d ts[j])]):=by
  have hup:∀ {A:Option Addr} {xs:List Value},RowP (Of (fun k=>S k∨Since w.heap.size wr k) 3 wr) wr A xs→RowP (Of (fun k=>S k∨Since w.heap.size w6 k) 3 (wr.drew.alloc (.cells #[.int .i64 i,.slice A' (placesD d ts[j]).length c'] 153))) (wr.drew.alloc (.cells #[.int .i64 i,.slice A' (placesD d ts[j]).length c'] 153)) A xs:=fun h=>(h.keepO fun k hk=>hal.block k hk.lt).imp fun k hk=>hk.imp fun hk=>hk.imp id fun hk=>⟨hk.1,by have :=hk.2;omega⟩
  have hpush:=OwnPP.push (S:=fun k=>S k∨Since w.heap.size w6 k) (owned_below q1 hal) (q3.imp fun _ _ h=>hup h) (d:=(i:Int)) hc' hcx (hup hpl) hown5 hg5 fun k hk=>by
   rcases hat with e|e
   ·have :=q2 gg e
    simp only [Value.ownBlock,Option.some.injEq] at hk
    subst hk
    exact this.imp id fun hk=>⟨hk.1,by omega⟩
   ·simp only [Value.ownBlock,Option.some.injEq] at hk
    subst hk
    exact .inr ⟨by omega,by omega⟩
  refine OwnPP.keep hpush (fun k hk=> ?_) fun k hk=> ?_
  ·simp only [Value.ownBlock,Option.some.injEq] at hk
   subst hk
   exact hg6.block _ hlt5 fun e=>hgM (by cases e;rfl)
  ·refine hg6.block _ hk.lt fun e=> ?_
   cases e
   obtain ⟨_,cs',fr,hh,_⟩:=hk
   unfold MapK at hM5
   rw [hM5] at hh
   cases hh
 refine ⟨?_,⟨?_,?_,?_,by omega,fun k hk hne=> ?_⟩,?_,?_⟩
 ·rw [turnP_take hj]
  refine PmAt.added h1 h2 h3 h4 h5 (fun k hk=>hk.imp id fun hk=>⟨hk.1,by have :=hk.2;omega⟩) (fun k a b e=>hk6 k a b (by rw [hv];exact e)) hM6 hop ?_
  rw [← hv]
  rcases hat with e|e
  ·exact .inl e.symm
  ·refine .inr fun k hk=> ?_
   simp only [Value.ownBlock,Option.some.injEq] at hk
   omega
 ·exact hg6.os.trans (hg5.os.trans (hal.os.trans h.only.os))
 ·exact hg6.tape.trans (hg5.tape.trans (hal.tape.trans h.only.tape))
 ·exact hg6.output.trans (hg5.output.trans (hal.output.trans h.only.output))
 ·rw [hk6 k (by omega) (fun e=>hne (.inl e)) (fun e=>hne (.inr ?_)),h.only.block k hk hne]
  obtain ⟨cs',hh⟩:=owned_type0 q1 e
  rw [h.only.block k hk hne] at hh
  refine ⟨?_,cs',_,hh,rfl⟩
  rcases q2 k e with hs|hs
  ·exact hs
  ·exact absurd hs.1 (by omega)
 ·refine owned_keep h.terms fun k hk=> ?_
  have hl:=h.terms.lt k hk
  exact hk6 k hl.2 (by omega) (owned_apart2 q1 h.terms (by decide) hk)
 ·obtain ⟨cs2,r1,r2,r3⟩:=h.stands
  refine ⟨cs2,owned_keep r1 fun k hk=> ?_,r2,fun x u l hx hl=>owned_keep (r3 x u l hx hl) fun k hk=> ?_⟩
  ·have hl:=r1.lt k hk
   exact hk6 k hl.2 (by omega) (owned_apart2 q1 r1 (by decide) hk)
  ·have hl2:=(r3 x u l hx hl).lt k hk
   exact hk6 k hl2.2 (by omega) (owned_apart2 q1 (r3 x u l hx hl) (by decide) hk)
end
end Go.Proofs.YtldcadpemnpbmaaGreatDoor
namespace Go.Proofs.YtldcadpemnpbmaaGreatDoor
open Go Go.RowKit
set_option linter.unusedVariables false
theorem owned_lift {w:World} {b:Nat} {e:TypeId} {size:Nat} {v:Value} {n:Nat} {xs:List Value} (h:w.ownsRow 0 e size v n xs) (hv:∀ k,v.ownBlock=some k→b≤k):w.ownsRow b e size v n xs:=by
 refine ⟨h.1,?_⟩
 rcases h.2 with h1|⟨g,cap,cur,h1,h2,h3⟩
 ·exact .inl h1
 ·exact .inr ⟨g,cap,cur,h1,hv g (by rw [h1];rfl),h3⟩
def GaveEn (l:List En) (w:World) (e:Ending) (w':World):Prop:=∃ v,e= .returned v∧OwnES (fun k=>w.heap.size≤k) w' v l∧Below w.heap.size w w'
def GoodERel (l:List Dc) (start step:Int) (w:World) (o i:Value) (wr:World):Prop:=∃ (k:Nat) (vo:Value),vo=o∧k≤l.length∧i= .int .i64 (k:Int)∧OwnES (fun k=>w.heap.size≤k) wr vo (goodsE l k start step)∧Below w.heap.size w wr
set_option maxHeartbeats 2000000 in
set_option maxRecDepth 100000 in
theorem ref09_Good (A:Option Addr) (n c:Nat) (l:List Dc) (most:Nat) (start step:Int) (w:World) (hl:l.length=n) (hr:Nest docS w w.heap.size A l) (hn:n≤9223372036854775807) (hm:most≤100) (hst:0≤start∧start≤1000) (hsp:0≤step∧step≤1000)
    (hf:∀ q∈l,∀ f∈q.2,f.1.length≤9223372036854775807∧f.2.length≤9223372036854775807):
    Calls Tryz.prog 12 #[.slice A n c,.int .i64 (most:Int),.int .i64 start,.int .i64 step] w (GaveEn (goodsE l most start step) w):=by
  obtain ⟨t0,hi0,hz0,hz1,hz2⟩:=info_parts info_entry
  have HR:=Lib.hid hr
  have HF:=Lib.hid hf
  have HL:=Lib.hid hl
  obtain ⟨q1,q2⟩:=hst
  obtain ⟨q3,q4⟩:=hsp
  clear hr hf hl
  go_enter Tryz.func12,Tryz.ntmps12
  go_wp2
  go_loopw [9,10] (fun o i wr=>(GoodERel l start step w o i wr∧(intOf i)≤most)) (fun _ i _=>n-(intOf i).toNat)
  case atStart=>exact ⟨⟨0,_,rfl,Nat.zero_le _,rfl,OwnES.nil,Below.refl _ _⟩,by simp [intOf]⟩
  case round=>
    obtain ⟨⟨k,vo,rfl,hk,rfl,hown,hbw⟩,hkm⟩:=hrel
    obtain ⟨wo,rfl⟩:∃ wo,wo=wr:=⟨_,rfl⟩
    have hkm':k≤most:=by simpa [intOf] using hkm
    clear hkm
    by_cases hlt:k<n∧k<most
    · obtain ⟨hkn,hkm2⟩:=hlt
      have hkl:k<l.length:=by rw [HL.out];exact hkn
      obtain ⟨b,off,A',c',e1,hb,g1,g2,hc1,hc2,hfr⟩:=docS_at (Nest.later HR.out hbw) hkl
      subst e1
      have hq:=HF.out _ (List.getElem_mem hkl)
      have hsn:=goodsE_take (start:=start) (step:=step) hkl
      have HC:=Lib.hid (ref08_Good l[k].1 A' l[k].2.length c' l[k].2 wo rfl hfr (by unfold maxLen at hc2;omega) hq)
      obtain ⟨N,hN⟩:∃ N,N=l[k].2.length:=⟨_,rfl⟩
      obtain ⟨q,hq1⟩:∃ q,q=l[k].1:=⟨_,rfl⟩
      obtain ⟨g,hg⟩:∃ g,g=goodD l[k].2:=⟨_,rfl⟩
      have hgl:g.length≤4:=by rw [hg];exact Nat.le_trans (goodUp_length _ _) (by omega)
      rw [← hN,← hq1,← hg] at HC
      rw [← hN] at g2
      rw [← hq1] at g1
      rw [← hq1,← hg] at hsn
      have hnum:step*(k:Int)≤100000∧0≤step*(k:Int):=by
        refine ⟨?_,Int.mul_nonneg q3 (by omega)⟩
        have h1:step*(k:Int)≤1000*(k:Int):=Int.mul_le_mul_of_nonneg_right q4 (by omega)
        omega
      obtain ⟨z,hz⟩:∃ z,z=step*(k:Int):=⟨_,rfl⟩
      rw [← hz] at hnum hsn
      obtain ⟨z0,z1⟩:=hnum
      obtain ⟨S,hS⟩:∃ S,S=start+z:=⟨_,rfl⟩
      rw [← hS] at hsn
      have hww:IntKind.i64.wrap (start+z)=S:=by rw [hS];exact IntWalk.i64_in _ (by omega)
      have hwz:IntKind.i64.wrap (step*(k:Int))=z:=by rw [← hz];exact IntWalk.i64_in _ (by omega)
      have hlen:=goodsE_length l k start step
      rw [Nat.min_eq_left hk] at hlen
      obtain ⟨cs,hcs0,hcsS,hcs2⟩:=hown
      have hcs1:=owned_lift hcs0 hcsS
      clear hcs0 hcsS
      obtain ⟨G,hG⟩:∃ G,G=goodsE l k start step:=⟨_,rfl⟩
      rw [← hG] at hcs1 hcs2 hsn hlen
      have HSN:=Lib.hid hsn
      have HC1:=Lib.hid hcs1
      have HC2:=Lib.hid hcs2
      have HBW:=Lib.hid hbw
      have HLN:=Lib.hid hlen
      have p0:(0:Int)≤k:=by omega
      have p1:(k:Int)<n:=by omega
      have p2:(k:Int)<most:=by omega
      have hsz:=hbw.size
      clear hfr hq hN hq1 hg hz hS hsn hcs1 hcs2 hG hlen hc1 hc2 hbw hb
      go_wp2_with (first
        | (go_at_call 39; (with_reducible refine HC.out.mono ?_); rintro e w3 ⟨v3, rfl, ho3, hb3⟩
           obtain ⟨A3,c3,rfl,hr3⟩:=owned_roomed ho3
           have HO3:=Lib.hid ho3
           have HB3:=Lib.hid hb3
           have HR3:=Lib.hid hr3
           have hs3:w.heap.size≤w3.heap.size:=Nat.le_trans hsz hb3.size
           clear ho3 hb3 hr3)
        | (at_builtin; refine wpList_append_own _ rfl (.tmp 22) (.tmp 34) 35 rfl w.heap.size 85 t0 _ 3 40 Tryz.underlying35 hi0 hz0 hz1 hz2 rfl (by omega) vo G.length cs rfl ((owned_below HC1.out HB3.out).alloc _) ⟨_, 0, none⟩ 1 1 [.int .i64 q, .slice A3 g.length c3, .int .i64 S] rfl rfl (news_at _ [.int .i64 q, .slice A3 g.length c3, .int .i64 S] 85) (by intro u hu; simp at hu; rcases hu with rfl | rfl | rfl <;> rfl) (by have := HLN.out; unfold maxLen; omega) (by have := HLN.out; omega) (by simp; omega) ?_
           intro v5 w5 hown5 hg5 _))
      have hal:Below w3.heap.size w3 (w3.alloc (.cells #[.int .i64 q,.slice A3 g.length c3,.int .i64 S] 85)):=(Below.refl _ _).alloc (Nat.le_refl _) _
      have hb5:Below w.heap.size (w3.alloc (.cells #[.int .i64 q,.slice A3 g.length c3,.int .i64 S] 85)) w5:=(Below.refl _ _).grown hg5 (by simp;omega) fun j hj=>(HC1.out.lt j hj).1
      have HB5:=Lib.hid (HBW.out.trans ((HB3.out.mono hsz).trans ((hal.mono hs3).trans hb5)))
      have hpush:=OwnES.push (S:=fun k=>w.heap.size≤k) (l:=G) (q:=(q,g,S)) (c:=c3) (A:=A3) (cs:=cs) (owned_low ((owned_below HC1.out HB3.out).alloc _) (Nat.zero_le _)) (HC2.out.imp fun _ _ h=>h.keepO fun k hk=>(HB3.out.trans (hal.mono HB3.out.size)).block k hk.lt) HR3.out.1.1 HR3.out.1.2 ((RowF.of_own HO3.out fun k h1 _=>Nat.le_trans hsz h1).keepO fun k hk=>hal.block k hk.lt) (owned_low hown5 (Nat.zero_le _)) hg5 fun k hk=>(hown5.lt k hk).1
      rw [← HSN.out] at hpush
      have HPU:=Lib.hid hpush
      clear hal hb5 hpush hown5 hg5
      go_wp2
      refine ⟨⟨⟨k+1,_,rfl,hkl,by go_num,HPU.out,HB5.out⟩,?_⟩,by simp [intOf];omega⟩
      simp [intOf]
      omega
    · have hfin:goodsE l k start step=goodsE l most start step:=by
        unfold goodsE
        by_cases h:k=most
        · rw [h]
        · have :=HL.out
          rw [List.take_of_length_le (by omega),List.take_of_length_le (by omega)]
      rw [hfin] at hown
      have HO:=Lib.hid hown
      have HBW:=Lib.hid hbw
      have h1:(n:Int)≤k∨(k:Int)<n∧(most:Int)≤k:=by omega
      clear hlt hfin hown hbw
      rcases h1 with h1|⟨h1,h2⟩
      all_goals
        go_wp2
        go_ret
        exact ⟨_,rfl,HO.out,HBW.out⟩
end Go.Proofs.YtldcadpemnpbmaaGreatDoor
namespace Go.Proofs.YtldcadpemnpbmaaGreatDoor
open Go Go.RowKit
set_option linter.unusedVariables false
theorem three_cells {w:World} {b:Nat} {x y z:Value} {t:TypeId} (h:w.heap[b]?=some (.cells #[x,y,z] t (0,0))):w.cell? ⟨b,0,none⟩=some x∧w.cell? ⟨b,1,none⟩=some y∧w.cell? ⟨b,2,none⟩=some z:=by
 simp [World.cell?,h]
end Go.Proofs.YtldcadpemnpbmaaGreatDoor
set_option linter.unusedVariables false
namespace Go.Proofs.YtldcadpemnpbmaaGreatDoor
open Go Go.RowKit
structure AddAt (S:Nat→Prop) (B M c:Nat) (q:En) (A:Option Addr) (cp:Nat) (v:Value) (L:List En) (x2 x3:Int) (g:List GP) (w wr:World):Prop where
 cells:wr.heap[B]?=some (.cells #[v,.map (some M),.int .i64 x2,.int .i64 x3] 143 (0,0))
 own:OwnES (fun k=>S k∨Since w.heap.size wr k) wr v L
 map:PmAt (fun k=>S k∨Since w.heap.size wr k) wr M c g
 only:OnlyIn S w wr
 ent:wr.heap[w.heap.size]?=some (.cells #[.int .i64 q.1,.slice A q.2.1.length cp,.int .i64 q.2.2] 85 (0,0))
 mine:S B
 flds:FRow wr w.heap.size A q.2.1
 vE:v.ownBlock≠some w.heap.size
section
variable {S:Nat→Prop} {B M c cp:Nat} {q:En} {A:Option Addr} {v:Value} {L:List En} {x2 x3:Int} {g:List GP} {w wr w':World}
theorem Since.later {a k:Nat} (h:Since a wr k) (hb:wr.heap.size≤w'.heap.size):Since a w' k:=⟨h.1,Nat.lt_of_lt_of_le h.2 hb⟩
theorem AddAt.below (h:AddAt S B M c q A cp v L x2 x3 g w wr) (hb:Below wr.heap.size wr w'):AddAt S B M c q A cp v L x2 x3 g w w':=
  ⟨(hb.block _ (lt_of_block h.cells)).trans h.cells, (h.own.keeps fun k _ hk => hb.block k hk).imp fun k hk => hk.imp id fun hk => hk.later hb.size, (h.map.keep fun k _ hk => hb.block k hk).imp fun k hk => hk.imp id fun hk => hk.later hb.size,
    h.only.trans (OnlyIn.of_below hb),(hb.block _ (lt_of_block h.ent)).trans h.ent,h.mine,h.flds.below (hb.mono h.only.size),h.vE⟩
theorem AddAt.row (h:AddAt S B M c q A cp v L x2 x3 g w wr):FRow wr wr.heap.size A q.2.1:=h.flds.more h.only.size
theorem AddAt.kept (h:AddAt S B M c q A cp v L x2 x3 g w wr) (hf:RowP (fun k=>k<w.heap.size∧¬ S k) w A (Go.Proofs.YtldcadpemnpbmaaGreatDoor.flds q.2.1))
  (hs:wr.heap.size≤w'.heap.size) (ho:w'.os=wr.os) (ht:w'.tape=wr.tape) (hou:w'.output=wr.output) {R:Nat→Prop} (hR:∀ k,R k→S k∨Since w.heap.size wr k) (hRE:¬ R w.heap.size) (hk:∀ k,k<wr.heap.size→¬ R k→w'.heap[k]?=wr.heap[k]?):
  OnlyIn S w w'∧w'.heap[w.heap.size]?=some (.cells #[.int .i64 q.1,.slice A q.2.1.length cp,.int .i64 q.2.2] 85 (0,0))∧FRow w' w.heap.size A q.2.1:=by
 have hsz:=h.only.size
 have honly:OnlyIn S w w':=⟨ho.trans h.only.os,ht.trans h.only.tape,hou.trans h.only.output,Nat.le_trans h.only.size hs,fun k h1 h2=>(hk k (by omega) fun hr=>(hR k hr).elim h2 fun hr=>by have :=hr.1;omega).trans (h.only.block k h1 h2)⟩
 exact ⟨honly,(hk _ (lt_of_block h.ent) hRE).trans h.ent,(hf.keep fun k hk=>honly.block k hk.1 hk.2).imp fun k hk=>hk.1⟩
theorem PmAt.keepT {S:Nat→Prop} {w w':World} {M c:Nat} {g:List GP} (h:PmAt S w M c g) (hM:w'.heap[M]?=w.heap[M]?) (hk:∀ (k:Nat) (cs:Array Value) (t:TypeId) (fr:Nat × Nat),w.heap[k]?=some (.cells cs t fr)→(t=153∨t=3)→w'.heap[k]?=w.heap[k]?):PmAt S w' M c g:=by
 obtain ⟨m,h1,h2,h3,h4,h5⟩:=h
 refine ⟨m,hM.trans h1,h2,h3,fun i e p he hp=> ?_,h5⟩
 obtain ⟨r1,r2⟩:=h4 i e p he hp
 refine ⟨r1,r2.keep (fun k hv=> ?_) fun k hs=> ?_⟩
 ·obtain ⟨cs,q1,_⟩:=r2
  obtain ⟨cs',fr,hh⟩:=owned_type9 q1 hv
  exact hk k _ _ _ hh (.inl rfl)
 ·obtain ⟨_,cs',fr,hh,_⟩:=hs
  exact hk k _ _ _ hh (.inr rfl)
theorem AddAt.mapB (h:AddAt S B M c q A cp v L x2 x3 g w wr) {k:Nat} {cs:Array Value} {t:TypeId} {fr:Nat × Nat} {T:Nat→Prop} (hk:wr.heap[k]?=some (.cells cs t fr)) (ht:t≠153):¬ MapB T wr M k:=fun e=>by
 rcases e with e|⟨_,cs',fr',hh,_⟩
 ·obtain ⟨es,ec,hes⟩:=h.map.map
  rw [← e,hk] at hes
  cases hes
 ·rw [hk] at hh
  injection hh with hh
  injection hh with _ h2 _
  exact ht h2
theorem AddAt.turned (h:AddAt S B M c q A cp v L x2 x3 g w wr) (hf:RowP (fun k=>k<w.heap.size∧¬ S k) w A (Go.Proofs.YtldcadpemnpbmaaGreatDoor.flds q.2.1)) {w4:World} {g':List GP}
  (hm:PmAt (fun k=>(S k∨Since w.heap.size wr k)∨Since wr.heap.size w4 k) w4 M c g') (ho:OnlyIn (MapB (fun k=>S k∨Since w.heap.size wr k) wr M) wr w4):AddAt S B M c q A cp v L x2 x3 g' w w4:=by
 have hsz:=h.only.size
 have hSM:(S M∨Since w.heap.size wr M):=by obtain ⟨m,_,h2,_⟩:=h.map;exact h2
 obtain ⟨k1,k2,k3⟩:=h.kept hf ho.size ho.os ho.tape ho.output (R:=MapB (fun k=>S k∨Since w.heap.size wr k) wr M) (fun k hk=>hk.elim (fun hk=>hk▸hSM) fun hk=>hk.1) (h.mapB h.ent (by decide)) ho.block
 have hkt:∀ (k:Nat) (cs:Array Value) (t:TypeId) (fr:Nat × Nat),wr.heap[k]?=some (.cells cs t fr)→t≠153→w4.heap[k]?=wr.heap[k]?:=fun k cs t fr hk ht=>ho.block k (Array.getElem?_eq_some_iff.1 hk).1 (h.mapB hk ht)
 refine ⟨(hkt _ _ _ _ h.cells (by decide)).trans h.cells,(h.own.keep (fun k hk=> ?_) fun k hk=> ?_).imp fun k hk=>hk.imp id fun hk=>hk.later ho.size,hm.imp fun k hk=> ?_,k1,k2,h.mine,k3,h.vE⟩
 ·obtain ⟨cs,r1,_⟩:=h.own
  obtain ⟨cs',fr,hh⟩:=owned_type9 r1 hk
  exact hkt _ _ _ _ hh (by decide)
 ·obtain ⟨_,cs',fr,hh,_⟩:=hk
  exact hkt _ _ _ _ hh (by decide)
 ·rcases hk with (hk|hk)|hk
  ·exact .inl hk
  ·exact .inr (hk.later ho.size)
  ·exact .inr ⟨by have :=hk.1;omega,hk.2⟩
theorem AddAt.stored (h:AddAt S B M c q A cp v L x2 x3 g w wr) (hf:RowP (fun k=>k<w.heap.size∧¬ S k) w A (Go.Proofs.YtldcadpemnpbmaaGreatDoor.flds q.2.1)) (hB:B<w.heap.size) (y2 y3:Int) (hw:w'.heap[B]?=some (.cells #[v,.map (some M),.int .i64 y2,.int .i64 y3] 143 (0,0)))
  (hk:∀ k,k≠B→w'.heap[k]?=wr.heap[k]?) (hs:w'.heap.size=wr.heap.size) (ho:w'.os=wr.os) (ht:w'.tape=wr.tape) (hou:w'.output=wr.output):AddAt S B M c q A cp v L y2 y3 g w w':=by
 have hne:∀ {k:Nat} {cs:Array Value} {t:TypeId} {fr:Nat × Nat},wr.heap[k]?=some (.cells cs t fr)→t≠143→k≠B:=fun hk ht e=>by
  rw [e,h.cells] at hk
  injection hk with hk
  injection hk with _ h2 _
  exact ht h2.symm
 obtain ⟨k1,k2,k3⟩:=h.kept hf (by omega) ho ht hou (R:=fun k=>k=B) (fun k hk=> .inl (hk▸h.mine)) (by omega) (fun k _ h1=>hk k h1)
 refine ⟨hw,(h.own.keep (fun k hk'=> ?_) fun k hk'=> ?_).imp fun k hk=>hk.imp id fun hk=>hk.later (by omega),(h.map.keepT (hk M fun e=> ?_) fun k cs t fr h1 h2=>hk k (hne h1 (by rcases h2 with rfl|rfl<;>decide))).imp fun k hk=>hk.imp id fun hk=>hk.later (by omega),k1,k2,h.mine,k3,h.vE⟩
 ·obtain ⟨cs,r1,_⟩:=h.own
  obtain ⟨cs',fr,hh⟩:=owned_type9 r1 hk'
  exact hk k (hne hh (by decide))
 ·obtain ⟨_,cs',fr,hh,_⟩:=hk'
  exact hk k (hne hh (by decide))
 ·obtain ⟨es,ec,hes⟩:=h.map.map
  rw [e,h.cells] at hes
  cases hes
theorem AddAt.push (h:AddAt S B M c q A cp v L x2 x3 g w wr) (hf:RowP (fun k=>k<w.heap.size∧¬ S k) w A (Go.Proofs.YtldcadpemnpbmaaGreatDoor.flds q.2.1)) (hB:B<w.heap.size) {A5:Option Addr} {c5:Nat} (ho5:OwnFd w.heap.size wr (.slice A5 q.2.1.length c5) q.2.1) (hc5:q.2.1.length≤c5∧c5≤maxLen):
  ∃ cs,wr.ownsRow 0 85 3 v L.length cs∧∀ (gg cap:Nat) (w7:World),w7.ownsRow 0 85 3 (.slice (some ⟨gg,0,none⟩) (L.length+1) cap) (L.length+1) (cs++[.int .i64 q.1,.slice A5 q.2.1.length c5,.int .i64 q.2.2])→
   (wr.alloc (.cells #[.int .i64 q.1,.slice A5 q.2.1.length c5,.int .i64 q.2.2] 85)).grownBy w7 v.ownBlock→(v.ownBlock=some gg∨gg=wr.heap.size+1)→gg<w7.heap.size→
   w7.heap[B]?=some (.cells #[v,.map (some M),.int .i64 x2,.int .i64 x3] 143 (0,0))∧w7.heap[w.heap.size]?=some (.cells #[.int .i64 q.1,.slice A q.2.1.length cp,.int .i64 q.2.2] 85 (0,0))∧
    AddAt S B M c q A cp (.slice (some ⟨gg,0,none⟩) (L.length+1) cap) (L++[q]) x2 x3 g w (w7.setCell ⟨B,0,none⟩ (.slice (some ⟨gg,0,none⟩) (L.length+1) cap)):=by
 have hsz:=h.only.size
 obtain ⟨cs,r1,r2,r3⟩:=h.own
 refine ⟨cs,r1,fun gg cap w7 hown hg hat hlt=> ?_⟩
 have hal:Below wr.heap.size wr (wr.alloc (.cells #[.int .i64 q.1,.slice A5 q.2.1.length c5,.int .i64 q.2.2] 85)):=(Below.refl _ _).alloc (Nat.le_refl _) _
 have hs6:=hal.size
 have hs7:=hg.size
 have hk7:∀ k,k<wr.heap.size→v.ownBlock≠some k→w7.heap[k]?=wr.heap[k]?:=fun k hk hne=>(hg.block k (by omega) (fun e=>hne e.symm)).trans (hal.block k hk)
 have hkt:∀ (k:Nat) (cs':Array Value) (t:TypeId) (fr:Nat × Nat),wr.heap[k]?=some (.cells cs' t fr)→t≠85→w7.heap[k]?=wr.heap[k]?:=fun k cs' t fr hk ht=>hk7 k (Array.getElem?_eq_some_iff.1 hk).1 (owned_apart r1 hk ht)
 have hB7:=(hkt _ _ _ _ h.cells (by decide)).trans h.cells
 have hE7:w7.heap[w.heap.size]?=some (.cells #[.int .i64 q.1,.slice A q.2.1.length cp,.int .i64 q.2.2] 85 (0,0)):=(hk7 _ (lt_of_block h.ent) h.vE).trans h.ent
 refine ⟨hB7,hE7,?_⟩
 obtain ⟨w8,hw8⟩:∃ w8,w8=w7.setCell ⟨B,0,none⟩ (.slice (some ⟨gg,0,none⟩) (L.length+1) cap):=⟨_,rfl⟩
 rw [← hw8]
 have hB8:w8.heap[B]?=some (.cells #[.slice (some ⟨gg,0,none⟩) (L.length+1) cap,.map (some M),.int .i64 x2,.int .i64 x3] 143 (0,0)):=by rw [hw8,set_at hB7];rfl
 have ho8:∀ k,k≠B→w8.heap[k]?=w7.heap[k]?:=fun k hk=>by rw [hw8,set_ne (Ne.symm hk)]
 have hs8:w8.heap.size=w7.heap.size:=by rw [hw8];simp
 have h8:w8.os=w7.os∧w8.tape=w7.tape∧w8.output=w7.output:=by rw [hw8];exact ⟨rfl,rfl,rfl⟩
 have hkB:∀ k,v.ownBlock=some k→(S k∨Since w.heap.size wr k):=fun k hk=>r2 k hk
 obtain ⟨k1,k2,k3⟩:=h.kept (w':=w8) hf (by omega) (h8.1.trans (hg.os.trans hal.os)) (h8.2.1.trans (hg.tape.trans hal.tape)) (h8.2.2.trans (hg.output.trans hal.output)) (R:=fun k=>k=B∨v.ownBlock=some k) (fun k hk=>hk.elim (fun hk=> .inl (hk▸h.mine)) fun hk=>hkB k hk) (fun e=>e.elim (fun e=>by omega) h.vE)
  (fun k h1 h2=>(ho8 k fun e=>h2 (.inl e)).trans (hk7 k h1 fun e=>h2 (.inr e)))
 have hne:∀ {k:Nat} {cs:Array Value} {t:TypeId} {fr:Nat × Nat},w7.heap[k]?=some (.cells cs t fr)→t≠143→k≠B:=fun hk ht e=>by
  rw [e,hB7] at hk
  injection hk with hk
  injection hk with _ h2 _
  exact ht h2.symm
 have hup:∀ {A:Option Addr} {xs:List Value},RowF (fun k=>S k∨Since w.heap.size wr k) wr A xs→RowF (fun k=>S k∨Since w.heap.size w8 k) (wr.alloc (.cells #[.int .i64 q.1,.slice A5 q.2.1.length c5,.int .i64 q.2.2] 85)) A xs:=fun h=>(h.keepO fun k hk=>hal.block k hk.lt).impS fun k hk=>hk.imp id fun hk=>hk.later (by omega)
 have hpush:=OwnES.push (S:=fun k=>S k∨Since w.heap.size w8 k) (q:=q) (owned_below r1 hal) (r3.imp fun _ _ h=>hup h) hc5.1 hc5.2 (hup (RowF.of_own ho5 fun k a b=> .inr ⟨a,b⟩)) hown hg fun k hk=>by
  simp only [Value.ownBlock,Option.some.injEq] at hk
  subst hk
  rcases hat with e|e
  ·exact (hkB _ e).imp id fun hk=>hk.later (by omega)
  ·exact .inr ⟨by omega,by omega⟩
 refine ⟨hB8,hpush.keep (fun k hk=> ?_) (fun k hk=> ?_),(h.map.keepT ?_ fun k cs t fr h1 h2=> ?_).imp fun k hk=>hk.imp id fun hk=>hk.later (by omega),k1,k2,h.mine,k3,fun e=> ?_⟩
 ·obtain ⟨cs',fr,hh⟩:=owned_type9 hown hk
  exact ho8 k (hne hh (by decide))
 ·obtain ⟨_,cs',fr,hh,_⟩:=hk
  exact ho8 k (hne hh (by decide))
 ·obtain ⟨es,ec,hes⟩:=h.map.map
  have hM7:w7.heap[M]?=wr.heap[M]?:=hk7 M (Array.getElem?_eq_some_iff.1 hes).1 fun e=>by
   obtain ⟨cs',fr,hh⟩:=owned_type9 r1 e
   rw [hes] at hh
   cases hh
  have hMB:M≠B:=fun e=>by
   rw [← hM7,e,hB7] at hes
   cases hes
  rw [ho8 M hMB,hM7]
 ·have h7:=hkt _ _ _ _ h1 (by rcases h2 with rfl|rfl<;>decide)
  rw [ho8 k (hne (h7.trans h1) (by rcases h2 with rfl|rfl<;>decide)),h7]
 ·simp only [Value.ownBlock,Option.some.injEq] at e
  rcases hat with e2|e2
  ·exact h.vE (by rw [e2,e])
  ·omega
theorem AddAt.done (h:AddAt S B M c q A cp v (L++[q]) (weightE (L++[q]):Int) q.2.2 (turnP L.length q.2.1 g (termsD q.2.1)) w wr) (hS:∀ k,S k→k<w.heap.size) (hst:Stand g L) (hgd:GoodE L) (hq:GoodF q.2.1) (hs:0≤q.2.2):BufAt (fun k=>S k∨Since w.heap.size wr k) wr B (L++[q]) q.2.2:=
 ⟨v,M,c,_,h.cells,.inl h.mine,h.own,h.map,hst.turned q,hgd.snoc hq,by omega,fun _=>(lastE_snoc L q).symm,fun k hk=>hk.elim (fun hk=>Nat.lt_of_lt_of_le (hS k hk) h.only.size) fun hk=>hk.2⟩
end
end Go.Proofs.YtldcadpemnpbmaaGreatDoor
set_option linter.unusedVariables false
namespace Go.Proofs.YtldcadpemnpbmaaGreatDoor
open Go Go.RowKit
section
variable {id:Int} {A:Option Addr} {n c:Nat} {l:List Fd} {w:World}
theorem good_inv9 (hg:GoodF l) (hl:l.length=n) (hr:FRow w w.heap.size A l):Calls Tryz.prog 163 #[docV id A n c] w (GotInv (termsD l) ((termsD l).map (placesD l)) w):=
 doc_Invert id A n c l w hl hr (by have :=hg.len;omega) (fun f hf=>by have :=hg.names f hf;have :=hg.texts f hf;omega) (fun f hf=>by have :=hg.wordsF f hf;omega) hg.apart hg.zero
theorem good_weight9 (hg:GoodF l) (hl:l.length=n) (hr:FRow w w.heap.size A l):Calls Tryz.prog 95 #[docV id A n c] w fun e w'=>e= .returned (.int .i64 (weightD l:Int))∧Below w.heap.size w w':=by
 rw [← tellD_weight hg.apart]
 exact doc_Weight id A n c l w hl hr (by have :=hg.len;omega) (fun f hf=>by have :=hg.texts f hf;omega) (fun f hf=>by have :=hg.wordsF f hf;omega)
end
end Go.Proofs.YtldcadpemnpbmaaGreatDoor
namespace Go.Proofs.YtldcadpemnpbmaaGreatDoor
open Go Go.RowKit
set_option linter.unusedVariables false
theorem kV_of {z:ByteArray} {t:Nm} (h:z.data.toList=t):kV t= .string z:=by
 subst h
 unfold kV
 simp
def GotTurn (S:Nat→Prop) (M c i:Nat) (d:List Fd) (g:List GP) (w:World) (e:Ending) (w':World):Prop:=
 e= .returned (.tuple #[])∧PmAt (fun k=>S k∨Since w.heap.size w' k) w' M c (turnP i d g (termsD d))∧OnlyIn (MapB S w M) w w'
def TurnRel (S:Nat→Prop) (M c i:Nat) (d:List Fd) (g:List GP) (ts:List Tm) (V1 V2:Value) (w:World) (x:Value) (wr:World):Prop:=
 ∃ j:Nat,j≤ts.length∧x= .int .i64 (j:Int)∧TurnAt S M c i d g ts V1 V2 w j wr
set_option maxHeartbeats 4000000 in
set_option maxRecDepth 100000 in
theorem buf_turn (S:Nat→Prop) (B M c:Nat) (g:List GP) (v0 x2 x3:Value) (id:Int) (A:Option Addr) (n cp:Nat) (d:List Fd) (i:Nat) (w:World)
    (hB:w.heap[B]?=some (.cells #[v0,.map (some M),x2,x3] 143 (0,0))) (hm:PmAt S w M c g) (hg:GoodF d) (hl:d.length=n) (hr:FRow w w.heap.size A d) (hi:i≤1000) (hbd:∀ key,(getP g key).length≤8000000):
    Calls Tryz.prog 93 #[.pointer (some ⟨B,0,none⟩),docV id A n cp,.int .i64 (i:Int)] w (GotTurn S M c i d g w):=by
  obtain ⟨t0,hi0,hz0,hz1,hz2⟩:=info_parts info_posting
  have hM:=hm.lt
  have hlB:=lt_of_block hB
  have hBM:B≠M:=fun e=>by
    obtain ⟨es,ec,hes⟩:=hm.map
    rw [← e,hB] at hes
    cases hes
  have HBK:Hid (∀ w',OnlyIn (MapB S w M) w w'→w'.heap[B]?=some (.cells #[v0,.map (some M),x2,x3] 143 (0,0))):=Lib.hid fun w' h=>(h.block B hlB fun e=>by
    rcases e with e|⟨_,cs,fr,hh,_⟩
    · exact hBM e
    · rw [hB] at hh
      injection hh with hh
      injection hh with _ h2 _
      exact absurd h2 (by decide)).trans hB
  have hb1:=boxD_below w id A n cp
  have HINV:=Lib.hid (good_inv9 (id:=id) (c:=cp) hg hl (hr.later hb1))
  have htl:(termsD d).length≤4000:=by
    have h1:=termsUp_length (l:=d) (M:=500) hg.wordsS d.length (Nat.le_refl _)
    rw [termsUp_all] at h1
    exact Nat.le_trans h1 (Nat.le_trans (Nat.mul_le_mul_right _ hg.len) (by omega))
  have hfit:∀ t∈termsD d,t.1.length≤12∧t.2.length≤4096:=fun t ht=>by
    obtain ⟨f,hf,h1,h2⟩:=(tellD_mem t d).1 ((termsD_mem hg.apart t).1 ht)
    have :=hg.names f hf
    have :=hg.texts f hf
    have :=words_size h2
    rw [h1]
    omega
  have hpl:∀ t,(placesD d t).length≤500:=fun t=>Nat.le_trans (placesW_length _ _ _) (hg.wordsS _)
  obtain ⟨ts,hts⟩:∃ ts,ts=termsD d:=⟨_,rfl⟩
  have hnb:∀ j key,(getP (turnP i d g (ts.take j)) key).length≤8004000:=fun j key=>by
    rw [getP_turn,List.length_append]
    have h1:=hbd key
    have h2:(postIn i d (ts.take j) key).length≤(ts.take j).length:=by
      unfold postIn
      rw [List.length_map]
      exact List.length_filter_le _ _
    have h3:ts.length≤4000:=by rw [hts];exact htl
    rw [List.length_take] at h2
    omega
  have HG:Hid (∀ e w',GotTurn S M c i d g w e w'↔(e= .returned (.tuple #[])∧PmAt (fun k=>S k∨Since w.heap.size w' k) w' M c (turnP i d g ts)∧OnlyIn (MapB S w M) w w')):=Lib.hid fun e w'=>by rw [hts];rfl
  rw [← hts] at HINV htl hfit
  have HFIT:=Lib.hid hfit
  have HPL:=Lib.hid hpl
  have HNB:=Lib.hid hnb
  have HMP:=Lib.hid hm
  have HB1:=Lib.hid hb1
  clear hm hg hr hbd hfit hpl hnb hts hBM hB hb1
  go_enter Tryz.func93,Tryz.ntmps93
  obtain ⟨w1,hw1⟩:∃ w1,w1=boxD w id A n cp:=⟨_,rfl⟩
  rw [← hw1] at HINV HB1
  go_wp2_with (first
    | (go_at_call 163; rw [show w.alloc _ = w1 from hw1.symm]; (with_reducible refine HINV.out.mono ?_); rintro e w2 ⟨V1, V2, rfl, ho1, ho2, hb2⟩
       obtain ⟨A1,c1,rfl,hc1,hu1⟩:=ho1.row
       obtain ⟨A2,c2,rfl,hc2,hu2⟩:=ho2.rows
       clear hu1 hu2
       rw [List.length_map] at hc2 ⊢
       obtain ⟨N,hN⟩:∃ N,N=ts.length:=⟨_,rfl⟩
       have hstart:TurnAt S M c i d g ts (.slice A1 ts.length c1) (.slice A2 ts.length c2) w 0 w2:=by
         have hbw:=HB1.out.trans (hb2.mono HB1.out.size)
         have hs1:=HB1.out.size
         rw [List.length_map] at ho2
         exact ⟨(HMP.out.keep fun k _ hk=>hbw.block k hk).imp fun k hk=> .inl hk,OnlyIn.of_below hbw,ho1.low hs1,ho2.low hs1 hs1⟩
       have HST:=Lib.hid hstart
       have HHN:=Lib.hid hN
       rw [← hN] at HST htl hc1 hc2 ⊢
       have HHW:=Lib.hid hw1
       clear ho1 ho2 hb2 hstart hN hw1))
  go_loopw [18] (fun x wr=>TurnRel S M c i d g ts (.slice A1 N c1) (.slice A2 N c2) w x wr) (fun x _=>N-(intOf x).toNat)
  case atStart=>exact ⟨0,Nat.zero_le _,rfl,HST.out⟩
  case round=>
    obtain ⟨j,hj,rfl,hat⟩:=hrel
    by_cases hlt:j<N
    · have hjl:j<ts.length:=by rw [← HHN.out];exact hlt
      obtain ⟨A3,c3,e3,hu3,hr3⟩:=OwnTm.row hat.terms
      clear hu3
      rw [HHN.out] at hat
      have hA3:A3=A1:=by injection e3 with e _ _;exact e.symm
      clear e3
      subst hA3
      obtain ⟨b1,o1,rfl,hb1,hx4,hy4⟩:=hr3.at_ hjl
      obtain ⟨x,hx,hx2⟩:=as_text ts[j].1
      obtain ⟨y,hy,hy2⟩:=as_text ts[j].2
      rw [← hx] at hx4
      rw [← hy] at hy4
      have hf:=HFIT.out _ (List.getElem_mem hjl)
      have CK:=Lib.hid (fun w'=>word_Key_at x y w' (by rw [hx,size_nm];omega) (by rw [hy,size_nm];omega))
      have hkey:(keyB x y).data.toList=keyT ts[j]:=by rw [keyB_list,hx2,hy2];rfl
      obtain ⟨z,hz⟩:∃ z,z=keyB x y:=⟨_,rfl⟩
      rw [← hz] at CK hkey
      have hkv:=kV_of hkey
      have j0:(0:Int)≤j:=by omega
      have j1:(j:Int)<N:=by omega
      have HAT:=Lib.hid hat
      have HKV:=Lib.hid hkv
      clear hat hr3 hx hx2 hy hy2 hf hkey hz hkv
      go_upto_region 6 with (first
        | (go_at_call 87; (with_reducible refine (CK.out _).mono ?_); rintro e w3 ⟨rfl, hg3⟩
           have HB3:=Lib.hid hg3.below
           clear hg3))
      have hb3:Below wr.heap.size wr w3:=((Below.refl _ wr).alloc (Nat.le_refl _) _).trans (HB3.out.mono (by simp))
      have hat3:=HAT.out.below hb3
      have hBK:=HBK.out w3 hat3.only
      obtain ⟨bq,oq,A',c',⟨c9,e9⟩,⟨csq,frq,hhq⟩,hcq,hpc,hpx,hrow⟩:=hat3.places hjl
      have hA2:A2=some ⟨bq,oq,none⟩:=by injection e9
      clear e9
      subst hA2
      obtain ⟨v,nn,cs,m,hmk,hv,hnn,hown,hput⟩:=hat3.put hjl hM
      have hput2:=hput A' c' hrow hpc hpx
      have hnb:=HNB.out j (keyT ts[j])
      rw [← hnn] at hnb
      have hp5:=HPL.out ts[j]
      obtain ⟨pl,hpl⟩:∃ pl,pl=placesD d ts[j]:=⟨_,rfl⟩
      rw [← hpl] at hput2 hp5 hcq hpc
      have hlook:∀ w',MapK w' M c m→(Instr.lookup 141 (.map (some M)) (.string z) false).run Tryz.prog w'= .ok v w':=fun w' h=>by
        rw [← HKV.out,hv]
        exact run_lookup_ks h _
      have hl0:=hlook w3.drew hmk
      have hl1:∀ o,_:=fun o=>hlook (w3.drew.alloc o) ((((Below.refl _ w3).drew.alloc (Nat.le_refl _) o).block M (Array.getElem?_eq_some_iff.1 hmk).1).trans hmk)
      have hl2:∀ o,_:=fun o=>hlook ((w3.alloc o).drew) ((((Below.refl _ w3).alloc (Nat.le_refl _) o).block M (Array.getElem?_eq_some_iff.1 hmk).1).trans hmk)
      have HS:Hid (∀ w',Below w3.heap.size w3 w'→w'.cell? ⟨B,1,none⟩=some (.map (some M))∧w'.cell? ⟨bq,oq+j,none⟩=some (.slice A' pl.length c')):=Lib.hid fun w' h=>
        ⟨(four_cells ((h.block _ (lt_of_block hBK)).trans hBK)).2.1,(h.cell (p:=⟨bq,_,none⟩) (lt_of_block hhq)).trans hcq⟩
      have HAPP:Hid (∀ (gg cap:Nat) (w5:World),w5.ownsRow 0 153 2 (.slice (some ⟨gg,0,none⟩) (nn+1) cap) (nn+1) (cs++[.int .i64 i,.slice A' pl.length c'])→
          (w3.drew.alloc (.cells #[.int .i64 i,.slice A' pl.length c'] 153)).grownBy w5 v.ownBlock→(v.ownBlock=some gg∨gg=w3.heap.size+1)→gg<w5.heap.size→
          ∃ w6,(Instr.mapUpdate 141 (.map (some M)) (.string z) (.slice (some ⟨gg,0,none⟩) (nn+1) cap)).run Tryz.prog w5= .ok () w6∧
            (w5.cell? ⟨B,1,none⟩=some (.map (some M))∧w5.cell? ⟨bq,oq+j,none⟩=some (.slice A' pl.length c'))∧
            (w6.cell? ⟨B,1,none⟩=some (.map (some M))∧w6.cell? ⟨bq,oq+j,none⟩=some (.slice A' pl.length c'))∧TurnAt S M c i d g ts (.slice (some ⟨b1,o1,none⟩) N c1) (.slice (some ⟨bq,oq,none⟩) N c2) w (j+1) w6):=Lib.hid fun gg cap w5 h1 h2 h3 h4=>by
        obtain ⟨hM5,hk5,hnM,hfin⟩:=hput2 gg cap w5 h1 h2 h3 h4
        obtain ⟨w6,hrun,hM6,hg6⟩:=run_update_ks hM5 (keyT ts[j]) (.slice (some ⟨gg,0,none⟩) (nn+1) cap)
        rw [HKV.out] at hrun
        have hkB:=(hk5 B (lt_of_block hBK) (owned_apart hown hBK (by decide))).trans hBK
        have hkq:=hk5 bq (lt_of_block hhq) (owned_apart hown hhq (by decide))
        have hM':∀ {k:Nat} {cs:Array Value} {t:TypeId} {fr:Nat × Nat},w5.heap[k]?=some (.cells cs t fr)→w6.heap[k]?=w5.heap[k]?:=fun {k cs t fr} h=>hg6.block k (Array.getElem?_eq_some_iff.1 h).1 fun e=>by
          cases e
          unfold MapK at hM5
          rw [hM5] at h
          cases h
        have hq5:w5.cell? ⟨bq,oq+j,none⟩=some (.slice A' pl.length c'):=(World.cell?_of_block (a:=⟨bq,_,none⟩) hkq).trans hcq
        exact ⟨w6,hrun,⟨(four_cells hkB).2.1,hq5⟩,⟨(four_cells ((hM' hkB).trans hkB)).2.1,(World.cell?_of_block (a:=⟨bq,_,none⟩) (hM' (hkq.trans hhq))).trans hq5⟩,by rw [HHN.out];exact hfin w6 hM6 hg6⟩
      have HOW:=Lib.hid hown
      clear hb3 hat3 hBK hhq hcq hrow hmk hv hnn hown hput hput2 hpl hlook hpx hx4 hy4
      go_region_held3 (fun w'=>w'.cell? ⟨B,1,none⟩=some (.map (some M))∧w'.cell? ⟨bq,oq+j,none⟩=some (.slice A' pl.length c'))
        (first|exact HS.out _ (Below.refl _ _).drew|exact HS.out _ ((Below.refl _ _).drew.alloc (Nat.le_refl _) _)|exact HS5.out|exact HS6.out)
        (first
          | (refine step_append_lies _ (by rfl) _ _ _ (by rfl) 0 153 t0 _ 2 32 Tryz.underlying94 hi0 hz0 hz1 hz2 rfl (by omega) v nn cs (by rfl) ((owned_below HOW.out ((Below.refl _ w3).drew)).alloc _)
              ⟨w3.heap.size,0,none⟩ 1 1 [.int .i64 i,.slice A' pl.length c'] (by rfl) (by rfl) (World.news_of_block (cs:=#[.int .i64 i,.slice A' pl.length c']) (t:=153) (fr:=(0,0)) (heap_alloc_new w3.drew _)) (by intro u hu;simp at hu;rcases hu with hu|hu<;>(subst hu;rfl))
              (by omega) (by unfold maxLen;omega) (by omega) (by simp) (w3.heap.size+1) (by simp) ?_
             intro gg cap w5 hown5 hg5 hat5 hlt5
             obtain ⟨w6,hrun6,hs5,hs6,hfin⟩:=HAPP.out gg cap w5 hown5 hg5 hat5 hlt5
             have HS5:=Lib.hid hs5
             have HS6:=Lib.hid hs6
             have HFIN:=Lib.hid hfin
             clear hs5 hs6 hfin hown5 hg5 hat5))
      all_goals
        go_wp2
        exact ⟨⟨j+1,hjl,by go_num,HFIN.out⟩,by simp [intOf];omega⟩
    · have hjt:j=ts.length:=by have :=HHN.out;omega
      subst hjt
      have h1:=hat.map
      have h2:=hat.only
      rw [List.take_length] at h1
      clear hat
      go_wp2
      go_end0
      exact (HG.out _ _).2 ⟨rfl,h1,h2⟩
end Go.Proofs.YtldcadpemnpbmaaGreatDoor
