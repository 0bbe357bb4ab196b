import Derived.Test.YtmoomnpbiifedaaGreatMAZz
import Derived.Test.YtmoomnpbiifedaaGreatMAQ06
import Derived.Deep.RegionHeld3
import Derived.Deep.AppendLies
import Derived.Deep.DeepCutAuto
import Derived.Test.YtmoomnpbiifedaaGreatMAQ04
import Derived.Test.YtmoomnpbiifedaaGreatMAQ03
import Derived.BigCall
import Derived.BigQuiet
import Derived.Deep.QuietTactic
import Derived.Test.YtmoomnpbiifedaaGreatMAQ01
namespace Go.Proofs.YtmoomnpbiifedaaGreat
open Go Go.RowKit
set_option linter.unusedVariables false
def OwnP0 (base:Nat) (w:World) (v:Value) (l:List Po):Prop:=∃ cs,w.ownsRow base 63 2 v l.length cs∧PoCells (RowS 0 w) l cs
theorem OwnP0.nil {base:Nat} {w:World}:OwnP0 base w (.slice none 0 0) []:=⟨[],World.ownsRow_nil _ _ _ _,rfl⟩
theorem OwnP0.below {base:Nat} {w w':World} {v:Value} {l:List Po} (h:OwnP0 base w v l) (hb:Below w.heap.size w w'):OwnP0 base w' v l:=by
 obtain ⟨cs,h1,h2⟩:=h
 exact ⟨cs,owned_below h1 hb,h2.imp fun _ _ h=>h.below hb⟩
theorem OwnP0.push {base:Nat} {w w':World} {v v':Value} {l:List Po} {cs:List Value} (h1:w.ownsRow base 63 2 v l.length cs) (h2:PoCells (RowS 0 w) l cs) {A:Option Addr} {c:Nat} {d:Int} {ps:List Int} (hc:ps.length≤c) (hcx:c≤maxLen) (hr:RowS 0 w A (ints ps))
  (hown:w'.ownsRow base 63 2 v' (l.length+1) (cs++[.int .i64 d,.slice A ps.length c])) (hg:w.grownBy w' v.ownBlock):OwnP0 base w' v' (l++[(d,ps)]):=by
 have h0:=owned_low h1 (Nat.zero_le base)
 refine ⟨_,?_,(h2.imp fun _ _ h=>h.grown h0 (by decide) hg).snoc hc hcx (hr.grown h0 (by decide) hg)⟩
 rw [List.length_append,List.length_singleton]
 exact hown
def GaveP0 (l:List Po) (w:World) (e:Ending) (w':World):Prop:=∃ v,e= .returned v∧OwnP0 w.heap.size w' v l∧Below w.heap.size w w'
theorem key_iff {z key:ByteArray} {t:Tm} (h:z.data.toList=keyT t):(z.toList==key.toList)=decide (keyT t=key.data.toList):=by
 rw [Lib.toList_data,Lib.toList_data,h,Bool.eq_iff_iff,beq_iff_eq,decide_eq_true_iff]
theorem postIn_length (i:Nat) (d:List Fd) (ts:List Tm) (key:Nm):(postIn i d ts key).length≤ts.length:=by
 unfold postIn
 rw [List.length_map]
 exact List.length_filter_le _ _
theorem postsE_length {M:Nat}:∀ {l:List En} {i:Nat} {key:Nm},(∀ q∈l,(termsD q.2.1).length≤M)→(postsE i l key).length≤l.length*M
 |[],i,key,_=>by simp [postsE]
 |q::l,i,key,h=>by
  have h1:=postsE_length (l:=l) (i:=i+1) (key:=key) fun x hx=>h x (List.mem_cons_of_mem _ hx)
  have h2:=postIn_length i q.2.1 (termsD q.2.1) key
  have h3:=h q (List.mem_cons_self ..)
  rw [postsE,List.length_append,List.length_cons,Nat.add_mul,Nat.one_mul]
  omega
def PostsRel09 (l:List En) (key:Nm) (w:World) (o i:Value) (wr:World):Prop:=∃ (k:Nat) (vo:Value),vo=o∧k≤l.length∧i= .int .i64 (k:Int)∧OwnP0 w.heap.size wr vo (postsE 0 (l.take k) key)∧Below w.heap.size w wr
def PostsRel9 (a:List Pn) (i0:Nat) (d:List Fd) (ts:List Tm) (key:Nm) (b b2:Nat) (w2:World) (V:Value) (o i:Value) (wi:World):Prop:=∃ (j:Nat) (vo:Value),vo=o∧j≤ts.length∧i= .int .i64 (j:Int)∧OwnP0 b wi vo (a++postIn i0 d (ts.take j) key)∧OwnTm b2 wi V ts∧Below b w2 wi
set_option maxHeartbeats 4000000 in
set_option maxRecDepth 100000 in
theorem ref09_Postings0 (A:Option Addr) (n c:Nat) (l:List En) (key:ByteArray) (w:World) (hl:l.length=n) (hr:Nest enS w w.heap.size A l) (hg:GoodE l) (hn:n≤100):
    Calls Tryz.prog 47 #[.slice A n c,.string key] w (GaveP0 (postsE 0 l key.data.toList) w):=by
  obtain ⟨i0,hi0,hz0,hz1,hz2⟩:=info_parts info_posting
  have HR:=Lib.hid hr
  have HG:=Lib.hid hg
  have HL:=Lib.hid hl
  clear hr hg hl
  go_enter Tryz.func47,Tryz.ntmps47
  go_wp2
  go_loopw [5,6,7,8] (fun o i t j wr=>PostsRel09 l key.data.toList w o i wr) (fun _ i _ _ _=>n-(intOf i).toNat)
  case atStart=>exact ⟨0,_,rfl,Nat.zero_le _,rfl,OwnP0.nil,Below.refl _ _⟩
  case round=>
    obtain ⟨k,vo,rfl,hk,rfl,hown,hbw⟩:=hrel
    obtain ⟨wo,rfl⟩:∃ wo,wo=wr:=⟨_,rfl⟩
    by_cases hlt:k<n
    · have hkl:k<l.length:=by rw [HL.out];exact hlt
      have hnr:=Nest.below HR.out hbw
      obtain ⟨b,off,A',c',e1,hb,g1,g2,_,_,_,hfr0⟩:=enS_at hnr hkl
      have hfr:FRow wo w.heap.size A' l[k].2.1:=hfr0
      subst e1
      have hkt:=postsE_take (key:=key.data.toList) hkl
      have hgk:=HG.out _ (List.getElem_mem hkl)
      have HC:=Lib.hid (good_terms (id:=l[k].1) (c:=c') hgk rfl (hfr.more hbw.size))
      have hbnd:(postsE 0 (l.take k) key.data.toList).length≤400000:=by
        have h1:=postsE_length (l:=l.take k) (i:=0) (key:=key.data.toList) (M:=4000) fun q hq=>terms_len9 (HG.out q (List.mem_of_mem_take hq))
        rw [List.length_take] at h1
        have h2:min k l.length*4000≤100*4000:=Nat.mul_le_mul_right _ (by omega)
        omega
      obtain ⟨m,hm⟩:∃ m,m=l[k].2.1.length:=⟨_,rfl⟩
      obtain ⟨q,hq⟩:∃ q,q=l[k].1:=⟨_,rfl⟩
      obtain ⟨d,hd⟩:∃ d,d=l[k].2.1:=⟨_,rfl⟩
      rw [← hd] at hgk hm hkt HC hfr g2
      have hfits:∀ t∈termsD d,t.1.length≤12∧t.2.length≤4096:=fun t ht=>term_fits9 hgk ht
      have htl:=terms_len9 hgk
      obtain ⟨ts,hts⟩:∃ ts,ts=termsD d:=⟨_,rfl⟩
      obtain ⟨a,ha⟩:∃ a,a=postsE 0 (l.take k) key.data.toList:=⟨_,rfl⟩
      rw [← hm,← hq,← hts] at HC
      rw [← hm] at g2
      rw [← hq] at g1
      rw [← ha] at hown hbnd
      rw [← ha,← hts] at hkt
      rw [← hts] at hfits htl
      have HFT:=Lib.hid hfits
      have HKT:=Lib.hid hkt
      have HOW:=Lib.hid hown
      have HGK:=Lib.hid hgk
      have HM:=Lib.hid hm
      have HFR:=Lib.hid hfr
      have HBB:=Lib.hid hb
      have p0:(0:Int)≤k:=by omega
      have p1:(k:Int)<n:=by omega
      clear hnr hfr hfr0 hm hts ha hq hkt hfits hown hgk hd hb
      go_wp2_with (go_at_call 80;(with_reducible refine HC.out.mono ?_);rintro e w2 ⟨v2,rfl,ho2,hb2⟩)
      obtain ⟨A2,c2,rfl,_,hr2⟩:=ho2.row
      obtain ⟨N,hN⟩:∃ N,N=ts.length:=⟨_,rfl⟩
      rw [← hN] at htl ho2 ⊢
      have HN:=Lib.hid hN
      have HB2:=Lib.hid (hbw.trans (hb2.mono hbw.size))
      have HOW2:=Lib.hid (HOW.out.below hb2)
      have HOT:=Lib.hid ho2
      have HS2:Hid (∀ wi,Below w.heap.size w2 wi→wi.cell? ⟨b,off+k*3,none⟩=some (.int .i64 q)∧wi.cell? ⟨b,off+k*3+1,none⟩=some (.slice A' m c')∧FRow wi w.heap.size A' d):=Lib.hid fun wi h=>by
        have h2:=(hb2.mono hbw.size).trans h
        exact ⟨(h2.cell (p:=⟨b,_,none⟩) HBB.out).trans g1,(h2.cell (p:=⟨b,_,none⟩) HBB.out).trans g2,HFR.out.below h2⟩
      have hs2:=HB2.out.size
      clear ho2 hr2 hb2 hN
      go_wp2
      go_loopw [5,8] (fun o i wi=>PostsRel9 a k d ts key.data.toList w.heap.size wo.heap.size w2 (.slice A2 N c2) o i wi) (fun _ i _=>N-(intOf i).toNat)
      case atStart=>exact ⟨0,_,rfl,Nat.zero_le _,rfl,by simpa [postIn] using HOW2.out,HOT.out,Below.refl _ _⟩
      case round=>
        obtain ⟨j,vi,rfl,hj,rfl,howi,hoti,hbi⟩:=hrel
        obtain ⟨wi,rfl⟩:∃ wi,wi=wr:=⟨_,rfl⟩
        have hsi:w.heap.size≤wi.heap.size:=Nat.le_trans hs2 hbi.size
        by_cases hjt:j<N
        · have hjl:j<ts.length:=by rw [← HN.out];exact hjt
          obtain ⟨b4,hA2⟩:∃ b4,A2=some ⟨b4,0,none⟩:=by
            rcases hoti.2 with ⟨hv,h5⟩|⟨g',cap,cur,hv,_⟩
            · omega
            · injection hv with e
              exact ⟨g',e⟩
          subst hA2
          obtain ⟨A9,c9,e4,_,hr4⟩:=OwnTm.row hoti
          have hA9:A9=some ⟨b4,0,none⟩:=by injection e4 with e _ _;exact e.symm
          clear e4
          subst hA9
          obtain ⟨_,_,e5,_,hx4,hy4⟩:=hr4.at_ hjl
          cases e5
          rw [Nat.zero_add] at hx4 hy4
          obtain ⟨x,hx,hx2⟩:=as_text ts[j].1
          obtain ⟨y,hy,hy2⟩:=as_text ts[j].2
          rw [← hx] at hx4
          rw [← hy] at hy4
          have hf:=HFT.out _ (List.getElem_mem hjl)
          have hkj:=postIn_take (i:=k) (d:=d) (key:=key.data.toList) hjl
          have hpl:=postIn_length k d (ts.take j) key.data.toList
          rw [List.length_take] at hpl
          have CK:=Lib.hid (fun w'=>ref_Key x y w' (by rw [hx,size_nm];omega) (by rw [hy,size_nm];omega))
          have hkey:(keyB x y).data.toList=keyT ts[j]:=by rw [keyB_list,hx2,hy2];rfl
          have htx:(x.data.toList,y.data.toList)=ts[j]:=Prod.ext hx2 hy2
          obtain ⟨z,hz⟩:∃ z,z=keyB x y:=⟨_,rfl⟩
          rw [← hz] at CK hkey
          have ht1:=key_iff (key:=key) hkey
          obtain ⟨F,hF⟩:∃ F,F=postIn k d (ts.take j) key.data.toList:=⟨_,rfl⟩
          rw [← hF] at hkj hpl howi
          obtain ⟨t1,t2,t3⟩:=HS2.out _ hbi
          have HPL:Hid (∀ w',Below wi.heap.size wi w'→Calls Tryz.prog 82 #[docV q A' m c',.agg #[.string x,.string y]] w' (GaveInts (placesD d ts[j]) w')):=Lib.hid fun w' h=>by
            have :=good_rplaces (id:=q) (c:=c') HGK.out HM.out.symm ((FRow.later (FRow.more t3 hsi) h)) x y
            rwa [htx] at this
          have HOI:=Lib.hid howi
          have HTI:=Lib.hid hoti
          have HKJ:=Lib.hid hkj
          have HBI:=Lib.hid hbi
          have j0:(0:Int)≤j:=by omega
          have j1:(j:Int)<N:=by omega
          have hjn:j≤4000:=by omega
          clear hx hx2 hy hy2 hf hkj hkey hz howi hoti hbi hF htx hr4
          by_cases hk9:keyT ts[j]=key.data.toList
          · rw [decide_eq_true hk9] at ht1
            have hkj:=HKJ.out
            rw [if_pos hk9] at hkj
            have HKJ2:=Lib.hid hkj
            clear hk9 hkj HKJ
            have hpd:(placesD d ts[j]).length≤500:=Nat.le_trans (placesW_length _ _ _) (HGK.out.wordsS _)
            obtain ⟨pl,hpl2⟩:∃ pl,pl=placesD d ts[j]:=⟨_,rfl⟩
            rw [← hpl2] at hpd HPL HKJ2
            obtain ⟨cs,hcs1,hcs2⟩:=HOI.out
            have HC1:=Lib.hid hcs1
            have HC2:=Lib.hid hcs2
            obtain ⟨M,hM⟩:∃ M,M=(a++F).length:=⟨_,rfl⟩
            rw [← hM] at HC1
            have hM4:M≤404000:=by rw [hM,List.length_append];omega
            have HMM:=Lib.hid hM
            have HS:Hid (∀ w',Below wi.heap.size wi w'→w'.cell? ⟨b,off+k*3,none⟩=some (.int .i64 q)∧w'.cell? ⟨b,off+k*3+1,none⟩=some (.slice A' m c')∧w'.cell? ⟨b4,j*2,none⟩=some (.string x)∧w'.cell? ⟨b4,j*2+1,none⟩=some (.string y)):=Lib.hid fun w' h=>by
              have hbl:b<wi.heap.size:=Nat.lt_of_lt_of_le HBB.out hsi
              have hbl4:=(HTI.out.lt b4 rfl).2
              exact ⟨(h.cell (p:=⟨b,_,none⟩) hbl).trans t1,(h.cell (p:=⟨b,_,none⟩) hbl).trans t2,(h.cell (p:=⟨b4,_,none⟩) hbl4).trans hx4,(h.cell (p:=⟨b4,_,none⟩) hbl4).trans hy4⟩
            clear hcs1 hcs2 hpl2 hM
            have HAPP:Hid (∀ (w4:World) (A4:Option Addr) (c4:Nat),Below wi.heap.size wi w4→(∃ b3,w4.ownsRow b3 3 1 (.slice A4 pl.length c4) pl.length (ints pl))→pl.length≤c4→c4≤maxLen→∀ (gg cap:Nat) (w5:World),w5.ownsRow w.heap.size 63 2 (.slice (some ⟨gg,0,none⟩) (M+1) cap) (M+1) (cs++[.int .i64 k,.slice A4 pl.length c4])→(w4.alloc (.cells #[.int .i64 k,.slice A4 pl.length c4] 63)).grownBy w5 vi.ownBlock→
                (w5.cell? ⟨b,off+k*3,none⟩=some (.int .i64 q)∧w5.cell? ⟨b,off+k*3+1,none⟩=some (.slice A' m c')∧w5.cell? ⟨b4,j*2,none⟩=some (.string x)∧w5.cell? ⟨b4,j*2+1,none⟩=some (.string y))∧
                OwnP0 w.heap.size w5 (.slice (some ⟨gg,0,none⟩) (M+1) cap) (a++F++[((k:Int),pl)])∧OwnTm wo.heap.size w5 (.slice (some ⟨b4,0,none⟩) N c2) ts∧Below w.heap.size w2 w5):=Lib.hid fun w4 A4 c4 hb4 ⟨b3,ho4⟩ hc1 hc2 gg cap w5 hown5 hg5=>by
              have hal:Below wi.heap.size wi (w4.alloc (.cells #[.int .i64 k,.slice A4 pl.length c4] 63)):=hb4.alloc hb4.size _
              have h1:=hal.size
              have hoA:=(owned_below HC1.out hb4).alloc (.cells #[.int .i64 k,.slice A4 pl.length c4] 63)
              have htA:=owned_below HTI.out hal
              have hb5:Below w.heap.size (w4.alloc (.cells #[.int .i64 k,.slice A4 pl.length c4] 63)) w5:=(Below.refl _ _).grown hg5 (by omega) fun g hg=>(HC1.out.lt g hg).1
              have hk4:∀ g,(Value.slice (some ⟨b4,0,none⟩) N c2).ownBlock=some g→w5.heap[g]?=(w4.alloc (.cells #[.int .i64 k,.slice A4 pl.length c4] 63)).heap[g]?:=fun g hg=>hg5.block g (htA.lt g hg).2 fun e=>owned_apart2 hoA htA (by decide) hg e.symm
              have ht5:OwnTm wo.heap.size w5 (.slice (some ⟨b4,0,none⟩) N c2) ts:=owned_keep htA hk4
              have hS4:=HS.out _ hal
              have hk40:=hk4 b4 rfl
              have hpush:=OwnP0.push (base:=w.heap.size) (l:=a++F) (c:=c4) (A:=A4) (cs:=cs) (d:=(k:Int)) (ps:=pl) (by rw [← HMM.out];exact hoA) (HC2.out.imp fun _ _ h=>h.below hal) hc1 hc2 ((RowS.of_own ho4).below ((Below.refl _ _).alloc (Nat.le_refl _) _)) (by rw [← HMM.out];exact hown5) hg5
              exact ⟨⟨(hb5.cell (p:=⟨b,_,none⟩) HBB.out).trans hS4.1,(hb5.cell (p:=⟨b,_,none⟩) HBB.out).trans hS4.2.1,(World.cell?_of_block (a:=⟨b4,_,none⟩) hk40).trans hS4.2.2.1,(World.cell?_of_block (a:=⟨b4,_,none⟩) hk40).trans hS4.2.2.2⟩,hpush,ht5,HBI.out.trans ((hal.mono hsi).trans hb5)⟩
            go_upto_region 10 with (first
              | (go_at_call 41; (with_reducible refine (CK.out _).mono ?_); rintro e w3 ⟨rfl, hb3⟩
                 have HB3:=Lib.hid hb3
                 clear hb3))
            go_region_held3 (fun w'=>w'.cell? ⟨b,off+k*3,none⟩=some (.int .i64 q)∧w'.cell? ⟨b,off+k*3+1,none⟩=some (.slice A' m c')∧w'.cell? ⟨b4,j*2,none⟩=some (.string x)∧w'.cell? ⟨b4,j*2+1,none⟩=some (.string y))
              (first|exact HS.out _ HB3.out.drew|exact HS.out _ HB4.out|exact HS.out _ (HB4.out.alloc HB4.out.size _)|exact HS5.out)
              (first
                | (go_at_call 82; (with_reducible refine (HPL.out _ HB3.out.drew).mono ?_); rintro e w4 ⟨v4, rfl, ho4, hb4⟩
                   obtain ⟨A4,c4,rfl,hc4,hr4⟩:=owned_roomed ho4
                   have HO4:Hid (∃ b3,w4.ownsRow b3 3 1 (.slice A4 pl.length c4) pl.length (ints pl)):=Lib.hid ⟨_,ho4⟩
                   have HB4:Hid (Below wi.heap.size wi w4):=Lib.hid (HB3.out.drew.trans (hb4.mono HB3.out.size))
                   clear hb4 ho4 hr4)
                | (refine step_append_lies _ (by rfl) _ _ _ (by rfl) w.heap.size 63 i0 _ 2 32 Tryz.underlying58 hi0 hz0 hz1 hz2 rfl (by omega) vi M cs (by rfl) ((owned_below HC1.out HB4.out).alloc _)
                    ⟨w4.heap.size,0,none⟩ 1 1 [.int .i64 k,.slice A4 pl.length c4] (by rfl) (by rfl) (World.news_of_block (cs:=#[.int .i64 k,.slice A4 pl.length c4]) (t:=63) (fr:=(0,0)) (heap_alloc_new w4 _)) (by intro u hu;simp at hu;rcases hu with hu|hu<;>(subst hu;rfl))
                    (by omega) (by unfold maxLen;omega) (by omega) (by have :=HB4.out.size;simp;omega) (w4.heap.size+1) (by simp) ?_
                   intro gg cap w5 hown5 hg5 hat hlt5
                   obtain ⟨HS5',HPU',HT5',HB5'⟩:=HAPP.out w4 A4 c4 HB4.out HO4.out hc4.1 hc4.2 gg cap w5 hown5 hg5
                   have HS5:=Lib.hid HS5'
                   have HPU:=Lib.hid HPU'
                   have HT5:=Lib.hid HT5'
                   have HB5:=Lib.hid HB5'
                   clear HS5' HPU' HT5' HB5' hown5 hg5 hat))
            all_goals
              go_wp2
              refine ⟨⟨j+1,_,rfl,hjl,by go_num,?_,HT5.out,HB5.out⟩,by simp [intOf];omega⟩
              rw [HKJ2.out,← List.append_assoc]
              exact HPU.out
          · rw [decide_eq_false hk9] at ht1
            have hkj:=HKJ.out
            rw [if_neg hk9] at hkj
            have HKJ2:=Lib.hid hkj
            clear hk9 hkj HKJ
            go_wp2_with (go_at_call 41;(with_reducible refine (CK.out _).mono ?_);rintro e w3 ⟨rfl,hb3⟩)
            refine ⟨⟨j+1,_,rfl,hjl,by go_num,?_,?_,HBI.out.trans (hb3.mono hsi)⟩,by simp [intOf];omega⟩
            · rw [HKJ2.out]
              exact HOI.out.below hb3
            · exact HTI.out.below hb3
        · have hjt2:j=ts.length:=by have :=HN.out;omega
          subst hjt2
          rw [List.take_length,← HKT.out] at howi
          have HOI:=Lib.hid howi
          have HBI:=Lib.hid (HB2.out.trans hbi)
          clear howi hoti
          go_wp2
          exact ⟨⟨k+1,_,rfl,hkl,by go_num,HOI.out,HBI.out⟩,by simp [intOf];omega⟩
    · have hkn:k=l.length:=by have :=HL.out;omega
      subst hkn
      rw [List.take_length] at hown
      go_wp2
      go_ret
      exact ⟨_,rfl,hown,hbw⟩
end Go.Proofs.YtmoomnpbiifedaaGreat
set_option linter.unusedVariables false
namespace Go.Proofs.YtmoomnpbiifedaaGreat
open Go
abbrev GP:=Nm × List Pn
def addP:List GP→Nm→Pn→List GP
 |[],t,a=>[(t,[a])]
 |p::g,t,a=>if p.1=t then (p.1,p.2++[a])::g else p::addP g t a
def getP:List GP→Nm→List Pn
 |[],_=>[]
 |p::g,t=>if p.1=t then p.2 else getP g t
theorem getP_add (t u:Nm) (a:Pn):∀ g:List GP,getP (addP g t a) u=if t=u then getP g u++[a] else getP g u
 |[]=>by by_cases h:t=u<;>simp [addP,getP,h]
 |p::g=>by
  rw [addP]
  by_cases h1:p.1=t
  ·rw [if_pos h1,getP,getP]
   by_cases h2:t=u
   ·rw [if_pos h2,if_pos (h1.trans h2),if_pos (h1.trans h2)]
   ·rw [if_neg h2,if_neg (fun e=>h2 (h1.symm.trans e)),if_neg (fun e=>h2 (h1.symm.trans e))]
  ·rw [if_neg h1,getP,getP,getP_add t u a g]
   by_cases h2:p.1=u
   ·rw [if_pos h2,if_pos h2,if_neg (fun e=>h1 (h2.trans e.symm))]
   ·rw [if_neg h2,if_neg h2]
theorem addP_keys (t:Nm) (a:Pn):∀ g:List GP,(addP g t a).map (·.1)=if t∈g.map (·.1) then g.map (·.1) else g.map (·.1)++[t]
 |[]=>by simp [addP]
 |p::g=>by
  rw [addP]
  by_cases h1:p.1=t
  ·rw [if_pos h1,if_pos (by simp [h1])]
   simp
  ·rw [if_neg h1,List.map_cons,addP_keys t a g]
   by_cases h2:t∈g.map (·.1)
   ·rw [if_pos h2,if_pos (show t∈(p::g).map (·.1) from List.mem_cons_of_mem _ h2)]
    simp
   ·rw [if_neg h2,if_neg (by rw [List.map_cons,List.mem_cons];exact fun h=>h.elim (fun e=>h1 e.symm) h2)]
    simp
theorem addP_mem {t:Nm} {a:Pn} {g:List GP} {x:Nm}:x∈(addP g t a).map (·.1)↔x∈g.map (·.1)∨x=t:=by
 rw [addP_keys]
 split
 ·rename_i h
  exact ⟨.inl,fun h'=>h'.elim id fun e=>e▸h⟩
 ·rw [List.mem_append,List.mem_singleton]
theorem addP_nodup {t:Nm} {a:Pn} {g:List GP} (h:(g.map (·.1)).Nodup):((addP g t a).map (·.1)).Nodup:=by
 rw [addP_keys]
 split
 ·exact h
 ·rename_i hn
  rw [List.nodup_append]
  exact ⟨h,by simp,fun x hx y hy e=>by rw [List.mem_singleton] at hy;subst hy;subst e;exact hn hx⟩
def turnP (i:Nat) (d:List Fd) (g:List GP) (ts:List Tm):List GP:=ts.foldl (fun g t=>addP g (keyT t) ((i:Int),placesD d t)) g
theorem turnP_take {i:Nat} {d:List Fd} {g:List GP} {ts:List Tm} {k:Nat} (hk:k<ts.length):turnP i d g (ts.take (k+1))=addP (turnP i d g (ts.take k)) (keyT ts[k]) ((i:Int),placesD d ts[k]):=by
 unfold turnP
 rw [List.take_succ_eq_append_getElem hk,List.foldl_append]
 rfl
theorem getP_turn (i:Nat) (d:List Fd) (key:Nm):∀ (ts:List Tm) (g:List GP),getP (turnP i d g ts) key=getP g key++postIn i d ts key
 |[],g=>by simp [turnP,postIn]
 |t::ts,g=>by
  rw [show turnP i d g (t::ts)=turnP i d (addP g (keyT t) ((i:Int),placesD d t)) ts from rfl,getP_turn i d key ts,getP_add]
  unfold postIn
  by_cases h:keyT t=key
  ·rw [if_pos h,List.filter_cons_of_pos (by simpa using h),List.map_cons,List.append_assoc]
   rfl
  ·rw [if_neg h,List.filter_cons_of_neg (by simpa using h)]
theorem turnP_nodup (i:Nat) (d:List Fd):∀ (ts:List Tm) (g:List GP),(g.map (·.1)).Nodup→((turnP i d g ts).map (·.1)).Nodup
 |[],g,h=>h
 |t::ts,g,h=>turnP_nodup i d ts _ (addP_nodup h)
theorem turnP_mem (i:Nat) (d:List Fd) {x:Nm}:∀ (ts:List Tm) (g:List GP),x∈(turnP i d g ts).map (·.1)↔x∈g.map (·.1)∨∃ t∈ts,keyT t=x
 |[],g=>by simp [turnP]
 |t::ts,g=>by
  rw [show turnP i d g (t::ts)=turnP i d (addP g (keyT t) ((i:Int),placesD d t)) ts from rfl,turnP_mem i d ts,addP_mem]
  constructor
  ·rintro ((h|h)|⟨t',h1,h2⟩)
   ·exact .inl h
   ·exact .inr ⟨t,List.mem_cons_self ..,h.symm⟩
   ·exact .inr ⟨t',List.mem_cons_of_mem _ h1,h2⟩
  ·rintro (h|⟨t',h1,h2⟩)
   ·exact .inl (.inl h)
   ·rcases List.mem_cons.1 h1 with rfl|h1
    ·exact .inl (.inr h2.symm)
    ·exact .inr ⟨t',h1,h2⟩
structure Stand (g:List GP) (l:List En):Prop where
 posts:∀ key,getP g key=postsE 0 l key
 nodup:(g.map (·.1)).Nodup
 keys:∀ x,x∈g.map (·.1)↔x∈keysE l
theorem Stand.nil:Stand [] []:=⟨fun _=>rfl,List.nodup_nil,fun x=>by simp [keysE]⟩
theorem Stand.turned {g:List GP} {l:List En} (h:Stand g l) (q:En):Stand (turnP l.length q.2.1 g (termsD q.2.1)) (l++[q]):=by
 refine ⟨fun key=> ?_,turnP_nodup _ _ _ _ h.nodup,fun x=> ?_⟩
 ·rw [getP_turn,h.posts,postsE_snoc,Nat.zero_add]
 ·rw [turnP_mem,h.keys,mem_keysE,mem_keysE]
  constructor
  ·rintro (⟨q',hq',h'⟩|h')
   ·exact ⟨q',List.mem_append_left _ hq',h'⟩
   ·exact ⟨q,by simp,h'⟩
  ·rintro ⟨q',hq',h'⟩
   rcases List.mem_append.1 hq' with hq'|hq'
   ·exact .inl ⟨q',hq',h'⟩
   ·rw [List.mem_singleton.1 hq'] at h';exact .inr h'
theorem keysE_nodup (l:List En):(keysE l).Nodup:=List.Pairwise.imp (fun h e=>by subst e;exact absurd h (List.lt_irrefl _)) (rise_keysE l)
theorem Stand.perm {g:List GP} {l:List En} (h:Stand g l):(g.map (·.1)).Perm (keysE l):=(List.perm_ext_iff_of_nodup h.nodup (keysE_nodup l)).2 h.keys
theorem Stand.length {g:List GP} {l:List En} (h:Stand g l):g.length=(keysE l).length:=by have :=h.perm.length_eq;rwa [List.length_map] at this
theorem sorted_keys {ks:List Nm} {l:List En} (h:ks.Perm (keysE l)):ks.mergeSort (fun x y=>decide (x≤y))=keysE l:=by
 have hp:=(List.mergeSort_perm ks (fun x y=>decide (x≤y))).trans h
 have hs:(ks.mergeSort fun x y=>decide (x≤y)).Pairwise (fun x y:Nm=>x≤y):=by
  have :=List.pairwise_mergeSort (le:=fun x y:Nm=>decide (x≤y)) (fun a b c h1 h2=>by
   simp only [decide_eq_true_eq] at*
   exact List.le_trans h1 h2) (fun a b=>by
   simp only [Bool.or_eq_true,decide_eq_true_eq]
   exact List.le_total a b) ks
  exact this.imp fun h=>by simpa using h
 refine hp.eq_of_pairwise (le:=fun x y:Nm=>x≤y) (fun a b _ _ h1 h2=>List.le_antisymm h1 h2) hs ((rise_keysE l).imp fun h=>Std.le_of_lt h)
end Go.Proofs.YtmoomnpbiifedaaGreat
set_option linter.unusedVariables false
namespace Go.Proofs.YtmoomnpbiifedaaGreat
open Go
theorem places_tell {d:List Fd} (h:ApartF d) (t:Tm):(placesD d t).length=((tellD d).filter fun p=>decide (p.1=t)).length:=by
 rw [← placesS_D h t]
 simp [placesS]
theorem places_pos {d:List Fd} (h:GoodF d) {t:Tm} (ht:t∈termsD d):0<(placesD d t).length:=by
 obtain ⟨p,hp,e⟩:=List.mem_map.1 ((termsD_mem h.apart t).1 ht)
 rw [places_tell h.apart]
 exact List.length_pos_of_mem (List.mem_filter.2 ⟨hp,by simpa using e⟩)
theorem places_len {d:List Fd} (h:GoodF d) (t:Tm):(placesD d t).length≤500:=Nat.le_trans (placesW_length _ _ _) (h.wordsS _)
theorem posts_there {key:Nm}:∀ {l:List En} {i:Nat},(∃ q∈l,∃ t∈termsD q.2.1,keyT t=key)→0<(postsE i l key).length
 |[],i,⟨q,hq,_⟩=>by cases hq
 |q::l,i,⟨x,hx,t,ht,e⟩=>by
  rw [postsE,List.length_append]
  rcases List.mem_cons.1 hx with rfl|hx
  ·have :0<(postIn i x.2.1 (termsD x.2.1) key).length:=by
    unfold postIn
    rw [List.length_map]
    exact List.length_pos_of_mem (List.mem_filter.2 ⟨ht,by simpa using e⟩)
   omega
  ·have :=posts_there (i:=i+1) ⟨x,hx,t,ht,e⟩
   omega
theorem posts_mem {key:Nm} {p:Pn}:∀ {l:List En} {i:Nat},p∈postsE i l key→∃ q∈l,∃ t∈termsD q.2.1,p.2=placesD q.2.1 t
 |[],i,h=>by cases h
 |q::l,i,h=>by
  rw [postsE] at h
  rcases List.mem_append.1 h with h|h
  ·unfold postIn at h
   obtain ⟨t,ht,rfl⟩:=List.mem_map.1 h
   exact ⟨q,List.mem_cons_self ..,t,(List.mem_filter.1 ht).1,rfl⟩
  ·obtain ⟨x,hx,t,ht,e⟩:=posts_mem h
   exact ⟨x,List.mem_cons_of_mem _ hx,t,ht,e⟩
theorem posts_good {l:List En} (hg:GoodE l) {key:Nm}:∀ p∈postsE 0 l key,0<p.2.length∧p.2.length≤500:=fun p hp=>by
 obtain ⟨q,hq,t,ht,e⟩:=posts_mem hp
 rw [e]
 exact ⟨places_pos (hg q hq) ht,places_len (hg q hq) t⟩
theorem postIn_one {i:Nat} {d:List Fd} (h:NoZero d) (key:Nm):postIn i d (termsD d) key=[]∨∃ t∈termsD d,postIn i d (termsD d) key=[((i:Int),placesD d t)]:=by
 have h1:=termsD_rise h
 unfold RiseT Rise at h1
 rw [List.pairwise_map] at h1
 have h2:=h1.filter (fun t=>decide (keyT t=key))
 unfold postIn
 match hs:(termsD d).filter fun t=>decide (keyT t=key) with
 |[]=>exact .inl rfl
 |[t]=>exact .inr ⟨t,(List.mem_filter.1 (hs▸List.mem_singleton_self t)).1,rfl⟩
 |t::u::s=>
  rw [hs] at h2
  have h3:=(List.pairwise_cons.1 h2).1 u (List.mem_cons_self ..)
  have mt:t∈(termsD d).filter fun t=>decide (keyT t=key):=by rw [hs];exact List.mem_cons_self ..
  have mu:u∈(termsD d).filter fun t=>decide (keyT t=key):=by rw [hs];exact List.mem_cons_of_mem _ (List.mem_cons_self ..)
  have ht:keyT t=key:=by simpa using (List.mem_filter.1 mt).2
  have hu:keyT u=key:=by simpa using (List.mem_filter.1 mu).2
  rw [ht,hu] at h3
  exact absurd h3 (List.lt_irrefl _)
theorem posts_len {l:List En} (hg:GoodE l) {key:Nm}:∀ (m:List En) (i:Nat),(∀ q∈m,q∈l)→(postsE i m key).length≤m.length
 |[],i,_=>by simp [postsE]
 |q::m,i,h=>by
  have ih:=posts_len hg (key:=key) m (i+1) fun x hx=>h x (List.mem_cons_of_mem _ hx)
  rw [postsE,List.length_append,List.length_cons]
  rcases postIn_one (i:=i) (hg q (h q (List.mem_cons_self ..))).zero key with e|⟨t,_,e⟩<;>rw [e]<;>simp <;>omega
theorem rises_of:∀ {ps:List Int} {x:Int},ps.Pairwise (· <·)→(∀ a∈ps,x<a)→risesZ x ps=true
 |[],x,_,_=>rfl
 |p::ps,x,h,hx=>by
  rw [List.pairwise_cons] at h
  rw [risesZ,rises_of h.2 h.1,Bool.and_true]
  exact decide_eq_true (hx p (List.mem_cons_self ..))
theorem places_may {d:List Fd} (h:GoodF d) {t:Tm} (ht:t∈termsD d):placesB (placesD d t)=true:=by
 have h0:=places_pos h ht
 have hne:placesD d t≠[]:=fun e=>by rw [e] at h0;cases h0
 rw [placesB_iff]
 refine ⟨rises_of (placesW_rise _ _ _) fun a ha=> ?_,hne,?_⟩
 ·have :=placesW_ge _ _ _ a ha
  omega
 ·have hm:(placesD d t).getLastD 0∈placesD d t:=by
   rw [List.getLastD_eq_getLast?,List.getLast?_eq_some_getLast hne]
   exact List.getLast_mem hne
  obtain ⟨k,hk,hk2⟩:=(placesW_mem _ _ _ _).1 hm
  have hl:=(List.getElem?_eq_some_iff.1 hk2).1
  have :=h.wordsS t.1
  rw [hk]
  omega
theorem posts_may {key:Nm}:∀ {l:List En} {i:Nat} {last:Int},GoodE l→last<i→i+l.length≤2147483648→mayB' last (postsE i l key)=true
 |[],i,last,_,_,_=>rfl
 |q::l,i,last,hg,hl,hi=>by
  have hq:=hg q (List.mem_cons_self ..)
  rw [List.length_cons] at hi
  have ih:=fun (last:Int) (h:last<((i+1:Nat):Int))=>posts_may (key:=key) (l:=l) (i:=i+1) (last:=last) (fun x hx=>hg x (List.mem_cons_of_mem _ hx)) h (by omega)
  rw [postsE]
  rcases postIn_one (i:=i) hq.zero key with e|⟨t,ht,e⟩
  ·rw [e,List.nil_append]
   exact ih last (by push_cast;omega)
  ·rw [e,List.singleton_append,mayB'_cons]
   exact ⟨hl,by show (i:Int)<2147483648;omega,places_may hq ht,ih _ (by push_cast;omega)⟩
end Go.Proofs.YtmoomnpbiifedaaGreat
set_option linter.unusedVariables false
namespace Go.Proofs.YtmoomnpbiifedaaGreat
open Go
structure PartsP where
 ids:List Int
 seqs:List Int
 keys:List Nm
 lists:List (List Pn)
deriving DecidableEq
def mayL (n:Nat) (l:List Pn):Bool:=mayB' (-1) l&&(decide (l.length≠0)&&decide (∀ p,l.getLast?=some p→p.1<(n:Int)))
def mayPs (x:PartsP):Bool:=decide (x.ids.length=x.seqs.length)&&(decide (x.keys.length=x.lists.length)&&(risesZ (-1) x.seqs&&(risesN x.keys&&x.lists.all (mayL x.ids.length))))
def buildP (l:List En):PartsP:=⟨l.map (·.1),l.map (·.2.2),keysE l,(keysE l).map fun k=>postsE 0 l k⟩
def atP:List Nm→List (List Pn)→Nm→List Pn
 |k::ks,l::ls,key=>if k=key then l else atP ks ls key
 |_,_,_=>[]
theorem atP_none {key:Nm}:∀ {ks:List Nm} {ls:List (List Pn)},(∀ k∈ks,k≠key)→atP ks ls key=[]
 |[],_,_=>by simp [atP]
 |k::ks,[],_=>by simp [atP]
 |k::ks,l::ls,h=>by rw [atP,if_neg (h k (List.mem_cons_self ..)),atP_none fun x hx=>h x (List.mem_cons_of_mem _ hx)]
theorem atP_at {key:Nm}:∀ {ks:List Nm} {ls:List (List Pn)} {i:Nat} (hi:i<ks.length) (hl:i<ls.length),ks[i]=key→(∀ j (hj:j<ks.length),j<i→ks[j]≠key)→atP ks ls key=ls[i]
 |[],_,i,hi,_,_,_=>by simp at hi
 |k::ks,[],i,_,hl,_,_=>by simp at hl
 |k::ks,l::ls,0,_,_,h,_=>by simp at h;simp [atP,h]
 |k::ks,l::ls,i+1,hi,hl,h,hn=>by
  have h0:=hn 0 (by simp) (by omega)
  simp at h0
  rw [atP,if_neg h0]
  simpa using atP_at (ks:=ks) (ls:=ls) (i:=i) (by simpa using hi) (by simpa using hl) (by simpa using h) fun j hj hji=>by
   have :=hn (j+1) (by simpa using hj) (by omega)
   rw [zC] at this
   exact this
def postsPs (x:PartsP) (key:Nm):List Pn:=atP x.keys x.lists key
end Go.Proofs.YtmoomnpbiifedaaGreat
set_option linter.unusedVariables false
namespace Go.Proofs.YtmoomnpbiifedaaGreat
open Go Go.RowKit
def LCells (w:World) (B:Nat) (ls:List (List Pn)) (cs:List Value):Prop:=cs.length=ls.length∧∀ i (h:i<ls.length),∃ A c,cs[i]?=some (.slice A ls[i].length c)∧(ls[i].length≤c∧c≤maxLen)∧Posts w B A ls[i]
def LPosts (w:World) (B:Nat) (A:Option Addr) (ls:List (List Pn)):Prop:=∃ cs,LCells w B ls cs∧Row w B A cs
section
variable {w w':World} {B B':Nat} {A:Option Addr} {ls:List (List Pn)} {cs:List Value}
theorem LCells.nil:LCells w B [] []:=⟨rfl,fun i h=>by simp at h⟩
theorem LCells.below (h:LCells w B ls cs) (hb:Below B w w'):LCells w' B ls cs:=⟨h.1,fun i hi=>by obtain ⟨A,c,h1,h2,h3⟩:=h.2 i hi;exact ⟨A,c,h1,h2,h3.below hb⟩⟩
theorem LCells.more (h:LCells w B ls cs) (hB:B≤B'):LCells w B' ls cs:=⟨h.1,fun i hi=>by obtain ⟨A,c,h1,h2,h3⟩:=h.2 i hi;exact ⟨A,c,h1,h2,h3.more hB⟩⟩
theorem LPosts.nil:LPosts w B A []:=⟨[],LCells.nil,Row.nil⟩
theorem LPosts.below (h:LPosts w B A ls) (hb:Below B w w'):LPosts w' B A ls:=by obtain ⟨cs,h1,h2⟩:=h;exact ⟨cs,h1.below hb,h2.below hb⟩
theorem LPosts.more (h:LPosts w B A ls) (hB:B≤B'):LPosts w B' A ls:=by obtain ⟨cs,h1,h2⟩:=h;exact ⟨cs,h1.more hB,h2.more hB⟩
theorem LPosts.later (h:LPosts w w.heap.size A ls) (hb:Below w.heap.size w w'):LPosts w' w'.heap.size A ls:=(h.below hb).more hb.size
theorem LPosts.at_ (h:LPosts w B A ls) {i:Nat} (hi:i<ls.length):∃ b off A' c',A=some ⟨b,off,none⟩∧b<B∧w.cell? ⟨b,off+i,none⟩=some (.slice A' ls[i].length c')∧(ls[i].length≤c'∧c'≤maxLen)∧Posts w B A' ls[i]:=by
 obtain ⟨cs,h1,h2⟩:=h
 obtain ⟨A',c',g1,g2,g3⟩:=h1.2 i hi
 obtain ⟨b,off,rfl,hb,hc⟩:=Row.at_ h2 (by rw [h1.1];omega)
 exact ⟨b,off,A',c',rfl,hb,hc _ _ g1,g2,g3⟩
end
end Go.Proofs.YtmoomnpbiifedaaGreat
namespace Go.Proofs.YtmoomnpbiifedaaGreat
open Go Go.RowKit
set_option linter.unusedVariables false
theorem cells4 {w:World} {b:Nat} {x y z u:Value} {t:TypeId} (h:w.heap[b]?=some (.cells #[x,y,z,u] t (0,0))):w.cell? ⟨b,0,none⟩=some x∧w.cell? ⟨b,1,none⟩=some y∧w.cell? ⟨b,2,none⟩=some z∧w.cell? ⟨b,3,none⟩=some u:=by
 simp [World.cell?,h]
def PBox (w:World) (V:Array Value) (wr:World):Prop:=Below w.heap.size w wr∧w.heap.size+1≤wr.heap.size∧wr.heap[w.heap.size]?=some (.cells V 26 (0,0))
theorem PBox.below {w wr w':World} {V:Array Value} (h:PBox w V wr) (hb:Below wr.heap.size wr w'):PBox w V w':=by
 obtain ⟨h0,h1,h2⟩:=h
 exact ⟨h0.trans (hb.mono (by omega)),by have :=hb.size;omega,(hb.block _ (by omega)).trans h2⟩
theorem pBox_start (w:World) (V:Array Value):PBox w V (w.alloc (.cells V 26)):=
 ⟨(Below.refl _ w).alloc (Nat.le_refl _) _,by simp,heap_alloc_new w _⟩
def FindRel (w:World) (V:Array Value) (ks:List Nm) (key:ByteArray) (r i:Value) (wr:World):Prop:=
 r= .slice none 0 0∧∃ k:Nat,k≤ks.length∧i= .int .i64 (k:Int)∧PBox w V wr∧∀ j (hj:j<ks.length),j<k→ks[j]≠key.data.toList
def FoundPo (l:List Po) (w:World) (e:Ending) (w':World):Prop:=∃ A c,e= .returned (.slice A l.length c)∧(l.length≤c∧c≤maxLen)∧Posts w' w'.heap.size A l∧Below w.heap.size w w'
set_option maxHeartbeats 2000000 in
set_option maxRecDepth 100000 in
theorem ref10_Postings (A1 A2 A3 A4:Option Addr) (n1 c1 n2 c2 n3 c3 n4 c4:Nat) (x:PartsP) (key:ByteArray) (w:World) (h3:x.keys.length=n3) (h4:x.lists.length=n4) (hr3:Row w w.heap.size A3 (strs x.keys)) (hr4:LPosts w w.heap.size A4 x.lists) (h34:n3≤n4) (hn:n3≤9223372036854775807):
  Calls Tryz.prog 40 #[.agg #[.slice A1 n1 c1,.slice A2 n2 c2,.slice A3 n3 c3,.slice A4 n4 c4],.string key] w (FoundPo (postsPs x key.data.toList) w):=by
 have HR3:=Lib.hid hr3
 have HR4:=Lib.hid hr4
 have H3:=Lib.hid h3
 have H4:=Lib.hid h4
 obtain ⟨V,hV⟩:∃ V:Array Value,V=#[.slice A1 n1 c1,.slice A2 n2 c2,.slice A3 n3 c3,.slice A4 n4 c4]:=⟨_,rfl⟩
 have HV:=Lib.hid hV
 clear hr3 hr4 h3 h4 hV
 go_enter Tryz.func40,Tryz.ntmps40
 go_wp2
 go_loopw [4,5] (fun r i wr=>FindRel w V x.keys key r i wr) (fun _ i _=>n3-(intOf i).toNat)
 case atStart=>
  refine ⟨rfl,0,Nat.zero_le _,rfl,?_,fun j _ hj=>by omega⟩
  rw [HV.out]
  exact pBox_start w _
 case round=>
  obtain ⟨rfl,k,hk,rfl,hbox,hall⟩:=hrel
  have hbw:=hbox.1
  have hsz:=hbox.2.1
  have HBOX:=Lib.hid hbox
  have HALL:=Lib.hid hall
  have q2:wr.cell? ⟨w.heap.size,2,none⟩=some (.slice A3 n3 c3):=by have :=hbox.2.2;rw [HV.out] at this;exact (cells4 this).2.2.1
  have q3:wr.cell? ⟨w.heap.size,3,none⟩=some (.slice A4 n4 c4):=by have :=hbox.2.2;rw [HV.out] at this;exact (cells4 this).2.2.2
  clear hall hbox
  by_cases hkn:k<n3
  ·have hlt:k<x.keys.length:=by rw [H3.out];exact hkn
   have hlt4:k<x.lists.length:=by rw [H4.out];omega
   obtain ⟨b3,o3,e3,hb3,hc3⟩:=row_nm (HR3.out.below hbw) hlt
   obtain ⟨b4,o4,A',c',e4,hb4,hc4,hl',hp'⟩:=(HR4.out.below hbw).at_ hlt4
   subst e3 e4
   have hi0:(0:Int)≤k:=by omega
   have hi1:(k:Int)<n3:=by omega
   have hi2:(k:Int)<n4:=by omega
   obtain ⟨s,hs,hs2⟩:=as_text x.keys[k]
   rw [← hs] at hc3
   have HPO:=Lib.hid hp'
   have HLE:=Lib.hid hl'
   obtain ⟨m,hm⟩:∃ m,m=x.lists[k].length:=⟨_,rfl⟩
   rw [← hm] at hc4
   have HM:=Lib.hid hm
   have HBW:=Lib.hid hbw
   clear hs hm hp' hl' hbw
   by_cases he:x.keys[k]=key.data.toList
   ·have t1:=same_true (s:=s) (t:=key) (by rw [hs2,he])
    have HP:Hid (postsPs x key.data.toList=x.lists[k]):=Lib.hid (atP_at hlt hlt4 he fun j hj hjk=>HALL.out j hj hjk)
    clear hs2 he
    go_wp2
    go_ret
    refine ⟨A',c',by rw [HP.out,HM.out];rfl,by rw [HP.out];exact HLE.out,?_,HBW.out⟩
    rw [HP.out]
    exact HPO.out.more (by omega)
   ·have t1:=same_false (s:=s) (t:=key) (by rw [hs2];exact he)
    have HN:Hid (∀ j (hj:j<x.keys.length),j<k+1→x.keys[j]≠key.data.toList):=Lib.hid fun j hj hjk=>by
     by_cases e:j=k
     ·subst e;exact he
     ·exact HALL.out j hj (by omega)
    clear hs2 he
    go_wp2
    go_roundw
    case rel=>exact ⟨rfl,k+1,by omega,by go_num,HBOX.out,HN.out⟩
    case measure=>simp [intOf];omega
  ·have HP:Hid (postsPs x key.data.toList=[]):=Lib.hid (atP_none fun kk hkk=>by
    obtain ⟨j,hj,rfl⟩:=List.mem_iff_getElem.1 hkk
    exact HALL.out j hj (by have :=H3.out;omega))
   have HBW:=Lib.hid hbw
   clear hbw
   go_wp2
   go_ret
   refine ⟨none,0,by rw [HP.out];rfl,by rw [HP.out];exact ⟨Nat.le_refl _,Nat.zero_le _⟩,?_,HBW.out⟩
   rw [HP.out]
   exact Posts.nil
end Go.Proofs.YtmoomnpbiifedaaGreat
namespace Go.Proofs.YtmoomnpbiifedaaGreat
open Go Go.RowKit
set_option linter.unusedVariables false
theorem ne_atI {α:Type} [DecidableEq α] {xs ys:List α} {k:Nat} (hx:k<xs.length) (hy:k<ys.length) (h:xs[k]≠ys[k]):decide (xs=ys)=false:=decide_eq_false fun e=>h (by subst e;rfl)
theorem eq_allI {α:Type} [DecidableEq α] {xs ys:List α} (hl:xs.length=ys.length) (h:∀ j (hj:j<xs.length),xs[j]=ys[j]'(by omega)):decide (xs=ys)=true:=decide_eq_true (List.ext_getElem hl fun j h1 _=>h j h1)
def SameRelI (xs ys:List Int) (w:World) (i:Value) (wr:World):Prop:=∃ k:Nat,k≤xs.length∧i= .int .i64 (k:Int)∧Below w.heap.size w wr∧∀ j (hj:j<xs.length) (hj':j<ys.length),j<k→xs[j]=ys[j]
set_option maxHeartbeats 1000000 in
set_option maxRecDepth 100000 in
theorem ref01_Same_any (A C:Option Addr) (n m c d:Nat) (xs ys:List Int) (w:World) (hn:xs.length=n) (hm:ys.length=m) (hx:Row w w.heap.size A (ints xs)) (hy:Row w w.heap.size C (ints ys)) (hxl:n≤9223372036854775807) (hyl:m≤9223372036854775807):
  Calls Tryz.prog 59 #[.slice A n c,.slice C m d] w fun e w'=>e= .returned (.bool (decide (xs=ys)))∧Below w.heap.size w w':=by
 subst hn hm
 have HX:=Lib.hid hx
 have HY:=Lib.hid hy
 obtain ⟨z,hz⟩:∃ z,z=decide (xs=ys):=⟨_,rfl⟩
 rw [← hz]
 have HZ:=Lib.hid hz
 clear hx hy hz
 by_cases hlen:xs.length=ys.length
 ·go_enter Tryz.func59,Tryz.ntmps59
  go_wp2
  go_loopw [4,5] (fun r i wr=>r= .bool false∧SameRelI xs ys w i wr) (fun _ i _=>xs.length-(intOf i).toNat)
  case atStart=>exact ⟨rfl,0,Nat.zero_le _,rfl,Below.refl _ _,fun j _ _ hj=>by omega⟩
  case round=>
   obtain ⟨rfl,k,hk,rfl,hbw,hall⟩:=hrel
   by_cases hlt:k<xs.length
   ·have hlt2:k<ys.length:=by omega
    obtain ⟨b1,o1,e1,_,hc1⟩:=row_int (HX.out.below hbw) hlt
    obtain ⟨b2,o2,e2,_,hc2⟩:=row_int (HY.out.below hbw) hlt2
    subst e1 e2
    have hi0:(0:Int)≤k:=by omega
    have hi1:(k:Int)<xs.length:=by omega
    have hi2:(k:Int)<ys.length:=by omega
    by_cases he:xs[k]=ys[k]
    ·have HN:Hid (∀ j (hj:j<xs.length) (hj':j<ys.length),j<k+1→xs[j]=ys[j]):=Lib.hid fun j hj hj' hjk=>by
      by_cases e:j=k
      ·subst e;exact he
      ·exact hall j hj hj' (by omega)
     rw [← he] at hc2
     obtain ⟨x,hx⟩:∃ x,x=xs[k]:=⟨_,rfl⟩
     rw [← hx] at hc1 hc2
     clear hall he hx
     go_wp2
     go_quiet (fail)
     go_wp2
     go_roundw
     case rel=>exact ⟨rfl,k+1,by omega,by go_num,hbw.trans ⟨rfl,rfl,rfl,Nat.le_refl _,fun _ _=>rfl⟩,HN.out⟩
     case measure=>simp [intOf];omega
    ·have hzf:z=false:=by rw [HZ.out];exact ne_atI hlt hlt2 he
     subst hzf
     have hne:(xs[k] != ys[k])=true:=by simpa using he
     obtain ⟨x,hx⟩:∃ x,x=xs[k]:=⟨_,rfl⟩
     obtain ⟨y,hy⟩:∃ y,y=ys[k]:=⟨_,rfl⟩
     rw [← hx] at hc1 hne
     rw [← hy] at hc2 hne
     clear hall he hx hy
     go_wp2
     go_quiet (fail)
     go_wp2
     go_ret
     exact ⟨rfl,hbw.trans ⟨rfl,rfl,rfl,Nat.le_refl _,fun _ _=>rfl⟩⟩
   ·have hzt:z=true:=by rw [HZ.out];exact eq_allI hlen fun j hj=>hall j hj (by omega) (by omega)
    subst hzt
    clear hall
    go_wp2
    go_ret
    exact ⟨rfl,hbw⟩
 ·have hzf:z=false:=by rw [HZ.out];exact decide_eq_false fun e=>hlen (by rw [e])
  subst hzf
  go_enter Tryz.func59,Tryz.ntmps59
  go_wp2
  go_ret
  exact ⟨rfl,Below.refl _ _⟩
end Go.Proofs.YtmoomnpbiifedaaGreat
namespace Go.Proofs.YtmoomnpbiifedaaGreat
open Go Go.RowKit
set_option linter.unusedVariables false
def SameRelP (l r:List Po) (w:World) (q i:Value) (wr:World):Prop:=q= .bool false∧∃ k:Nat,k≤l.length∧i= .int .i64 (k:Int)∧Below w.heap.size w wr∧∀ j (hj:j<l.length) (hj':j<r.length),j<k→l[j]=r[j]
set_option maxHeartbeats 2000000 in
set_option maxRecDepth 100000 in
theorem ref05_Same_any (A C:Option Addr) (n m c d:Nat) (l r:List Po) (w:World) (hn:l.length=n) (hm:r.length=m) (ha:Posts w w.heap.size A l) (hb:Posts w w.heap.size C r) (hnx:n≤9223372036854775807) (hmx:m≤9223372036854775807) (hpl:∀ p∈l,p.2.length≤9223372036854775807) (hpr:∀ p∈r,p.2.length≤9223372036854775807):
    Calls Tryz.prog 38 #[.slice A n c,.slice C m d] w fun e w'=>e= .returned (.bool (decide (l=r)))∧Below w.heap.size w w':=by
  have HL:=Lib.hid hn
  have HM:=Lib.hid hm
  have HA:=Lib.hid ha
  have HB:=Lib.hid hb
  have HPL:=Lib.hid hpl
  have HPR:=Lib.hid hpr
  obtain ⟨z,hz⟩:∃ z,z=decide (l=r):=⟨_,rfl⟩
  rw [← hz]
  have HZ:=Lib.hid hz
  clear ha hb hpl hpr hz hn hm
  by_cases hlen:m=n
  · subst hlen
    go_enter Tryz.func38,Tryz.ntmps38
    go_wp2
    go_loopw [4,5] (fun q i wr=>SameRelP l r w q i wr) (fun _ i _=>m-(intOf i).toNat)
    case atStart=>exact ⟨rfl,0,Nat.zero_le _,rfl,Below.refl _ _,fun j _ _ hj=>by omega⟩
    case round=>
      obtain ⟨rfl,k,hk,rfl,hbw,hall⟩:=hrel
      have hsz:=hbw.size
      by_cases hkm:k<m
      · have hlt:k<l.length:=by rw [HL.out];exact hkm
        have hlt2:k<r.length:=by rw [HM.out];exact hkm
        obtain ⟨b1,o1,e1,hb1,hc1,A1,c1,hd1,hl1,hx1,hr1⟩:=(HA.out.below hbw).at_ hlt
        obtain ⟨b2,o2,e2,hb2,hc2,A2,c2,hd2,hl2,hx2,hr2⟩:=(HB.out.below hbw).at_ hlt2
        subst e1 e2
        have g1:l.getD k (0,[])=l[k]:=by rw [List.getD_eq_getElem?_getD,List.getElem?_eq_getElem hlt];rfl
        have g2:r.getD k (0,[])=r[k]:=by rw [List.getD_eq_getElem?_getD,List.getElem?_eq_getElem hlt2];rfl
        rw [g1] at hc1 hd1 hl1 hr1
        rw [g2] at hc2 hd2 hl2 hr2
        clear g1 g2
        have hlp:=HPL.out l[k] (List.getElem_mem hlt)
        have hrp:=HPR.out r[k] (List.getElem_mem hlt2)
        have HALL:=Lib.hid hall
        clear hall
        obtain ⟨q1,hq1⟩:∃ q,q=l[k]:=⟨_,rfl⟩
        obtain ⟨q2,hq2⟩:∃ q,q=r[k]:=⟨_,rfl⟩
        rw [← hq1] at hc1 hd1 hl1 hr1 hlp
        rw [← hq2] at hc2 hd2 hl2 hr2 hrp
        have HQ1:=Lib.hid hq1
        have HQ2:=Lib.hid hq2
        clear hq1 hq2
        obtain ⟨y1,ps1⟩:=q1
        obtain ⟨y2,ps2⟩:=q2
        simp only at hc1 hd1 hl1 hr1 hc2 hd2 hl2 hr2 hlp hrp
        have hi0:(0:Int)≤k:=by omega
        have hi1:(k:Int)<m:=by omega
        have HR1:=Lib.hid hr1
        have HR2:=Lib.hid hr2
        clear hr1 hr2
        obtain ⟨P1,hP1⟩:∃ P,P=ps1.length:=⟨_,rfl⟩
        obtain ⟨P2,hP2⟩:∃ P,P=ps2.length:=⟨_,rfl⟩
        rw [← hP1] at hd1 hl1 hlp
        rw [← hP2] at hd2 hl2 hrp
        have HP1:=Lib.hid hP1
        have HP2:=Lib.hid hP2
        clear hP1 hP2
        obtain ⟨z1,hz1⟩:∃ z,z=decide (ps1=ps2):=⟨_,rfl⟩
        have HZ1:=Lib.hid hz1
        have SM:Hid (∀ w1,Below w.heap.size wr w1→Calls Tryz.prog 59 #[.slice A1 P1 c1,.slice A2 P2 c2] w1 fun e w'=>e= .returned (.bool z1)∧Below w1.heap.size w1 w'):=Lib.hid fun w1 h1=>by
          rw [HZ1.out]
          exact ref01_Same_any A1 A2 P1 P2 c1 c2 ps1 ps2 w1 HP1.out.symm HP2.out.symm ((HR1.out.below h1).more (by have :=h1.size;omega)) ((HR2.out.below h1).more (by have :=h1.size;omega)) hlp hrp
        clear hz1
        by_cases hy:y1=y2
        · subst hy
          by_cases hp:z1=true
          · subst hp
            have HN:Hid (∀ j (hj:j<l.length) (hj':j<r.length),j<k+1→l[j]=r[j]):=Lib.hid fun j hj hj' hjk=>by
              by_cases e:j=k
              · subst e
                have hpe:ps1=ps2:=of_decide_eq_true HZ1.out.symm
                rw [← HQ1.out,← HQ2.out,hpe]
              · exact HALL.out j hj hj' (by omega)
            go_wp2
            go_region_held3 (fun w'=>w'.cell? ⟨b1,o1+k*2+1,none⟩=some (.slice A1 P1 c1)∧w'.cell? ⟨b2,o2+k*2+1,none⟩=some (.slice A2 P2 c2))
              (first|exact ⟨hd1,hd2⟩|exact ⟨hd5,hd6⟩)
              (first
                | (go_at_call 59; refine (SM.out _ (Below.refl _ _).drew).mono ?_; rintro e w5 ⟨rfl, hb5⟩
                   have hb6:=(Below.refl w.heap.size wr).drew.trans (hb5.mono (by show w.heap.size≤wr.heap.size;omega))
                   have hd5:=(hb6.cell (p:=⟨b1,o1+k*2+1,none⟩) hb1).trans hd1
                   have hd6:=(hb6.cell (p:=⟨b2,o2+k*2+1,none⟩) hb2).trans hd2
                   have hc5:=(hb6.cell (p:=⟨b1,o1+k*2,none⟩) hb1).trans hc1
                   have hc6:=(hb6.cell (p:=⟨b2,o2+k*2,none⟩) hb2).trans hc2
                   have HB6:=Lib.hid hb6
                   clear hb5 hb6))
            have HBW6:=Lib.hid (hbw.trans HB6.out)
            clear hc1 hc2 hd1 hd2
            go_wp2
            go_quiet (fail)
            go_wp2
            go_roundw
            case rel=>exact ⟨rfl,k+1,by omega,by go_num,HBW6.out.trans ⟨rfl,rfl,rfl,Nat.le_refl _,fun _ _=>rfl⟩,HN.out⟩
            case measure=>simp [intOf];omega
          · have hpf:z1=false:=by simpa using hp
            subst hpf
            have hzf:z=false:=by
              rw [HZ.out]
              refine ne_atI hlt hlt2 fun e=>of_decide_eq_false HZ1.out.symm ?_
              rw [← HQ1.out,← HQ2.out] at e
              injection e
            subst hzf
            clear hp
            go_wp2
            go_region_held3 (fun w'=>w'.cell? ⟨b1,o1+k*2+1,none⟩=some (.slice A1 P1 c1)∧w'.cell? ⟨b2,o2+k*2+1,none⟩=some (.slice A2 P2 c2))
              (first|exact ⟨hd1,hd2⟩|exact ⟨hd5,hd6⟩)
              (first
                | (go_at_call 59; refine (SM.out _ (Below.refl _ _).drew).mono ?_; rintro e w5 ⟨rfl, hb5⟩
                   have hb6:=(Below.refl w.heap.size wr).drew.trans (hb5.mono (by show w.heap.size≤wr.heap.size;omega))
                   have hd5:=(hb6.cell (p:=⟨b1,o1+k*2+1,none⟩) hb1).trans hd1
                   have hd6:=(hb6.cell (p:=⟨b2,o2+k*2+1,none⟩) hb2).trans hd2
                   have hc5:=(hb6.cell (p:=⟨b1,o1+k*2,none⟩) hb1).trans hc1
                   have hc6:=(hb6.cell (p:=⟨b2,o2+k*2,none⟩) hb2).trans hc2
                   have HB6:=Lib.hid hb6
                   clear hb5 hb6))
            have HBW6:=Lib.hid (hbw.trans HB6.out)
            clear hc1 hc2 hd1 hd2
            go_wp2
            go_quiet (fail)
            go_wp2
            go_ret
            exact ⟨rfl,HBW6.out.trans ⟨rfl,rfl,rfl,Nat.le_refl _,fun _ _=>rfl⟩⟩
        · have hzf:z=false:=by
            rw [HZ.out]
            refine ne_atI hlt hlt2 fun e=>hy ?_
            rw [← HQ1.out,← HQ2.out] at e
            injection e
          subst hzf
          have hne:(y1 != y2)=true:=by simpa using hy
          clear hy
          go_wp2
          go_region_held3 (fun w'=>w'.cell? ⟨b1,o1+k*2+1,none⟩=some (.slice A1 P1 c1)∧w'.cell? ⟨b2,o2+k*2+1,none⟩=some (.slice A2 P2 c2))
            (first|exact ⟨hd1,hd2⟩|exact ⟨hd5,hd6⟩)
            (first
              | (go_at_call 59; refine (SM.out _ (Below.refl _ _).drew).mono ?_; rintro e w5 ⟨rfl, hb5⟩
                 have hb6:=(Below.refl w.heap.size wr).drew.trans (hb5.mono (by show w.heap.size≤wr.heap.size;omega))
                 have hd5:=(hb6.cell (p:=⟨b1,o1+k*2+1,none⟩) hb1).trans hd1
                 have hd6:=(hb6.cell (p:=⟨b2,o2+k*2+1,none⟩) hb2).trans hd2
                 have hc5:=(hb6.cell (p:=⟨b1,o1+k*2,none⟩) hb1).trans hc1
                 have hc6:=(hb6.cell (p:=⟨b2,o2+k*2,none⟩) hb2).trans hc2
                 have HB6:=Lib.hid hb6
                 clear hb5 hb6))
          have HBW6:=Lib.hid (hbw.trans HB6.out)
          clear hc1 hc2 hd1 hd2
          go_wp2
          go_quiet (fail)
          go_wp2
          go_ret
          exact ⟨rfl,HBW6.out.trans ⟨rfl,rfl,rfl,Nat.le_refl _,fun _ _=>rfl⟩⟩
      · have hzt:z=true:=by rw [HZ.out];exact eq_allI (HL.out.trans HM.out.symm) fun j hj=>hall j hj (by rw [HM.out,← HL.out];exact hj) (by have :=HL.out;omega)
        subst hzt
        clear hall
        go_wp2
        go_ret
        exact ⟨rfl,hbw⟩
  · have hzf:z=false:=by rw [HZ.out];exact decide_eq_false fun e=>hlen (by rw [← HL.out,← HM.out,e])
    subst hzf
    go_enter Tryz.func38,Tryz.ntmps38
    go_wp2
    go_ret
    exact ⟨rfl,Below.refl _ _⟩
end Go.Proofs.YtmoomnpbiifedaaGreat
namespace Go.Proofs.YtmoomnpbiifedaaGreat
open Go Go.RowKit
set_option linter.unusedVariables false
theorem ne_atT {xs ys:List Nm} {k:Nat} (hx:k<xs.length) (hy:k<ys.length) (h:xs[k]≠ys[k]):decide (xs=ys)=false:=decide_eq_false fun e=>h (by subst e;rfl)
theorem eq_allT {xs ys:List Nm} (hl:xs.length=ys.length) (h:∀ j (hj:j<xs.length),xs[j]=ys[j]'(by omega)):decide (xs=ys)=true:=decide_eq_true (List.ext_getElem hl fun j h1 _=>h j h1)
def SameRelT (xs ys:List Nm) (w:World) (r i:Value) (wr:World):Prop:=r= .bool false∧∃ k:Nat,k≤xs.length∧i= .int .i64 (k:Int)∧Below w.heap.size w wr∧∀ j (hj:j<xs.length) (hj':j<ys.length),j<k→xs[j]=ys[j]
set_option maxHeartbeats 1000000 in
set_option maxRecDepth 100000 in
theorem ref02_Same_all (A C:Option Addr) (n m c d:Nat) (xs ys:List Nm) (w:World) (hn:xs.length=n) (hm:ys.length=m) (hx:Row w w.heap.size A (strs xs)) (hy:Row w w.heap.size C (strs ys)) (hxl:n≤9223372036854775807) (hyl:m≤9223372036854775807):
  Calls Tryz.prog 32 #[.slice A n c,.slice C m d] w fun e w'=>e= .returned (.bool (decide (xs=ys)))∧Below w.heap.size w w':=by
 subst hn hm
 have HX:=Lib.hid hx
 have HY:=Lib.hid hy
 obtain ⟨z,hz⟩:∃ z,z=decide (xs=ys):=⟨_,rfl⟩
 rw [← hz]
 have HZ:=Lib.hid hz
 clear hx hy hz
 by_cases hlen:xs.length=ys.length
 ·go_enter Tryz.func32,Tryz.ntmps32
  go_wp2
  go_loopw [4,5] (fun r i wr=>SameRelT xs ys w r i wr) (fun _ i _=>xs.length-(intOf i).toNat)
  case atStart=>exact ⟨rfl,0,Nat.zero_le _,rfl,Below.refl _ _,fun j _ _ hj=>by omega⟩
  case round=>
   obtain ⟨rfl,k,hk,rfl,hbw,hall⟩:=hrel
   by_cases hlt:k<xs.length
   ·have hlt2:k<ys.length:=by omega
    obtain ⟨b1,o1,e1,_,hc1⟩:=row_nm (HX.out.below hbw) hlt
    obtain ⟨b2,o2,e2,_,hc2⟩:=row_nm (HY.out.below hbw) hlt2
    subst e1 e2
    obtain ⟨x,hx,hx2⟩:=as_text xs[k]
    obtain ⟨y,hy,hy2⟩:=as_text ys[k]
    rw [← hx] at hc1
    rw [← hy] at hc2
    have hi0:(0:Int)≤k:=by omega
    have hi1:(k:Int)<xs.length:=by omega
    have hi2:(k:Int)<ys.length:=by omega
    by_cases he:xs[k]=ys[k]
    ·have t1:=same_true (s:=x) (t:=y) (by rw [hx2,hy2];exact he)
     have HN:Hid (∀ j (hj:j<xs.length) (hj':j<ys.length),j<k+1→xs[j]=ys[j]):=Lib.hid fun j hj hj' hjk=>by
      by_cases e:j=k
      ·subst e;exact he
      ·exact hall j hj hj' (by omega)
     clear hall he hx hx2 hy hy2
     go_wp2
     go_quiet (fail)
     go_wp2
     go_roundw
     case rel=>exact ⟨rfl,k+1,by omega,by go_num,hbw.trans ⟨rfl,rfl,rfl,Nat.le_refl _,fun _ _=>rfl⟩,HN.out⟩
     case measure=>simp [intOf];omega
    ·have t1:=same_false (s:=x) (t:=y) (by rw [hx2,hy2];exact he)
     have hzf:z=false:=by rw [HZ.out];exact ne_atT hlt hlt2 he
     subst hzf
     clear hall he hx hx2 hy hy2
     go_wp2
     go_quiet (fail)
     go_wp2
     go_ret
     exact ⟨rfl,hbw.trans ⟨rfl,rfl,rfl,Nat.le_refl _,fun _ _=>rfl⟩⟩
   ·have hzt:z=true:=by rw [HZ.out];exact eq_allT hlen fun j hj=>hall j hj (by omega) (by omega)
    subst hzt
    clear hall
    go_wp2
    go_ret
    exact ⟨rfl,hbw⟩
 ·have hzf:z=false:=by rw [HZ.out];exact decide_eq_false fun e=>hlen (by rw [e])
  subst hzf
  go_enter Tryz.func32,Tryz.ntmps32
  go_wp2
  go_ret
  exact ⟨rfl,Below.refl _ _⟩
end Go.Proofs.YtmoomnpbiifedaaGreat
