import Derived.Test.YtpehcaidjlemiaaGreatDoorMBZz
import Derived.Test.YtpehcaidjlemiaaGreatDoorMBQ30
import Derived.Test.YtpehcaidjlemiaaGreatDoorMBQ31
import Derived.Test.YtpehcaidjlemiaaGreatDoorMBQ32
import Derived.Test.YtpehcaidjlemiaaGreatDoorMBQ35
import Derived.Test.YtpehcaidjlemiaaGreatDoorMBQ29
import Derived.Test.YtpehcaidjlemiaaGreatDoorMBQ05
import Derived.Test.YtpehcaidjlemiaaGreatDoorMBQ10
import Derived.Deep.CutRange
import Derived.Deep.RegionLaw
set_option maxHeartbeats 8000000
set_option maxRecDepth 100000
set_option linter.unusedVariables false
namespace Go.Proofs.YtpehcaidjlemiaaGreatDoor
open Go Go.RowKit
def qqn (Ls:List (List En)) (w3:World) (vs vb i:Value) (wr:World):Prop:=∃ (k:Nat) (Ss Bs:List Nat),k<=Ls.length/\i= .int .i64 (k:Int)/\qdo w3.heap.size (Ls.take k) (qcR (Ls.take k)) Ss Bs vs vb w3 wr
theorem qzT (A A2:Option Addr) (m c m2 c2:Nat) (Ls:List (List En)) (w:World) (hS:qcO w A Ls) (hR:qdm w A2 (qcR Ls)) (hm:Ls.length=m) (hm2:m2=m) (hmx:m<=1000) (ha:∀ L∈Ls,qbt L) (hfl:Ls.flatten.length<=25) (hT:Tab w) (hn:(qal Ls.flatten).Nodup):
  Calls Tryz.prog 14 #[.slice A m c,.slice A2 m2 c2] w fun e w'=>∃ g,(qb3 g/\∀ x,x∈g↔∃ L∈Ls,x∈L)/\qdU (qac g) w e w':=by
 subst hm2;refine (qp6 A A2 m2 c m2 c2 Ls (qcR Ls) w hS hR hm (by rw [qfG];exact hm) hmx (qp2 ha (by omega)) (Nat.le_trans (qkT ha) (by omega)) hT).mono fun e w' h=> ?_
 have hf:=qid Ls;have ht:=qkU hf hn;rcases h with ⟨h,_⟩|⟨_,h,_⟩|⟨_,o,ho,h⟩
 ·exact absurd hf h
 ·exact absurd h ht
 ·rw [qkh hf ho] at h
  have hh:=qhq ho;rw [qie] at h hh;exact ⟨_,hh,h⟩
theorem qqo {L:List En} {n:Nat} {w:World} {S:Nat} (h:qa4 w S (qac L)) (hn:n=L.length):Calls Tryz.prog 20 #[.pointer (some ⟨S,0,none⟩)] w fun e w'=>e= .returned (.int .i64 (n:Int))/\Below w.heap.size w w':=by
 have :=qjT h;rwa [show (qac L).ids.length=n by rw [hn];simp [qac]] at this
theorem walk_MergeBuilds (a0:Option Addr) (len0 cap0:Nat) (z0:List Dc) (a1:Option Addr) (len1 cap1:Nat) (z1:List Int) (W:World) (h0:qi2 W a0 len0 cap0 z0) (h1:qgX .i64 W a1 len1 cap1 z1) (hT:Tab W):
    Calls Tryz.prog 4 #[.slice a0 len0 cap0,.slice a1 len1 cap1] W fun e W'=>e= .returned (.bool true)/\Below W.heap.size W W':=by
  obtain ⟨i0,ii0,iz0,iz1,iz2⟩:=info_parts qzq;obtain ⟨j0,ji0,jz0,jz1,jz2⟩:=info_parts qzr;obtain ⟨g1,g2,g3,g4,g5⟩:=h0;obtain ⟨r1,r2,r3,r4,r5⟩:=h1;have HG1:Calls Tryz.prog 10 #[.slice a0 len0 cap0,.int .i64 10,.int .i64 5,.int .i64 1] W (qpT (qcp z0 10 5 1) W):=qyF a0 len0 cap0 z0 10 5 1 W g3 g4 (by unfold maxLen at g2;omega) (by omega) (by omega) (by omega) fun q hq f hf=>by
    have :=g5 q hq f hf;unfold maxLen at this;omega
  obtain ⟨G,hG⟩:∃ G,G=qcp z0 10 5 1:=⟨_,rfl⟩;have hadd:qbt G:=by rw [hG];exact qy4 _ _ _ _ (by omega) (by omega) (by omega)
  have hlen:G.length<=10:=by rw [hG,qiZ];omega
  rw [<- hG] at HG1;have HGOOD:=qH HG1;have HADD:=qH hadd;obtain ⟨N,hN⟩:∃ N,N=G.length:=⟨_,rfl⟩;rw [<- hN] at hlen;have HN:=qH hN;have HT:=qH hT;have HR4:Hid (Row W W.heap.size a1 (qaa z1)):=qH r4;have HR3:=qH r3;have HR5:Hid (∀ a∈z1, -9223372036854775808<=a/\a<=9223372036854775807):=qH fun a ha=>quM (r5 a ha)
  have hlc:len1<=9223372036854775807:=by unfold maxLen at r2;omega
  obtain ⟨Ls,hLs⟩:∃ Ls,Ls=qcg G z1 3:=⟨_,rfl⟩;have HLS:=qH hLs;have h3:Ls.length=3:=by rw [hLs];rfl
  have H3:=qH h3;have HADL:Hid (∀ L∈Ls,qbt L):=qH fun L hL=>by
    rw [hLs] at hL;obtain ⟨j,_,rfl⟩:=List.mem_map.1 hL;exact qzk hadd z1 3 j
  have HDC:Hid (∀ (AG:Option Addr) (cG:Nat) (w1:World),qaR (fun k=>k<w1.heap.size) w1 (.slice AG N cG) G->Row w1 w1.heap.size a1 (qaa z1)->Calls Tryz.prog 9 #[.slice AG N cG,.slice a1 len1 cap1,.int .i64 3] w1 (qqe G z1 3 w1)):=qH fun AG cG w1 h1 h2=>
    qzt AG a1 N cG len1 cap1 3 G z1 w1 h1 HN.out.symm (by omega) h2 HR3.out hlc HR5.out (by omega) (by omega)
  clear g1 g2 g3 g4 g5 hG hadd hN hT HG1 r1 r2 r3 r4 r5 hLs h3
  go_enter Tryz.func4,Tryz.ntmps4
  go_upto_region 3 with (first
    | (go_at_call 10; (with_reducible refine HGOOD.out.mono ?_); rintro e w1 ⟨V, rfl, ho1, hb1⟩
       obtain ⟨AG,cG,rfl,hcG,hu⟩:=ho1.nest;rw [<- HN.out] at hcG ⊢;have HO1:Hid (qaR (fun k=>W.heap.size<=k) w1 (.slice AG N cG) G):=qH (by rw [HN.out];exact ho1);have HB1:=qH hb1;clear ho1 hb1 hu)
    | (go_at_call 9; (with_reducible refine (HDC.out AG cG w1 HO1.out.small ((HR4.out.below HB1.out).more HB1.out.size)).mono ?_); rintro e w3 ⟨D, ls, xss, rfl, hdeal⟩
       rw [<- HLS.out] at hdeal;have HDL:=qH hdeal;have HB3:=qH (HB1.out.trans (hdeal.below.mono HB1.out.size));have HO3:=qH (HO1.out.later hdeal.below);clear hdeal))
  have hst:qqn Ls w3 (.slice none 0 0) (.slice none 0 0) (.int .i64 0) w3:=⟨0,[],[],Nat.zero_le _,rfl,qzm w3⟩;have HST:=qH hst;clear hst;go_wp2
  go_loopw [7,8,9,10,11] (fun vs vb i _ _ wr=>qqn Ls w3 vs vb i wr) (fun _ _ i _ _ _=>3-(intOf i).toNat)
  case atStart=>exact HST.out
  case round=>
    clear HST;obtain ⟨k,Ss,Bs,hk,rfl,hrun⟩:=hrel;rw [H3.out] at hk;by_cases hk3:k<3
    · have hkl:k<Ls.length:=by rw [H3.out];exact hk3
      have hcell:=(HDL.out.cell hk3).1;have hes:=(HDL.out.own_es hk3).later hrun.below;have hlk:=(HDL.out.row hk3);obtain ⟨Av,cv,hav, -⟩:=qbm hlk;rw [hav] at hcell hes;have hc2:=(hrun.below.cell (p:=⟨D,k,none⟩) HDL.out.lt.1).trans hcell;have haL:=HADL.out _ (List.getElem_mem hkl);have htk:Ls.take (k+1)=Ls.take k++[Ls[k]]:=List.take_succ_eq_append_getElem hkl;have htl:(Ls.take k).length=k:=by rw [List.length_take];omega
      obtain ⟨L,hL⟩:∃ L,L=Ls[k]:=⟨_,rfl⟩;rw [<- hL] at hes hc2 haL htk;obtain ⟨n,hn⟩:∃ n,n=L.length:=⟨_,rfl⟩;rw [<- hn] at hes hc2;have hnl:n<=100:=by rw [hn];exact haL.few
      have HN2:=qH hn;have HES:=qH hes.small;have HAL:=qH haL;have HTK:=qH htk;have HTL:=qH htl;have HRUN:=qH hrun;have hk31:(k:Int)<3:=by omega
      have hsz:=hrun.size;clear hcell hes hlk hav haL htk htl hL hn hrun
      go_wp2_with (first
        | (go_at_call 11; (with_reducible refine (qqj (.slice Av n cv) L wr HES.out HAL.out).mono ?_); rintro e w5 ⟨S, rfl, hs5, -, hb5⟩
           have HR5b:=qH (HRUN.out.later hb5);have HS5:=qH hs5;have hsz5:=HR5b.out.size;clear hs5 hb5)
        | (at_builtin; refine wpList_append_own _ rfl (.tmp 39) (.tmp 41) 29 rfl w3.heap.size 33 i0 _ 1 8 Tryz.underlying29 ii0 iz0 iz1 iz2 rfl (by omega) u7 k (qaY Ss) rfl (by have := HR5b.out.segs.alloc (.cells #[.pointer (some ⟨S, 0, none⟩)] 33); rwa [HTL.out] at this) ⟨w5.heap.size, 0, none⟩ 1 1 [.pointer (some ⟨S, 0, none⟩)] rfl rfl (qaN w5 [.pointer (some ⟨S, 0, none⟩)] 33) (by intro u hu; simp at hu; subst hu; rfl) (by unfold maxLen; omega) (by omega) (by simp; omega) ?_
           intro v6 w6 hown6 hgrow6 hz6;have hal:=(Below.refl w5.heap.size w5).alloc (Nat.le_refl _) (.cells #[.pointer (some ⟨S,0,none⟩)] 33);have hr5:=HR5b.out.later hal;rw [<- HTL.out] at hown6;have hs6:=(HS5.out.below hal).keptN (qfi.grown hr5.segs hgrow6) (by unfold qfj;decide);have HR6:=qH (hr5.seg (HS5.out.below hal) hown6 hgrow6);have HS6:=qH hs6;have hsz6:=HR6.out.size;clear hown6 hgrow6 hz6 hal hr5 hs6)
        | (go_at_call 20; (with_reducible refine (qqo HS6.out HN2.out).mono ?_); rintro e w7 ⟨rfl, hb7⟩
           have HR7:=qH (HR6.out.later hb7);have hsz7:=HR7.out.size;clear hb7)
        | (go_at_call 19; (with_reducible refine (qic _ w7 (by omega)).mono ?_); rintro e w8 ⟨rfl, hs8, hb8⟩
           rw [Int.toNat_natCast] at hs8;have HR8:=qH (HR7.out.later hb8);have HS8:=qH (qif hs8);have hsz8:=HR8.out.size;clear hs8 hb8)
        | (at_builtin; refine wpList_append_own _ rfl (.tmp 43) (.tmp 47) 30 rfl w3.heap.size 37 j0 _ 1 8 Tryz.underlying30 ji0 jz0 jz1 jz2 rfl (by omega) u8 k (qaY Bs) rfl (by have := HR8.out.sets.alloc (.cells #[.pointer (some ⟨w7.heap.size, 0, none⟩)] 37); rwa [qfG, HTL.out] at this) ⟨w8.heap.size, 0, none⟩ 1 1 [.pointer (some ⟨w7.heap.size, 0, none⟩)] rfl rfl (qaN w8 [.pointer (some ⟨w7.heap.size, 0, none⟩)] 37) (by intro u hu; simp at hu; subst hu; rfl) (by unfold maxLen; omega) (by omega) (by simp; omega) ?_
           intro v9 w9 hown9 hgrow9 hz9;have hal:=(Below.refl w8.heap.size w8).alloc (Nat.le_refl _) (.cells #[.pointer (some ⟨w7.heap.size,0,none⟩)] 37);rw [show k=(qcR (Ls.take k)).length by rw [qfG,HTL.out]] at hown9;have hr9:=(HR8.out.later hal).set (HS8.out.below hal) hown9 hgrow9;rw [HN2.out,<- qzp,<- HTK.out] at hr9;have HR9:=qH hr9;clear hown9 hgrow9 hz9 hal hr9))
      go_roundw
      case rel=>exact ⟨k+1,_,_,hkl,by go_num,HR9.out⟩
      case measure=>simp [intOf];omega
    · have hk3':k=3:=by omega
      subst hk3';rw [List.take_of_length_le (by rw [H3.out];exact Nat.le_refl _)] at hrun;obtain ⟨A,c,A2,c2,rfl,rfl,hcA,hcA2⟩:=hrun.lens;rw [qfG] at hcA2;rw [H3.out] at hcA hcA2;obtain ⟨hsg,hst⟩:=hrun.ins;rw [qfG,H3.out];have hri:=qkS HADD.out;have hnd:(qal Ls.flatten).Nodup:=by rw [HLS.out];exact qtC hri
      have hme:∀ x,x∈G↔∃ L∈Ls,x∈L:=fun x=>by rw [HLS.out];exact qtB (by omega)
      have hfl:Ls.flatten.length<=10:=by rw [HLS.out,qzl z1 (by omega),<- HN.out];exact hlen
      have hbr:=HB3.out.trans (hrun.below.mono HB3.out.size);have htb:∀ w',Below wr.heap.size wr w'->Tab w':=fun w' h=>HT.out.below (hbr.trans (h.mono hbr.size)) HT.out.lt
      have hf:=qid Ls;have HM1:=qH (qp7 A A2 3 c 3 c2 Ls (qcR Ls) G wr hsg hst H3.out (by rw [qfG];exact H3.out) (by omega) HADL.out (by omega) (htb wr (Below.refl _ _)) hf (qkU hf hnd) hri fun x=>by rw [qie];exact hme x);have hsub:((Ls.take 2).flatten).Sublist Ls.flatten:=by
        have e:Ls.flatten=(Ls.take 2).flatten++(Ls.drop 2).flatten:=by rw [<- List.flatten_append,List.take_append_drop]
        rw [e];exact List.sublist_append_left _ _
      have hnd2:(qal (Ls.take 2).flatten).Nodup:=hnd.sublist (hsub.map _);have HM2:Hid (∀ w',Below wr.heap.size wr w'->Calls Tryz.prog 14 #[.slice A 2 c,.slice A2 2 c2] w' fun e w''=>∃ g,(qb3 g/\∀ x,x∈g↔∃ L∈Ls.take 2,x∈L)/\qdU (qac g) w' e w''):=qH fun w' h=>
        qzT A A2 2 c 2 c2 (Ls.take 2) w' ((hsg.below h).take 2) (by have :=(hst.below h).take 2;rwa [show (qcR Ls).take 2=qcR (Ls.take 2) by simp [qcR,List.map_take]] at this) (by rw [List.length_take,H3.out];rfl) rfl (by omega) (fun L hL=>HADL.out L (List.mem_of_mem_take hL)) (by have :=hsub.length_le;omega) (htb w' h) hnd2
      obtain ⟨b1,off1,S2,rfl,hb1,hc1,hs1⟩:=hsg.at_ (i:=2) (by rw [H3.out];omega);obtain ⟨b2,off2,B2,base2,rfl,hb2,hc2,hs2⟩:=hst.at_ (i:=2) (by rw [qfG,H3.out];omega);obtain ⟨L2,hL2⟩:∃ L2,L2=Ls[2]'(by rw [H3.out];omega):=⟨_,rfl⟩;have hL2m:L2∈Ls:=by rw [hL2];exact List.getElem_mem _
      have hs2':qbj wr base2 B2 (List.replicate L2.length true):=by rw [hL2];simpa [qcR] using hs2
      rw [<- hL2] at hs1;have hsplit:Ls.flatten=(Ls.take 2).flatten++L2:=by
        conv=>lhs;rw [<- List.take_append_drop 2 Ls,List.drop_eq_getElem_cons (by rw [H3.out];omega:2<Ls.length),List.drop_eq_nil_of_le (by rw [H3.out];exact Nat.le_refl _)]
        rw [List.flatten_append,List.flatten_cons,List.flatten_nil,List.append_nil,hL2]
      have hme2:∀ g:List En,(∀ x,x∈g↔∃ L∈Ls.take 2,x∈L)->∀ x,x∈G↔∃ L∈[L2,g],x∈L:=fun g hg x=>by
        have h1:x∈G↔x∈Ls.flatten:=by rw [hme,List.mem_flatten]
        have h2:x∈g↔x∈(Ls.take 2).flatten:=by rw [hg,List.mem_flatten]
        rw [h1,hsplit,List.mem_append,<- h2];simp [or_comm]
      have hnd3:∀ g:List En,qb3 g->(∀ x,x∈g↔∃ L∈Ls.take 2,x∈L)->(qal [L2,g].flatten).Nodup:=fun g hr hg=>by
        have h0:=hnd;rw [hsplit] at h0;unfold qal at h0 ⊢;rw [List.map_append] at h0;obtain ⟨_,h2,h3⟩:=List.nodup_append.1 h0;simp only [List.flatten_cons,List.flatten_nil,List.append_nil,List.map_append];refine List.nodup_append.2 ⟨h2,qng hr,fun a ha b hb e=> ?_⟩;obtain ⟨x,hx,rfl⟩:=List.mem_map.1 hb;refine h3 x.2.2 (List.mem_map.2 ⟨x,?_,rfl⟩) a ha e.symm;rw [List.mem_flatten];exact (hg x).1 hx
      have HM3:Hid (∀ (g:List En) (w':World) (b1 b2 Sa B base:Nat),qb3 g->(∀ x,x∈g↔∃ L∈Ls.take 2,x∈L)->Below wr.heap.size wr w'->qa4 w' Sa (qac g)->qbj w' base B (List.replicate g.length true)->w'.heap[b1]?=some (.cells #[.pointer (some ⟨S2,0,none⟩),.pointer (some ⟨Sa,0,none⟩)] 33 (0,0))->w'.heap[b2]?=some (.cells #[.pointer (some ⟨B2,0,none⟩),.pointer (some ⟨B,0,none⟩)] 37 (0,0))->
          Calls Tryz.prog 14 #[.slice (some ⟨b1,0,none⟩) 2 2,.slice (some ⟨b2,0,none⟩) 2 2] w' (qdU (qac G) w')):=qH fun g w' b1 b2 Sa B base hr hg h hsa hsb k1 k2=>by
        have hgG:∀ x∈g,x∈G:=fun x hx=>(hme2 g hg x).2 ⟨g,by simp,hx⟩
        have hga:=HADD.out.of_mem hr hgG;have hf2:=qid [L2,g];refine qp7 _ _ 2 2 2 2 [L2,g] (qcR [L2,g]) G w' (qzg k1 (hs1.below h) hsa) (qzh k2 (hs2'.below h) hsb) rfl rfl (by omega) (fun L hL=> ?_) ?_ (htb w' h) hf2 (qkU hf2 (hnd3 g hr hg)) hri fun x=>by rw [qie];exact hme2 g hg x
        · rcases List.mem_cons.1 hL with rfl|hL
          · exact HADL.out _ hL2m
          · obtain rfl:L=g:=by simpa using hL
            exact hga
        · have e1:=qqa hr hgG
          have e2:=(List.sublist_flatten_of_mem hL2m).length_le;have :=HN.out;simp;omega
      have HC12:Hid (∀ w',Below wr.heap.size wr w'->w'.cell? ⟨b1,off1+2,none⟩=some (.pointer (some ⟨S2,0,none⟩))/\w'.cell? ⟨b2,off2+2,none⟩=some (.pointer (some ⟨B2,0,none⟩))):=qH fun w' h=>⟨(h.cell (p:=⟨b1,off1+2,none⟩) hb1).trans hc1,(h.cell (p:=⟨b2,off2+2,none⟩) hb2).trans hc2⟩
      have HBR:=qH hbr;have HO9:=qH (HO3.out.later hrun.below);have HFEW:Hid (∀ g:List En,qb3 g->(∀ x,x∈g↔∃ L∈Ls.take 2,x∈L)->g.length<=10):=qH fun g hr hg=>by
        have :=qqa hr (fun x hx=>(hme2 g hg x).2 ⟨g,by simp,hx⟩);have :=HN.out;omega
      clear hri hnd hme hfl hbr htb hf hsub hnd2 hs1 hs2 hs2' hsplit hme2 hnd3 hL2m hL2 hrun hsg hst hc1 hc2 hb1 hb2
      go_upto_region 14 with (go_at_call 14; (with_reducible refine HM1.out.mono ?_); rintro e w10 ⟨S10, rfl, hs10, -, hb10⟩
                              have HS10:=qH hs10;have HB10:=qH hb10;clear hs10 hb10)
      go_cut [14,15] from 55 to 116 (fun s14 s15 wx=>∃ (g:List En) (Sa:Nat),s14= .pointer (some ⟨Sa,0,none⟩)/\s15= .int .i64 0/\(qb3 g/\∀ x,x∈g↔∃ L∈Ls.take 2,x∈L)/\qa4 wx Sa (qac g)/\Below w10.heap.size w10 wx)
      case first=>
        have hcA2b:(2:Int)<=(c:Int):=by omega
        have hcA2c:(2:Int)<=(c2:Int):=by omega
        go_region_law (first
          | (go_simp; go_at_call 14; (with_reducible refine (HM2.out _ HB10.out.drew).mono ?_); rintro e w11 ⟨g, hg, Sa, rfl, hsa, -, hb11⟩
             have HSA:=qH hsa;have HGG:=qH hg;have HB11:=qH ((Below.refl _ w10).drew.trans hb11);clear hsa hg hb11))
        all_goals
          go_wp2_with fail
          go_meet;exact ⟨g,Sa,rfl,rfl,HGG.out,HSA.out,HB11.out⟩
      case rest=>
        obtain ⟨g,Sa,rfl,rfl,hg,hsa,hb11⟩:=hcut;have HGG:=qH hg;have HSA:=qH hsa;have HS11:=qH (HS10.out.below hb11);have HB11:=qH (HB10.out.trans (hb11.mono HB10.out.size));obtain ⟨ng,hng⟩:∃ ng,ng=g.length:=⟨_,rfl⟩;have hng10:ng<=10:=by rw [hng];exact HFEW.out g hg.1 hg.2
        have HNG:=qH hng;clear hg hsa hb11 hng HM1 HM2
        go_upto_region 17 with fail
        obtain ⟨wd,hwd⟩:∃ wd,wd=wc:=⟨_,rfl⟩;subst hwd;have HLN:Hid (∀ w',Below wd.heap.size wd w'->Calls Tryz.prog 20 #[.pointer (some ⟨Sa,0,none⟩)] w' fun e w''=>e= .returned (.int .i64 (ng:Int))/\Below w'.heap.size w' w''):=qH fun w' h=>qqo (HSA.out.below h) HNG.out
        have HM4:Hid (∀ (w':World) (b1 b2 B base:Nat),qih wd (.cells #[.pointer (some ⟨S2,0,none⟩),.pointer (some ⟨Sa,0,none⟩)] 33 (0,0)) (.cells #[.pointer (some ⟨B2,0,none⟩),.pointer (some ⟨B,0,none⟩)] 37 (0,0)) B base b1 b2 (List.replicate ng true) w'->
          Calls Tryz.prog 14 #[.slice (some ⟨b1,0,none⟩) 2 2,.slice (some ⟨b2,0,none⟩) 2 2] w' (fun e w''=>qdU (qac G) w' e w''/\Below wd.heap.size wd w'')):=qH fun w' b1 b2 B base h=>
          (HM3.out g w' b1 b2 Sa B base HGG.out.1 HGG.out.2 (HB11.out.trans (h.below.mono HB11.out.size)) (HSA.out.below h.below) (by rw [<- HNG.out];exact h.set) h.c1 h.c2).mono fun e w'' hh=>by
            obtain ⟨S,h1,h2,h3,h4⟩:=hh;exact ⟨⟨S,h1,h2,h3,h4⟩,h.below.trans (h4.mono h.below.size)⟩
        have HC13:Hid (∀ w',Below wd.heap.size wd w'->w'.cell? ⟨b1,off1+2,none⟩=some (.pointer (some ⟨S2,0,none⟩))/\w'.cell? ⟨b2,off2+2,none⟩=some (.pointer (some ⟨B2,0,none⟩))):=qH fun w' h=>HC12.out w' (HB11.out.trans (h.mono HB11.out.size))
        have HD0:Hid (Below wd.heap.size wd wd.drew):=qH (Below.refl _ wd).drew;have HDA:Hid (Below wd.heap.size wd ((wd.alloc (.cells #[.pointer (some ⟨S2,0,none⟩),.pointer (some ⟨Sa,0,none⟩)] 33)).drew)):=qH ((Below.refl _ wd).alloc (Nat.le_refl _) _).drew;clear HM3 HC12
        go_cut [16,17] from 77 to 116 (fun s16 s17 wx=>∃ Sb:Nat,s16= .pointer (some ⟨Sb,0,none⟩)/\s17= .int .i64 0/\qa4 wx Sb (qac G)/\Below wd.heap.size wd wx)
        case first=>
          go_region_held3 (fun w'=>w'.cell? ⟨b1,off1+2,none⟩=some (.pointer (some ⟨S2,0,none⟩))/\w'.cell? ⟨b2,off2+2,none⟩=some (.pointer (some ⟨B2,0,none⟩)))
            (first|exact HC13.out _ HD0.out|exact HC13.out _ HDA.out|exact HC13.out _ HB5.out|exact HC13.out _ (HB5.out.alloc HB5.out.size _)|exact HC13.out _ HB6.out|exact HC13.out _ (HB6.out.alloc HB6.out.size _)|exact HC13.out _ ((HB6.out.alloc HB6.out.size _).alloc (by simp;have :=HB6.out.size;omega) _)|exact HC13.out _ HB7.out)
            (first
              | (go_at_call 20; (with_reducible refine (HLN.out wd.drew HD0.out).mono ?_); rintro e w5 ⟨rfl, hb5⟩
                 have HB5:Hid (Below wd.heap.size wd w5):=qH (HD0.out.trans hb5);clear hb5)
              | (go_at_call 20; (with_reducible refine (HLN.out ((wd.alloc (.cells #[.pointer (some ⟨S2, 0, none⟩), .pointer (some ⟨Sa, 0, none⟩)] 33)).drew) HDA.out).mono ?_); rintro e w5 ⟨rfl, hb5⟩
                 have HB5:Hid (Below wd.heap.size wd w5):=qH (HDA.out.trans (hb5.mono HDA.out.size));have HA5:Hid (w5.heap[wd.heap.size]?=some (.cells #[.pointer (some ⟨S2,0,none⟩),.pointer (some ⟨Sa,0,none⟩)] 33 (0,0))):=qH ((hb5.block _ (by simp)).trans (heap_alloc_new wd _));clear hb5)
              | (go_at_call 19; (with_reducible refine (qic _ w5 (by omega)).mono ?_); rintro e w6 ⟨rfl, hs6, hb6⟩
                 have HA6:Hid (w6.heap[wd.heap.size]?=some (.cells #[.pointer (some ⟨S2,0,none⟩),.pointer (some ⟨Sa,0,none⟩)] 33 (0,0))):=qH ((hb6.block _ (Array.getElem?_eq_some_iff.1 HA5.out).1).trans HA5.out);rw [Int.toNat_natCast] at hs6;have HS6:=qH (qif hs6);have HB6:=qH (HB5.out.trans (hb6.mono HB5.out.size));clear hs6 hb6)
              | (go_at_call 19; (with_reducible refine (qic _ w5 (by omega)).mono ?_); rintro e w6 ⟨rfl, hs6, hb6⟩
                 rw [Int.toNat_natCast] at hs6;have HS6:=qH (qif hs6);have HB6:=qH (HB5.out.trans (hb6.mono HB5.out.size));clear hs6 hb6)
              | (go_at_call 19; (with_reducible refine (qic _ (w5.alloc (.cells #[.pointer (some ⟨S2, 0, none⟩), .pointer (some ⟨Sa, 0, none⟩)] 33)) (by omega)).mono ?_); rintro e w6 ⟨rfl, hs6, hb6⟩
                 rw [Int.toNat_natCast] at hs6;rw [show (w5.alloc (.cells #[.pointer (some ⟨S2,0,none⟩),.pointer (some ⟨Sa,0,none⟩)] 33)).heap.size=w5.heap.size+1 by simp] at hs6;have HS6:=qH (qif hs6);have hal:=HB5.out.alloc HB5.out.size (.cells #[.pointer (some ⟨S2,0,none⟩),.pointer (some ⟨Sa,0,none⟩)] 33);have HB6:=qH (hal.trans (hb6.mono hal.size));have HA6:Hid (w6.heap[w5.heap.size]?=some (.cells #[.pointer (some ⟨S2,0,none⟩),.pointer (some ⟨Sa,0,none⟩)] 33 (0,0))):=qH ((hb6.block _ (by simp)).trans (heap_alloc_new w5 _));clear hs6 hb6 hal)
              | (go_at_call 14; (with_reducible refine (HM4.out _ _ _ _ _ (by first | exact qqd HB6.out HA6.out HS6.out rfl | exact qzn HB6.out HS6.out rfl (by simp) | exact qzo HB6.out HS6.out (by simp) rfl)).mono ?_); rintro e w7 ⟨⟨Sb, rfl, hsb, -, -⟩, hb7⟩
                 have HSB:=qH hsb;have HB7:=qH hb7;clear hsb hb7))
          all_goals
            go_wp2_with fail
            go_meet;exact ⟨Sb,rfl,rfl,HSB.out,HB7.out⟩
        case rest=>
          obtain ⟨Sb,rfl,rfl,hsb,hb7⟩:=hcut;have HSB:=qH hsb;have hbb:=HB11.out.trans (hb7.mono HB11.out.size);have HBB:=qH hbb;have HS12:=qH (HS11.out.below hb7);have HOO:=qH (HO9.out.later hbb);have HBW:=qH (HBR.out.trans (hbb.mono HBR.out.size));clear hsb hb7 hbb HC13 HM4 HLN HD0 HDA;have HSB2:Hid (∀ (S T:Nat) w',qa4 w' S (qac G)->qa4 w' T (qac G)->Calls Tryz.prog 21 #[.pointer (some ⟨S,0,none⟩),.pointer (some ⟨T,0,none⟩)] w' fun e w''=>e= .returned (.bool true)/\Below w'.heap.size w' w''):=qH fun S T w' h1 h2=>by
            have :=qzR h1 h2 (qhQ HADD.out) (qhQ HADD.out);rwa [decide_eq_true rfl] at this
          go_wp2_with (first
            | (go_at_call 11; (with_reducible refine (qqj (.slice AG N cG) G wc HOO.out.small HADD.out).mono ?_); rintro e w20 ⟨S20, rfl, hs20, -, hb20⟩
               have HS20:=qH hs20;have HT20:=qH (HSB.out.below hb20);have HU20:=qH (HS12.out.below hb20);have HB20:=qH (HBW.out.trans (hb20.mono HBW.out.size));clear hs20 hb20)
            | (go_at_call 21; (with_reducible refine (HSB2.out S10 Sb w20 HU20.out HT20.out).mono ?_); rintro e w21 ⟨rfl, hb21⟩
               have HS21:=qH (HS20.out.below hb21);have HU21:=qH (HU20.out.below hb21);have HB21:=qH (HB20.out.trans (hb21.mono HB20.out.size));clear hb21)
            | (go_at_call 21; (with_reducible refine (HSB2.out S10 S20 w21 HU21.out HS21.out).mono ?_); rintro e w22 ⟨rfl, hb22⟩
               have HB22:=qH (HB21.out.trans (hb22.mono HB21.out.size));clear hb22)
            | (go_at_call 18; (with_reducible refine (qul qzS w22).mono ?_); rintro e w23 ⟨rfl, hb23⟩
               have HB23:=qH (HB22.out.trans (hb23.mono HB22.out.size));clear hb23))
          go_ret;exact ⟨rfl,HB23.out⟩
end Go.Proofs.YtpehcaidjlemiaaGreatDoor
