import Derived.Test.YtpehcaidjlemiaaGreatDoorMCZz
import Derived.Test.YtpehcaidjlemiaaGreatDoorMCQ30
import Derived.Test.YtpehcaidjlemiaaGreatDoorMCQ31
import Derived.Test.YtpehcaidjlemiaaGreatDoorMCQ32
import Derived.Test.YtpehcaidjlemiaaGreatDoorMCQ21
import Derived.Test.YtpehcaidjlemiaaGreatDoorMCQ29
import Derived.Test.YtpehcaidjlemiaaGreatDoorMCQ05
import Derived.Test.YtpehcaidjlemiaaGreatDoorMCQ10
import Derived.Deep.CutRange
set_option maxHeartbeats 8000000
set_option maxRecDepth 100000
set_option linter.unusedVariables false
namespace Go.Proofs.YtpehcaidjlemiaaGreatDoor
open Go Go.RowKit
def qqb (Ls:List (List En)) (key:Nm) (w3:World) (vs vb n tt i:Value) (wr:World):Prop:=∃ (k:Nat) (Ss Bs:List Nat),k<=Ls.length/\i= .int .i64 (k:Int)/\n= .int .i64 ((((Ls.take k).map (qcN key)).sum:Nat):Int)/\tt= .int .i64 ((((Ls.take k).map (qdp key)).sum:Nat):Int)/\qdo w3.heap.size (Ls.take k) (qea (Ls.take k)) Ss Bs vs vb w3 wr
theorem qzH {L:List En} {n:Nat} {w:World} {S:Nat} (h:qbC w S (qac L)) (hn:n=L.length):Calls Tryz.prog 20 #[.pointer (some ⟨S,0,none⟩)] w fun e w'=>e= .returned (.int .i64 (n:Int))/\Below w.heap.size w w':=by
 have :=qjJ h;rwa [show (qac L).ids.length=n by rw [hn];simp [qac]] at this
theorem qqc {L:List En} {c:Nat} {w:World} {S:Nat} {tf tw:ByteArray} {key:Nm} (qaF:key=(qcP tf tw).data.toList) (h:qbC w S (qac L)) (hc:c=qcN key L) (hf:tf.size<=140737488355328) (hg:tw.size<=140737488355328):Calls Tryz.prog 26 #[.pointer (some ⟨S,0,none⟩),.agg #[.string tf,.string tw]] w fun e w'=>e= .returned (.int .i64 (c:Int))/\Below w.heap.size w w':=by
 have :=qxn h tf tw hf hg;rwa [<- qgh,<- qaF,qi8,show (qag 0 L key).length=c from hc.symm] at this
def qzI (l:List Pn) (c:Nat) (w:World) (e:Ending) (w':World):Prop:=∃ A d,e= .returned (.slice A c d)/\qbp w' w'.heap.size A l/\Below w.heap.size w w'
theorem qqd {L:List En} {c:Nat} {w:World} {S:Nat} {tf tw:ByteArray} {key:Nm} (qaF:key=(qcP tf tw).data.toList) (h:qbC w S (qac L)) (hc:c=qcN key L):Calls Tryz.prog 27 #[.pointer (some ⟨S,0,none⟩),.string (tf++⟨#[0]⟩++tw)] w (qzI (qag 0 L key) c w):=by
 have :=qpk h (qcP tf tw);rw [<- qaF,qi8] at this;refine this.mono fun e w' ⟨v,h1,h2,h3⟩=> ?_
 obtain ⟨A,d,rfl,_,_,h4⟩:=h2.room;exact ⟨A,d,by rw [h1,hc];rfl,h4,h3⟩
def qqe (l:List Pn) (ct:Nat) (w11:World) (tt i:Value) (wx:World):Prop:=∃ j:Nat,j<=l.length/\i= .int .i64 (j:Int)/\tt= .int .i64 ((ct+qai (l.take j):Nat):Int)/\w11=wx
def qqf (l:List Pn) (tt:Nat) (w11:World) (tv i:Value) (wx:World):Prop:=∃ j:Nat,j<=l.length/\i= .int .i64 (j:Int)/\tv= .int .i64 ((tt:Int)-(qai (l.take j):Nat))/\w11=wx
theorem walk_MergeCounts (a0:Option Addr) (len0 cap0:Nat) (z0:List Dc) (a1:Option Addr) (len1 cap1:Nat) (z1:List Int) (tf tw:ByteArray) (W:World) (h0:qiS W a0 len0 cap0 z0) (h1:qgR .i64 W a1 len1 cap1 z1) (hf:tf.size<=140737488355328) (hw:tw.size<=140737488355328) (hT:Tab W):
    Calls Tryz.prog 8 #[.slice a0 len0 cap0,.slice a1 len1 cap1,.agg #[.string tf,.string tw]] W fun e W'=>e= .returned (.bool true)/\Below W.heap.size W W':=by
  obtain ⟨i0,ii0,iz0,iz1,iz2⟩:=info_parts qzi;obtain ⟨j0,ji0,jz0,jz1,jz2⟩:=info_parts qzj;obtain ⟨g1,g2,g3,g4,g5⟩:=h0;obtain ⟨r1,r2,r3,r4,r5⟩:=h1;obtain ⟨W1,hW1⟩:∃ W1,W1=W.alloc (.cells #[.string tf,.string tw] 69):=⟨_,rfl⟩;have hb0:Below W.heap.size W W1:=by rw [hW1];exact (Below.refl _ W).alloc (Nat.le_refl _) _
  have hT1:W1.heap[W.heap.size]?=some (.cells #[.string tf,.string tw] 69 (0,0)):=by rw [hW1];exact heap_alloc_new W _
  have HTC:Hid (∀ w',Below W1.heap.size W1 w'->w'.cell? ⟨W.heap.size,0,none⟩=some (.string tf)/\w'.cell? ⟨W.heap.size,1,none⟩=some (.string tw)):=qH fun w' h=>by
    have e2:=(h.block _ (Array.getElem?_eq_some_iff.1 hT1).1).trans hT1;exact ⟨by simp [World.cell?,e2],by simp [World.cell?,e2]⟩
  have HG1:Calls Tryz.prog 10 #[.slice a0 len0 cap0,.int .i64 10,.int .i64 0,.int .i64 1] W1 (qpK (qcl z0 10 0 1) W1):=qyw a0 len0 cap0 z0 10 0 1 W1 g3 (qc1.later g4 hb0) (by unfold maxLen at g2;omega) (by omega) (by omega) (by omega) fun q hq f hf=>by
    have :=g5 q hq f hf;unfold maxLen at this;omega
  obtain ⟨G,hG⟩:∃ G,G=qcl z0 10 0 1:=⟨_,rfl⟩;have hadd:qbj G:=by rw [hG];exact qyV _ _ _ _ (by omega) (by omega) (by omega)
  have hlen:G.length<=10:=by rw [hG,qiP];omega
  rw [<- hG] at HG1;have HGOOD:=qH HG1;have HADD:=qH hadd;obtain ⟨N,hN⟩:∃ N,N=G.length:=⟨_,rfl⟩;rw [<- hN] at hlen;have HN:=qH hN;have HT:Hid (Tab W1):=qH (hT.below hb0 hT.lt);have HR4:Hid (Row W1 W1.heap.size a1 (qaa z1)):=qH (Row.later r4 hb0);have HR3:=qH r3;have HR5:Hid (∀ a∈z1, -9223372036854775808<=a/\a<=9223372036854775807):=qH fun a ha=>quD (r5 a ha)
  have hlc:len1<=9223372036854775807:=by unfold maxLen at r2;omega
  obtain ⟨Ls,hLs⟩:∃ Ls,Ls=qbm G z1 3:=⟨_,rfl⟩;have HLS:=qH hLs;have h3:Ls.length=3:=by rw [hLs];rfl
  have H3:=qH h3;have HADL:Hid (∀ L∈Ls,qbj L):=qH fun L hL=>by
    rw [hLs] at hL;obtain ⟨j,_,rfl⟩:=List.mem_map.1 hL;exact qze hadd z1 3 j
  obtain ⟨key,qaF⟩:∃ key,key=(qcP tf tw).data.toList:=⟨_,rfl⟩;have HKEY:=qH qaF;have hsc:(Ls.map (qcN key)).sum=qcN key G:=by rw [hLs];exact qzn key z1 (by omega) G
  have hst:(Ls.map (qdp key)).sum=qdp key G:=by rw [hLs];exact qzo key z1 (by omega) G
  have hc100:=qp5 hadd key;have ht100:=qzp hadd key;have HSC:=qH hsc;have HSTT:=qH hst;have HC100:=qH hc100;have HT100:=qH ht100;have HDC:Hid (∀ (AG:Option Addr) (cG:Nat) (w1:World),qaP (fun k=>k<w1.heap.size) w1 (.slice AG N cG) G->Row w1 w1.heap.size a1 (qaa z1)->Calls Tryz.prog 9 #[.slice AG N cG,.slice a1 len1 cap1,.int .i64 3] w1 (qp6 G z1 3 w1)):=qH fun AG cG w1 h1 h2=>
    qzr AG a1 N cG len1 cap1 3 G z1 w1 h1 HN.out.symm (by omega) h2 HR3.out hlc HR5.out (by omega) (by omega)
  have HB0:=qH hb0;have HW1:=qH hW1;clear g1 g2 g3 g4 g5 hG hadd hN hT HG1 r1 r2 r3 r4 r5 hLs h3 hb0 hW1 hT1 qaF hsc hst hc100 ht100
  go_enter Tryz.func8,Tryz.ntmps8
  go_upto_region 2 with (first
    | (go_at_call 10; rw [<- HW1.out]; (with_reducible refine HGOOD.out.mono ?_); rintro e w1 ⟨V, rfl, ho1, hb1⟩
       obtain ⟨AG,cG,rfl,hcG,hu⟩:=ho1.nest;rw [<- HN.out] at hcG ⊢;have HO1:Hid (qaP (fun k=>W1.heap.size<=k) w1 (.slice AG N cG) G):=qH (by rw [HN.out];exact ho1);have HB1:=qH hb1;clear ho1 hb1 hu)
    | (go_at_call 9; (with_reducible refine (HDC.out AG cG w1 HO1.out.small ((HR4.out.below HB1.out).more HB1.out.size)).mono ?_); rintro e w3 ⟨D, ls, xss, rfl, hdeal⟩
       rw [<- HLS.out] at hdeal;have HDL:=qH hdeal;have HB3:=qH (HB1.out.trans (hdeal.below.mono HB1.out.size));clear hdeal))
  have hst:qqb Ls key w3 (.slice none 0 0) (.slice none 0 0) (.int .i64 0) (.int .i64 0) (.int .i64 0) w3:=⟨0,[],[],Nat.zero_le _,rfl,by simp,by simp,qzg w3⟩;have HST:=qH hst;clear hst;go_wp2
  go_loopw [8,9,10,11,12,13,14,15,16] (fun vs vb n tt i _ _ _ _ wr=>qqb Ls key w3 vs vb n tt i wr) (fun _ _ _ _ i _ _ _ _ _=>3-(intOf i).toNat)
  case atStart=>exact HST.out
  case round=>
    clear HST;obtain ⟨k,Ss,Bs,hk,rfl,rfl,rfl,hrun⟩:=hrel;rw [H3.out] at hk;by_cases hk3:k<3
    · have hkl:k<Ls.length:=by rw [H3.out];exact hk3
      have hcell:=(HDL.out.cell hk3).1;have hes:=(HDL.out.own_es hk3).later hrun.below;have hlk:=(HDL.out.row hk3);obtain ⟨Av,cv,hav, -⟩:=qbh hlk;rw [hav] at hcell hes;have hc2:=(hrun.below.cell (p:=⟨D,k,none⟩) HDL.out.lt.1).trans hcell;have haL:=HADL.out _ (List.getElem_mem hkl);have htk:Ls.take (k+1)=Ls.take k++[Ls[k]]:=List.take_succ_eq_append_getElem hkl;have htl:(Ls.take k).length=k:=by rw [List.length_take];omega
      obtain ⟨L,hL⟩:∃ L,L=Ls[k]:=⟨_,rfl⟩;rw [<- hL] at hes hc2 haL htk;obtain ⟨n,hn⟩:∃ n,n=L.length:=⟨_,rfl⟩;rw [<- hn] at hes hc2;have hnl:n<=100:=by rw [hn];exact haL.few
      have HN2:=qH hn;have HES:=qH hes.small;have HAL:=qH haL;have HTK:=qH htk;have HTL:=qH htl;have HRUN:=qH hrun;have hcs:=qp2 (qcN key) hkl;have hts:=qp2 (qdp key) hkl;have hcl:=qp3 (qcN key) Ls (k+1);have htl2:=qp3 (qdp key) Ls (k+1);rw [HSC.out] at hcl;rw [HSTT.out] at htl2;obtain ⟨cL,hcL⟩:∃ c,c=qcN key Ls[k]:=⟨_,rfl⟩;obtain ⟨tL,htL⟩:∃ c,c=qdp key Ls[k]:=⟨_,rfl⟩;obtain ⟨cs,hcs0⟩:∃ c,c=((Ls.take k).map (qcN key)).sum:=⟨_,rfl⟩;obtain ⟨ct,hct0⟩:∃ c,c=((Ls.take k).map (qdp key)).sum:=⟨_,rfl⟩;rw [<- hcs0,<- hcL] at hcs;rw [<- hct0,<- htL] at hts;have hcb:cs+cL<=100:=by have :=HC100.out;omega
      have htb:ct+tL<=50000:=by have :=HT100.out;omega
      rw [<- hcs0,<- hct0];rw [<- hL] at hcL htL;have HCL:=qH hcL;have HTLL:=qH htL;have HCS:=qH hcs;have HTS:=qH hts;have hk31:(k:Int)<3:=by omega
      have hsz:=hrun.size;clear hcell hes hlk hav haL htk htl hL hn hrun hcs hts hcl htl2 hcL htL hcs0 hct0
      go_wp2_with (first
        | (go_at_call 11; (with_reducible refine (qzF (.slice Av n cv) L wr HES.out HAL.out).mono ?_); rintro e w5 ⟨S, rfl, hs5, -, hb5⟩
           have HR5b:=qH (HRUN.out.later hb5);have HS5:=qH hs5;have hsz5:=HR5b.out.size;clear hs5 hb5)
        | (at_builtin; refine wpList_append_own _ rfl (.tmp 39) (.tmp 41) 29 rfl w3.heap.size 33 i0 _ 1 8 Tryz.underlying29 ii0 iz0 iz1 iz2 rfl (by omega) u8 k (qbn Ss) rfl (by have := HR5b.out.segs.alloc (.cells #[.pointer (some ⟨S, 0, none⟩)] 33); rwa [HTL.out] at this) ⟨w5.heap.size, 0, none⟩ 1 1 [.pointer (some ⟨S, 0, none⟩)] rfl rfl (qaQ w5 [.pointer (some ⟨S, 0, none⟩)] 33) (by intro u hu; simp at hu; subst hu; rfl) (by unfold maxLen; omega) (by omega) (by simp; omega) ?_
           intro v6 w6 hown6 hgrow6 hz6;have hal:=(Below.refl w5.heap.size w5).alloc (Nat.le_refl _) (.cells #[.pointer (some ⟨S,0,none⟩)] 33);have hr5:=HR5b.out.later hal;rw [<- HTL.out] at hown6;have hs6:=(HS5.out.below hal).keptN (qeL.grown hr5.segs hgrow6) (by unfold qeM;decide);have HR6:=qH (hr5.seg (HS5.out.below hal) hown6 hgrow6);have HS6:=qH hs6;have hsz6:=HR6.out.size;clear hown6 hgrow6 hz6 hal hr5 hs6)
        | (go_at_call 20; (with_reducible refine (qzH HS6.out HN2.out).mono ?_); rintro e w7 ⟨rfl, hb7⟩
           have HR7:=qH (HR6.out.later hb7);have HB7b:=qH hb7;have hsz7:=HR7.out.size;clear hb7)
        | (go_at_call 19; (with_reducible refine (qy3 _ w7 (by omega)).mono ?_); rintro e w8 ⟨rfl, hs8, hb8⟩
           rw [Int.toNat_natCast] at hs8;have HR8:=qH (HR7.out.later hb8);have HS8:=qH (qy9 hs8);have HS8b:=qH ((HS6.out.below HB7b.out).below hb8);have hsz8:=HR8.out.size;clear hs8 hb8)
        | (at_builtin; refine wpList_append_own _ rfl (.tmp 43) (.tmp 47) 30 rfl w3.heap.size 37 j0 _ 1 8 Tryz.underlying30 ji0 jz0 jz1 jz2 rfl (by omega) u9 k (qbn Bs) rfl (by have := HR8.out.sets.alloc (.cells #[.pointer (some ⟨w7.heap.size, 0, none⟩)] 37); rwa [qia, HTL.out] at this) ⟨w8.heap.size, 0, none⟩ 1 1 [.pointer (some ⟨w7.heap.size, 0, none⟩)] rfl rfl (qaQ w8 [.pointer (some ⟨w7.heap.size, 0, none⟩)] 37) (by intro u hu; simp at hu; subst hu; rfl) (by unfold maxLen; omega) (by omega) (by simp; omega) ?_
           intro v9 w9 hown9 hgrow9 hz9;have hal:=(Below.refl w8.heap.size w8).alloc (Nat.le_refl _) (.cells #[.pointer (some ⟨w7.heap.size,0,none⟩)] 37);rw [show k=(qea (Ls.take k)).length by rw [qia,HTL.out]] at hown9;have hr9:=(HR8.out.later hal).set (HS8.out.below hal) hown9 hgrow9;rw [HN2.out,<- qzh,<- HTK.out] at hr9;have HR9:=qH hr9;have HT9:=qH (HS8b.out.below hal |>.keptN (qeL.grown (HR8.out.later hal).sets hgrow9) (by unfold qeM;decide))
           have HBB:=qH (HB3.out.trans (HR9.out.below.mono HB3.out.size));obtain ⟨k0,k1⟩:=HTC.out w9 HBB.out;clear hown9 hgrow9 hz9 hal hr9)
        | (go_at_call 26; (with_reducible refine (qqc HKEY.out HT9.out HCL.out hf hw).mono ?_); rintro e w10 ⟨rfl, hb10⟩
           have HR10:=qH (HR9.out.later hb10);have HT10:=qH (HT9.out.below hb10);have HBC:=qH (HBB.out.trans (hb10.mono HBB.out.size));obtain ⟨m0,m1⟩:=HTC.out w10 HBC.out;clear hb10)
        | (go_at_call 27; (with_reducible refine (qqd HKEY.out HT10.out HCL.out).mono ?_); rintro e w11 ⟨Ap, dp, rfl, hp11, hb11⟩
           have HR11:=qH (HR10.out.later hb11);have HP11:=qH hp11;clear hp11 hb11))
      obtain ⟨l,hl⟩:∃ l,l=qag 0 L key:=⟨_,rfl⟩;rw [<- hl] at HP11;have hll:l.length=cL:=by rw [hl,HCL.out];rfl
      have hlt:qai l=tL:=by rw [hl,HTLL.out];rfl
      have HLL:=qH hll;have HLT:=qH hlt;have HIN:Hid (qqe l ct w11 (.int .i64 (ct:Int)) (.int .i64 0) w11):=qH ⟨0,Nat.zero_le _,rfl,by simp [qai],rfl⟩;clear hl hll hlt k0 k1 m0 m1 hc2
      go_loopw [11,16] (fun tt i wx=>qqe l ct w11 tt i wx) (fun _ i _=>cL-(intOf i).toNat)
      case atStart=>exact HIN.out
      case round=>
        clear HIN;obtain ⟨j,hj,rfl,rfl,rfl⟩:=hrel;rw [HLL.out] at hj;by_cases hjc:j<cL
        · have hjl:j<l.length:=by rw [HLL.out];exact hjc
          obtain ⟨b5,o5,rfl,hb5',_,A',c',hc5,_,_,_⟩:=HP11.out.at_ hjl;have htk1:=qjF hjl;have htk2:=qhA (l:=l) (j+1);rw [HLT.out] at htk2;obtain ⟨nn,hnn⟩:∃ nn,nn=(l.getD j (0,[])).2.length:=⟨_,rfl⟩;rw [<- hnn] at hc5 htk1;obtain ⟨s1,hs1⟩:∃ s,s=qai (l.take j):=⟨_,rfl⟩;rw [<- hs1] at htk1 ⊢;obtain ⟨s2,hs2⟩:∃ s,s=ct+s1:=⟨_,rfl⟩;rw [<- hs2];have hbd:s2+nn<=50000:=by omega
          have HTK:Hid (ct+qai (l.take (j+1))=s2+nn):=qH (by omega);have hj1:(j:Int)<(cL:Int):=by omega
          clear htk1 htk2 hnn hs1 hs2;go_wp2;go_roundw
          case rel=>exact ⟨j+1,hjl,by go_num,congrArg (Value.int .i64) (by rw [HTK.out];omega),rfl⟩
          case measure=>simp [intOf];omega
        · have hjc':j=cL:=by omega
          subst hjc';rw [List.take_of_length_le (by rw [HLL.out];exact Nat.le_refl _),HLT.out];go_wp2;go_roundw
          case rel=>exact ⟨k+1,_,_,hkl,by go_num,congrArg (Value.int .i64) (by rw [HCS.out];omega),congrArg (Value.int .i64) (by rw [HTS.out]),HR11.out⟩
          case measure=>simp [intOf];omega
    · have hk3':k=3:=by omega
      subst hk3';have htk:Ls.take 3=Ls:=List.take_of_length_le (by rw [H3.out];exact Nat.le_refl _);rw [htk] at hrun;rw [htk,HSC.out,HSTT.out];obtain ⟨A,c,A2,c2,rfl,rfl,hcA,hcA2⟩:=hrun.lens;obtain ⟨hsg,hst⟩:=hrun.ins;rw [qia,H3.out];have hri:=qkH HADD.out;have hnd:(qaq Ls.flatten).Nodup:=by rw [HLS.out];exact qtu hri
      have hme:∀ x,x∈G↔∃ L∈Ls,x∈L:=fun x=>by rw [HLS.out];exact qts (by omega)
      have hfl:Ls.flatten.length<=10:=by rw [HLS.out,qzf z1 (by omega),<- HN.out];exact hlen
      have hbr:=HB3.out.trans (hrun.below.mono HB3.out.size);have hf2:=qpU Ls;have HM1:=qH (qzc A A2 3 c 3 c2 Ls (qea Ls) G wr hsg hst H3.out (by rw [qia];exact H3.out) (by omega) HADL.out (by omega) (HT.out.below hbr HT.out.lt) hf2 (qy7 hf2 hnd) hri fun x=>by rw [qpV];exact hme x);have HBR:=qH hbr;obtain ⟨cc,hcc⟩:∃ c,c=qcN key G:=⟨_,rfl⟩;obtain ⟨tt,htt⟩:∃ c,c=qdp key G:=⟨_,rfl⟩;have hc100:=HC100.out;have ht100:=HT100.out;rw [<- hcc] at hc100 ⊢;rw [<- htt] at ht100 ⊢;have HCC:=qH hcc;have HTT:=qH htt;clear hri hnd hme hfl hbr hf2 hrun hsg hst hcA hcA2 htk hcc htt
      go_upto_region 24 with (first
        | (go_at_call 14; (with_reducible refine HM1.out.mono ?_); rintro e w10 ⟨S10, rfl, hs10, -, hb10⟩
           have HS10:=qH hs10;have HB10:=qH (HBR.out.trans (hb10.mono HBR.out.size));obtain ⟨k0,k1⟩:=HTC.out w10 HB10.out;clear hs10 hb10)
        | (go_at_call 27; (with_reducible refine (qqd HKEY.out HS10.out HCC.out).mono ?_); rintro e w11 ⟨Ap, dp, rfl, hp11, hb11⟩
           have HS11:=qH (HS10.out.below hb11);have HB11:=qH (HB10.out.trans (hb11.mono HB10.out.size));have HP11:=qH hp11;obtain ⟨m0,m1⟩:=HTC.out w11 HB11.out;clear hp11 hb11))
      obtain ⟨l,hl⟩:∃ l,l=qag 0 G key:=⟨_,rfl⟩;rw [<- hl] at HP11;have hll:l.length=cc:=by rw [hl,HCC.out];rfl
      have hlt:qai l=tt:=by rw [hl,HTT.out];rfl
      have HLL:=qH hll;have HLT:=qH hlt;have HIN:Hid (qqf l tt w11 (.int .i64 (tt:Int)) (.int .i64 0) w11):=qH ⟨0,Nat.zero_le _,rfl,by simp [qai],rfl⟩;clear hl hll hlt k0 k1;go_wp2
      go_loopw [11,20] (fun tv i wx=>qqf l tt w11 tv i wx) (fun _ i _=>cc-(intOf i).toNat)
      case atStart=>exact HIN.out
      case round=>
        clear HIN;obtain ⟨j,hj,rfl,rfl,rfl⟩:=hrel;rw [HLL.out] at hj;by_cases hjc:j<cc
        · have hjl:j<l.length:=by rw [HLL.out];exact hjc
          obtain ⟨b5,o5,rfl,hb5',_,A',c',hc5,_,_,_⟩:=HP11.out.at_ hjl;have htk1:=qjF hjl;have htk2:=qhA (l:=l) (j+1);rw [HLT.out] at htk2;obtain ⟨nn,hnn⟩:∃ nn,nn=(l.getD j (0,[])).2.length:=⟨_,rfl⟩;rw [<- hnn] at hc5 htk1;obtain ⟨s1,hs1⟩:∃ s,s=qai (l.take j):=⟨_,rfl⟩;rw [<- hs1] at htk1 ⊢;obtain ⟨s2,hs2⟩:∃ s:Int,s=(tt:Int)-(s1:Int):=⟨_,rfl⟩;rw [<- hs2];have hbd:0<=s2-(nn:Int)/\s2<=50000:=by omega
          have HTK:Hid ((tt:Int)-(qai (l.take (j+1)):Nat)=s2-(nn:Int)):=qH (by omega);obtain ⟨hbd1,hbd2⟩:=hbd;have hwz:=IntWalk.i64_in (s2-(nn:Int)) (by omega);have hj1:(j:Int)<(cc:Int):=by omega
          clear htk1 htk2 hnn hs1 hs2;go_wp2;go_roundw
          case rel=>exact ⟨j+1,hjl,by go_num,congrArg (Value.int .i64) (by rw [HTK.out]),rfl⟩
          case measure=>simp [intOf];omega
        · have hjc':j=cc:=by omega
          subst hjc';rw [List.take_of_length_le (by rw [HLL.out];exact Nat.le_refl _),HLT.out];have hz0:(tt:Int)-(tt:Int)=0:=by omega
          rw [hz0];clear hz0
          go_wp2_with (first
            | (go_at_call 26; (with_reducible refine (qqc HKEY.out HS11.out HCC.out hf hw).mono ?_); rintro e w12 ⟨rfl, hb12⟩
               have HB12:=qH (HB11.out.trans (hb12.mono HB11.out.size));clear hb12)
            | (go_at_call 18; (with_reducible refine (qud qzG w12).mono ?_); rintro e w13 ⟨rfl, hb13⟩
               have HB13:=qH (HB12.out.trans (hb13.mono HB12.out.size));clear hb13))
          go_ret;exact ⟨rfl,HB0.out.trans (HB13.out.mono HB0.out.size)⟩
end Go.Proofs.YtpehcaidjlemiaaGreatDoor
