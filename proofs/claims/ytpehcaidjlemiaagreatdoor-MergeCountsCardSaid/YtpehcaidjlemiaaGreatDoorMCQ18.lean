import Derived.Test.YtpehcaidjlemiaaGreatDoorMCZz
import Derived.Test.YtpehcaidjlemiaaGreatDoorMCQ17
import Derived.Test.YtpehcaidjlemiaaGreatDoorMCQ09
import Derived.Test.YtpehcaidjlemiaaGreatDoorMCQ10
import Derived.Deep.RegionHeld3
import Derived.Test.YtpehcaidjlemiaaGreatDoorMCQ16
set_option maxHeartbeats 4000000
set_option maxRecDepth 100000
set_option linter.unusedVariables false
namespace Go.Proofs.YtpehcaidjlemiaaGreatDoor
open Go Go.RowKit
def qww (l:List Po) (w:World) (r last i:Value) (wr:World):Prop:=r= .bool false/\∃ (k:Nat) (x:Int),k<=l.length/\i= .int .i64 (k:Int)/\last= .int .i64 x/\qaT x (l.drop k)=qaT (-1) l/\Below w.heap.size w wr
theorem qoZ (A:Option Addr) (n d:Nat) (l:List Po) (w:World) (hn:l.length=n) (hnx:n<=9223372036854775807) (hpo:qbp w w.heap.size A l) (hpl:∀ p∈l,p.2.length<=9223372036854775807):
  Calls Tryz.prog 115 #[.slice A n d] w fun e w'=>e= .returned (.bool (qaT (-1) l))/\Below w.heap.size w w':=by
 subst hn;obtain ⟨ans,hans⟩:∃ ans,ans=qaT (-1) l:=⟨_,rfl⟩;rw [<- hans];have HANS:=qH hans;have HPO:=qH hpo;have HPL:=qH hpl;clear hans hpo hpl
 go_enter Tryz.func115,Tryz.ntmps115
 go_wp2
 go_loopw [2,3,8] (fun r last i wr=>qww l w r last i wr) (fun _ _ i _=>l.length-(intOf i).toNat)
 case atStart=>exact ⟨rfl,0, -1,by omega,rfl,rfl,rfl,Below.refl _ _⟩
 case round=>
  obtain ⟨rfl,k,x,hk,rfl,rfl,hris,hbw⟩:=hrel;have hsz:=hbw.size;by_cases hlt:k<l.length
  ·obtain ⟨b1,o1,e1,hb1,hc1,A2,c2,hc2,hlc,hcx,hr2⟩:=(HPO.out.below hbw).at_ hlt
   subst e1;have hlp:=HPL.out (l.getD k (0,[])) (by rw [List.getD_eq_getElem?_getD,List.getElem?_eq_getElem hlt];simp);rw [qnt hlt] at hris;obtain ⟨q,hq⟩:∃ q,q=l.getD k (0,[]):=⟨_,rfl⟩;rw [<- hq] at hc1 hc2 hlc hr2 hris hlp;obtain ⟨y,ps⟩:=q;simp only at hc1 hc2 hlc hr2 hlp;obtain ⟨P,hP⟩:∃ P,P=ps.length:=⟨_,rfl⟩;rw [<- hP] at hc2 hlp;have hmp:=fun w1 (h:Row w1 w1.heap.size A2 (qaa ps))=>qoX A2 P c2 ps w1 h hP.symm (by omega)
   have hr3:Row (wr.alloc (.cells #[.int .i64 y,.slice A2 P c2] 74)) (wr.alloc (.cells #[.int .i64 y,.slice A2 P c2] 74)).heap.size A2 (qaa ps):=
    (hr2.below ((Below.refl _ wr).alloc hsz _)).more (by simp;omega)
   have hmp2:=hmp _ hr3;rw [qaT] at hris;simp only at hris;have HBW:=qH (hbw.trans (((Below.refl _ wr).alloc (Nat.le_refl _) (.cells #[.int .i64 y,.slice A2 P c2] 74)).mono hsz));clear hmp hr3 hr2 hP hq hbw;by_cases hxy:y<=x
   ·rw [decide_eq_false (p:=x<y) (by omega),Bool.false_and,Bool.false_and,Bool.false_and,<- HANS.out] at hris
    subst hris;have hd:decide (y<=x)=true:=decide_eq_true hxy;clear hmp2;go_wp2;go_ret;exact ⟨rfl,HBW.out⟩
   ·have hd:decide (y<=x)=false:=decide_eq_false hxy
    by_cases hyb:2147483648<=y
    ·rw [decide_eq_false (p:=y<2147483648) (by omega),Bool.and_false,Bool.false_and,Bool.false_and,<- HANS.out] at hris
     subst hris;have hd2:decide (2147483648<=y)=true:=decide_eq_true hyb;clear hmp2;go_wp2;go_ret;exact ⟨rfl,HBW.out⟩
    ·have hd2:decide (2147483648<=y)=false:=decide_eq_false hyb
     rw [decide_eq_true (p:=x<y) (by omega),decide_eq_true (p:=y<2147483648) (by omega),Bool.true_and,Bool.true_and] at hris;have HMP:=qH hmp2;have HR:=qH hris;clear hmp2 hris;rcases hpb:qcS ps with _|_
     ·rw [hpb] at HMP HR
      go_wp2_with (go_at_call 161;refine HMP.out.mono ?_;rintro e w' ⟨rfl,rfl⟩)
      go_ret;exact ⟨qfh (by rw [HANS.out,<- HR.out,Bool.false_and]),HBW.out⟩
     ·rw [hpb] at HMP HR
      go_wp2_with (go_at_call 161;refine HMP.out.mono ?_;rintro e w' ⟨rfl,rfl⟩)
      go_roundw
      case rel=>exact ⟨rfl,k+1,y,by omega,by go_num,rfl,by rw [<- HR.out,Bool.true_and],HBW.out⟩
      case measure=>simp [intOf];omega
  ·have hx2:qaT x (l.drop k)=true:=by rw [List.drop_eq_nil_of_le (by omega)];rfl
   rw [hx2,<- HANS.out] at hris;subst hris;clear hx2;go_wp2;go_ret;exact ⟨rfl,hbw⟩
def qo0 (all:List UInt8) (l:List Po) (w:World) (last v i:Value) (wr:World):Prop:=
 ∃ (cur:List UInt8) (k:Nat) (x:Int),k<=l.length/\i= .int .i64 (k:Int)/\last= .int .i64 x/\ -1<=x/\qaT x (l.drop k)=true/\cur.length<=all.length/\cur++qab x (l.drop k)=all/\Own w.heap.size wr v cur/\Below w.heap.size w wr
theorem qwx (A:Option Addr) (n d:Nat) (l:List Po) (x0:Int) (w:World) (hn:l.length=n) (hn60:n<=100) (hpo:qbp w w.heap.size A l) (hx0: -1<=x0) (hmay:qaT x0 l=true) (hpl:∀ p∈l,p.2.length<=2147483648) (hal0:(qab x0 l).length<=400000000000):
  Calls Tryz.prog 117 #[.slice A n d,.int .i64 x0] w (qfA w.heap.size (qab x0 l) w):=by
 obtain ⟨i0,hi0,hz0,hz1,hz2⟩:=info_parts qhu;subst hn;obtain ⟨all,hall⟩:∃ all,all=qab x0 l:=⟨_,rfl⟩;rw [<- hall] at hal0;rw [<- hall];have HALL:=qH hall;have HPO:=qH hpo;have HMAY:=qH hmay;have HPL:=qH hpl;clear hall hpo hmay hpl
 go_enter Tryz.func117,Tryz.ntmps117
 go_wp2
 go_loopw [1,5,12] (fun last v i wr=>qo0 all l w last v i wr) (fun _ _ i _=>l.length-(intOf i).toNat)
 case atStart=>exact ⟨[],0,x0,by omega,rfl,rfl,hx0,HMAY.out,by simp,HALL.out.symm,World.ownsRow_nil _ _ _ _,Below.refl _ _⟩
 case round=>
  obtain ⟨cur,k,x,hk,rfl,rfl,hx1,hris,hcl,hcat,hown,hbw⟩:=hrel;have hsz:=hbw.size;by_cases hlt:k<l.length
  ·obtain ⟨b1,o1,e1,hb1,hc1,A2,c2,hc2,hlc,hcx,hr2⟩:=(HPO.out.below hbw).at_ hlt
   subst e1;have hlp:=HPL.out (l.getD k (0,[])) (by rw [List.getD_eq_getElem?_getD,List.getElem?_eq_getElem hlt];simp);rw [qnt hlt] at hris hcat;obtain ⟨q,hq⟩:∃ q,q=l.getD k (0,[]):=⟨_,rfl⟩;rw [<- hq] at hc1 hc2 hlc hr2 hris hcat hlp;obtain ⟨y,ps⟩:=q;simp only at hc1 hc2 hlc hr2 hlp;obtain ⟨hxy,hyb,hps,hris⟩:=qeA.1 hris;simp only at hxy hyb hps hris;simp only [qab] at hcat;obtain ⟨g,hg⟩:∃ g:Nat,y-(x+1)=(g:Int):=⟨(y-(x+1)).toNat,by omega⟩;rw [hg,Int.toNat_natCast,<- List.append_assoc,<- List.append_assoc] at hcat;have hcl2:((cur++qah g)++qbv ps).length<=all.length:=by rw [<- hcat,List.length_append (bs:=qab y _)];omega
   have hpb:=qhj hps;have hg0:g<9223372036854775808:=by omega
   have hpu:∀ w',Calls Tryz.prog 164 #[.slice none 0 0,.int .i64 (y-(x+1))] w' (qfA w'.heap.size (qah g) w'):=fun w'=>by
    have :=qws none 0 0 [] g w' rfl (Nat.le_refl _) Row.nil hg0 (by simp);rw [List.nil_append] at this;rwa [hg]
   obtain ⟨P,hP⟩:∃ P,P=ps.length:=⟨_,rfl⟩;have hal:=(Below.refl wr.heap.size wr).alloc (Nat.le_refl _) (.cells #[.int .i64 y,.slice A2 P c2] 74);have hpr:=qwv none 0 0 [] A2 P c2 ps (wr.alloc (.cells #[.int .i64 y,.slice A2 P c2] 74)) rfl (Nat.le_refl _) Row.nil (by omega) hP.symm (by omega) ((hr2.below (hal.mono hsz)).more (by simp;omega)) (fun x hx=>by have :=hpb x hx;omega) (qfN.1 hps).1;rw [List.nil_append] at hpr;rw [<- hP] at hc2 hlc;have hpl9:=qmT hps (by omega);obtain ⟨Q,hQ⟩:∃ Q,Q=(qbv ps).length:=⟨_,rfl⟩;rw [<- hP,<- hQ] at hpl9;have hP20:P<=2147483648:=by omega
   have h9g:=qeX hg0;obtain ⟨G,hG⟩:∃ G,G=(qah g).length:=⟨_,rfl⟩;rw [<- hG] at h9g;have HQ:=qH hQ;have HGL:=qH hG;have HPU:=qH hpu;have HPR:=qH hpr;have HAL:=qH hal;have HBW:=qH hbw;have HCAT:=qH hcat;have HRIS:=qH hris;have HCL:=qH hcl2;have HOW:=qH (hown.below hal);have HCV:Hid (∀ k,u5.ownBlock=some k->k<wr.heap.size):=qH fun k hk=>(hown.lt k hk).2
   clear hq hg hpu hP hal hpr hQ hG hcat hris hcl2 hown hpb hps hr2 hlp hbw
   go_wp2_with (go_at_call 163;refine HPR.out.mono ?_)
   rintro e w4 ⟨v4,rfl,hown4,hb4⟩;obtain ⟨A4,c4,rfl,_,hr4⟩:=hown4.row;have hnb:wr.heap.size<(wr.alloc (.cells #[.int .i64 y,.slice A2 P c2] 74)).heap.size:=by simp
   have hpb4:w4.heap[wr.heap.size]?=some (.cells #[.int .i64 y,.slice A2 P c2] 74 (0,0)):=(hb4.block wr.heap.size hnb).trans (heap_alloc_new wr _);have hdc:=(qj8 hpb4).1;have HO4:=qH hown4;have hB4:=HBW.out.trans ((HAL.out.mono hsz).trans (hb4.mono (by simp;omega)));have hs4:=hB4.size;have HR4:=qH hr4;have HB4:=qH hB4;have hw4:wr.heap.size+1<=w4.heap.size:=by have :=hb4.size;simpa using this
   have HOW4:=qH (HOW.out.below hb4);rw [<- HQ.out];clear hown4 hb4 hr4 hB4 HOW HPR
   go_wp2_with (go_at_call 164;refine (HPU.out _).mono ?_)
   rintro e w5 ⟨v5,rfl,hown5,hb5⟩;obtain ⟨A5,c5,rfl,_,hr5⟩:=hown5.row;have hpb5:w5.heap[wr.heap.size]?=some (.cells #[.int .i64 y,.slice A2 P c2] 74 (0,0)):=(hb5.block wr.heap.size (by omega)).trans hpb4;have HOW5:=qH (HOW4.out.below hb5);have HR5:=qH hr5;have HO5:=qH (HO4.out.below hb5);have hB5:=HB4.out.trans (hb5.mono hs4);have hs5:=hB5.size;have HB5:=qH hB5;have hw5:w4.heap.size<=w5.heap.size:=hb5.size;rw [<- HGL.out];have hcurl:cur.length+G+Q<=all.length:=by have :=HCL.out;rw [List.length_append,List.length_append,<- HGL.out,<- HQ.out] at this;omega
   clear hown5 hb5 hr5 hB5 hdc hpb4 HOW4 HO4 HR4 HPU HB4
   go_wp2_with (at_builtin;refine qfG _ rfl (.tmp 22) (.tmp 28) 178 rfl w.heap.size 5 i0 _ 1 1 Tryz.underlying178 hi0 hz0 hz1 hz2 rfl (by omega) _ cur.length (Lib.byteCells cur) rfl HOW5.out _ A5 G c5 (Lib.byteCells (qah g)) rfl (by rw [Lib.byteCells_length,HGL.out];omega) HR5.out (qju _) (by unfold maxLen;omega) (by omega) hs5 ?_)
   intro v6 w6 hown6 hg6;have hb6:Below w.heap.size w5 w6:=(Below.refl _ w5).grown hg6 hs5 fun k hk=>(HOW5.out.lt k hk).1
   have hpb6:w6.heap[wr.heap.size]?=some (.cells #[.int .i64 y,.slice A2 P c2] 74 (0,0)):=(hg6.block wr.heap.size (by omega) (fun e=>qap HOW5.out hpb5 (by decide) e.symm)).trans hpb5;have hs6:w.heap.size<=w6.heap.size:=by have :=hb6.size;omega
   have hw6:w5.heap.size<=w6.heap.size:=hb6.size;have ho6:Own (wr.alloc (.cells #[.int .i64 y,.slice A2 P c2] 74)).heap.size w6 (.slice A4 (qbv ps).length c4) (qbv ps):=
    qav HO5.out fun g hg=>hg6.block g (HO5.out.lt g hg).2 fun e=>by
     have h1:=HCV.out g e.symm;have h2:=(HO5.out.lt g hg).1;omega
   have hr6:=qbG ho6;have HR6:=qH hr6;have HO6:=qH (qjD HGL.out.symm hown6);obtain ⟨cur2,hc2⟩:∃ cur2,cur2=cur++qah g:=⟨_,rfl⟩;have hl2:cur2.length+Q<=800000000000:=by rw [hc2,List.length_append,<- HGL.out];omega
   rw [<- hc2] at HO6;have HC2:=qH hc2;have HB6:=qH (HB5.out.trans hb6);clear hown6 hg6 hb6 ho6 hr6 hc2 HB5 HOW5 HO5 HR5 HCV hpb5
   go_wp2_with (at_builtin;refine qfG _ rfl (.tmp 30) (.tmp 31) 178 rfl w.heap.size 5 i0 _ 1 1 Tryz.underlying178 hi0 hz0 hz1 hz2 rfl (by omega) _ cur2.length (Lib.byteCells cur2) rfl HO6.out _ A4 Q c4 (Lib.byteCells (qbv ps)) rfl (by rw [Lib.byteCells_length,HQ.out];omega) HR6.out (qju _) (by unfold maxLen;omega) (by omega) hs6 ?_)
   intro v7 w7 hown7 hg7;have hb7:Below w.heap.size w6 w7:=(Below.refl _ w6).grown hg7 hs6 fun k hk=>(HO6.out.lt k hk).1
   have hpb7:w7.heap[wr.heap.size]?=some (.cells #[.int .i64 y,.slice A2 P c2] 74 (0,0)):=(hg7.block wr.heap.size (by omega) (fun e=>qap HO6.out hpb6 (by decide) e.symm)).trans hpb6;have hd7:=(qj8 hpb7).1;have hfin:qo0 all l w (.int .i64 y) v7 (.int .i64 ((k:Int)+1)) w7:=by
    refine ⟨cur2++qbv ps,k+1,y,by omega,by simp,rfl,by omega,HRIS.out,by rw [HC2.out];exact HCL.out,by rw [HC2.out];exact HCAT.out,qjD HQ.out.symm hown7,HB6.out.trans hb7⟩
   have HF:=qH hfin;clear hfin hown7 hg7 hb7 hpb6 hpb7;go_wp2;go_roundw
   case rel=>exact HF.out
   case measure=>simp [intOf];omega
  ·rw [List.drop_eq_nil_of_le (by omega)] at hcat
   simp only [qab,List.append_nil] at hcat;subst hcat;go_wp2;go_ret;exact ⟨_,rfl,hown,hbw⟩
theorem qwy {l:List Pn} {j:Nat} (h:j+1=l.length):l.getLast?=some (l.getD j (0,[])):=by
 rw [List.getLast?_eq_getElem?,List.getD_eq_getElem?_getD,<- h];simp;rw [List.getElem?_eq_getElem (by omega)];rfl
theorem qwz {n:Nat} {l:List Pn} {j:Nat} (h:j+1=l.length):qcx n l=(qaT (-1) l&&decide ((l.getD j (0,[])).1<(n:Int))):=by
 unfold qcx;rw [qwy h];have :l.length≠0:=by omega
 simp [this]
theorem qwA {n:Nat} {l:List Pn} (h:l.length=0):qcx n l=false:=by
 have :l=[]:=List.eq_nil_of_length_eq_zero h;subst this;rfl
theorem qwB (D many:Nat) (A:Option Addr) (n c:Nat) (l:List Pn) (w:World) (hD:w.heap[D]?=some (.cells #[.int .i64 (many:Int)] 3 (0,0))) (hn:l.length=n) (hnx:n<=9223372036854775807) (hp:qbp w w.heap.size A l) (hpl:∀ p∈l,p.2.length<=9223372036854775807):
    Calls Tryz.prog 160 #[.slice A n c,.pointer (some ⟨D,0,none⟩)] w fun e w'=>e= .returned (.bool (!qcx many l))/\Below w.heap.size w w':=by
  have cD:=cell_of_one hD;rcases Nat.eq_zero_or_pos n with h0|h0
  · have hv:qcx many l=false:=qwA (by omega)
    rw [hv];subst h0;clear hp hpl hn hv
    go_enter Tryz.func160,Tryz.ntmps160
    go_wp2
    go_quiet (fail)
    go_wp2;go_ret;exact ⟨rfl,⟨rfl,rfl,rfl,Nat.le_refl _,fun _ _=>rfl⟩⟩
  · obtain ⟨j,hj⟩:∃ j,j+1=n:=⟨n-1,by omega⟩
    have e4:((n:Int)==0)=false:=by rw [beq_eq_false_iff_ne];omega
    have hv:=qwz (n:=many) (l:=l) (j:=j) (by omega);have HM:=qH (qoZ A n c l w.drew hn hnx hp hpl);obtain ⟨b3,o3,e3,hb3,hc3,_⟩:=hp.at_ (k:=j) (by omega);subst e3;obtain ⟨y,hy⟩:∃ y,y=(l.getD j (0,[])).1:=⟨_,rfl⟩;rw [<- hy] at hv hc3;obtain ⟨m,hm⟩:∃ m,m=qaT (-1) l:=⟨_,rfl⟩;rw [<- hm] at hv HM;obtain ⟨z,hz⟩:∃ z,z=qcx many l:=⟨_,rfl⟩;rw [<- hz] at hv ⊢;have hw2:IntKind.i64.wrap ((n:Int)-1)=(j:Int):=by rw [IntWalk.i64_in _ (by omega)];omega
    have hj0:(0:Int)<=j:=by omega
    have hjn:(j:Int)<n:=by omega
    have HV:=qH hv;have hDl:=lt_of_block hD;have HK:Hid (∀ w',Below w.heap.size w w'->w'.cell? ⟨D,0,none⟩=some (.int .i64 (many:Int))/\w'.cell? ⟨b3,o3+j*2,none⟩=some (.int .i64 y)):=qH fun w' hb=>⟨(hb.cell (p:=⟨D,0,none⟩) hDl).trans cD,(hb.cell (p:=⟨b3,o3+j*2,none⟩) hb3).trans hc3⟩
    have HB0:Hid (Below w.heap.size w w.drew):=qH ⟨rfl,rfl,rfl,Nat.le_refl _,fun _ _=>rfl⟩;clear hy hm hz hj hv hp hpl hn hD;cases m with
    |false=>
      have hzf:z=false:=HV.out;subst hzf
      go_enter Tryz.func160,Tryz.ntmps160
      go_upto_region 1 with fail
      refine wp_region_noPanic ?_;refine wp_region_held_drew (S:=fun _=>True) (by kernel_rfl) (trivial) (fun hHeld=> ?_)
      refine wpAnyH_take (i:=0) (v:= .slice (some ⟨b3,o3,none⟩) n c) rfl (by kernel_rfl) (by kernel_rfl) (by kernel_rfl) (fun _ _ _ h=>h) (Or.inl ⟨by rfl,fun wx hSw=>by go_simp⟩) (by assumption) ?_
      try simp only [Act.put,zA,zB,zD,zE,zF]
      refine wpAnyH_take (i:=1) (v:= .int .i64 (n:Int)) rfl (by kernel_rfl) (by kernel_rfl) (by kernel_rfl) (fun _ _ _ h=>h) (Or.inl ⟨by rfl,fun wx hSw=>by go_simp⟩) (by assumption) ?_
      try simp only [Act.put,zA,zB,zC,zD,zE,zF]
      refine wpAnyH_take (i:=2) (v:= .bool false) rfl (by kernel_rfl) (by kernel_rfl) (by kernel_rfl) (fun _ _ _ h=>h) (Or.inl ⟨by rfl,fun wx hSw=>by go_simp⟩) (by assumption) ?_
      try simp only [Act.put,zA,zB,zC,zD,zE,zF]
      refine wpAnyH_take (i:=3) (v:= .bool false) rfl (by kernel_rfl) (by kernel_rfl) (by kernel_rfl) (fun _ _ _ h=>h) (Or.inl ⟨by rfl,fun wx hSw=>by go_simp⟩) (by assumption) ?_
      try simp only [Act.put,zA,zB,zC,zD,zE,zF]
      refine wpAnyH_take (i:=4) (v:= .slice (some ⟨b3,o3,none⟩) n c) rfl (by kernel_rfl) (by kernel_rfl) (by kernel_rfl) (fun _ _ _ h=>h) (Or.inl ⟨by rfl,fun wx hSw=>by go_simp⟩) (by assumption) ?_
      try simp only [Act.put,zA,zB,zC,zD,zE,zF]
      refine wpAnyH_ready (rs:=[5]) (by kernel_rfl) (by simp) ?_;refine AllReadyH.cons rfl (fun K hK=> ?_) AllReadyH.nil
      try simp only [zA,zB,zC]
      go_simp
      go_at_call 115
      (with_reducible refine HM.out.mono ?_)
      rintro e w4 ⟨rfl,hb4⟩;have HB1:Hid (Below w.heap.size w w4):=qH (HB0.out.trans hb4)
      go_wp2_with fail
      refine hK.out _ _ ?_ (fun hHeld1=> ?_)
      · exact trivial
      clear hK K
      try simp only [Act.put,zA,zB,zC,zD,zE,zF]
      refine wpAnyH_take (i:=6) (v:= .bool true) rfl (by kernel_rfl) (by kernel_rfl) (by kernel_rfl) (fun _ _ _ h=>h) (Or.inl ⟨by rfl,fun wx hSw=>by go_simp⟩) (by assumption) ?_
      try simp only [Act.put,zA,zB,zC,zD,zE,zF]
      refine wpAnyH_take (i:=7) (v:= .bool true) rfl (by kernel_rfl) (by kernel_rfl) (by kernel_rfl) (fun _ _ _ h=>h) (Or.inl ⟨by rfl,fun wx hSw=>by go_simp⟩) (by assumption) ?_
      try simp only [Act.put,zA,zB,zC,zD,zE,zF]
      refine wpAnyH_take (i:=8) (v:= .bool true) rfl (by kernel_rfl) (by kernel_rfl) (by kernel_rfl) (fun _ _ _ h=>h) (Or.inl ⟨by rfl,fun wx hSw=>by go_simp⟩) (by assumption) ?_
      try simp only [Act.put,zA,zB,zC,zD,zE,zF]
      refine wpAnyH_take (i:=9) (v:=undef) rfl (by kernel_rfl) (by kernel_rfl) (by kernel_rfl) (fun _ _ _ h=>h) (Or.inr ⟨by rfl,rfl⟩) (by assumption) ?_
      try simp only [Act.put,zA,zB,zC,zD,zE,zF]
      refine wpAnyH_take (i:=10) (v:=undef) rfl (by kernel_rfl) (by kernel_rfl) (by kernel_rfl) (fun _ _ _ h=>h) (Or.inr ⟨by rfl,rfl⟩) (by assumption) ?_
      try simp only [Act.put,zA,zB,zC,zD,zE,zF]
      refine wpAnyH_take (i:=11) (v:=undef) rfl (by kernel_rfl) (by kernel_rfl) (by kernel_rfl) (fun _ _ _ h=>h) (Or.inr ⟨by rfl,rfl⟩) (by assumption) ?_
      try simp only [Act.put,zA,zB,zC,zD,zE,zF]
      refine wpAnyH_take (i:=12) (v:=undef) rfl (by kernel_rfl) (by kernel_rfl) (by kernel_rfl) (fun _ _ _ h=>h) (Or.inr ⟨by rfl,rfl⟩) (by assumption) ?_
      try simp only [Act.put,zA,zB,zC,zD,zE,zF]
      refine wpAnyH_take (i:=13) (v:=undef) rfl (by kernel_rfl) (by kernel_rfl) (by kernel_rfl) (fun _ _ _ h=>h) (Or.inr ⟨by rfl,rfl⟩) (by assumption) ?_
      try simp only [Act.put,zA,zB,zC,zD,zE,zF]
      refine wpAnyH_take (i:=14) (v:=undef) rfl (by kernel_rfl) (by kernel_rfl) (by kernel_rfl) (fun _ _ _ h=>h) (Or.inr ⟨by rfl,rfl⟩) (by assumption) ?_
      try simp only [Act.put,zA,zB,zC,zD,zE,zF]
      refine wpAnyH_take (i:=15) (v:=undef) rfl (by kernel_rfl) (by kernel_rfl) (by kernel_rfl) (fun _ _ _ h=>h) (Or.inr ⟨by rfl,rfl⟩) (by assumption) ?_
      try simp only [Act.put,zA,zB,zC,zD,zE,zF]
      refine wpAnyH_take (i:=16) (v:=undef) rfl (by kernel_rfl) (by kernel_rfl) (by kernel_rfl) (fun _ _ _ h=>h) (Or.inr ⟨by rfl,rfl⟩) (by assumption) ?_
      try simp only [Act.put,zA,zB,zC,zD,zE,zF]
      refine wpAnyH_take (i:=17) (v:=undef) rfl (by kernel_rfl) (by kernel_rfl) (by kernel_rfl) (fun _ _ _ h=>h) (Or.inr ⟨by rfl,rfl⟩) (by assumption) ?_
      try simp only [Act.put,zA,zB,zC,zD,zE,zF]
      refine wpAnyH_take (i:=18) (v:= .bool true) rfl (by kernel_rfl) (by kernel_rfl) (by kernel_rfl) (fun _ _ _ h=>h) (Or.inl ⟨by rfl,fun wx hSw=>by go_simp⟩) (by assumption) ?_
      try simp only [Act.put,zA,zB,zC,zD,zE,zF]
      refine wpAnyH_take (i:=19) (v:= .bool true) rfl (by kernel_rfl) (by kernel_rfl) (by kernel_rfl) (fun _ _ _ h=>h) (Or.inl ⟨by rfl,fun wx hSw=>by go_simp⟩) (by assumption) ?_
      try simp only [Act.put,zA,zB,zC,zD,zE,zF]
      refine wpAnyH_done (by kernel_rfl) ?_ _;refine NoPanic.normal ?_;go_wp2;go_ret;exact ⟨rfl,HB1.out⟩
    |true=>
      have hzt:z=decide (y<(many:Int)):=by rw [HV.out,Bool.true_and]
      have hd:decide ((many:Int)<=y)= !z:=by
        rw [hzt];by_cases h:y<(many:Int)
        · rw [decide_eq_true h,decide_eq_false (by omega)];rfl
        · rw [decide_eq_false h,decide_eq_true (by omega)];rfl
      clear hzt
      go_enter Tryz.func160,Tryz.ntmps160
      go_wp2
      go_region_held3 (fun w'=>(w'.cell? ⟨D,0,none⟩=some (.int .i64 (many:Int))/\w'.cell? ⟨b3,o3+j*2,none⟩=some (.int .i64 y))/\Below w.heap.size w w')
        (first|exact ⟨HK.out _ HB0.out,HB0.out⟩|exact ⟨HK.out _ HB1.out,HB1.out⟩)
        (first
          | (go_at_call 115; (with_reducible refine HM.out.mono ?_); rintro e w4 ⟨rfl, hb4⟩
             have HB1:Hid (Below w.heap.size w w4):=qH (HB0.out.trans hb4)))
      go_wp2;go_ret;exact ⟨rfl,HB1.out⟩
def qwC (D many:Nat) (ls:List (List Pn)) (w:World) (r u i:Value) (wr:World):Prop:=r= .int .i64 0/\∃ k:Nat,k<=ls.length/\i= .int .i64 (k:Int)/\Below w.heap.size w wr/\∀ j (hj:j<ls.length),j<k->qcx many ls[j]=true
theorem qwD (D many:Nat) (A:Option Addr) (n c:Nat) (ls:List (List Pn)) (w:World) (hD:w.heap[D]?=some (.cells #[.int .i64 (many:Int)] 3 (0,0))) (hn:ls.length=n) (hnx:n<=9223372036854775807) (hr:qcU w w.heap.size A ls) (hf:∀ l∈ls,l.length<=9223372036854775807/\∀ p∈l,p.2.length<=9223372036854775807):
  Calls Tryz.prog 159 #[.slice A n c,.func (.func 160) #[] #[.pointer (some ⟨D,0,none⟩)]] w fun e w'=>(∃ r:Int,e= .returned (.int .i64 r)/\decide (0<=r)= !(ls.all (qcx many)))/\Below w.heap.size w w':=by
 have HR:=qH hr;have HN:=qH hn;have HF:=qH hf;have HD:=qH hD;clear hr hn hf hD
 go_enter Tryz.func159,Tryz.ntmps159
 go_wp2
 go_loopw [4,5,8] (fun r u i wr=>qwC D many ls w r u i wr) (fun _ _ i _=>n-(intOf i).toNat)
 case atStart=>exact ⟨rfl,0,Nat.zero_le _,rfl,Below.refl _ _,fun j _ hj=>by omega⟩
 case round=>
  obtain ⟨rfl,k,hk,rfl,hbw,hall⟩:=hrel;rw [HN.out] at hk;have HALL:=qH hall;clear hall;by_cases hkn:k<n
  ·have hlt:k<ls.length:=by rw [HN.out];exact hkn
   obtain ⟨b1,o1,A',c',rfl,hb1,hc1,hl1,hp1⟩:=(HR.out.below hbw).at_ hlt;have f1:=HF.out _ (List.getElem_mem hlt);have hi0:(0:Int)<=k:=by omega
   have hi1:(k:Int)<n:=by omega
   obtain ⟨L,hL⟩:∃ L,L=ls[k]:=⟨_,rfl⟩;rw [<- hL] at hc1 hl1 hp1 f1;obtain ⟨m,hm⟩:∃ m,m=L.length:=⟨_,rfl⟩;rw [<- hm] at hc1 hl1 f1;have hsz:=hbw.size;have HW:=qH (qwB D many A' m c' L wr ((hbw.block D (lt_of_block HD.out)).trans HD.out) hm.symm f1.1 (hp1.more hsz) f1.2);have HL:=qH hL;obtain ⟨z,hz⟩:∃ z,z=qcx many L:=⟨_,rfl⟩;rw [<- hz] at HW;have HZ:=qH hz;have HBW:=qH hbw;clear hL hm hz f1 hp1 hl1 hbw;cases z with
   |false=>
    have hbad:Hid (ls.all (qcx many)=false):=qH (by
     rw [List.all_eq_false];exact ⟨_,List.getElem_mem hlt,by rw [<- HL.out,<- HZ.out];decide⟩)
    go_wp2_with (go_at_call 160;(with_reducible refine HW.out.mono ?_);rintro e w5 ⟨rfl,hb5⟩)
    go_ret;exact ⟨⟨_,rfl,by rw [hbad.out];exact decide_eq_true hi0⟩,HBW.out.trans (hb5.mono hsz)⟩
   |true=>
    have HOK:Hid (∀ j (hj:j<ls.length),j<k+1->qcx many ls[j]=true):=qH fun i hi hik=>by
     by_cases e:i=k
     ·subst e
      rw [<- HL.out,<- HZ.out]
     ·exact HALL.out i hi (by omega)
    go_wp2_with (go_at_call 160;(with_reducible refine HW.out.mono ?_);rintro e w5 ⟨rfl,hb5⟩)
    go_roundw
    case rel=>exact ⟨rfl,k+1,by rw [HN.out];omega,by go_num,HBW.out.trans (hb5.mono hsz),HOK.out⟩
    case measure=>simp [intOf];omega
  ·have hgood:Hid (ls.all (qcx many)=true):=qH (List.all_eq_true.2 fun l hl=>by
    obtain ⟨j,hj,rfl⟩:=List.mem_iff_getElem.1 hl;exact HALL.out j hj (by have :=HN.out;omega))
   have HBW:=qH hbw;clear hbw;go_wp2;go_ret;exact ⟨⟨_,rfl,by rw [hgood.out];rfl⟩,HBW.out⟩
theorem qwE (D many:Nat) (A:Option Addr) (n c:Nat) (ls:List (List Pn)) (w:World) (hD:w.heap[D]?=some (.cells #[.int .i64 (many:Int)] 3 (0,0))) (hn:ls.length=n) (hnx:n<=9223372036854775807) (hr:qcU w w.heap.size A ls) (hf:∀ l∈ls,l.length<=9223372036854775807/\∀ p∈l,p.2.length<=9223372036854775807):
  Calls Tryz.prog 113 #[.slice A n c,.func (.func 160) #[] #[.pointer (some ⟨D,0,none⟩)]] w fun e w'=>e= .returned (.bool (!(ls.all (qcx many))))/\Below w.heap.size w w':=by
 have C:=qH (qwD D many A n c ls w hD hn hnx hr hf);clear hD hn hnx hr hf;obtain ⟨z,hz⟩:∃ z,z= !(ls.all (qcx many)):=⟨_,rfl⟩;rw [<- hz] at C ⊢;clear hz
 go_enter Tryz.func113,Tryz.ntmps113
 go_wp2_with (go_at_call 159;(with_reducible refine C.out.mono ?_);rintro e w1 ⟨⟨r,rfl,hr⟩,hb⟩)
 go_ret;exact ⟨rfl,hb⟩
theorem qwF (many:Nat) (w:World):Calls Tryz.prog 114 #[.int .i64 (many:Int)] w fun e w'=>e= .returned (.func (.func 160) #[] #[.pointer (some ⟨w.heap.size,0,none⟩)])/\w'=w.alloc (.cells #[.int .i64 (many:Int)] 3):=by
 go_enter Tryz.func114,Tryz.ntmps114
 go_wp2;go_ret;exact ⟨rfl,rfl⟩
theorem qo1:∀ {cs:List Value},(∀ i,i<cs.length->∃ A n c,cs[i]?=some (.slice A n c))->∃ vs,cs=sls vs
 |[],_=>⟨[],rfl⟩
 |u::cs,h=>by
  obtain ⟨A,n,c,h0⟩:=h 0 (by simp);obtain ⟨vs,h1⟩:=qo1 (cs:=cs) fun i hi=>by
   obtain ⟨A,n,c,h2⟩:=h (i+1) (by simpa using hi);exact ⟨A,n,c,by simpa using h2⟩
  refine ⟨(A,n,c)::vs,?_⟩;simp at h0;rw [h0,h1];rfl
theorem qcU.sls {w:World} {B:Nat} {A:Option Addr} {ls:List (List Pn)} (h:qcU w B A ls):∃ vs,vs.length=ls.length/\Row w B A (Go.Proofs.YtpehcaidjlemiaaGreatDoor.sls vs):=by
 obtain ⟨cs,h1,h2⟩:=h;obtain ⟨vs,rfl⟩:=qo1 (cs:=cs) fun i hi=>by
  obtain ⟨A,c,h3,_⟩:=h1.2 i (by rw [<- h1.1];exact hi);exact ⟨A,_,c,h3⟩
 exact ⟨vs,by have :=h1.1;simpa [Go.Proofs.YtpehcaidjlemiaaGreatDoor.sls] using this,h2⟩
def qb5 (w:World) (B:Nat) (V:Array Value) (wr:World):Prop:=Below w.heap.size w wr/\w.heap.size<=B/\wr.heap[B]?=some (.cells V 62 (0,0))
theorem qb5.below {w wr w':World} {B:Nat} {V:Array Value} (h:qb5 w B V wr) (hb:Below wr.heap.size wr w'):qb5 w B V w':=by
 obtain ⟨h0,h1,h2⟩:=h;exact ⟨h0.trans (hb.mono h0.size),h1,(hb.block _ (Array.getElem?_eq_some_iff.1 h2).1).trans h2⟩
theorem qo2 (w:World) (V:Array Value):qb5 w w.heap.size V (w.alloc (.cells V 62)):=
 ⟨(Below.refl _ w).alloc (Nat.le_refl _) _,Nat.le_refl _,heap_alloc_new w _⟩
theorem qwG (A1 A2 A3 A4:Option Addr) (n1 c1 n2 c2 n3 c3 n4 c4:Nat) (x:qbM) (w:World)
    (hx1:x.ids.length=n1) (hx2:x.seqs.length=n2) (hx3:x.keys.length=n3) (hx4:x.lists.length=n4) (hx:PAt w w.heap.size A1 A2 A3 A4 x) (fx:qjK x) (hk:n3<=1048576):
    Calls Tryz.prog 69 #[.agg #[.slice A1 n1 c1,.slice A2 n2 c2,.slice A3 n3 c3,.slice A4 n4 c4]] w fun e w'=>e= .returned (.bool (qd0 x))/\Below w.heap.size w w':=by
  obtain ⟨V,hV⟩:∃ V:Array Value,V=#[.slice A1 n1 c1,.slice A2 n2 c2,.slice A3 n3 c3,.slice A4 n4 c4]:=⟨_,rfl⟩;obtain ⟨z,hz⟩:∃ z,z=qd0 x:=⟨_,rfl⟩;obtain ⟨z2,hz2⟩:∃ z,z=qaj (-1) x.seqs:=⟨_,rfl⟩;obtain ⟨z3,hz3⟩:∃ z,z=qda x.keys:=⟨_,rfl⟩;obtain ⟨z4,hz4⟩:∃ z,z=x.lists.all (qcx n1):=⟨_,rfl⟩;have hE:qd0 x=(decide (n1=n2)&&(decide (n3=n4)&&(z2&&(z3&&z4)))):=by rw [hz2,hz3,hz4,<- hx1,<- hx2,<- hx3,<- hx4];rfl
  have S2:Hid (∀ w1,Below w.heap.size w w1->Calls Tryz.prog 111 #[.slice A2 n2 c2] w1 fun e w'=>e= .returned (.bool z2)/\Below w1.heap.size w1 w'):=qH fun w1 h=>by
    rw [hz2];exact quK A2 n2 c2 x.seqs w1 (hx.later h).seqs hx2 (hx2▸fx.2.1)
  have S3:Hid (∀ w1,Below w.heap.size w w1->Calls Tryz.prog 112 #[.slice A3 n3 c3,.slice A4 n4 c4] w1 fun e w'=>(∃ p,e= .returned (.tuple #[.pointer p,.int .i64 (if n3=n4/\z3=true then 0 else 1)]))/\Below w1.heap.size w1 w'):=qH fun w1 h=>by
    by_cases hg:n3=n4/\z3=true
    · rw [if_pos hg]
      obtain ⟨hg1,hg2⟩:=hg;obtain ⟨vs,hv1,hv2⟩:=(hx.later h).lists.sls;subst hg1;exact (qwm A3 A4 n3 c3 c4 x.keys vs w1 (hx.later h).keys hx3 hk hv2 (by rw [hv1,hx4]) (by rw [<- hz3];exact hg2)).mono fun e w' ⟨B,h1,_,h2⟩=>⟨⟨_,h1⟩,h2⟩
    · rw [if_neg hg]
      refine (qwj A3 A4 n3 c3 n4 c4 x.keys w1 (hx.later h).keys hx3 (by omega) ?_).mono fun e w' ⟨h1,h2⟩=>⟨⟨_,h1⟩,h2⟩
      by_cases h1:n3=n4
      · exact .inr (by rw [<- hz3];exact Bool.eq_false_iff.2 fun e=>hg ⟨h1,e⟩)
      · exact .inl h1
  have S4:Hid (∀ w1 D,Below w.heap.size w w1->w1.heap[D]?=some (.cells #[.int .i64 (n1:Int)] 3 (0,0))->Calls Tryz.prog 113 #[.slice A4 n4 c4,.func (.func 160) #[] #[.pointer (some ⟨D,0,none⟩)]] w1 fun e w'=>e= .returned (.bool (!z4))/\Below w1.heap.size w1 w'):=qH fun w1 D h hD=>by
    rw [hz4];exact qwE D n1 A4 n4 c4 x.lists w1 hD hx4 (hx4▸fx.2.2.2.1) (hx.later h).lists fx.2.2.2.2
  have HV:=qH hV;rw [<- hz];rw [hE] at hz;have HZ:=qH hz;clear hz hz2 hz3 hz4 hE hx fx hx1 hx2 hx3 hx4 hk;have QS:Hid (∀ wr,qb5 w w.heap.size V wr->wr.cell? ⟨w.heap.size,0,none⟩=some (.slice A1 n1 c1)/\wr.cell? ⟨w.heap.size,1,none⟩=some (.slice A2 n2 c2)/\wr.cell? ⟨w.heap.size,2,none⟩=some (.slice A3 n3 c3)/\wr.cell? ⟨w.heap.size,3,none⟩=some (.slice A4 n4 c4)):=qH fun wr h=>by
    obtain ⟨_,_,h2⟩:=h;rw [HV.out] at h2;exact qnQ h2
  obtain ⟨w1,hw1⟩:∃ w1,w1=w.alloc (.cells #[.slice A1 n1 c1,.slice A2 n2 c2,.slice A3 n3 c3,.slice A4 n4 c4] 62):=⟨_,rfl⟩;have HB1:Hid (qb5 w w.heap.size V w1):=qH (by rw [hw1,hV];exact qo2 w _);have HW1:=qH hw1;clear hw1 hV;by_cases h12:n1=n2
  · subst h12
    obtain ⟨q0,q1,q2,q3⟩:=QS.out _ HB1.out;rcases hz2:z2 with _|_
    · have hzf:z=false:=by rw [HZ.out,hz2];simp
      subst hz2 hzf
      go_enter Tryz.func69,Tryz.ntmps69
      go_wp2_with (go_at_call 111;rw [show w.alloc _=w1 from HW1.out.symm];refine (S2.out _ HB1.out.1).mono ?_;rintro e w2 ⟨rfl,hb2⟩)
      go_ret;exact ⟨rfl,(HB1.out.below hb2).1⟩
    subst hz2;have HARM:Hid (∀ w',Below w1.heap.size w1 w'->qb5 w w.heap.size V w'):=qH fun w' h=>HB1.out.below h
    by_cases hg:n3=n4/\z3=true
    · have S3':=fun w1 h=>S3.out w1 h
      simp only [if_pos hg] at S3';have S3B:=qH S3';have hzz:Hid (z=z4):=qH (by rw [HZ.out,hg.2,decide_eq_true hg.1];simp);clear S3' hg
      go_enter Tryz.func69,Tryz.ntmps69
      go_wp2_with (first
        | (go_at_call 111; rw [show w.alloc _ = w1 from HW1.out.symm]; refine (S2.out _ HB1.out.1).mono ?_; rintro e w2 ⟨rfl, hb2⟩
           have HB2:Hid (qb5 w w.heap.size V w2):=qH (HB1.out.below hb2);clear hb2 q0 q1 q2 q3;obtain ⟨q0,q1,q2,q3⟩:=QS.out _ HB2.out)
        | (go_at_call 112; refine (S3B.out _ HB2.out.1).mono ?_; rintro e w3 ⟨⟨p, rfl⟩, hb3⟩
           have HB3:Hid (qb5 w w.heap.size V w3):=qH (HB2.out.below hb3);clear hb3 q0 q1 q2 q3;obtain ⟨q0,q1,q2,q3⟩:=QS.out _ HB3.out))
      obtain ⟨w4,hw4⟩:∃ w4,w4=(w3.drew).alloc (.cells #[.int .i64 (n1:Int)] 3):=⟨_,rfl⟩;have hb4:Below w3.heap.size w3 w4:=by rw [hw4];exact (Below.refl w3.heap.size w3).drew.alloc (Nat.le_refl _) _
      have HW4:=qH hw4;have hD4:w4.heap[w3.heap.size]?=some (.cells #[.int .i64 (n1:Int)] 3 (0,0)):=by rw [hw4];exact heap_alloc_new w3.drew _
      have HC:=qH (S4.out w4 w3.heap.size (HB3.out.1.trans (hb4.mono HB3.out.1.size)) hD4);have HB4:Hid (qb5 w w.heap.size V w4):=qH (HB3.out.below hb4);have HB3d:Hid (qb5 w w.heap.size V w3.drew):=qH (HB3.out.below (Below.refl _ w3).drew);clear hw4 hb4 hD4
      go_region_held3 (fun w'=>(w'.cell? ⟨w.heap.size,0,none⟩=some (.slice A1 n1 c1)/\w'.cell? ⟨w.heap.size,1,none⟩=some (.slice A2 n1 c2)/\w'.cell? ⟨w.heap.size,2,none⟩=some (.slice A3 n3 c3)/\w'.cell? ⟨w.heap.size,3,none⟩=some (.slice A4 n4 c4)))
        (first|exact QS.out _ HB3d.out|exact QS.out _ HB4.out|exact QS.out _ HB5.out)
        (first
          | (go_at_call 114; refine (qwF _ _).mono ?_; rintro e w' ⟨rfl, rfl⟩
             rw [<- HW4.out])
          | (go_at_call 113; refine HC.out.mono ?_; rintro e w5 ⟨rfl, hb5⟩
             have HB5:Hid (qb5 w w.heap.size V w5):=qH (HB4.out.below hb5)))
      go_wp2;go_ret;refine ⟨?_,HB5.out.1⟩;rw [hzz.out];cases z4<;>rfl
    · have S3':=fun w1 h=>S3.out w1 h
      simp only [if_neg hg] at S3';have S3B:=qH S3';have hzf:z=false:=by
        rw [HZ.out];by_cases h34:n3=n4
        · rw [show z3=false from Bool.eq_false_iff.2 fun e=>hg ⟨h34,e⟩];simp
        · rw [decide_eq_false h34];simp
      subst hzf;clear S3' hg
      go_enter Tryz.func69,Tryz.ntmps69
      go_wp2_with (first
        | (go_at_call 111; rw [show w.alloc _ = w1 from HW1.out.symm]; refine (S2.out _ HB1.out.1).mono ?_; rintro e w2 ⟨rfl, hb2⟩
           have HB2:Hid (qb5 w w.heap.size V w2):=qH (HB1.out.below hb2);clear hb2 q0 q1 q2 q3;obtain ⟨q0,q1,q2,q3⟩:=QS.out _ HB2.out)
        | (go_at_call 112; refine (S3B.out _ HB2.out.1).mono ?_; rintro e w3 ⟨⟨p, rfl⟩, hb3⟩
           have HB3:Hid (qb5 w w.heap.size V w3):=qH (HB2.out.below hb3);clear hb3 q0 q1 q2 q3))
      go_ret;exact ⟨rfl,HB3.out.1⟩
  · have hzf:z=false:=by rw [HZ.out,decide_eq_false h12];simp
    subst hzf;have hne:((n1:Int) != (n2:Int))=true:=by simp;omega
    obtain ⟨q0,q1,q2,q3⟩:=QS.out _ HB1.out;clear h12
    go_enter Tryz.func69,Tryz.ntmps69
    clear q0 q1 q2 q3;go_wp2;go_ret;exact ⟨rfl,by rw [<- HW1.out];exact HB1.out.1⟩
attribute [local go_sem] Oper.semAt_some
def qer (D1 D2:Nat) (A B:World):Prop:=A.heap.size<=B.heap.size/\(D1<A.heap.size->B.heap[D1]?=A.heap[D1]?)/\(D2<A.heap.size->B.heap[D2]?=A.heap[D2]?)
theorem qer.trans {D1 D2:Nat} {A B C:World} (h:qer D1 D2 A B) (k:qer D1 D2 B C):qer D1 D2 A C:=
 ⟨Nat.le_trans h.1 k.1,fun e=>(k.2.1 (Nat.lt_of_lt_of_le e h.1)).trans (h.2.1 e),fun e=>(k.2.2 (Nat.lt_of_lt_of_le e h.1)).trans (h.2.2 e)⟩
theorem qer.putObj {D1 D2:Nat} (W:World) (l:Nat) (o:Obj) (h1:D1≠l) (h2:D2≠l):qer D1 D2 W (W.putObj l o):=
 ⟨by simp [World.putObj],fun _=>World.putObj_heap_other h1,fun _=>World.putObj_heap_other h2⟩
def qfB (b off n k:Nat):Value:= .slice (some ⟨b,off+8*k*2,none⟩) (min 8 (n-8*k)) (min 8 (n-8*k))
def qwH (D1 D2 n:Nat) (A:Option Addr) (c:Nat) (J:List Nat->World->Prop) (i:Value) (wr:World):Prop:=
 ∃ k a:Nat,a=8*k/\a<n+8/\i= .int .i64 (a:Int)/\J (List.range k) wr/\wr.heap[D1]?=some (.cells #[.slice A n c] 71 (0,0))/\wr.heap[D2]?=some (.cells #[.int .i64 8] 3 (0,0))
theorem qwI (m D1 D2 n c:Nat) (A:Option Addr) (b off:Nat) (hm:1<=m) (hA:0<n->A=some ⟨b,off,none⟩) (hc:n<=c) (hcx:c<=maxLen) (hn:n<=1000000) (w:World) (d1:w.heap[D1]?=some (.cells #[.slice A n c] 71 (0,0))) (d2:w.heap[D2]?=some (.cells #[.int .i64 8] 3 (0,0))):
  qhW m Tryz.prog 162 #[.pointer (some ⟨D1,0,none⟩),.pointer (some ⟨D2,0,none⟩)] (fun k:Nat=>#[qfB b off n k]) (qer D1 D2) (fun pre k _=>k=pre.length/\k<qay n) (fun ys=>ys=List.range (qay n)) w:=by
 intro l J W hW hJ hY h0;have e1:W.heap[D1]?=some (.cells #[.slice A n c] 71 (0,0)):=(hW.block D1 (lt_of_block d1)).trans d1;have e2:W.heap[D2]?=some (.cells #[.int .i64 8] 3 (0,0)):=(hW.block D2 (lt_of_block d2)).trans d2;refine callsIn_of_wp Tryz.func162 rfl trivial ?_ rfl;simp only [Tryz.ntmps162,List.size_toArray,List.length_cons,List.length_nil,Nat.reduceAdd,Nat.reduceSub,Array.replicate_succ,Array.replicate_zero,List.push_toArray,List.append_toArray,List.nil_append,List.cons_append];have HY:=qH hY;have HJ:=qH hJ;have H0:=qH h0;have HA:=qH hA;have HE1:=qH e1;have HE2:=qH e2;clear hY hJ h0 hW d1 d2 e1 e2 hA;unfold maxLen at hcx;gi_wp2
 gi_loopw [4] (fun i wr=>qwH D1 D2 n A c J i wr) (fun i _=>n+8-(intOf i).toNat)
 case atStart=>exact ⟨0,0,rfl,by omega,rfl,H0.out,HE1.out,HE2.out⟩
 case round=>
  obtain ⟨k,a,hak,han,rfl,hj,e1,e2⟩:=hrel;have c1:=cell_of_one e1;have c2:=cell_of_one e2;have HJK:=qH hj;have E1:=qH e1;have E2:=qH e2;have HAK:=qH hak;clear hj e1 e2 hak;by_cases hlt:a<n
  ·have hsome:=HA.out (by omega)
   subst hsome;obtain ⟨q,hq⟩:∃ q,q=min 8 (n-a):=⟨_,rfl⟩;have hq1:0<q/\q<=8/\a+q<=n:=by omega
   have hpre:qfB b off n k= .slice (some ⟨b,off+a*2,none⟩) q q:=by unfold qfB;rw [<- HAK.out,<- hq]
   obtain ⟨fn,tmps,assign,body,hy,hR⟩:=HY.out (List.range k) k (wr.drew) (HJ.out _ _ _ HJK.out (Below.refl _ _).drew) ⟨by simp,by have :=HAK.out;unfold qay;omega⟩;rw [hpre] at hy;clear hpre;have hqm:(if ((n-a:Nat):Int)<8 then ((n-a:Nat):Int) else 8)=(q:Int):=by split<;>omega
   have hqm2:min (8:Int) ((n-a:Nat):Int)=(q:Int):=by omega
   have hj2:List.range (k+1)=List.range k++[k]:=List.range_succ;have HJ2:=qH hj2;have hq3:a+q<=c:=by omega
   have hqs:a+q-a=q:=by omega
   clear hq hj2;gi_wp2
   gi_region
   gi_wp2;refine hR.mono ?_;rintro e W4 ⟨rfl,hJ4,hk4⟩;have f1:W4.heap[D1]?=some (.cells #[.slice (some ⟨b,off,none⟩) n c] 71 (0,0)):=(hk4.2.1 (lt_of_block E1.out)).trans E1.out;have f2:W4.heap[D2]?=some (.cells #[.int .i64 8] 3 (0,0)):=(hk4.2.2 (lt_of_block E2.out)).trans E2.out;have c3:=cell_of_one f1;have c4:=cell_of_one f2;rw [<- HJ2.out] at hJ4;have HJ4:=qH hJ4;have F1:=qH f1;have F2:=qH f2;clear hJ4 hk4 f1 f2 hy hR c1 c2;gi_wp2;go_roundw
   case rel=>exact ⟨k+1,a+8,by have :=HAK.out;omega,by omega,by go_num,HJ4.out,F1.out,F2.out⟩
   case measure=>simp [intOf];omega
  ·have hk:k=qay n:=by have :=HAK.out;unfold qay;omega
   have hfin:=HJK.out;rw [hk] at hfin;have HF:=qH hfin;clear hk hfin;gi_wp2
   go_end0
   exact ⟨⟨_,rfl⟩,_,rfl,HF.out⟩
theorem qo3 (A:Option Addr) (n c:Nat) (w:World):
  Calls Tryz.prog 116 #[.slice A n c,.int .i64 8] w fun e w'=>e= .returned (.func (.func 162) #[] #[.pointer (some ⟨w.heap.size,0,none⟩),.pointer (some ⟨w.heap.size+1,0,none⟩)])/\
   w'.heap[w.heap.size]?=some (.cells #[.slice A n c] 71 (0,0))/\w'.heap[w.heap.size+1]?=some (.cells #[.int .i64 8] 3 (0,0))/\Below w.heap.size w w'/\w'.heap.size=w.heap.size+2:=by
 go_enter Tryz.func116,Tryz.ntmps116
 go_wp2;go_ret;have h1:=heap_alloc_new (w.alloc (.cells #[.slice A n c] 71)) (.cells #[.int .i64 8] 3);rw [World.size_alloc] at h1;refine ⟨rfl,?_,h1,((Below.refl _ w).alloc (Nat.le_refl _) _).alloc (by simp) _,by simp⟩;exact (Below.heap_alloc _ _ _ (by simp)).trans (heap_alloc_new w _)
def qwJ (base B:Nat) (bs:List UInt8) (es:List (Int × Nat)) (blk:List Po) (many qaR:Int) (w:World) (i:Value) (wr:World):Prop:=
 ∃ k:Nat,k<=blk.length/\i= .int .i64 (k:Int)/\qco wr base B bs es many (qaR+(qai (blk.take k):Int))/\qaU base w wr
theorem qwK (base B:Nat) (bs:List UInt8) (es:List (Int × Nat)) (many qaR:Int) (A:Option Addr) (m c:Nat) (blk:List Po) (cs:List Value) (z:Nat) (w:World) (h:qco w base B bs es many qaR) (hm:blk.length=m) (hc:m<=c) (hcx:c<=maxLen)
    (hpc:qak (fun _ _=>True) blk cs) (hr:qep base w A cs) (h0:0<m) (hm8:m<=1000) (hes:es.length<=1000000) (hmany:0<=many/\many<=1000000000000) (htot:0<=qaR/\qaR+(qai blk:Int)<=1000000000000) (hz:z<=1000000000000):
    Calls Tryz.prog 119 #[.pointer (some ⟨B,0,none⟩),.slice A m c,.int .i64 (z:Int)] w fun e w'=>(∃ v,e= .returned v)/\
      qco w' base B bs (es++[((blk.getD (m-1) (0,[])).1,z)]) (many+(m:Int)) (qaR+(qai blk:Int))/\qaU base w w':=by
  obtain ⟨i0,hi0,hz0,hz1,hz2⟩:=info_parts quE;subst hm;have hbase:base<=w.heap.size:=by have :=h.lt;have :=h.1;omega
  obtain ⟨j,hj⟩:∃ j,j=blk.length-1:=⟨_,rfl⟩;have hjm:j<blk.length:=by omega
  obtain ⟨p0,p1⟩:=hpc.at_ hjm;obtain ⟨b1,o1,e1,hb1,hcc⟩:=hr.at_ (by rw [hpc.len];omega);have hcd:=hcc _ _ p0;obtain ⟨x,hx⟩:∃ x,x=(blk.getD j (0,[])).1:=⟨_,rfl⟩;rw [<- hx] at hcd;rw [<- hj,<- hx];have hkj:IntKind.i64.wrap ((blk.length:Int)-1)=(j:Int):=by rw [IntWalk.i64_in _ (by omega)];omega
  have hwj:IntKind.i64.wrap (j:Int)=(j:Int):=IntWalk.i64_in _ (by omega);have hkj2:(blk.length:Int)-1=(j:Int):=by omega
  obtain ⟨hB,vb,ve,hv,ho,he⟩:=h;obtain ⟨⟨c0,c1,c2,c3⟩,f0,f1,f2,f3⟩:=qe4 hv;obtain ⟨M,hM⟩:∃ M,M=blk.length:=⟨_,rfl⟩;have HPC:=qH hpc;have HR:=qH hr;have HML:=qH hM;have hblt:B<w.heap.size:=(Array.getElem?_eq_some_iff.1 hv).1;have HV:=qH hv;have HO:=qH ho;have HE:=qH he;have HX:=qH hx;have hc1a:∀ o,(w.alloc o).cell? ⟨B,1,none⟩=some ve:=fun o=>(((Below.refl w.heap.size w).alloc (Nat.le_refl _) o).cell (p:=⟨B,1,none⟩) hblt).trans c1
  have hcda:∀ o,(w.alloc o).cell? ⟨b1,o1+j*2,none⟩=some (.int .i64 x):=fun o=>(((Below.refl w.heap.size w).alloc (Nat.le_refl _) o).cell (p:=⟨b1,o1+j*2,none⟩) hb1).trans hcd
  subst e1;rw [<- hM] at hjm hc h0 hm8 hkj hkj2;rw [<- hM];clear hpc hr hM hv ho he hx p0 p1 hcc hj
  go_enter Tryz.func119,Tryz.ntmps119
  go_upto_region 0 with fail
  go_cut [] from 8 to 26 (fun wx=>qco wx base B bs (es++[(x,z)]) many qaR/\qaU base w wx)
  case first=>
    go_region_law (first
      | (refine step_append_lies _ (by rfl) _ _ _ (by rfl) base 206 i0 _ 2 16 Tryz.underlying179 hi0 hz0 hz1 hz2 rfl (by omega) ve es.length (qdl es) (by rfl) ((HE.out.alloc _).drew)
          ⟨w.heap.size,0,none⟩ 1 1 [.int .i64 x,.int .i64 (z:Int)] (by rfl) (by rfl) (World.news_of_block (cs:=#[.int .i64 x,.int .i64 (z:Int)]) (t:=206) (fr:=(0,0)) (heap_alloc_new w _)) (by intro u hu;simp at hu;rcases hu with hu|hu<;>(subst hu;rfl))
          (by omega) (by unfold maxLen;omega) (by omega) (by simp;omega) (w.heap.size+1) (by simp) ?_
         intro gg cap w1 hown1 hgrow hat hlt;obtain ⟨hv1,hmid,hmild⟩:=qco.pushed hB HV.out HO.out HE.out (((Below.refl _ w).alloc (Nat.le_refl _) _).drew) hgrow hown1;obtain ⟨⟨cB0,cB1,cB2,cB3⟩,fB0,fB1,fB2,fB3⟩:=qe4 hv1))
    all_goals
      go_wp2_with fail
      go_meet;exact ⟨hmid,hmild⟩
  case rest=>
    clear hc1a hcda hcd c0 c1 c2 c3 f0 f1 f2 f3 hwj hkj hkj2 hjm HV HO HE hb1;obtain ⟨hmid,hmild⟩:=hcut;have hRM:=HR.out.mild hmild;obtain ⟨hn1,hn2⟩:=hmid.setMany (many+(M:Int));have HN1:=qH hn1;have HN2:=qH (hmild.trans hn2);obtain ⟨_,vb',ve',hv',_,_⟩:=hmid;obtain ⟨⟨c0,c1,c2,c3⟩,f0,f1,f2,f3⟩:=qe4 hv';clear hv' hn1 hn2 hmild hRM;go_wp2
    go_loopw [37] (fun i wr=>qwJ base B bs (es++[(x,z)]) blk (many+(M:Int)) qaR w i wr) (fun i _=>M-(intOf i).toNat)
    case atStart=>exact ⟨0,by omega,rfl,by simpa [qai] using HN1.out,HN2.out⟩
    case round=>
      obtain ⟨k,hk,rfl,hmid,hmild⟩:=hrel;by_cases hlt:k<M
      · have hrm:=HR.out.mild hmild
        obtain ⟨q0,A2,c2,q1,hlc,hcx2,_⟩:=HPC.out.at_ (k:=k) (by rw [<- HML.out];exact hlt);obtain ⟨b2,o2,e2,hb2,hcc⟩:=hrm.at_ (by rw [HPC.out.len,<- HML.out];omega);have hq0:=hcc _ _ q0;have hq1:=hcc _ _ q1;rw [<- Nat.add_assoc] at hq1;injection e2 with e2
        injection e2 with e3 e4
        subst e3 e4;have htk:=qjF (l:=blk) (k:=k) (by rw [<- HML.out];exact hlt);have htl:=qhA (l:=blk) (k+1);obtain ⟨q,hq⟩:∃ q,q=blk.getD k (0,[]):=⟨_,rfl⟩;rw [<- hq] at hq0 hq1 htk hlc;obtain ⟨y,ps⟩:=q;simp only at hq0 hq1 htk hlc;obtain ⟨P,hP⟩:∃ P,P=ps.length:=⟨_,rfl⟩;rw [<- hP] at hq1 htk hlc;obtain ⟨T,hT⟩:∃ T:Int,T=qaR+(qai (blk.take k):Int):=⟨_,rfl⟩;rw [<- hT] at hmid;have hT2:T+(P:Int)=qaR+(qai (blk.take (k+1)):Int):=by omega
        have hbr:base<=wr.heap.size:=by have :=hmild.below.size;omega
        have hal:=(Below.refl wr.heap.size wr).alloc (Nat.le_refl _) (.cells #[.int .i64 y,.slice A2 P c2] 74);have hma:=hmid.below hal;have hmd:=hma.below (Below.refl _ (wr.alloc (.cells #[.int .i64 y,.slice A2 P c2] 74))).drew;obtain ⟨hn1,hn2⟩:=hmd.setTotal (T+(P:Int));have HN1:=qH hn1;have HN2:=qH ((hmild.trans (qaU.of_below hal hbr)).trans ((qaU.of_below (Below.refl _ _).drew (by have :=hal.size;omega)).trans hn2));have hT0:0<=T:=by omega
        have hTP:T+(P:Int)<=1000000000000:=by omega
        obtain ⟨_,vb',ve',hv',_,_⟩:=hma;obtain ⟨⟨d0,d1,d2,d3⟩,g0,g1,g2,g3⟩:=qe4 hv';have HT2:=qH hT2;clear hv' hn1 hn2 hmild hmid hmd hal hrm q0 q1 hcc hT hT2 htk htl hq hP;have h8:=HN1.out;rw [HT2.out] at h8;have H8:=qH h8;clear h8;go_wp2
        go_region_law (fail)
        all_goals
          go_wp2;go_roundw
          case rel=>exact ⟨k+1,by have :=HML.out;omega,by simp,by first|exact H8.out|(have h8:=H8.out;rw [<- HT2.out] at h8 ⊢;exact h8),HN2.out⟩
          case measure=>simp [intOf];omega
      · obtain rfl:k=M:=by have :=HML.out;omega
        rw [List.take_of_length_le (by have :=HML.out;omega)] at hmid;have H8:=qH hmid;have H9:=qH hmild;clear hmid hmild;go_wp2
        go_end0
        exact ⟨⟨_,rfl⟩,H8.out,H9.out⟩
theorem qwL (base B:Nat) (bs:List UInt8) (l blk:List Po) (n:Nat) (A:Option Addr) (m c:Nat) (cs:List Value) (z:Nat) (w:World) (h:LAt w base B bs l) (hl:l.length=8*n) (hm:blk.length=m) (hc:m<=c) (hcx:c<=maxLen)
  (hpc:qak (fun _ _=>True) blk cs) (hr:qep base w A cs) (h0:0<m) (hm8:m<=8) (hll:l.length<=1000000) (htot:qai (l++blk)<=1000000000000) (hz:z=(qab (-1) (l++blk)).length) (hzb:z<=1000000000000):
  Calls Tryz.prog 119 #[.pointer (some ⟨B,0,none⟩),.slice A m c,.int .i64 (z:Int)] w fun e w'=>(∃ v,e= .returned v)/\LAt w' base B bs (l++blk)/\qaU base w w':=by
 have hb:=quA hl (b:=blk) (by omega) (by omega);have hmid:=qoP.1 h;rw [qhB] at htot;refine (qwK base B bs _ _ _ A m c blk cs z w hmid hm hc hcx hpc hr h0 (by omega) (by rw [qfu];unfold qay;omega) (by omega) (by omega) hzb).mono ?_;rintro e w' ⟨h1,h2,h3⟩;refine ⟨h1,qoP.2 ?_,h3⟩;rw [hb.2,quB hl (by omega) (by omega),qhB,List.length_append,hm,qi0,qnu (by omega),hm,<- hz];rw [hb.1] at h2;have e1:((l.length+m:Nat):Int)=(l.length:Int)+(m:Int):=by omega
 have e2:((qai l+qai blk:Nat):Int)=(qai l:Int)+(qai blk:Int):=by omega
 rw [e1,e2];exact h2
theorem qwM (x a:Int) (w:World):Sem.run Tryz.prog (Instr.field 206 (.agg #[.int .i64 x,.int .i64 a]) 0) w= .ok (.int .i64 x) w:=by
 simp [Instr.field,go_sem,part,asAgg]
theorem qax.block {N k:Nat} (hk:k<N) (o:Obj):qax N (fun W=>W.heap[k]?=some o):=fun W l u u' hl _ _ h=>(World.putObj_heap_other (by omega)).trans h
theorem qax.belowW {N n0:Nat} {w0:World} (hN:n0<=N):qax N (fun W=>Below n0 w0 W):=fun W l o o' hl ho _ h=>
 h.trans ((Below.refl n0 W).grown (grownBy_putObj' W l o') (by have :=(Array.getElem?_eq_some_iff.1 ho).1;omega) (fun k e=>by cases e;omega))
theorem qax.and {N:Nat} {p q:World->Prop} (h:qax N p) (k:qax N q):qax N (fun W=>p W/\q W):=fun W l o o' hl ho hc hp=>⟨h W l o o' hl ho hc hp.1,k W l o o' hl ho hc hp.2⟩
theorem qax.pure {N:Nat} {p:Prop}:qax N (fun _=>p):=fun _ _ _ _ _ _ _ h=>h
theorem qax.lat (N base B:Nat) (bs:List UInt8) (l:List Po):qax N (fun W=>LAt W base B bs l):=fun W k o o' hk ho hc h=>h.cellsKept fun j u hj hu=>by
 by_cases e:j=k
 ·subst e
  rw [ho] at hj;injection hj with hj
  subst hj;rw [hc] at hu;cases hu
 ·exact (World.putObj_heap_other e).trans hj
end Go.Proofs.YtpehcaidjlemiaaGreatDoor
