import Derived.Test.YtmoomnpbiifedaaGreatMBZz
import Derived.Test.YtmoomnpbiifedaaGreatMBQ10
import Derived.Test.YtmoomnpbiifedaaGreatMBQ05
import Derived.Test.YtmoomnpbiifedaaGreatMBQ06
import Derived.Deep.RegionHeld3
import Derived.Test.YtmoomnpbiifedaaGreatMBQ01
import Derived.Deep.RegionLaw
import Derived.Deep.AppendLies
import Derived.RangeFuncNested
import Derived.RangeFuncBound
import Derived.RangeFuncCalls
import Derived.RangeFuncLeaves
import Derived.RangeFuncBox
import Derived.OwnWalkIn
import Derived.TacticsInMore
import Derived.LoopNIn
import Derived.LoopIn
import Derived.Maps.AppendAt
import Derived.Shelf.Abstract
import Derived.Shelf.RegionOpen
set_option linter.unusedVariables false
namespace Go.Proofs.YtmoomnpbiifedaaGreat
open Go Go.RowKit
def MayRelD10 (l:List Po) (w:World) (r last i:Value) (wr:World):Prop:=r= .bool false∧∃ (k:Nat) (x:Int),k≤l.length∧i= .int .i64 (k:Int)∧last= .int .i64 x∧mayB' x (l.drop k)=mayB' (-1) l∧Below w.heap.size w wr
set_option maxHeartbeats 2000000 in
set_option maxRecDepth 100000 in
theorem posting_May_any (A:Option Addr) (n d:Nat) (l:List Po) (w:World) (hn:l.length=n) (hnx:n≤9223372036854775807) (hpo:Posts w w.heap.size A l) (hpl:∀ p∈l,p.2.length≤9223372036854775807):
  Calls Tryz.prog 61 #[.slice A n d] w fun e w'=>e= .returned (.bool (mayB' (-1) l))∧Below w.heap.size w w':=by
 subst hn
 obtain ⟨ans,hans⟩:∃ ans,ans=mayB' (-1) l:=⟨_,rfl⟩
 rw [← hans]
 have HANS:=Lib.hid hans
 have HPO:=Lib.hid hpo
 have HPL:=Lib.hid hpl
 clear hans hpo hpl
 go_enter Tryz.func61,Tryz.ntmps61
 go_wp2
 go_loopw [2,3,8] (fun r last i wr=>MayRelD10 l w r last i wr) (fun _ _ i _=>l.length-(intOf i).toNat)
 case atStart=>exact ⟨rfl,0, -1,by omega,rfl,rfl,rfl,Below.refl _ _⟩
 case round=>
  obtain ⟨rfl,k,x,hk,rfl,rfl,hris,hbw⟩:=hrel
  have hsz:=hbw.size
  by_cases hlt:k<l.length
  ·obtain ⟨b1,o1,e1,hb1,hc1,A2,c2,hc2,hlc,hcx,hr2⟩:=(HPO.out.below hbw).at_ hlt
   subst e1
   have hlp:=HPL.out (l.getD k (0,[])) (by rw [List.getD_eq_getElem?_getD,List.getElem?_eq_getElem hlt];simp)
   rw [drop_po hlt] at hris
   obtain ⟨q,hq⟩:∃ q,q=l.getD k (0,[]):=⟨_,rfl⟩
   rw [← hq] at hc1 hc2 hlc hr2 hris hlp
   obtain ⟨y,ps⟩:=q
   simp only at hc1 hc2 hlc hr2 hlp
   obtain ⟨P,hP⟩:∃ P,P=ps.length:=⟨_,rfl⟩
   rw [← hP] at hc2 hlp
   have hmp:=fun w1 (h:Row w1 w1.heap.size A2 (ints ps))=>may_places_any A2 P c2 ps w1 h hP.symm (by omega)
   have hr3:Row (wr.alloc (.cells #[.int .i64 y,.slice A2 P c2] 63)) (wr.alloc (.cells #[.int .i64 y,.slice A2 P c2] 63)).heap.size A2 (ints ps):=
    (hr2.below ((Below.refl _ wr).alloc hsz _)).more (by simp;omega)
   have hmp2:=hmp _ hr3
   rw [mayB'] at hris
   simp only at hris
   have HBW:=Lib.hid (hbw.trans (((Below.refl _ wr).alloc (Nat.le_refl _) (.cells #[.int .i64 y,.slice A2 P c2] 63)).mono hsz))
   clear hmp hr3 hr2 hP hq hbw
   by_cases hxy:y≤x
   ·rw [decide_eq_false (p:=x<y) (by omega),Bool.false_and,Bool.false_and,Bool.false_and,← HANS.out] at hris
    subst hris
    have hd:decide (y≤x)=true:=decide_eq_true hxy
    clear hmp2
    go_wp2
    go_ret
    exact ⟨rfl,HBW.out⟩
   ·have hd:decide (y≤x)=false:=decide_eq_false hxy
    by_cases hyb:2147483648≤y
    ·rw [decide_eq_false (p:=y<2147483648) (by omega),Bool.and_false,Bool.false_and,Bool.false_and,← HANS.out] at hris
     subst hris
     have hd2:decide (2147483648≤y)=true:=decide_eq_true hyb
     clear hmp2
     go_wp2
     go_ret
     exact ⟨rfl,HBW.out⟩
    ·have hd2:decide (2147483648≤y)=false:=decide_eq_false hyb
     rw [decide_eq_true (p:=x<y) (by omega),decide_eq_true (p:=y<2147483648) (by omega),Bool.true_and,Bool.true_and] at hris
     have HMP:=Lib.hid hmp2
     have HR:=Lib.hid hris
     clear hmp2 hris
     rcases hpb:placesB ps with _|_
     ·rw [hpb] at HMP HR
      go_wp2_with (go_at_call 99;refine HMP.out.mono ?_;rintro e w' ⟨rfl,rfl⟩)
      go_ret
      exact ⟨ret_bool (by rw [HANS.out,← HR.out,Bool.false_and]),HBW.out⟩
     ·rw [hpb] at HMP HR
      go_wp2_with (go_at_call 99;refine HMP.out.mono ?_;rintro e w' ⟨rfl,rfl⟩)
      go_roundw
      case rel=>exact ⟨rfl,k+1,y,by omega,by go_num,rfl,by rw [← HR.out,Bool.true_and],HBW.out⟩
      case measure=>simp [intOf];omega
  ·have hx2:mayB' x (l.drop k)=true:=by rw [List.drop_eq_nil_of_le (by omega)];rfl
   rw [hx2,← HANS.out] at hris
   subst hris
   clear hx2
   go_wp2
   go_ret
   exact ⟨rfl,hbw⟩
def PutRelD10 (all:List UInt8) (l:List Po) (w:World) (last v i:Value) (wr:World):Prop:=
 ∃ (cur:List UInt8) (k:Nat) (x:Int),k≤l.length∧i= .int .i64 (k:Int)∧last= .int .i64 x∧ -1≤x∧mayB' x (l.drop k)=true∧cur.length≤all.length∧cur++bytesP x (l.drop k)=all∧Own w.heap.size wr v cur∧Below w.heap.size w wr
set_option maxHeartbeats 2000000 in
set_option maxRecDepth 100000 in
theorem posting_put_any (A:Option Addr) (n d:Nat) (l:List Po) (x0:Int) (w:World) (hn:l.length=n) (hn60:n≤100) (hpo:Posts w w.heap.size A l) (hx0: -1≤x0) (hmay:mayB' x0 l=true) (hpl:∀ p∈l,p.2.length≤2147483648) (hal0:(bytesP x0 l).length≤400000000000):
  Calls Tryz.prog 63 #[.slice A n d,.int .i64 x0] w (GaveOwn w.heap.size (bytesP x0 l) w):=by
 obtain ⟨i0,hi0,hz0,hz1,hz2⟩:=info_parts info_byte
 subst hn
 obtain ⟨all,hall⟩:∃ all,all=bytesP x0 l:=⟨_,rfl⟩
 rw [← hall] at hal0
 rw [← hall]
 have HALL:=Lib.hid hall
 have HPO:=Lib.hid hpo
 have HMAY:=Lib.hid hmay
 have HPL:=Lib.hid hpl
 clear hall hpo hmay hpl
 go_enter Tryz.func63,Tryz.ntmps63
 go_wp2
 go_loopw [1,5,12] (fun last v i wr=>PutRelD10 all l w last v i wr) (fun _ _ i _=>l.length-(intOf i).toNat)
 case atStart=>exact ⟨[],0,x0,by omega,rfl,rfl,hx0,HMAY.out,by simp,HALL.out.symm,World.ownsRow_nil _ _ _ _,Below.refl _ _⟩
 case round=>
  obtain ⟨cur,k,x,hk,rfl,rfl,hx1,hris,hcl,hcat,hown,hbw⟩:=hrel
  have hsz:=hbw.size
  by_cases hlt:k<l.length
  ·obtain ⟨b1,o1,e1,hb1,hc1,A2,c2,hc2,hlc,hcx,hr2⟩:=(HPO.out.below hbw).at_ hlt
   subst e1
   have hlp:=HPL.out (l.getD k (0,[])) (by rw [List.getD_eq_getElem?_getD,List.getElem?_eq_getElem hlt];simp)
   rw [drop_po hlt] at hris hcat
   obtain ⟨q,hq⟩:∃ q,q=l.getD k (0,[]):=⟨_,rfl⟩
   rw [← hq] at hc1 hc2 hlc hr2 hris hcat hlp
   obtain ⟨y,ps⟩:=q
   simp only at hc1 hc2 hlc hr2 hlp
   obtain ⟨hxy,hyb,hps,hris⟩:=mayB'_cons.1 hris
   simp only at hxy hyb hps hris
   simp only [bytesP] at hcat
   obtain ⟨g,hg⟩:∃ g:Nat,y-(x+1)=(g:Int):=⟨(y-(x+1)).toNat,by omega⟩
   rw [hg,Int.toNat_natCast,← List.append_assoc,← List.append_assoc] at hcat
   have hcl2:((cur++putB g)++putR ps).length≤all.length:=by rw [← hcat,List.length_append (bs:=bytesP y _)];omega
   have hpb:=places_bd hps
   have hg0:g<9223372036854775808:=by omega
   have hpu:∀ w',Calls Tryz.prog 102 #[.slice none 0 0,.int .i64 (y-(x+1))] w' (GaveOwn w'.heap.size (putB g) w'):=fun w'=>by
    have :=vint_Put none 0 0 [] g w' rfl (Nat.le_refl _) Row.nil hg0 (by simp)
    rw [List.nil_append] at this
    rwa [hg]
   obtain ⟨P,hP⟩:∃ P,P=ps.length:=⟨_,rfl⟩
   have hal:=(Below.refl wr.heap.size wr).alloc (Nat.le_refl _) (.cells #[.int .i64 y,.slice A2 P c2] 63)
   have hpr:=vint_PutRising_any none 0 0 [] A2 P c2 ps (wr.alloc (.cells #[.int .i64 y,.slice A2 P c2] 63)) rfl (Nat.le_refl _) Row.nil (by omega) hP.symm (by omega) ((hr2.below (hal.mono hsz)).more (by simp;omega)) (fun x hx=>by have :=hpb x hx;omega) (placesB_iff.1 hps).1
   rw [List.nil_append] at hpr
   rw [← hP] at hc2 hlc
   have hpl9:=putR_length hps (by omega)
   obtain ⟨Q,hQ⟩:∃ Q,Q=(putR ps).length:=⟨_,rfl⟩
   rw [← hP,← hQ] at hpl9
   have hP20:P≤2147483648:=by omega
   have h9g:=putB_nine hg0
   obtain ⟨G,hG⟩:∃ G,G=(putB g).length:=⟨_,rfl⟩
   rw [← hG] at h9g
   have HQ:=Lib.hid hQ
   have HGL:=Lib.hid hG
   have HPU:=Lib.hid hpu
   have HPR:=Lib.hid hpr
   have HAL:=Lib.hid hal
   have HBW:=Lib.hid hbw
   have HCAT:=Lib.hid hcat
   have HRIS:=Lib.hid hris
   have HCL:=Lib.hid hcl2
   have HOW:=Lib.hid (hown.below hal)
   have HCV:Hid (∀ k,u5.ownBlock=some k→k<wr.heap.size):=Lib.hid fun k hk=>(hown.lt k hk).2
   clear hq hg hpu hP hal hpr hQ hG hcat hris hcl2 hown hpb hps hr2 hlp hbw
   go_wp2_with (go_at_call 101;refine HPR.out.mono ?_)
   rintro e w4 ⟨v4,rfl,hown4,hb4⟩
   obtain ⟨A4,c4,rfl,_,hr4⟩:=hown4.row
   have hnb:wr.heap.size<(wr.alloc (.cells #[.int .i64 y,.slice A2 P c2] 63)).heap.size:=by simp
   have hpb4:w4.heap[wr.heap.size]?=some (.cells #[.int .i64 y,.slice A2 P c2] 63 (0,0)):=(hb4.block wr.heap.size hnb).trans (heap_alloc_new wr _)
   have hdc:=(cells_two hpb4).1
   have HO4:=Lib.hid hown4
   have hB4:=HBW.out.trans ((HAL.out.mono hsz).trans (hb4.mono (by simp;omega)))
   have hs4:=hB4.size
   have HR4:=Lib.hid hr4
   have HB4:=Lib.hid hB4
   have hw4:wr.heap.size+1≤w4.heap.size:=by have :=hb4.size;simpa using this
   have HOW4:=Lib.hid (HOW.out.below hb4)
   rw [← HQ.out]
   clear hown4 hb4 hr4 hB4 HOW HPR
   go_wp2_with (go_at_call 102;refine (HPU.out _).mono ?_)
   rintro e w5 ⟨v5,rfl,hown5,hb5⟩
   obtain ⟨A5,c5,rfl,_,hr5⟩:=hown5.row
   have hpb5:w5.heap[wr.heap.size]?=some (.cells #[.int .i64 y,.slice A2 P c2] 63 (0,0)):=(hb5.block wr.heap.size (by omega)).trans hpb4
   have HOW5:=Lib.hid (HOW4.out.below hb5)
   have HR5:=Lib.hid hr5
   have HO5:=Lib.hid (HO4.out.below hb5)
   have hB5:=HB4.out.trans (hb5.mono hs4)
   have hs5:=hB5.size
   have HB5:=Lib.hid hB5
   have hw5:w4.heap.size≤w5.heap.size:=hb5.size
   rw [← HGL.out]
   have hcurl:cur.length+G+Q≤all.length:=by have :=HCL.out;rw [List.length_append,List.length_append,← HGL.out,← HQ.out] at this;omega
   clear hown5 hb5 hr5 hB5 hdc hpb4 HOW4 HO4 HR4 HPU HB4
   go_wp2_with (at_builtin;refine wpList_append_row _ rfl (.tmp 22) (.tmp 28) 86 rfl w.heap.size 5 i0 _ 1 1 Tryz.underlying86 hi0 hz0 hz1 hz2 rfl (by omega) _ cur.length (Lib.byteCells cur) rfl HOW5.out _ A5 G c5 (Lib.byteCells (putB g)) rfl (by rw [Lib.byteCells_length,HGL.out];omega) HR5.out (byteCells_oneCell _) (by unfold maxLen;omega) (by omega) hs5 ?_)
   intro v6 w6 hown6 hg6
   have hb6:Below w.heap.size w5 w6:=(Below.refl _ w5).grown hg6 hs5 fun k hk=>(HOW5.out.lt k hk).1
   have hpb6:w6.heap[wr.heap.size]?=some (.cells #[.int .i64 y,.slice A2 P c2] 63 (0,0)):=(hg6.block wr.heap.size (by omega) (fun e=>owned_apart HOW5.out hpb5 (by decide) e.symm)).trans hpb5
   have hs6:w.heap.size≤w6.heap.size:=by have :=hb6.size;omega
   have hw6:w5.heap.size≤w6.heap.size:=hb6.size
   have ho6:Own (wr.alloc (.cells #[.int .i64 y,.slice A2 P c2] 63)).heap.size w6 (.slice A4 (putR ps).length c4) (putR ps):=
    owned_keep HO5.out fun g hg=>hg6.block g (HO5.out.lt g hg).2 fun e=>by
     have h1:=HCV.out g e.symm
     have h2:=(HO5.out.lt g hg).1
     omega
   have hr6:=owned_row_of ho6
   have HR6:=Lib.hid hr6
   have HO6:=Lib.hid (own_more HGL.out.symm hown6)
   obtain ⟨cur2,hc2⟩:∃ cur2,cur2=cur++putB g:=⟨_,rfl⟩
   have hl2:cur2.length+Q≤800000000000:=by rw [hc2,List.length_append,← HGL.out];omega
   rw [← hc2] at HO6
   have HC2:=Lib.hid hc2
   have HB6:=Lib.hid (HB5.out.trans hb6)
   clear hown6 hg6 hb6 ho6 hr6 hc2 HB5 HOW5 HO5 HR5 HCV hpb5
   go_wp2_with (at_builtin;refine wpList_append_row _ rfl (.tmp 30) (.tmp 31) 86 rfl w.heap.size 5 i0 _ 1 1 Tryz.underlying86 hi0 hz0 hz1 hz2 rfl (by omega) _ cur2.length (Lib.byteCells cur2) rfl HO6.out _ A4 Q c4 (Lib.byteCells (putR ps)) rfl (by rw [Lib.byteCells_length,HQ.out];omega) HR6.out (byteCells_oneCell _) (by unfold maxLen;omega) (by omega) hs6 ?_)
   intro v7 w7 hown7 hg7
   have hb7:Below w.heap.size w6 w7:=(Below.refl _ w6).grown hg7 hs6 fun k hk=>(HO6.out.lt k hk).1
   have hpb7:w7.heap[wr.heap.size]?=some (.cells #[.int .i64 y,.slice A2 P c2] 63 (0,0)):=(hg7.block wr.heap.size (by omega) (fun e=>owned_apart HO6.out hpb6 (by decide) e.symm)).trans hpb6
   have hd7:=(cells_two hpb7).1
   have hfin:PutRelD10 all l w (.int .i64 y) v7 (.int .i64 ((k:Int)+1)) w7:=by
    refine ⟨cur2++putR ps,k+1,y,by omega,by simp,rfl,by omega,HRIS.out,by rw [HC2.out];exact HCL.out,by rw [HC2.out];exact HCAT.out,own_more HQ.out.symm hown7,HB6.out.trans hb7⟩
   have HF:=Lib.hid hfin
   clear hfin hown7 hg7 hb7 hpb6 hpb7
   go_wp2
   go_roundw
   case rel=>exact HF.out
   case measure=>simp [intOf];omega
  ·rw [List.drop_eq_nil_of_le (by omega)] at hcat
   simp only [bytesP,List.append_nil] at hcat
   subst hcat
   go_wp2
   go_ret
   exact ⟨_,rfl,hown,hbw⟩
end Go.Proofs.YtmoomnpbiifedaaGreat
set_option linter.unusedVariables false
namespace Go.Proofs.YtmoomnpbiifedaaGreat
open Go Go.RowKit
theorem last_pnS {l:List Pn} {j:Nat} (h:j+1=l.length):l.getLast?=some (l.getD j (0,[])):=by
 rw [List.getLast?_eq_getElem?,List.getD_eq_getElem?_getD,← h]
 simp
 rw [List.getElem?_eq_getElem (by omega)]
 rfl
theorem mayL_at {n:Nat} {l:List Pn} {j:Nat} (h:j+1=l.length):mayL n l=(mayB' (-1) l&&decide ((l.getD j (0,[])).1<(n:Int))):=by
 unfold mayL
 rw [last_pnS h]
 have :l.length≠0:=by omega
 simp [this]
theorem mayL_nil {n:Nat} {l:List Pn} (h:l.length=0):mayL n l=false:=by
 have :l=[]:=List.eq_nil_of_length_eq_zero h
 subst this
 rfl
set_option maxHeartbeats 2000000 in
set_option maxRecDepth 100000 in
theorem seg_wrong1 (D many:Nat) (A:Option Addr) (n c:Nat) (l:List Pn) (w:World) (hD:w.heap[D]?=some (.cells #[.int .i64 (many:Int)] 3 (0,0))) (hn:l.length=n) (hnx:n≤9223372036854775807) (hp:Posts w w.heap.size A l) (hpl:∀ p∈l,p.2.length≤9223372036854775807):
    Calls Tryz.prog 68 #[.slice A n c,.pointer (some ⟨D,0,none⟩)] w fun e w'=>e= .returned (.bool (!mayL many l))∧Below w.heap.size w w':=by
  have cD:=cell_of_one hD
  rcases Nat.eq_zero_or_pos n with h0|h0
  · have hv:mayL many l=false:=mayL_nil (by omega)
    rw [hv]
    subst h0
    clear hp hpl hn hv
    go_enter Tryz.func68,Tryz.ntmps68
    go_wp2
    go_quiet (fail)
    go_wp2
    go_ret
    exact ⟨rfl,⟨rfl,rfl,rfl,Nat.le_refl _,fun _ _=>rfl⟩⟩
  · obtain ⟨j,hj⟩:∃ j,j+1=n:=⟨n-1,by omega⟩
    have e4:((n:Int)==0)=false:=by rw [beq_eq_false_iff_ne];omega
    have hv:=mayL_at (n:=many) (l:=l) (j:=j) (by omega)
    have HM:=Lib.hid (posting_May_any A n c l w.drew hn hnx hp hpl)
    obtain ⟨b3,o3,e3,hb3,hc3,_⟩:=hp.at_ (k:=j) (by omega)
    subst e3
    obtain ⟨y,hy⟩:∃ y,y=(l.getD j (0,[])).1:=⟨_,rfl⟩
    rw [← hy] at hv hc3
    obtain ⟨m,hm⟩:∃ m,m=mayB' (-1) l:=⟨_,rfl⟩
    rw [← hm] at hv HM
    obtain ⟨z,hz⟩:∃ z,z=mayL many l:=⟨_,rfl⟩
    rw [← hz] at hv ⊢
    have hw2:IntKind.i64.wrap ((n:Int)-1)=(j:Int):=by rw [IntWalk.i64_in _ (by omega)];omega
    have hj0:(0:Int)≤j:=by omega
    have hjn:(j:Int)<n:=by omega
    have HV:=Lib.hid hv
    have hDl:=lt_of_block hD
    have HK:Hid (∀ w',Below w.heap.size w w'→w'.cell? ⟨D,0,none⟩=some (.int .i64 (many:Int))∧w'.cell? ⟨b3,o3+j*2,none⟩=some (.int .i64 y)):=Lib.hid fun w' hb=>⟨(hb.cell (p:=⟨D,0,none⟩) hDl).trans cD,(hb.cell (p:=⟨b3,o3+j*2,none⟩) hb3).trans hc3⟩
    have HB0:Hid (Below w.heap.size w w.drew):=Lib.hid ⟨rfl,rfl,rfl,Nat.le_refl _,fun _ _=>rfl⟩
    clear hy hm hz hj hv hp hpl hn hD
    cases m with
    |false=>
      have hzf:z=false:=HV.out
      subst hzf
      go_enter Tryz.func68,Tryz.ntmps68
      go_upto_region 1 with fail
      refine wp_region_noPanic ?_
      refine wp_region_held_drew (S:=fun _=>True) (by kernel_rfl) (trivial) (fun hHeld=> ?_)
      refine wpAnyH_take (i:=0) (v:= .slice (some ⟨b3,o3,none⟩) n c) rfl (by kernel_rfl) (by kernel_rfl) (by kernel_rfl) (fun _ _ _ h=>h) (Or.inl ⟨by rfl,fun wx hSw=>by go_simp⟩) (by assumption) ?_
      try simp only [Act.put,zA,zB,zD,zE,zF]
      refine wpAnyH_take (i:=1) (v:= .int .i64 (n:Int)) rfl (by kernel_rfl) (by kernel_rfl) (by kernel_rfl) (fun _ _ _ h=>h) (Or.inl ⟨by rfl,fun wx hSw=>by go_simp⟩) (by assumption) ?_
      try simp only [Act.put,zA,zB,zC,zD,zE,zF]
      refine wpAnyH_take (i:=2) (v:= .bool false) rfl (by kernel_rfl) (by kernel_rfl) (by kernel_rfl) (fun _ _ _ h=>h) (Or.inl ⟨by rfl,fun wx hSw=>by go_simp⟩) (by assumption) ?_
      try simp only [Act.put,zA,zB,zC,zD,zE,zF]
      refine wpAnyH_take (i:=3) (v:= .bool false) rfl (by kernel_rfl) (by kernel_rfl) (by kernel_rfl) (fun _ _ _ h=>h) (Or.inl ⟨by rfl,fun wx hSw=>by go_simp⟩) (by assumption) ?_
      try simp only [Act.put,zA,zB,zC,zD,zE,zF]
      refine wpAnyH_take (i:=4) (v:= .slice (some ⟨b3,o3,none⟩) n c) rfl (by kernel_rfl) (by kernel_rfl) (by kernel_rfl) (fun _ _ _ h=>h) (Or.inl ⟨by rfl,fun wx hSw=>by go_simp⟩) (by assumption) ?_
      try simp only [Act.put,zA,zB,zC,zD,zE,zF]
      refine wpAnyH_ready (rs:=[5]) (by kernel_rfl) (by simp) ?_
      refine AllReadyH.cons rfl (fun K hK=> ?_) AllReadyH.nil
      try simp only [zA,zB,zC]
      go_simp
      go_at_call 61
      (with_reducible refine HM.out.mono ?_)
      rintro e w4 ⟨rfl,hb4⟩
      have HB1:Hid (Below w.heap.size w w4):=Lib.hid (HB0.out.trans hb4)
      go_wp2_with fail
      refine hK.out _ _ ?_ (fun hHeld1=> ?_)
      · exact trivial
      clear hK K
      try simp only [Act.put,zA,zB,zC,zD,zE,zF]
      refine wpAnyH_take (i:=6) (v:= .bool true) rfl (by kernel_rfl) (by kernel_rfl) (by kernel_rfl) (fun _ _ _ h=>h) (Or.inl ⟨by rfl,fun wx hSw=>by go_simp⟩) (by assumption) ?_
      try simp only [Act.put,zA,zB,zC,zD,zE,zF]
      refine wpAnyH_take (i:=7) (v:= .bool true) rfl (by kernel_rfl) (by kernel_rfl) (by kernel_rfl) (fun _ _ _ h=>h) (Or.inl ⟨by rfl,fun wx hSw=>by go_simp⟩) (by assumption) ?_
      try simp only [Act.put,zA,zB,zC,zD,zE,zF]
      refine wpAnyH_take (i:=8) (v:= .bool true) rfl (by kernel_rfl) (by kernel_rfl) (by kernel_rfl) (fun _ _ _ h=>h) (Or.inl ⟨by rfl,fun wx hSw=>by go_simp⟩) (by assumption) ?_
      try simp only [Act.put,zA,zB,zC,zD,zE,zF]
      refine wpAnyH_take (i:=9) (v:=undef) rfl (by kernel_rfl) (by kernel_rfl) (by kernel_rfl) (fun _ _ _ h=>h) (Or.inr ⟨by rfl,rfl⟩) (by assumption) ?_
      try simp only [Act.put,zA,zB,zC,zD,zE,zF]
      refine wpAnyH_take (i:=10) (v:=undef) rfl (by kernel_rfl) (by kernel_rfl) (by kernel_rfl) (fun _ _ _ h=>h) (Or.inr ⟨by rfl,rfl⟩) (by assumption) ?_
      try simp only [Act.put,zA,zB,zC,zD,zE,zF]
      refine wpAnyH_take (i:=11) (v:=undef) rfl (by kernel_rfl) (by kernel_rfl) (by kernel_rfl) (fun _ _ _ h=>h) (Or.inr ⟨by rfl,rfl⟩) (by assumption) ?_
      try simp only [Act.put,zA,zB,zC,zD,zE,zF]
      refine wpAnyH_take (i:=12) (v:=undef) rfl (by kernel_rfl) (by kernel_rfl) (by kernel_rfl) (fun _ _ _ h=>h) (Or.inr ⟨by rfl,rfl⟩) (by assumption) ?_
      try simp only [Act.put,zA,zB,zC,zD,zE,zF]
      refine wpAnyH_take (i:=13) (v:=undef) rfl (by kernel_rfl) (by kernel_rfl) (by kernel_rfl) (fun _ _ _ h=>h) (Or.inr ⟨by rfl,rfl⟩) (by assumption) ?_
      try simp only [Act.put,zA,zB,zC,zD,zE,zF]
      refine wpAnyH_take (i:=14) (v:=undef) rfl (by kernel_rfl) (by kernel_rfl) (by kernel_rfl) (fun _ _ _ h=>h) (Or.inr ⟨by rfl,rfl⟩) (by assumption) ?_
      try simp only [Act.put,zA,zB,zC,zD,zE,zF]
      refine wpAnyH_take (i:=15) (v:=undef) rfl (by kernel_rfl) (by kernel_rfl) (by kernel_rfl) (fun _ _ _ h=>h) (Or.inr ⟨by rfl,rfl⟩) (by assumption) ?_
      try simp only [Act.put,zA,zB,zC,zD,zE,zF]
      refine wpAnyH_take (i:=16) (v:=undef) rfl (by kernel_rfl) (by kernel_rfl) (by kernel_rfl) (fun _ _ _ h=>h) (Or.inr ⟨by rfl,rfl⟩) (by assumption) ?_
      try simp only [Act.put,zA,zB,zC,zD,zE,zF]
      refine wpAnyH_take (i:=17) (v:=undef) rfl (by kernel_rfl) (by kernel_rfl) (by kernel_rfl) (fun _ _ _ h=>h) (Or.inr ⟨by rfl,rfl⟩) (by assumption) ?_
      try simp only [Act.put,zA,zB,zC,zD,zE,zF]
      refine wpAnyH_take (i:=18) (v:= .bool true) rfl (by kernel_rfl) (by kernel_rfl) (by kernel_rfl) (fun _ _ _ h=>h) (Or.inl ⟨by rfl,fun wx hSw=>by go_simp⟩) (by assumption) ?_
      try simp only [Act.put,zA,zB,zC,zD,zE,zF]
      refine wpAnyH_take (i:=19) (v:= .bool true) rfl (by kernel_rfl) (by kernel_rfl) (by kernel_rfl) (fun _ _ _ h=>h) (Or.inl ⟨by rfl,fun wx hSw=>by go_simp⟩) (by assumption) ?_
      try simp only [Act.put,zA,zB,zC,zD,zE,zF]
      refine wpAnyH_done (by kernel_rfl) ?_ _
      refine NoPanic.normal ?_
      go_wp2
      go_ret
      exact ⟨rfl,HB1.out⟩
    |true=>
      have hzt:z=decide (y<(many:Int)):=by rw [HV.out,Bool.true_and]
      have hd:decide ((many:Int)≤y)= !z:=by
        rw [hzt]
        by_cases h:y<(many:Int)
        · rw [decide_eq_true h,decide_eq_false (by omega)];rfl
        · rw [decide_eq_false h,decide_eq_true (by omega)];rfl
      clear hzt
      go_enter Tryz.func68,Tryz.ntmps68
      go_wp2
      go_region_held3 (fun w'=>(w'.cell? ⟨D,0,none⟩=some (.int .i64 (many:Int))∧w'.cell? ⟨b3,o3+j*2,none⟩=some (.int .i64 y))∧Below w.heap.size w w')
        (first|exact ⟨HK.out _ HB0.out,HB0.out⟩|exact ⟨HK.out _ HB1.out,HB1.out⟩)
        (first
          | (go_at_call 61; (with_reducible refine HM.out.mono ?_); rintro e w4 ⟨rfl, hb4⟩
             have HB1:Hid (Below w.heap.size w w4):=Lib.hid (HB0.out.trans hb4)))
      go_wp2
      go_ret
      exact ⟨rfl,HB1.out⟩
end Go.Proofs.YtmoomnpbiifedaaGreat
set_option linter.unusedVariables false
namespace Go.Proofs.YtmoomnpbiifedaaGreat
open Go Go.RowKit
def SegIdxRel (D many:Nat) (ls:List (List Pn)) (w:World) (r u i:Value) (wr:World):Prop:=r= .int .i64 0∧∃ k:Nat,k≤ls.length∧i= .int .i64 (k:Int)∧Below w.heap.size w wr∧∀ j (hj:j<ls.length),j<k→mayL many ls[j]=true
set_option maxHeartbeats 2000000 in
set_option maxRecDepth 100000 in
theorem seg_index (D many:Nat) (A:Option Addr) (n c:Nat) (ls:List (List Pn)) (w:World) (hD:w.heap[D]?=some (.cells #[.int .i64 (many:Int)] 3 (0,0))) (hn:ls.length=n) (hnx:n≤9223372036854775807) (hr:LPosts w w.heap.size A ls) (hf:∀ l∈ls,l.length≤9223372036854775807∧∀ p∈l,p.2.length≤9223372036854775807):
  Calls Tryz.prog 67 #[.slice A n c,.func (.func 68) #[] #[.pointer (some ⟨D,0,none⟩)]] w fun e w'=>(∃ r:Int,e= .returned (.int .i64 r)∧decide (0≤r)= !(ls.all (mayL many)))∧Below w.heap.size w w':=by
 have HR:=Lib.hid hr
 have HN:=Lib.hid hn
 have HF:=Lib.hid hf
 have HD:=Lib.hid hD
 clear hr hn hf hD
 go_enter Tryz.func67,Tryz.ntmps67
 go_wp2
 go_loopw [4,5,8] (fun r u i wr=>SegIdxRel D many ls w r u i wr) (fun _ _ i _=>n-(intOf i).toNat)
 case atStart=>exact ⟨rfl,0,Nat.zero_le _,rfl,Below.refl _ _,fun j _ hj=>by omega⟩
 case round=>
  obtain ⟨rfl,k,hk,rfl,hbw,hall⟩:=hrel
  rw [HN.out] at hk
  have HALL:=Lib.hid hall
  clear hall
  by_cases hkn:k<n
  ·have hlt:k<ls.length:=by rw [HN.out];exact hkn
   obtain ⟨b1,o1,A',c',rfl,hb1,hc1,hl1,hp1⟩:=(HR.out.below hbw).at_ hlt
   have f1:=HF.out _ (List.getElem_mem hlt)
   have hi0:(0:Int)≤k:=by omega
   have hi1:(k:Int)<n:=by omega
   obtain ⟨L,hL⟩:∃ L,L=ls[k]:=⟨_,rfl⟩
   rw [← hL] at hc1 hl1 hp1 f1
   obtain ⟨m,hm⟩:∃ m,m=L.length:=⟨_,rfl⟩
   rw [← hm] at hc1 hl1 f1
   have hsz:=hbw.size
   have HW:=Lib.hid (seg_wrong1 D many A' m c' L wr ((hbw.block D (lt_of_block HD.out)).trans HD.out) hm.symm f1.1 (hp1.more hsz) f1.2)
   have HL:=Lib.hid hL
   obtain ⟨z,hz⟩:∃ z,z=mayL many L:=⟨_,rfl⟩
   rw [← hz] at HW
   have HZ:=Lib.hid hz
   have HBW:=Lib.hid hbw
   clear hL hm hz f1 hp1 hl1 hbw
   cases z with
   |false=>
    have hbad:Hid (ls.all (mayL many)=false):=Lib.hid (by
     rw [List.all_eq_false]
     exact ⟨_,List.getElem_mem hlt,by rw [← HL.out,← HZ.out];decide⟩)
    go_wp2_with (go_at_call 68;(with_reducible refine HW.out.mono ?_);rintro e w5 ⟨rfl,hb5⟩)
    go_ret
    exact ⟨⟨_,rfl,by rw [hbad.out];exact decide_eq_true hi0⟩,HBW.out.trans (hb5.mono hsz)⟩
   |true=>
    have HOK:Hid (∀ j (hj:j<ls.length),j<k+1→mayL many ls[j]=true):=Lib.hid fun i hi hik=>by
     by_cases e:i=k
     ·subst e
      rw [← HL.out,← HZ.out]
     ·exact HALL.out i hi (by omega)
    go_wp2_with (go_at_call 68;(with_reducible refine HW.out.mono ?_);rintro e w5 ⟨rfl,hb5⟩)
    go_roundw
    case rel=>exact ⟨rfl,k+1,by rw [HN.out];omega,by go_num,HBW.out.trans (hb5.mono hsz),HOK.out⟩
    case measure=>simp [intOf];omega
  ·have hgood:Hid (ls.all (mayL many)=true):=Lib.hid (List.all_eq_true.2 fun l hl=>by
    obtain ⟨j,hj,rfl⟩:=List.mem_iff_getElem.1 hl
    exact HALL.out j hj (by have :=HN.out;omega))
   have HBW:=Lib.hid hbw
   clear hbw
   go_wp2
   go_ret
   exact ⟨⟨_,rfl,by rw [hgood.out];rfl⟩,HBW.out⟩
set_option maxHeartbeats 1000000 in
set_option maxRecDepth 100000 in
theorem seg_contains (D many:Nat) (A:Option Addr) (n c:Nat) (ls:List (List Pn)) (w:World) (hD:w.heap[D]?=some (.cells #[.int .i64 (many:Int)] 3 (0,0))) (hn:ls.length=n) (hnx:n≤9223372036854775807) (hr:LPosts w w.heap.size A ls) (hf:∀ l∈ls,l.length≤9223372036854775807∧∀ p∈l,p.2.length≤9223372036854775807):
  Calls Tryz.prog 29 #[.slice A n c,.func (.func 68) #[] #[.pointer (some ⟨D,0,none⟩)]] w fun e w'=>e= .returned (.bool (!(ls.all (mayL many))))∧Below w.heap.size w w':=by
 have C:=Lib.hid (seg_index D many A n c ls w hD hn hnx hr hf)
 clear hD hn hnx hr hf
 obtain ⟨z,hz⟩:∃ z,z= !(ls.all (mayL many)):=⟨_,rfl⟩
 rw [← hz] at C ⊢
 clear hz
 go_enter Tryz.func29,Tryz.ntmps29
 go_wp2_with (go_at_call 67;(with_reducible refine C.out.mono ?_);rintro e w1 ⟨⟨r,rfl,hr⟩,hb⟩)
 go_ret
 exact ⟨rfl,hb⟩
set_option maxHeartbeats 1000000 in
theorem seg_wrong (many:Nat) (w:World):Calls Tryz.prog 30 #[.int .i64 (many:Int)] w fun e w'=>e= .returned (.func (.func 68) #[] #[.pointer (some ⟨w.heap.size,0,none⟩)])∧w'=w.alloc (.cells #[.int .i64 (many:Int)] 3):=by
 go_enter Tryz.func30,Tryz.ntmps30
 go_wp2
 go_ret
 exact ⟨rfl,rfl⟩
theorem cells_sls:∀ {cs:List Value},(∀ i,i<cs.length→∃ A n c,cs[i]?=some (.slice A n c))→∃ vs,cs=sls vs
 |[],_=>⟨[],rfl⟩
 |u::cs,h=>by
  obtain ⟨A,n,c,h0⟩:=h 0 (by simp)
  obtain ⟨vs,h1⟩:=cells_sls (cs:=cs) fun i hi=>by
   obtain ⟨A,n,c,h2⟩:=h (i+1) (by simpa using hi)
   exact ⟨A,n,c,by simpa using h2⟩
  refine ⟨(A,n,c)::vs,?_⟩
  simp at h0
  rw [h0,h1]
  rfl
theorem LPosts.sls {w:World} {B:Nat} {A:Option Addr} {ls:List (List Pn)} (h:LPosts w B A ls):∃ vs,vs.length=ls.length∧Row w B A (Go.Proofs.YtmoomnpbiifedaaGreat.sls vs):=by
 obtain ⟨cs,h1,h2⟩:=h
 obtain ⟨vs,rfl⟩:=cells_sls (cs:=cs) fun i hi=>by
  obtain ⟨A,c,h3,_⟩:=h1.2 i (by rw [← h1.1];exact hi)
  exact ⟨A,_,c,h3⟩
 exact ⟨vs,by have :=h1.1;simpa [Go.Proofs.YtmoomnpbiifedaaGreat.sls] using this,h2⟩
def SBox (w:World) (B:Nat) (V:Array Value) (wr:World):Prop:=Below w.heap.size w wr∧w.heap.size≤B∧wr.heap[B]?=some (.cells V 34 (0,0))
theorem SBox.below {w wr w':World} {B:Nat} {V:Array Value} (h:SBox w B V wr) (hb:Below wr.heap.size wr w'):SBox w B V w':=by
 obtain ⟨h0,h1,h2⟩:=h
 exact ⟨h0.trans (hb.mono h0.size),h1,(hb.block _ (Array.getElem?_eq_some_iff.1 h2).1).trans h2⟩
theorem sBox_start (w:World) (V:Array Value):SBox w w.heap.size V (w.alloc (.cells V 34)):=
 ⟨(Below.refl _ w).alloc (Nat.le_refl _) _,Nat.le_refl _,heap_alloc_new w _⟩
set_option maxHeartbeats 4000000 in
set_option maxRecDepth 100000 in
theorem seg_May (A1 A2 A3 A4:Option Addr) (n1 c1 n2 c2 n3 c3 n4 c4:Nat) (x:PartsP) (w:World)
    (hx1:x.ids.length=n1) (hx2:x.seqs.length=n2) (hx3:x.keys.length=n3) (hx4:x.lists.length=n4) (hx:PAt w w.heap.size A1 A2 A3 A4 x) (fx:PFew x) (hk:n3≤1048576):
    Calls Tryz.prog 11 #[.agg #[.slice A1 n1 c1,.slice A2 n2 c2,.slice A3 n3 c3,.slice A4 n4 c4]] w fun e w'=>e= .returned (.bool (mayPs x))∧Below w.heap.size w w':=by
  obtain ⟨V,hV⟩:∃ V:Array Value,V=#[.slice A1 n1 c1,.slice A2 n2 c2,.slice A3 n3 c3,.slice A4 n4 c4]:=⟨_,rfl⟩
  obtain ⟨z,hz⟩:∃ z,z=mayPs x:=⟨_,rfl⟩
  obtain ⟨z2,hz2⟩:∃ z,z=risesZ (-1) x.seqs:=⟨_,rfl⟩
  obtain ⟨z3,hz3⟩:∃ z,z=risesN x.keys:=⟨_,rfl⟩
  obtain ⟨z4,hz4⟩:∃ z,z=x.lists.all (mayL n1):=⟨_,rfl⟩
  have hE:mayPs x=(decide (n1=n2)&&(decide (n3=n4)&&(z2&&(z3&&z4)))):=by rw [hz2,hz3,hz4,← hx1,← hx2,← hx3,← hx4];rfl
  have S2:Hid (∀ w1,Below w.heap.size w w1→Calls Tryz.prog 27 #[.slice A2 n2 c2] w1 fun e w'=>e= .returned (.bool z2)∧Below w1.heap.size w1 w'):=Lib.hid fun w1 h=>by
    rw [hz2]
    exact seg_rise A2 n2 c2 x.seqs w1 (hx.later h).seqs hx2 (hx2▸fx.2.1)
  have S3:Hid (∀ w1,Below w.heap.size w w1→Calls Tryz.prog 28 #[.slice A3 n3 c3,.slice A4 n4 c4] w1 fun e w'=>(∃ p,e= .returned (.tuple #[.pointer p,.int .i64 (if n3=n4∧z3=true then 0 else 1)]))∧Below w1.heap.size w1 w'):=Lib.hid fun w1 h=>by
    by_cases hg:n3=n4∧z3=true
    · rw [if_pos hg]
      obtain ⟨hg1,hg2⟩:=hg
      obtain ⟨vs,hv1,hv2⟩:=(hx.later h).lists.sls
      subst hg1
      exact (dictQ_Make A3 A4 n3 c3 c4 x.keys vs w1 (hx.later h).keys hx3 hk hv2 (by rw [hv1,hx4]) (by rw [← hz3];exact hg2)).mono fun e w' ⟨B,h1,_,h2⟩=>⟨⟨_,h1⟩,h2⟩
    · rw [if_neg hg]
      refine (dictQ_Make_no A3 A4 n3 c3 n4 c4 x.keys w1 (hx.later h).keys hx3 (by omega) ?_).mono fun e w' ⟨h1,h2⟩=>⟨⟨_,h1⟩,h2⟩
      by_cases h1:n3=n4
      · exact .inr (by rw [← hz3];exact Bool.eq_false_iff.2 fun e=>hg ⟨h1,e⟩)
      · exact .inl h1
  have S4:Hid (∀ w1 D,Below w.heap.size w w1→w1.heap[D]?=some (.cells #[.int .i64 (n1:Int)] 3 (0,0))→Calls Tryz.prog 29 #[.slice A4 n4 c4,.func (.func 68) #[] #[.pointer (some ⟨D,0,none⟩)]] w1 fun e w'=>e= .returned (.bool (!z4))∧Below w1.heap.size w1 w'):=Lib.hid fun w1 D h hD=>by
    rw [hz4]
    exact seg_contains D n1 A4 n4 c4 x.lists w1 hD hx4 (hx4▸fx.2.2.2.1) (hx.later h).lists fx.2.2.2.2
  have HV:=Lib.hid hV
  rw [← hz]
  rw [hE] at hz
  have HZ:=Lib.hid hz
  clear hz hz2 hz3 hz4 hE hx fx hx1 hx2 hx3 hx4 hk
  have QS:Hid (∀ wr,SBox w w.heap.size V wr→wr.cell? ⟨w.heap.size,0,none⟩=some (.slice A1 n1 c1)∧wr.cell? ⟨w.heap.size,1,none⟩=some (.slice A2 n2 c2)∧wr.cell? ⟨w.heap.size,2,none⟩=some (.slice A3 n3 c3)∧wr.cell? ⟨w.heap.size,3,none⟩=some (.slice A4 n4 c4)):=Lib.hid fun wr h=>by
    obtain ⟨_,_,h2⟩:=h
    rw [HV.out] at h2
    exact cells4 h2
  obtain ⟨w1,hw1⟩:∃ w1,w1=w.alloc (.cells #[.slice A1 n1 c1,.slice A2 n2 c2,.slice A3 n3 c3,.slice A4 n4 c4] 34):=⟨_,rfl⟩
  have HB1:Hid (SBox w w.heap.size V w1):=Lib.hid (by rw [hw1,hV];exact sBox_start w _)
  have HW1:=Lib.hid hw1
  clear hw1 hV
  by_cases h12:n1=n2
  · subst h12
    obtain ⟨q0,q1,q2,q3⟩:=QS.out _ HB1.out
    rcases hz2:z2 with _|_
    · have hzf:z=false:=by rw [HZ.out,hz2];simp
      subst hz2 hzf
      go_enter Tryz.func11,Tryz.ntmps11
      go_wp2_with (go_at_call 27;rw [show w.alloc _=w1 from HW1.out.symm];refine (S2.out _ HB1.out.1).mono ?_;rintro e w2 ⟨rfl,hb2⟩)
      go_ret
      exact ⟨rfl,(HB1.out.below hb2).1⟩
    subst hz2
    have HARM:Hid (∀ w',Below w1.heap.size w1 w'→SBox w w.heap.size V w'):=Lib.hid fun w' h=>HB1.out.below h
    by_cases hg:n3=n4∧z3=true
    · have S3':=fun w1 h=>S3.out w1 h
      simp only [if_pos hg] at S3'
      have S3B:=Lib.hid S3'
      have hzz:Hid (z=z4):=Lib.hid (by rw [HZ.out,hg.2,decide_eq_true hg.1];simp)
      clear S3' hg
      go_enter Tryz.func11,Tryz.ntmps11
      go_wp2_with (first
        | (go_at_call 27; rw [show w.alloc _ = w1 from HW1.out.symm]; refine (S2.out _ HB1.out.1).mono ?_; rintro e w2 ⟨rfl, hb2⟩
           have HB2:Hid (SBox w w.heap.size V w2):=Lib.hid (HB1.out.below hb2)
           clear hb2 q0 q1 q2 q3
           obtain ⟨q0,q1,q2,q3⟩:=QS.out _ HB2.out)
        | (go_at_call 28; refine (S3B.out _ HB2.out.1).mono ?_; rintro e w3 ⟨⟨p, rfl⟩, hb3⟩
           have HB3:Hid (SBox w w.heap.size V w3):=Lib.hid (HB2.out.below hb3)
           clear hb3 q0 q1 q2 q3
           obtain ⟨q0,q1,q2,q3⟩:=QS.out _ HB3.out))
      obtain ⟨w4,hw4⟩:∃ w4,w4=(w3.drew).alloc (.cells #[.int .i64 (n1:Int)] 3):=⟨_,rfl⟩
      have hb4:Below w3.heap.size w3 w4:=by rw [hw4];exact (Below.refl w3.heap.size w3).drew.alloc (Nat.le_refl _) _
      have HW4:=Lib.hid hw4
      have hD4:w4.heap[w3.heap.size]?=some (.cells #[.int .i64 (n1:Int)] 3 (0,0)):=by rw [hw4];exact heap_alloc_new w3.drew _
      have HC:=Lib.hid (S4.out w4 w3.heap.size (HB3.out.1.trans (hb4.mono HB3.out.1.size)) hD4)
      have HB4:Hid (SBox w w.heap.size V w4):=Lib.hid (HB3.out.below hb4)
      have HB3d:Hid (SBox w w.heap.size V w3.drew):=Lib.hid (HB3.out.below (Below.refl _ w3).drew)
      clear hw4 hb4 hD4
      go_region_held3 (fun w'=>(w'.cell? ⟨w.heap.size,0,none⟩=some (.slice A1 n1 c1)∧w'.cell? ⟨w.heap.size,1,none⟩=some (.slice A2 n1 c2)∧w'.cell? ⟨w.heap.size,2,none⟩=some (.slice A3 n3 c3)∧w'.cell? ⟨w.heap.size,3,none⟩=some (.slice A4 n4 c4)))
        (first|exact QS.out _ HB3d.out|exact QS.out _ HB4.out|exact QS.out _ HB5.out)
        (first
          | (go_at_call 30; refine (seg_wrong _ _).mono ?_; rintro e w' ⟨rfl, rfl⟩
             rw [← HW4.out])
          | (go_at_call 29; refine HC.out.mono ?_; rintro e w5 ⟨rfl, hb5⟩
             have HB5:Hid (SBox w w.heap.size V w5):=Lib.hid (HB4.out.below hb5)))
      go_wp2
      go_ret
      refine ⟨?_,HB5.out.1⟩
      rw [hzz.out]
      cases z4<;>rfl
    · have S3':=fun w1 h=>S3.out w1 h
      simp only [if_neg hg] at S3'
      have S3B:=Lib.hid S3'
      have hzf:z=false:=by
        rw [HZ.out]
        by_cases h34:n3=n4
        · rw [show z3=false from Bool.eq_false_iff.2 fun e=>hg ⟨h34,e⟩];simp
        · rw [decide_eq_false h34];simp
      subst hzf
      clear S3' hg
      go_enter Tryz.func11,Tryz.ntmps11
      go_wp2_with (first
        | (go_at_call 27; rw [show w.alloc _ = w1 from HW1.out.symm]; refine (S2.out _ HB1.out.1).mono ?_; rintro e w2 ⟨rfl, hb2⟩
           have HB2:Hid (SBox w w.heap.size V w2):=Lib.hid (HB1.out.below hb2)
           clear hb2 q0 q1 q2 q3
           obtain ⟨q0,q1,q2,q3⟩:=QS.out _ HB2.out)
        | (go_at_call 28; refine (S3B.out _ HB2.out.1).mono ?_; rintro e w3 ⟨⟨p, rfl⟩, hb3⟩
           have HB3:Hid (SBox w w.heap.size V w3):=Lib.hid (HB2.out.below hb3)
           clear hb3 q0 q1 q2 q3))
      go_ret
      exact ⟨rfl,HB3.out.1⟩
  · have hzf:z=false:=by rw [HZ.out,decide_eq_false h12];simp
    subst hzf
    have hne:((n1:Int) != (n2:Int))=true:=by simp;omega
    obtain ⟨q0,q1,q2,q3⟩:=QS.out _ HB1.out
    clear h12
    go_enter Tryz.func11,Tryz.ntmps11
    clear q0 q1 q2 q3
    go_wp2
    go_ret
    exact ⟨rfl,by rw [← HW1.out];exact HB1.out.1⟩
end Go.Proofs.YtmoomnpbiifedaaGreat
set_option linter.unusedVariables false
namespace Go.Proofs.YtmoomnpbiifedaaGreat
open Go Go.RowKit
def ptrs (vs:List Nat):List Value:=vs.map fun v=> .pointer (some ⟨v,0,none⟩)
theorem row_ptr {w:World} {B:Nat} {A:Option Addr} {l:List Nat} {k:Nat} (h:Row w B A (ptrs l)) (hk:k<l.length):∃ b off,A=some ⟨b,off,none⟩∧b<B∧w.cell? ⟨b,off+k,none⟩=some (.pointer (some ⟨l[k],0,none⟩)):=by
 obtain ⟨b,off,rfl,hb,hc⟩:=Row.at_ h (by simp [ptrs];omega)
 exact ⟨b,off,rfl,hb,hc _ _ (by simp [ptrs,hk])⟩
def DictAtP (w:World) (base B:Nat) (l:List Nm) (vs:List Nat):Prop:=
 base≤B∧vs.length=l.length∧∃ v,w.heap[B]?=some (.cells #[v] 74 (0,0))∧w.ownsRow base 123 2 v l.length (entP l vs)
theorem DictAtP.read {w:World} {base B:Nat} {l:List Nm} {vs:List Nat} (h:DictAtP w base B l vs):
  ∃ A c,w.cell? ⟨B,0,none⟩=some (.slice A l.length c)∧l.length≤c∧c≤maxLen∧Row w w.heap.size A (entP l vs)∧(A=none∧l=[]∧c=0∨∃ g,A=some ⟨g,0,none⟩):=by
 obtain ⟨h1,h2,v,h3,h4⟩:=h
 have hc:=cell_of_one h3
 obtain ⟨A,c,rfl,hn,hr⟩:=owned_row h4
 refine ⟨A,c,hc,hn,?_,hr,?_⟩
 ·rcases h4.2 with ⟨h0,_⟩|⟨g,cap,cur,hv,_,_,_,h5,_⟩
  ·injection h0 with _ _ h0;omega
  ·injection hv with _ _ hv;omega
 ·rcases h4.2 with ⟨h0,h5⟩|⟨g,cap,cur,hv,_⟩
  ·injection h0 with a1 _ a3
   exact .inl ⟨a1,List.eq_nil_of_length_eq_zero h5,a3⟩
  ·injection hv with a1
   exact .inr ⟨g,a1⟩
def MadeDP (l:List Nm) (vs:List Nat) (w:World) (e:Ending) (w':World):Prop:=∃ B,e= .returned (.tuple #[.pointer (some ⟨B,0,none⟩),.int .i64 0])∧DictAtP w' w.heap.size B l vs∧Below w.heap.size w w'
def MakeRelP (B:Nat) (l:List Nm) (vs:List Nat) (w:World) (i:Value) (wr:World):Prop:=
 ∃ (k:Nat) (v:Value),k≤l.length∧i= .int .i64 (k:Int)∧wr.heap[B]?=some (.cells #[v] 74 (0,0))∧wr.ownsRow w.heap.size 123 2 v k (entP (l.take k) (vs.take k))∧Below w.heap.size w wr
theorem owned_setP {w:World} {base B:Nat} {e:TypeId} {size:Nat} {v:Value} {n:Nat} {xs:List Value} {cs:Array Value} {t:TypeId} {fr:Nat × Nat} (h:w.ownsRow base e size v n xs) (hB:w.heap[B]?=some (.cells cs t fr)) (ht:t≠e) (o:Nat) (u:Value):(w.setCell ⟨B,o,none⟩ u).ownsRow base e size v n xs:=
 owned_keep h fun g hg=>Below.heap_setCell _ _ _ _ (fun e1=>owned_apart h hB ht (by rw [hg,e1]))
theorem enteredP {w0 w1:World} {base B n:Nat} {v v':Value} {xs ys:List Value} (hv:w0.heap[B]?=some (.cells #[v] 74 (0,0))) (hown:w0.ownsRow base 123 2 v n xs) (hg:w0.grownBy w1 v.ownBlock) (hown1:w1.ownsRow base 123 2 v' (n+1) ys) (hbase:base≤w0.heap.size) (hB:base≤B):
  w1.heap[B]?=some (.cells #[v] 74 (0,0))∧(w1.setCell ⟨B,0,none⟩ v').heap[B]?=some (.cells #[v'] 74 (0,0))∧(w1.setCell ⟨B,0,none⟩ v').ownsRow base 123 2 v' (n+1) ys∧Below base w0 (w1.setCell ⟨B,0,none⟩ v'):=by
 have h1:w1.heap[B]?=some (.cells #[v] 74 (0,0)):=(hg.block B (lt_of_block hv) (fun e=>owned_apart hown hv (by decide) e.symm)).trans hv
 refine ⟨h1,by simpa using one_setCell h1,owned_setP hown1 h1 (by decide) _ _,?_⟩
 exact (((Below.refl base w0).grown hg hbase fun k hk=>(hown.lt k hk).1)).setCell hB _
set_option maxHeartbeats 4000000 in
set_option maxRecDepth 100000 in
theorem dictP_Make (A A2:Option Addr) (n c c2:Nat) (l:List Nm) (vs:List Nat) (w:World) (hr:Row w w.heap.size A (strs l)) (hn:l.length=n) (hl:n≤1048576) (hv:Row w w.heap.size A2 (ptrs vs)) (hvn:vs.length=n) (hg:risesN l=true):
    Calls Tryz.prog 25 #[.slice A n c,.slice A2 n c2] w (MadeDP l vs w):=by
  obtain ⟨i0,hi0,hz0,hz1,hz2⟩:=info_parts info_entryP
  have c1:=dict_rise A n c l w hr hn (by omega)
  rw [hg] at c1
  have C1:=Lib.hid c1
  have HR:=Lib.hid hr
  have HV:=Lib.hid hv
  have HN:=Lib.hid hn
  have HVN:=Lib.hid hvn
  clear c1 hr hv hn hvn hg
  go_enter Tryz.func25,Tryz.ntmps25
  go_wp2_with (go_at_call 66;refine (C1.out).mono ?_)
  rintro e w1 ⟨rfl,hb1⟩
  obtain ⟨w2,hrun,hown2,hgrow2⟩:=run_make_own (P:=Tryz.prog) w1 w.heap.size 72 123 i0 _ 2 Tryz.underlying72 hi0 hz0 hz1 .i64 .i64 n (by rw [hz2];omega) (by unfold maxLen;omega) hb1.size
  have hb2:Below w.heap.size w w2:=hb1.grown hgrow2 hb1.size (fun k hk=>by cases hk)
  obtain ⟨B,hB⟩:∃ B,B=w2.heap.size:=⟨_,rfl⟩
  obtain ⟨w3,hw3⟩:∃ w3,w3=w2.alloc (.cells #[.slice (some ⟨w1.heap.size,0,none⟩) 0 n] 74):=⟨_,rfl⟩
  have hrel:MakeRelP B l vs w (.int .i64 ((0:Nat):Int)) w3:=by
    refine ⟨0,.slice (some ⟨w1.heap.size,0,none⟩) 0 n,Nat.zero_le _,rfl,?_,?_,?_⟩
    · rw [hw3,hB];exact heap_alloc_new w2 _
    · rw [hw3];simpa [entP_nil] using hown2.alloc _
    · rw [hw3];exact hb2.alloc hb2.size _
  have HREL:=Lib.hid hrel
  have HW3:=Lib.hid hw3
  have HB:=Lib.hid hB
  have HBW:Hid (w.heap.size≤B):=Lib.hid (by rw [hB];exact hb2.size)
  clear hrel hown2 hgrow2 hb2 hb1 hw3 hB
  go_wp2
  rw [← HW3.out,← HB.out]
  clear hrun
  go_loopw [26] (MakeRelP B l vs w) (fun i _=>n-(intOf i).toNat)
  case atStart=>exact HREL.out
  case round=>
    obtain ⟨k,v,hk,rfl,hblk,hown,hbw⟩:=hrel
    rw [HN.out] at hk
    have hsz:=hbw.size
    by_cases hlt:k<n
    · have hkl:k<l.length:=by rw [HN.out];exact hlt
      have hkv:k<vs.length:=by rw [HVN.out];exact hlt
      obtain ⟨b1,o1,e1,hb1,hc1⟩:=row_nm (HR.out.below hbw) hkl
      obtain ⟨b2,o2,e2,hb2,hc2⟩:=row_ptr (HV.out.below hbw) hkv
      subst e1 e2
      obtain ⟨x,hx⟩:∃ x:ByteArray,x=⟨l[k].toArray⟩:=⟨_,rfl⟩
      obtain ⟨y,hy⟩:∃ y,y=vs[k]:=⟨_,rfl⟩
      rw [← hx] at hc1
      rw [← hy] at hc2
      have hsn:entP (l.take (k+1)) (vs.take (k+1))=entP (l.take k) (vs.take k)++[.string x,.pointer (some ⟨y,0,none⟩)]:=by
        rw [List.take_succ_eq_append_getElem hkl,List.take_succ_eq_append_getElem hkv,entP_snoc (by simp only [List.length_take];rw [HN.out,HVN.out]),← hx,← hy]
      obtain ⟨cs,hcs⟩:∃ cs,cs=entP (l.take k) (vs.take k):=⟨_,rfl⟩
      rw [← hcs] at hown hsn
      have cB:=cell_of_one hblk
      have fB:=free_of_one hblk
      have k2:(0:Int)≤(k:Int):=by omega
      have k3:(k:Int)<(n:Int):=by omega
      have hBlt:=lt_of_block hblk
      have hal:∀ o,((wr.alloc o).drew).cell? ⟨B,0,none⟩=some v:=fun o=>(((Below.refl _ wr).alloc (Nat.le_refl _) o).cell (p:=⟨B,0,none⟩) hBlt).trans cB
      have HOWN:=Lib.hid hown
      have HBLK:=Lib.hid hblk
      have HSN:=Lib.hid hsn
      clear hx hy hcs hown hblk hsn hkl hkv
      go_wp2
      go_region_law (first
        | (refine step_append_lies _ (by rfl) _ _ _ (by rfl) w.heap.size 123 i0 _ 2 24 Tryz.underlying72 hi0 hz0 hz1 hz2 rfl (by omega) v k cs (by rfl) ((HOWN.out.alloc _).drew)
            ⟨wr.heap.size,0,none⟩ 1 1 [.string x,.pointer (some ⟨y,0,none⟩)] (by rfl) (by rfl) (World.news_of_block (cs:=#[.string x,.pointer (some ⟨y,0,none⟩)]) (t:=123) (fr:=(0,0)) (heap_alloc_new wr.drew _)) (by intro u hu;simp at hu;rcases hu with hu|hu<;>(subst hu;rfl))
            (by omega) (by unfold maxLen;omega) (by omega) (by simp;omega) (wr.heap.size+1) (by simp) ?_
           intro gg cap w5 hown5 hg5 hat hlt5
           obtain ⟨hB5,hB6,hown6,hb6⟩:=enteredP (((Below.refl _ wr).alloc (Nat.le_refl _) _).drew.block B hBlt |>.trans HBLK.out) ((HOWN.out.alloc _).drew) hg5 hown5 (by simp;omega) HBW.out
           have cB5:=cell_of_one hB5
           have fB5:=free_of_one hB5))
      all_goals
        have hrel:MakeRelP B l vs w (.int .i64 ((k:Int)+1)) (w5.setCell ⟨B,0,none⟩ (.slice (some ⟨gg,0,none⟩) (k+1) cap)):=by
          refine ⟨k+1,_,by rw [HN.out];omega,by go_num,hB6,?_,?_⟩
          · rw [HSN.out];exact hown6
          · exact hbw.trans ((((Below.refl _ wr).alloc hsz _).drew).trans hb6)
        have HREL:=Lib.hid hrel
        clear hrel hB6 hown6 hb6 hB5
        go_wp2
        go_roundw
        case rel=>exact HREL.out
        case measure=>simp [intOf];omega
    · have hkn:k=n:=by omega
      have HFIN:Hid (MadeDP l vs w (.returned (.tuple #[.pointer (some ⟨B,0,none⟩),.int .i64 0])) wr):=Lib.hid ⟨B,rfl,⟨HBW.out,by rw [HN.out,HVN.out],v,hblk,by
        rw [hkn,List.take_of_length_le (by rw [HN.out];omega),List.take_of_length_le (by rw [HVN.out];omega)] at hown
        rw [HN.out]
        exact hown⟩,hbw⟩
      clear hown hblk hbw
      go_wp2
      go_ret2
      exact HFIN.out
end Go.Proofs.YtmoomnpbiifedaaGreat
set_option linter.unusedVariables false
namespace Go.Proofs.YtmoomnpbiifedaaGreat
open Go Go.RowKit
def Told {α:Type} (n:Nat) (P:Program) (g:Nat) (lb:Array Value) (encs:α→Array Value) (Kp:World→World→Prop) (Ok:List α→α→World→Prop) (S:List α→Prop) (w:World):Prop:=
 ∀ (l:Nat) (J:List α→World→Prop) (W:World),Below w.heap.size w W→(∀ s A B,J s A→Below A.heap.size A B→J s B)→
  (∀ pre x W1,J pre W1→Ok pre x W1→YieldAt Fence.wide (n-1) P l (encs x) W1 fun e W'=>e= .returned (.bool true)∧J (pre++[x]) W'∧Kp W1 W')→
  J [] W→CallsIn Fence.wide n P g (#[.func (.yield l) #[] #[]]++lb) W fun e W'=>(∃ v,e= .returned v)∧∃ xs,S xs∧J xs W'
def Firm (B:Nat) (p:World→Prop):Prop:=∀ W l (o o':Obj),B≤l→W.heap[l]?=some o→o.isCells=false→p W→p (W.putObj l o')
variable {n:Nat} {P:Program}
theorem wpIn_range_told {α:Type} {g:Operand} {ps:Array Tmp} {assign body:Code} {Q:Exit→Act→World→Prop} {a:Act} {w:World} (h1:1≤n) {gf:Nat} {lb:Array Value} (hg:a.eval g= .func (.func gf) #[] lb)
  (eg:∀ args w,(callFunc gf args).run P w= .ok (.enter gf args) w) {encs:α→Array Value} {Kp:World→World→Prop} {Ok:List α→α→World→Prop} {S:List α→Prop} (hseq:Told (n-1) P gf lb encs Kp Ok S w)
  (hKt:∀ {A B C:World},Kp A B→Kp B C→Kp A C) (hKp:∀ (W:World) (l:Nat) (o o':Obj),w.heap.size≤l→W.heap[l]?=some o→o.isCells=false→Kp W (W.putObj l o')) (hps:∀ x,(encs x).size=ps.size)
  (I:List α→World→Prop) (hIb:∀ s A B,I s A→Below A.heap.size A B→I s B) (hIp:∀ s,Firm w.heap.size (I s)) (hOk:∀ s x,Firm w.heap.size (Ok s x)) (h0:I [] w) (a₁:α→Act)
  (hassign:∀ (l:Nat) (x:α) (W:World) (K:Act→World→Prop),K (a₁ x) W→assign.wpIn (Fence.wide.inRound l) (n-1-1) P (Exit.then K (fun _ _ _=>False)) {tmps:=(ps.zip (encs x)).foldl (fun t (p,v)=>t.setIfInBounds p v) a.tmps,defers:=[]} W)
  (hbody:∀ (l:Nat) (pre:List α) (x:α) (W:World),I pre W→Ok pre x W→body.wpIn (Fence.wide.inRound l) (n-1-1) P (ownPostK Kp I (fun _ _ _=>False) (pre++[x]) W) (a₁ x) W)
  (hdone:∀ (D:Nat) (xs:List α) (W:World),w.heap.size≤D→S xs→I xs W→W.heap[D]?=some (.deferred (some []))→Q .normal {a with defers:={target:= .collected D,args:=#[]}::a.defers} W):
  (Code.rangeFunc g ps assign body).wpIn Fence.wide n P Q a w:=by
 refine wpIn_rangeFunc fun fn hfn=> ?_
 have enter:=run_enterLoop_outer (P:=P) (w:=w) fn a.tmps ps assign body
 obtain ⟨D,hD⟩:∃ D,D=w.heap.size:=⟨_,rfl⟩
 obtain ⟨st,hst⟩:∃ st:LoopState→Loop,st=fun s=>{state:=s,pending:=none,fn:=fn,tmps:=a.tmps,params:=ps,assign:=assign,body:=body,defers:=w.heap.size}:=⟨_,rfl⟩
 obtain ⟨V,hV⟩:∃ V,V=(w.alloc (.deferred (some []))).alloc (.loop (st .ready)):=⟨_,rfl⟩
 have enter':(Instr.enterLoop fn a.tmps ps assign body Fence.wide.round).run P w= .ok (D+1,[{target:= .collected D,args:=#[]}]) V:=by rw [hV,hst,hD];exact enter
 have bel:Below w.heap.size w V:=by rw [hV];exact ((Below.refl _ w).alloc (Nat.le_refl _) _).alloc (by simp) _
 have hdV:V.heap[D]?=some (.deferred (some [])):=by rw [hV,hD];exact (Below.heap_alloc _ _ _ (by simp)).trans (World.alloc_heap_new w _)
 have hlV:V.heap[D+1]?=some (.loop (st .ready)):=by
  have :=World.alloc_heap_new (w.alloc (.deferred (some []))) (.loop (st .ready))
  rwa [World.size_alloc,← hV,← hD] at this
 have stay:∀ (s:List α) (A B:World),(I s A∧A.heap[D+1]?=some (.loop (st .ready))∧A.heap[D]?=some (.deferred (some [])))→Below A.heap.size A B→(I s B∧B.heap[D+1]?=some (.loop (st .ready))∧B.heap[D]?=some (.deferred (some []))):=by
  rintro s A B ⟨i1,i2,i3⟩ hb
  exact ⟨hIb s A B i1 hb,(hb.block _ (Array.getElem?_eq_some_iff.1 i2).1).trans i2,(hb.block _ (Array.getElem?_eq_some_iff.1 i3).1).trans i3⟩
 have round:∀ (pre:List α) (x:α) (A:World),(I pre A∧A.heap[D+1]?=some (.loop (st .ready))∧A.heap[D]?=some (.deferred (some [])))→Ok pre x A→
   YieldAt Fence.wide (n-1-1) P (D+1) (encs x) A fun e B=>e= .returned (.bool true)∧(I (pre++[x]) B∧B.heap[D+1]?=some (.loop (st .ready))∧B.heap[D]?=some (.deferred (some [])))∧Kp A B:=by
  rintro pre x A ⟨i1,i2,i3⟩ hx
  have hl:D+1<A.heap.size:=(Array.getElem?_eq_some_iff.1 i2).1
  have y:=run_yield (P:=P) (args:=encs x) i2 (by rw [hst];exact hps x)
  have beg:=run_beginRound (P:=P) i2 (by rw [hst])
  rw [hst] at y
  refine ⟨fn,_,assign,body,y,roundIn_of_wpIn hfn (hassign _ x A _ ⟨_,beg,?_⟩)⟩
  obtain ⟨A1,hA1⟩:∃ A1,A1=A.putObj (D+1) (.loop {st .ready with state:= .busy}):=⟨_,rfl⟩
  rw [← hA1]
  have l1:A1.heap[D+1]?=some (.loop {st .ready with state:= .busy}):=by rw [hA1];exact World.putObj_heap_same hl
  have d1:A1.heap[D]?=some (.deferred (some [])):=by rw [hA1];exact (World.putObj_heap_other (by omega)).trans i3
  have k1:Kp A A1:=by rw [hA1];exact hKp A _ _ _ (by omega) i2 rfl
  have b1:=hbody (D+1) pre x A1 (by rw [hA1];exact hIp pre A _ _ _ (by omega) i2 rfl i1) (by rw [hA1];exact hOk pre x A _ _ _ (by omega) i2 rfl hx)
  refine wpIn_mono b1 ?_
  rintro ex a2 A2 hp
  cases ex with
  |normal=>
   obtain ⟨ko,k2,i4⟩:=hp
   have l2:=ko.same _ _ l1 rfl
   have d2:=ko.same _ _ d1 rfl
   have fin:=run_endRound (P:=P) none l2
   have hl2:D+1<A2.heap.size:=(Array.getElem?_eq_some_iff.1 l2).1
   refine ⟨_,_,fin,rfl,⟨hIp _ A2 _ _ _ (by omega) l2 rfl i4,?_,(World.putObj_heap_other (by omega)).trans d2⟩,hKt (hKt k1 k2) (hKp A2 _ _ _ (by omega) l2 rfl)⟩
   rw [World.putObj_heap_same hl2,hst]
   rfl
  |ret=>exact hp.2.elim
  |exit id=>exact hp.2.elim
  |goto t=>exact hp.2.elim
  |panic c=>exact hp.elim
  |outgrown=>exact hp.elim
 refine ⟨D+1,_,V,{target:= .fn (.func gf) lb,args:=#[.func (.yield (D+1)) #[] #[]]},V,gf,#[.func (.yield (D+1)) #[] #[]]++lb,V,enter',?_,?_,?_,fun _=>h1,?_⟩
 ·simp only [resolve,hg]
  simp [go_sem]
 ·intro f' _
  trivial
 ·simp [invoke,go_sem,eg]
 ·refine (hseq (D+1) _ V bel stay round ⟨hIb [] w V h0 bel,hlV,hdV⟩).mono ?_
  rintro e A ⟨⟨v,rfl⟩,xs,hS,i1,i2,i3⟩
  have fin:=run_endLoop (P:=P) i2 (by rw [hst];simp)
  rw [hst] at fin
  refine ⟨none,_,fin,hdone D xs _ (by omega) hS (hIp xs A _ _ _ (by omega) i2 rfl i1) ((World.putObj_heap_other (by omega)).trans i3)⟩
end Go.Proofs.YtmoomnpbiifedaaGreat
