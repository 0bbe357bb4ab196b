import Derived.Test.YtmoomnpbiifedaaGreatMBQ04
import Derived.Test.YtmoomnpbiifedaaGreatMBQ10
import Derived.Test.YtmoomnpbiifedaaGreatMBQ05
import Derived.BigQuiet
import Derived.Deep.QuietTactic
import Derived.Test.YtmoomnpbiifedaaGreatMBQ17
import Derived.Test.YtmoomnpbiifedaaGreatMBQ19
import Derived.Test.YtmoomnpbiifedaaGreatMBQ06
import Derived.Test.YtmoomnpbiifedaaGreatMBQ03
import Derived.Deep.RegionHeld3
import Derived.Deep.DeepCutAuto
set_option linter.unusedVariables false
namespace Go.Proofs.YtmoomnpbiifedaaGreat
open Go
def docAt (l:List Po) (k:Nat):Int:=if k=0 then-1 else (l.getD (k-1) (0,[])).1
theorem docAt_succ {l:List Po} {k:Nat}:docAt l (k+1)=(l.getD k (0,[])).1:=by simp [docAt]
end Go.Proofs.YtmoomnpbiifedaaGreat
set_option linter.unusedVariables false
namespace Go.Proofs.YtmoomnpbiifedaaGreat
open Go Go.RowKit
set_option maxHeartbeats 1000000 in
set_option maxRecDepth 100000 in
theorem ref_Put (n:Nat) (w:World) (hn:n<9223372036854775808):
  Calls Tryz.prog 71 #[.int .i64 (n:Int)] w (GaveOwn w.heap.size (putB n) w):=by
 obtain ⟨i0,hi0,hz0,hz1,hz2⟩:=info_parts info_byte
 have h9:=putB_nine hn
 obtain ⟨all,hall⟩:∃ all,all=putB n:=⟨_,rfl⟩
 have hal:all.length≤9:=by rw [hall];omega
 rw [← hall]
 have HALL:=Lib.hid hall
 clear hall
 go_enter Tryz.func71,Tryz.ntmps71
 go_wp2
 go_loopw [3,0] (fun v i wr=>AddRel w.heap.size all n w v i wr) (fun _ i _=>(intOf i).toNat)
 case atStart=>exact ⟨[],n,rfl,Nat.le_refl _,by simp,HALL.out.symm,.inr (World.ownsRow_nil _ _ _ _),Below.refl _ _⟩
 case round=>
  obtain ⟨cur,x,rfl,hx,hcl,hcat,hbuf,hbw⟩:=hrel
  have hsz:=hbw.size
  have HBUF:=Lib.hid hbuf
  have HCAT:=Lib.hid hcat
  clear hbuf hcat
  by_cases h:128≤x
  ·obtain ⟨c,hc⟩:∃ c,c=UInt8.ofNat (128+x%128):=⟨_,rfl⟩
   have hcn:Hid (c.toNat=128+x%128):=Lib.hid (by rw [hc,byte_nat (by omega)])
   have hcat2:(cur++[c])++putB (x/128)=all:=by
    rw [← HCAT.out,putB_big h,List.append_assoc,hc];rfl
   have hcl2:(cur++[c]).length≤all.length:=by rw [← hcat2,List.length_append (bs:=putB (x/128))];omega
   clear hc
   have HC2:=Lib.hid hcat2
   have HL2:=Lib.hid hcl2
   clear hcat2 hcl2
   go_wp2_with (at_builtin;refine wpList_append_buf _ rfl (.tmp 6) (.tmp 11) 86 rfl w.heap.size i0 _ Tryz.underlying86 hi0 hz0 hz1 hz2 rfl _ cur rfl (HBUF.out.alloc (by omega) _) (by simp;omega) ⟨wr.heap.size,0,none⟩ 1 _ rfl (news_at wr [.int .u8 _] 5) c (by rw [hcn.out];omega) (by omega) ?_)
   intro v' w3 hown3 hb3
   go_wp2
   go_roundw
   case rel=>exact ⟨_,x/128,by go_num,by omega,HL2.out,HC2.out,hown3.buf,(hbw.alloc (by omega) _).trans hb3⟩
   case measure=>simp [intOf];omega
  ·obtain ⟨c,hc⟩:∃ c,c=UInt8.ofNat x:=⟨_,rfl⟩
   have hcn:Hid (c.toNat=x):=Lib.hid (by rw [hc,byte_nat (by omega)])
   have hcat2:cur++[c]=all:=by rw [← HCAT.out,putB_small (by omega),hc]
   clear hc
   have HC2:=Lib.hid hcat2
   clear hcat2
   go_wp2_with (at_builtin;refine wpList_append_buf _ rfl (.tmp 15) (.tmp 18) 86 rfl w.heap.size i0 _ Tryz.underlying86 hi0 hz0 hz1 hz2 rfl _ cur rfl (HBUF.out.alloc (by omega) _) (by simp;omega) ⟨wr.heap.size,0,none⟩ 1 _ rfl (news_at wr [.int .u8 _] 5) c (by rw [hcn.out]) (by omega) ?_)
   intro v' w3 hown3 hb3
   go_wp2
   go_ret
   exact ⟨_,rfl,by rw [← HC2.out];exact hown3,(hbw.alloc (by omega) _).trans hb3⟩
end Go.Proofs.YtmoomnpbiifedaaGreat
namespace Go.Proofs.YtmoomnpbiifedaaGreat
open Go Go.RowKit
set_option linter.unusedVariables false
def RefPutRel10 (all:List UInt8) (l:List Int) (w:World) (v i:Value) (wr:World):Prop:=
 ∃ (cur:List UInt8) (k:Nat),k≤l.length∧i= .int .i64 (k:Int)∧ -1≤ahead l k∧risesZ (ahead l k) (l.drop k)=true∧cur.length≤all.length∧cur++dB (ahead l k) (l.drop k)=all∧Own w.heap.size wr v cur∧Below w.heap.size w wr
set_option maxHeartbeats 1000000 in
set_option maxRecDepth 100000 in
theorem ref04_PutRising (C:Option Addr) (n d:Nat) (l:List Int) (w:World) (hn:l.length=n) (hn20:n≤2147483648) (hrl:Row w w.heap.size C (ints l)) (hb:∀ x∈l,x≤4611686018427387904) (hri:risesZ (-1) l=true):
  Calls Tryz.prog 72 #[.slice C n d] w (GaveOwn w.heap.size (putR l) w):=by
 obtain ⟨i0,hi0,hz0,hz1,hz2⟩:=info_parts info_byte
 subst hn
 have hdl:=dB_length l (-1) (by omega) hri fun x hx=>by have :=hb x hx;omega
 have h9:=putB_nine (n:=l.length) (by omega)
 obtain ⟨all,hall⟩:∃ all,all=putR l:=⟨_,rfl⟩
 have hal:all.length≤20000000000:=by rw [hall,putR,List.length_append];omega
 rw [← hall]
 have HALL:=Lib.hid hall
 have HRL:=Lib.hid hrl
 have HB:=Lib.hid hb
 have HRI:=Lib.hid hri
 clear hall hrl hb hri hdl
 go_enter Tryz.func72,Tryz.ntmps72
 go_wp2_with (go_at_call 71;refine (ref_Put l.length _ (by omega)).mono ?_)
 rintro e w2 ⟨v,rfl,hown,hb2⟩
 have HOWN:=Lib.hid hown
 have HB2:=Lib.hid hb2
 clear hown hb2
 go_wp2
 go_loopw [3,4] (fun v i wr=>RefPutRel10 all l w v i wr) (fun _ i _=>l.length-(intOf i).toNat)
 case atStart=>exact ⟨putB l.length,0,by omega,rfl,by simp [ahead],HRI.out,by rw [HALL.out,putR,List.length_append];omega,by rw [HALL.out,putR];rfl,HOWN.out,HB2.out⟩
 case round=>
  obtain ⟨cur,k,hk,rfl,hx1,hris,hcl,hcat,hown,hbw⟩:=hrel
  have hsz:=hbw.size
  by_cases hlt:k<l.length
  ·obtain ⟨b1,o1,e1,_,hc1⟩:=row_int' (HRL.out.below hbw) hlt
   subst e1
   have hc0:0<k→wr.cell? ⟨b1,o1+(k-1),none⟩=some (.int .i64 (ahead l k)):=fun h=>by
    obtain ⟨b2,o2,e2,_,hc2⟩:=row_int' (HRL.out.below hbw) (k:=k-1) (by omega)
    injection e2 with e2
    injection e2 with e3 e4
    subst e3 e4
    rw [hc2]
    simp [ahead]
    omega
   have ha0:k=0→ahead l k= -1:=fun h=>by simp [ahead,h]
   have hs:=ahead_succ (l:=l) (k:=k)
   rw [risesZ_drop hlt,Bool.and_eq_true,decide_eq_true_iff] at hris
   rw [dB_drop hlt,← List.append_assoc] at hcat
   have hyb:l.getD k 0≤4611686018427387904:=HB.out _ (by rw [List.getD_eq_getElem?_getD,List.getElem?_eq_getElem hlt];simp)
   obtain ⟨y,hy⟩:∃ y,y=l.getD k 0:=⟨_,rfl⟩
   obtain ⟨x,hxx⟩:∃ x,x=ahead l k:=⟨_,rfl⟩
   rw [← hy] at hc1 hris hcat hyb hs
   rw [← hxx] at hris hcat hx1 hc0 ha0
   obtain ⟨hxy,hris⟩:=hris
   obtain ⟨g,hg⟩:∃ g:Nat,y-(x+1)=(g:Int):=⟨(y-(x+1)).toNat,by omega⟩
   rw [hg,Int.toNat_natCast] at hcat
   have hcl2:(cur++putB g).length≤all.length:=by rw [← hcat,List.length_append (bs:=dB y _)];omega
   have HCAT:=Lib.hid hcat
   have HRIS:=Lib.hid hris
   have HCL:=Lib.hid hcl2
   have HS:=Lib.hid hs
   have HOW:=Lib.hid hown
   have HG:=Lib.hid hg
   have HC0:=Lib.hid hc0
   have HA0:=Lib.hid ha0
   clear hcat hris hcl2 hy hs hxx hown hg hc0 ha0
   go_upto_if 20 with fail
   go_cut [5] from 19 to 31 (fun s wx=>s= .int .i64 (g:Int)∧Below wr.heap.size wr wx)
   case first=>
    rcases Nat.eq_zero_or_pos k with hk0|hk0
    ·have hd:decide (0<k)=false:=decide_eq_false (by omega)
     have hx:=HA0.out hk0
     have hyg:y=(g:Int):=by have :=HG.out;omega
     have HYG:=Lib.hid hyg
     clear hk0 hx hyg
     rw [hd]
     go_wp2_with fail
     go_meet
     exact ⟨congrArg (Value.int .i64) HYG.out,Below.refl _ _⟩
    ·have hcp:=HC0.out hk0
     obtain ⟨j,hj⟩:∃ j,j=k-1:=⟨_,rfl⟩
     have hw:IntKind.i64.wrap ((k:Int)-1)=(j:Int):=by rw [IntWalk.i64_in _ (by omega)];omega
     have hjl:j<l.length:=by omega
     have hd:decide (0<k)=true:=decide_eq_true hk0
     have hg:=HG.out
     have hw1:IntKind.i64.wrap (y-x)=y-x:=IntWalk.i64_in _ (by omega)
     have hw2:IntKind.i64.wrap (y-x-1)=(g:Int):=by rw [IntWalk.i64_in _ (by omega)];omega
     rw [← hj] at hcp
     clear hj hk0 hg
     rw [hd]
     go_wp2_with fail
     go_quiet (fail)
     go_wp2_with fail
     go_meet
     exact ⟨rfl,rfl,rfl,rfl,Nat.le_refl _,fun _ _=>rfl⟩
   case rest=>
    obtain ⟨rfl,hb3⟩:=hcut
    have hs3:=hb3.size
    have hb3':=hbw.trans (hb3.mono hsz)
    have HOW3:=Lib.hid (HOW.out.below hb3)
    have hg0:g<9223372036854775808:=by have :=HG.out;omega
    clear hb3
    go_wp2_with (go_at_call 71;refine (ref_Put g _ hg0).mono ?_)
    rintro e w4 ⟨v4,rfl,hown4,hb4⟩
    obtain ⟨A4,c4,rfl,_,hr4⟩:=hown4.row
    have h9g:=putB_nine hg0
    have HR4:=Lib.hid hr4
    have hs4:=hb4.size
    have HB4:=Lib.hid (hb3'.trans (hb4.mono (by omega)))
    have HOW4:=Lib.hid (HOW3.out.below hb4)
    obtain ⟨G,hG⟩:∃ G,G=(putB g).length:=⟨_,rfl⟩
    rw [← hG]
    have hG9:G≤9:=by omega
    have HGL:=Lib.hid hG
    clear hown4 hr4 hb4 hG h9g
    go_wp2_with (at_builtin;refine wpList_append_row _ rfl (.tmp 32) (.tmp 34) 86 rfl w.heap.size 5 i0 _ 1 1 Tryz.underlying86 hi0 hz0 hz1 hz2 rfl (by omega) _ cur.length (Lib.byteCells cur) rfl HOW4.out _ A4 G c4 (Lib.byteCells (putB g)) rfl (by rw [Lib.byteCells_length,HGL.out];omega) HR4.out (byteCells_oneCell _) (by unfold maxLen;omega) (by omega) (by omega) ?_)
    intro v5 w5 hown5 hg5
    have hb5:Below w.heap.size w4 w5:=(Below.refl _ w4).grown hg5 (by omega) fun k hk=>(HOW4.out.lt k hk).1
    have ho5:Own w.heap.size w5 v5 (cur++putB g):=by
     unfold Own
     rw [Lib.byteCells_append,List.length_append,← HGL.out]
     exact hown5
    have hfin:RefPutRel10 all l w v5 (.int .i64 ((k:Int)+1)) w5:=⟨cur++putB g,k+1,by omega,by simp,by rw [HS.out];omega,by rw [HS.out];exact HRIS.out,HCL.out,by rw [HS.out];exact HCAT.out,ho5,HB4.out.trans hb5⟩
    have HF:=Lib.hid hfin
    clear hfin hb5 hg5 hown5 ho5
    go_wp2
    go_roundw
    case rel=>exact HF.out
    case measure=>simp [intOf];omega
  ·rw [dB_end (by omega),List.append_nil] at hcat
   subst hcat
   go_wp2
   go_ret
   exact ⟨_,rfl,hown,hbw⟩
end Go.Proofs.YtmoomnpbiifedaaGreat
namespace Go.Proofs.YtmoomnpbiifedaaGreat
open Go Go.RowKit
set_option linter.unusedVariables false
def BytesRel10 (all:List UInt8) (l:List Po) (w:World) (v i:Value) (wr:World):Prop:=
 ∃ (cur:List UInt8) (k:Nat),k≤l.length∧i= .int .i64 (k:Int)∧ -1≤docAt l k∧mayB' (docAt l k) (l.drop k)=true∧cur.length≤all.length∧cur++bytesP (docAt l k) (l.drop k)=all∧Own w.heap.size wr v cur∧Below w.heap.size w wr
set_option maxHeartbeats 2000000 in
set_option maxRecDepth 100000 in
theorem ref05_Bytes_any (A:Option Addr) (n d:Nat) (l:List Po) (w:World) (hn:l.length=n) (hn60:n≤100) (hpo:Posts w w.heap.size A l) (hmay:mayB' (-1) l=true) (hpl:∀ p∈l,p.2.length≤2147483648) (hal0:(bytesP (-1) l).length≤1000000000000):
  Calls Tryz.prog 37 #[.slice A n d] w (GaveOwn w.heap.size (bytesP (-1) l) w):=by
 obtain ⟨i0,hi0,hz0,hz1,hz2⟩:=info_parts info_byte
 subst hn
 obtain ⟨all,hall⟩:∃ all,all=bytesP (-1) l:=⟨_,rfl⟩
 rw [← hall] at hal0
 rw [← hall]
 have HALL:=Lib.hid hall
 have HPO:=Lib.hid hpo
 have HMAY:=Lib.hid hmay
 have HPL:=Lib.hid hpl
 clear hall hpo hmay hpl
 go_enter Tryz.func37,Tryz.ntmps37
 go_wp2
 go_loopw [3,4] (fun v i wr=>BytesRel10 all l w v i wr) (fun _ i _=>l.length-(intOf i).toNat)
 case atStart=>exact ⟨[],0,by omega,rfl,by simp [docAt],HMAY.out,by simp,HALL.out.symm,World.ownsRow_nil _ _ _ _,Below.refl _ _⟩
 case round=>
  obtain ⟨cur,k,hk,rfl,hx1,hris,hcl,hcat,hown,hbw⟩:=hrel
  have hsz:=hbw.size
  by_cases hlt:k<l.length
  ·obtain ⟨b1,o1,e1,hb1,hc1,A2,c2,hc2,hlc,hcx,hr2⟩:=(HPO.out.below hbw).at_ hlt
   subst e1
   have hc0:0<k→∀ j,j=k-1→wr.cell? ⟨b1,o1+j*2,none⟩=some (.int .i64 (docAt l k)):=fun h j hj=>by
    obtain ⟨b2,o2,e2,_,hc3,_⟩:=(HPO.out.below hbw).at_ (k:=j) (by omega)
    injection e2 with e2
    injection e2 with e3 e4
    subst e3 e4
    rw [hc3]
    have hk0:k≠0:=by omega
    simp only [docAt,if_neg hk0,hj]
   have ha0:k=0→docAt l k= -1:=fun h=>by simp [docAt,h]
   have hs:=docAt_succ (l:=l) (k:=k)
   have hlp:=HPL.out (l.getD k (0,[])) (by rw [List.getD_eq_getElem?_getD,List.getElem?_eq_getElem hlt];simp)
   rw [drop_po hlt] at hris hcat
   obtain ⟨q,hq⟩:∃ q,q=l.getD k (0,[]):=⟨_,rfl⟩
   rw [← hq] at hc1 hc2 hlc hr2 hris hcat hs hlp
   obtain ⟨y,ps⟩:=q
   obtain ⟨x,hxx⟩:∃ x,x=docAt l k:=⟨_,rfl⟩
   rw [← hxx] at hris hcat hx1 hc0 ha0
   simp only at hc1 hc2 hlc hr2 hs hlp
   obtain ⟨hxy,hyb,hps,hris⟩:=mayB'_cons.1 hris
   simp only at hxy hyb hps hris
   simp only [bytesP] at hcat
   obtain ⟨g,hg⟩:∃ g:Nat,y-(x+1)=(g:Int):=⟨(y-(x+1)).toNat,by omega⟩
   rw [hg,Int.toNat_natCast,← List.append_assoc,← List.append_assoc] at hcat
   have hcl2:((cur++putB g)++putR ps).length≤all.length:=by rw [← hcat,List.length_append (bs:=bytesP y _)];omega
   have hpb:=places_bd hps
   have hg0:g<9223372036854775808:=by omega
   have HCAT:=Lib.hid hcat
   have HRIS:=Lib.hid hris
   have HCL:=Lib.hid hcl2
   have HS:=Lib.hid hs
   have HOW:=Lib.hid hown
   have HG:=Lib.hid hg
   have HC0:=Lib.hid hc0
   have HA0:=Lib.hid ha0
   have HPS:=Lib.hid hps
   have HPB:=Lib.hid hpb
   have HR2:=Lib.hid hr2
   clear hcat hris hcl2 hs hxx hown hg hc0 ha0 hq hps hpb hr2
   go_upto_if 18 with fail
   go_cut [5] from 17 to 27 (fun s wx=>s= .int .i64 (g:Int)∧wr=wx)
   case first=>
    rcases Nat.eq_zero_or_pos k with hk0|hk0
    ·have hd:decide (0<k)=false:=decide_eq_false (by omega)
     have hx:=HA0.out hk0
     have hyg:y=(g:Int):=by have :=HG.out;omega
     have HYG:=Lib.hid hyg
     clear hk0 hx hyg
     rw [hd]
     go_wp2_with fail
     go_meet
     exact ⟨congrArg (Value.int .i64) HYG.out,rfl⟩
    ·obtain ⟨j,hj⟩:∃ j,j=k-1:=⟨_,rfl⟩
     have hcp:=HC0.out hk0 j hj
     have hkj:(k:Int)-1=(j:Int):=by omega
     have hjl:j<l.length:=by omega
     have hd:decide (0<k)=true:=decide_eq_true hk0
     have hyx:y-x-1=(g:Int):=by have :=HG.out;omega
     have HYX:=Lib.hid hyx
     clear hj hk0 hyx
     rw [hd]
     go_wp2_with fail
     go_meet
     exact ⟨congrArg (Value.int .i64) HYX.out,rfl⟩
   case rest=>
    obtain ⟨rfl,rfl⟩:=hcut
    go_wp2_with (go_at_call 71;refine (ref_Put g _ hg0).mono ?_)
    rintro e w4 ⟨v4,rfl,hown4,hb4⟩
    obtain ⟨A4,c4,rfl,_,hr4⟩:=hown4.row
    have h9g:=putB_nine hg0
    have HR4:=Lib.hid hr4
    have HB4:=Lib.hid (hbw.trans (hb4.mono hsz))
    have HBR4:=Lib.hid (hb4.mono hsz)
    have hs4:=HB4.out.size
    have HOW4:=Lib.hid (HOW.out.below hb4)
    obtain ⟨G,hG⟩:∃ G,G=(putB g).length:=⟨_,rfl⟩
    rw [← hG]
    have hG9:G≤9:=by omega
    have HGL:=Lib.hid hG
    have hk2:=(hb4.cell (p:=⟨b1,o1+k*2+1,none⟩) (by show b1<_;omega)).trans hc2
    clear hown4 hr4 hb4 hG h9g hc1 hc2 HC0 HA0 HG
    go_wp2_with (at_builtin;refine wpList_append_row _ rfl (.tmp 28) (.tmp 30) 86 rfl w.heap.size 5 i0 _ 1 1 Tryz.underlying86 hi0 hz0 hz1 hz2 rfl (by omega) _ cur.length (Lib.byteCells cur) rfl HOW4.out _ A4 G c4 (Lib.byteCells (putB g)) rfl (by rw [Lib.byteCells_length,HGL.out];omega) HR4.out (byteCells_oneCell _) (by unfold maxLen;omega) (by omega) hs4 ?_)
    intro v5 w5 hown5 hg5
    have hb5:Below w.heap.size w4 w5:=(Below.refl _ w4).grown hg5 hs4 fun k hk=>(HOW4.out.lt k hk).1
    have HB5:=Lib.hid (HB4.out.trans hb5)
    have HROW5:=Lib.hid ((HR2.out.below (HBR4.out.trans hb5)).more HB5.out.size)
    have hs5:=HB5.out.size
    have HOW5:=Lib.hid (own_more HGL.out.symm hown5)
    have hk3:=(hb5.cell (p:=⟨b1,o1+k*2+1,none⟩) hb1).trans hk2
    have hcur:(cur++putB g).length≤all.length:=by have :=HCL.out;rw [List.length_append (bs:=putR ps)] at this;omega
    clear hown5 hg5 hb5 hk2 HB4 HOW4 HR4
    obtain ⟨P,hP⟩:∃ P,P=ps.length:=⟨_,rfl⟩
    rw [← hP] at hk3 hlc hlp
    have rp:=ref04_PutRising A2 P c2 ps w5 hP.symm hlp HROW5.out (fun x hx=>by have :=HPB.out x hx;omega) (placesB_iff.1 HPS.out).1
    have hpl9:=putR_length HPS.out (by omega)
    rw [← hP] at hpl9
    have RP:=Lib.hid rp
    clear rp hP
    go_wp2_with (go_at_call 72;refine RP.out.mono ?_)
    rintro e w6 ⟨v6,rfl,hown6,hb6⟩
    obtain ⟨A6,c6,rfl,_,hr6⟩:=hown6.row
    have HR6:=Lib.hid hr6
    have HB6:=Lib.hid (HB5.out.trans (hb6.mono hs5))
    have hs6:=HB6.out.size
    have HOW6:=Lib.hid (HOW5.out.below hb6)
    obtain ⟨Q,hQ⟩:∃ Q,Q=(putR ps).length:=⟨_,rfl⟩
    rw [← hQ] at hpl9
    rw [← hQ]
    have HQL:=Lib.hid hQ
    obtain ⟨cur2,hc2⟩:∃ cur2,cur2=cur++putB g:=⟨_,rfl⟩
    have HOW6':Hid (Own w.heap.size w6 v5 cur2):=by rw [hc2];exact HOW6
    have HCL2:Hid ((cur2++putR ps).length≤all.length):=by rw [hc2];exact HCL
    have HCAT2:Hid ((cur2++putR ps)++bytesP y (l.drop (k+1))=all):=by rw [hc2];exact HCAT
    rw [← hc2] at hcur
    clear hown6 hr6 hb6 hQ hk3 HROW5 HOW5 HOW6 HCL HCAT hc2
    go_wp2_with (at_builtin;refine wpList_append_row _ rfl (.tmp 32) (.tmp 38) 86 rfl w.heap.size 5 i0 _ 1 1 Tryz.underlying86 hi0 hz0 hz1 hz2 rfl (by omega) _ cur2.length (Lib.byteCells cur2) rfl HOW6'.out _ A6 Q c6 (Lib.byteCells (putR ps)) rfl (by rw [Lib.byteCells_length,HQL.out];omega) HR6.out (byteCells_oneCell _) (by unfold maxLen;omega) (by omega) hs6 ?_)
    intro v7 w7 hown7 hg7
    have hb7:Below w.heap.size w6 w7:=(Below.refl _ w6).grown hg7 hs6 fun k hk=>(HOW6'.out.lt k hk).1
    have hfin:BytesRel10 all l w v7 (.int .i64 ((k:Int)+1)) w7:=⟨cur2++putR ps,k+1,by omega,by simp,by rw [HS.out];omega,by rw [HS.out];exact HRIS.out,HCL2.out,by rw [HS.out];exact HCAT2.out,own_more HQL.out.symm hown7,HB6.out.trans hb7⟩
    have HF:=Lib.hid hfin
    clear hfin hb7 hg7 hown7
    go_wp2
    go_roundw
    case rel=>exact HF.out
    case measure=>simp [intOf];omega
  ·rw [List.drop_eq_nil_of_le (by omega)] at hcat
   simp only [bytesP,List.append_nil] at hcat
   subst hcat
   go_wp2
   go_ret
   exact ⟨_,rfl,hown,hbw⟩
end Go.Proofs.YtmoomnpbiifedaaGreat
set_option linter.unusedVariables false
namespace Go.Proofs.YtmoomnpbiifedaaGreat
open Go Go.RowKit
set_option maxHeartbeats 2000000 in
theorem law10_as (A1 A2 A3 A4:Option Addr) (n1 c1 n2 c2 n3 c3 n4 c4:Nat) (w:World):Calls Tryz.prog 34 #[.agg #[.slice A1 n1 c1,.slice A2 n2 c2,.slice A3 n3 c3,.slice A4 n4 c4]] w fun e w'=>e= .returned (.agg #[.slice A1 n1 c1,.slice A2 n2 c2,.slice A3 n3 c3,.slice A4 n4 c4])∧Below w.heap.size w w':=by
 go_enter Tryz.func34,Tryz.ntmps34
 go_wp2
 refine bodyPost_ret (results_cell_row (P:=Tryz.prog) rfl _ _ (w.heap.size+1) 26 _ (0,0) _ rfl (by simpa using heap_alloc_new (w.alloc (.cells #[.slice A1 n1 c1,.slice A2 n2 c2,.slice A3 n3 c3,.slice A4 n4 c4] 34)) (.cells #[.slice A1 n1 c1,.slice A2 n2 c2,.slice A3 n3 c3,.slice A4 n4 c4] 26)) Tryz.underlying26 rfl (by kernel_rfl)) rfl ?_
 exact ⟨rfl,((Below.refl _ w).alloc (Nat.le_refl _) _).alloc (by simp) _⟩
theorem idAt_getD {l:List Int} {k:Nat} (h:k<l.length):idAt l (k:Int)=l.getD k 0:=by
 unfold idAt
 rw [if_pos (by omega),Int.toNat_natCast]
def LikeRel10a (n:Nat) (w1:World) (i:Value) (wr:World):Prop:=∃ j:Nat,j≤n+2∧i= .int .i64 ((j:Int)-1)∧Below w1.heap.size w1 wr
def LikeRel10b (x:PartsP) (w1:World) (n i:Value) (wr:World):Prop:=∃ j:Nat,j≤x.lists.length∧n= .int .i64 (sumB (x.lists.take j):Int)∧i= .int .i64 (j:Int)∧Below w1.heap.size w1 wr
def LikeRel10c (g:List Pn) (C:Nat) (w1:World) (i:Value) (wr:World):Prop:=∃ j:Nat,j≤g.length∧i= .int .i64 (j:Int)∧CAt (False,0) C g ((j:Int)-1) wr∧Below w1.heap.size w1 wr
set_option maxHeartbeats 16000000 in
set_option maxRecDepth 100000 in
theorem law10_like {S:Nat} {x:PartsP} {w:World} (hS:SegAt w S x) (A1 A2 A3 A4:Option Addr) (n1 c1 n2 c2 n3 c3 n4 c4:Nat) (tf tw:ByteArray)
    (hx1:x.ids.length=n1) (hx2:x.seqs.length=n2) (hx3:x.keys.length=n3) (hx4:x.lists.length=n4) (hx:PAt w w.heap.size A1 A2 A3 A4 x) (ok:LikeOk x) (fx:PFew x) (hf:tf.size≤140737488355328) (hg:tw.size≤140737488355328):
    Calls Tryz.prog 12 #[.pointer (some ⟨S,0,none⟩),.agg #[.slice A1 n1 c1,.slice A2 n2 c2,.slice A3 n3 c3,.slice A4 n4 c4],.agg #[.string tf,.string tw]] w fun e w'=>e= .returned (.bool true)∧Below w.heap.size w w':=by
  obtain ⟨m12,m34, -, -, -⟩:=mayPs_iff.1 ok.may
  have hn12:n1=n2:=by omega
  have hn34:n3=n4:=by omega
  subst hn12 hn34
  obtain ⟨V,hV⟩:∃ V:Array Value,V=#[.slice A1 n1 c1,.slice A2 n1 c2,.slice A3 n3 c3,.slice A4 n3 c4]:=⟨_,rfl⟩
  obtain ⟨w1,hw1⟩:∃ w1,w1=(w.alloc (.cells V 26)).alloc (.cells #[.string tf,.string tw] 39):=⟨_,rfl⟩
  have hb1:Below w.heap.size w w1:=by rw [hw1];exact ((Below.refl _ w).alloc (Nat.le_refl _) _).alloc (by simp) _
  have hP1:w1.heap[w.heap.size]?=some (.cells V 26 (0,0)):=by rw [hw1,Below.heap_alloc _ _ _ (by simp)];exact heap_alloc_new w _
  have hT1:w1.heap[w.heap.size+1]?=some (.cells #[.string tf,.string tw] 39 (0,0)):=by rw [hw1];simpa using heap_alloc_new (w.alloc (.cells V 26)) (.cells #[.string tf,.string tw] 39)
  rw [hV] at hP1
  have hS1:=hS.below hb1
  have hx1':=hx.later hb1
  have HRC:Hid (∀ w',Below w1.heap.size w1 w'→((w'.cell? ⟨w.heap.size,0,none⟩=some (.slice A1 n1 c1)∧w'.cell? ⟨w.heap.size,1,none⟩=some (.slice A2 n1 c2)∧w'.cell? ⟨w.heap.size,2,none⟩=some (.slice A3 n3 c3)∧w'.cell? ⟨w.heap.size,3,none⟩=some (.slice A4 n3 c4))∧
      w'.cell? ⟨w.heap.size+1,0,none⟩=some (.string tf)∧w'.cell? ⟨w.heap.size+1,1,none⟩=some (.string tw))):=Lib.hid fun w' h=>by
    have e1:=cells4 ((h.block _ (lt_of_block hP1)).trans hP1)
    have e2:=(h.block _ (lt_of_block hT1)).trans hT1
    exact ⟨e1,by simp [World.cell?,e2],by simp [World.cell?,e2]⟩
  have HSG:Hid (∀ w',Below w1.heap.size w1 w'→SegAt w' S x):=Lib.hid fun w' h=>hS1.below h
  have HPA:Hid (∀ w',Below w1.heap.size w1 w'→PAt w' w'.heap.size A1 A2 A3 A4 x):=Lib.hid fun w' h=>hx1'.later h
  have HB1:=Lib.hid hb1
  have HW1:=Lib.hid hw1
  have HOK:=Lib.hid ok
  have HX1:=Lib.hid hx1
  have HX2:=Lib.hid hx2
  have HX3:=Lib.hid hx3
  have HX4:=Lib.hid hx4
  have hn1:n1≤100:=hx1▸ok.few
  have hn3:n3≤1048576:=hx3▸ok.small.keys
  have HLE:Hid (∀ w',Below w1.heap.size w1 w'→Calls Tryz.prog 31 #[.pointer (some ⟨S,0,none⟩)] w' fun e w''=>e= .returned (.int .i64 (n1:Int))∧Below w'.heap.size w' w''):=Lib.hid fun w' h=>by rw [← hx1];exact seg_Len (hS1.below h)
  have HKY:Hid (∀ w',Below w1.heap.size w1 w'→Calls Tryz.prog 33 #[.pointer (some ⟨S,0,none⟩)] w' fun e w''=>∃ A c,e= .returned (.slice A n3 c)∧Row w'' w''.heap.size A (strs x.keys)∧Below w'.heap.size w' w''):=Lib.hid fun w' h=>(seg_Keys (hS1.below h)).mono fun e w'' ⟨v,he,ho,hb⟩=>by
    obtain ⟨A,c,rfl,_,hr⟩:=ho.row
    rw [hx3] at he
    exact ⟨A,c,he,hr,hb⟩
  have HSK:Hid (∀ (A:Option Addr) (c:Nat) w',Below w1.heap.size w1 w'→Row w' w'.heap.size A (strs x.keys)→Calls Tryz.prog 32 #[.slice A n3 c,.slice A3 n3 c3] w' fun e w''=>e= .returned (.bool true)∧Below w'.heap.size w' w''):=Lib.hid fun A c w' h hr=>by
    have :=ref02_Same_all A A3 n3 n3 c c3 x.keys x.keys w' hx3 hx3 hr (hx1'.later h).keys (by omega) (by omega)
    rwa [decide_eq_true rfl] at this
  have HPT:Hid (∀ w',Below w1.heap.size w1 w'→Calls Tryz.prog 17 #[.pointer (some ⟨S,0,none⟩)] w' fun e w''=>∃ B1 d1 B2 d2 B3 d3 B4 d4,e= .returned (.agg #[.slice B1 n1 d1,.slice B2 n1 d2,.slice B3 n3 d3,.slice B4 n3 d4])∧PAt w'' w''.heap.size B1 B2 B3 B4 x∧Below w'.heap.size w' w''):=Lib.hid fun w' h=>by
    have :=seg_Parts (hS1.below h)
    unfold GotParts at this
    rw [hx1,hx2,hx3,hx4] at this
    exact this
  have HSP:Hid (∀ (B1 B2 B3 B4:Option Addr) (d1 d2 d3 d4:Nat) w',Below w1.heap.size w1 w'→PAt w' w'.heap.size B1 B2 B3 B4 x→Calls Tryz.prog 19 #[.agg #[.slice B1 n1 d1,.slice B2 n1 d2,.slice B3 n3 d3,.slice B4 n3 d4],.agg #[.slice A1 n1 c1,.slice A2 n1 c2,.slice A3 n3 c3,.slice A4 n3 c4]] w' fun e w''=>e= .returned (.bool true)∧Below w'.heap.size w' w''):=Lib.hid fun B1 B2 B3 B4 d1 d2 d3 d4 w' h hp=>by
    have :=ref10_Same B1 B2 B3 B4 A1 A2 A3 A4 n1 d1 n1 d2 n3 d3 n3 d4 n1 c1 n1 c2 n3 c3 n3 c4 x x w' hx1 hx2 hx3 hx4 hx1 hx2 hx3 hx4 hp (hx1'.later h) fx fx
    rwa [decide_eq_true rfl] at this
  have HID:Hid (∀ (i:Int) w',Below w1.heap.size w1 w'→Calls Tryz.prog 35 #[.pointer (some ⟨S,0,none⟩),.int .i64 i] w' fun e w''=>e= .returned (.int .i64 (idAt x.ids i))∧Below w'.heap.size w' w''):=Lib.hid fun i w' h=>seg_Id (hS1.below h) i
  have HSQ:Hid (∀ (i:Int) w',Below w1.heap.size w1 w'→Calls Tryz.prog 36 #[.pointer (some ⟨S,0,none⟩),.int .i64 i] w' fun e w''=>e= .returned (.int .i64 (idAt x.seqs i))∧Below w'.heap.size w' w''):=Lib.hid fun i w' h=>seg_Seq (hS1.below h) i
  have HBY:Hid (∀ (A:Option Addr) (n d:Nat) (l:List Pn) w',l∈x.lists→l.length=n→Posts w' w'.heap.size A l→Calls Tryz.prog 37 #[.slice A n d] w' (GaveOwn w'.heap.size (bytesP (-1) l) w')):=Lib.hid fun A n d l w' hl hn hp=>by
    have :=ok.list hl
    exact ref05_Bytes_any A n d l w' hn (by omega) hp this.1 this.2.2.1 (by omega)
  have HSO:Hid (∀ (A C:Option Addr) (n c d:Nat) (l:List Pn) w',(∀ p∈l,p.2.length≤2147483648)→n≤1000→l.length=n→Posts w' w'.heap.size A l→Posts w' w'.heap.size C l→Calls Tryz.prog 38 #[.slice A n c,.slice C n d] w' fun e w''=>e= .returned (.bool true)∧Below w'.heap.size w' w''):=Lib.hid fun A C n c d l w' hl h1000 hn hp hq=>by
    have :=ref05_Same_any A C n n c d l l w' hn hn hp hq (by omega) (by omega) (fun p hp=>by have :=hl p hp;omega) (fun p hp=>by have :=hl p hp;omega)
    rwa [decide_eq_true rfl] at this
  have HPG:Hid (∀ (X:ByteArray) w',Below w1.heap.size w1 w'→Calls Tryz.prog 39 #[.pointer (some ⟨S,0,none⟩),.string X] w' (GaveNew (postsPs x X.data.toList) w')):=Lib.hid fun X w' h=>seg_Postings (hS1.below h) X
  have HRP:Hid (∀ (X:ByteArray) w',Below w1.heap.size w1 w'→Calls Tryz.prog 40 #[.agg #[.slice A1 n1 c1,.slice A2 n1 c2,.slice A3 n3 c3,.slice A4 n3 c4],.string X] w' (FoundPo (postsPs x X.data.toList) w')):=Lib.hid fun X w' h=>ref10_Postings A1 A2 A3 A4 n1 c1 n1 c2 n3 c3 n3 c4 x X w' hx3 hx4 (hx1'.later h).keys (hx1'.later h).lists (by omega) (by omega)
  obtain ⟨X,hX⟩:∃ X,X=keyB tf tw:=⟨_,rfl⟩
  obtain ⟨g,hgg⟩:∃ g,g=postsPs x X.data.toList:=⟨_,rfl⟩
  have hgk:postsPs x (keyL tf.data.toList tw.data.toList)=g:=by rw [hgg,hX,keyB_list]
  have HKE:Hid (∀ w',Calls Tryz.prog 41 #[.agg #[.string tf,.string tw]] w' fun e w''=>e= .returned (.string X)∧Below w'.heap.size w' w''):=Lib.hid fun w'=>by rw [hX];exact ref_Key tf tw w' hf hg
  have HCO:Hid (∀ w',Below w1.heap.size w1 w'→Calls Tryz.prog 45 #[.pointer (some ⟨S,0,none⟩),.agg #[.string tf,.string tw]] w' fun e w''=>e= .returned (.int .i64 (g.length:Int))∧Below w'.heap.size w' w''):=Lib.hid fun w' h=>by
    have :=seg_Count (hS1.below h) tf tw hf hg
    rwa [hgk] at this
  have HCU:Hid (∀ w',Below w1.heap.size w1 w'→Calls Tryz.prog 42 #[.pointer (some ⟨S,0,none⟩),.agg #[.string tf,.string tw]] w' fun e w''=>∃ C,e= .returned (.pointer (some ⟨C,0,none⟩))∧w'.heap.size≤C∧CAt (False,0) C g (-1) w''∧Below w'.heap.size w' w''):=Lib.hid fun w' h=>by
    have :=seg_Cursor (hS1.below h) tf tw hf hg
    rwa [hgk] at this
  have HBT:Hid (∀ w',Below w1.heap.size w1 w'→Calls Tryz.prog 44 #[.pointer (some ⟨S,0,none⟩)] w' fun e w''=>e= .returned (.int .i64 (sumB x.lists:Int))∧Below w'.heap.size w' w''):=Lib.hid fun w' h=>seg_Bytes (hS1.below h)
  have hgp:=ok.posts X.data.toList
  rw [← hgg] at hgp
  have HGP:=Lib.hid hgp
  have HGG:=Lib.hid hgg
  have HPGX:Hid (∀ w',Below w1.heap.size w1 w'→Calls Tryz.prog 39 #[.pointer (some ⟨S,0,none⟩),.string X] w' (GaveNew g w')):=Lib.hid fun w' h=>by rw [hgg];exact seg_Postings (hS1.below h) X
  have HRPX:Hid (∀ w',Below w1.heap.size w1 w'→Calls Tryz.prog 40 #[.agg #[.slice A1 n1 c1,.slice A2 n1 c2,.slice A3 n3 c3,.slice A4 n3 c4],.string X] w' (FoundPo g w')):=Lib.hid fun w' h=>by rw [hgg];exact HRP.out X w' h
  clear hS hx hb1 hP1 hT1 hS1 hx1' m12 m34 hX hgg hgk hgp ok fx hf hg
  obtain ⟨⟨q0,q1,q2,q3⟩,t0,t1⟩:=HRC.out w1 (Below.refl _ _)
  rw [hw1] at q0 q1 q2 q3 t0 t1
  have HV:=Lib.hid hV
  clear hw1
  subst hV
  clear HV
  go_enter Tryz.func12,Tryz.ntmps12
  go_upto_region 3 with fail
  rw [show (w.alloc _).alloc _=w1 from HW1.out.symm]
  go_region_held3 (fun w'=>w'.cell? ⟨w.heap.size,0,none⟩=some (.slice A1 n1 c1)∧w'.cell? ⟨w.heap.size,1,none⟩=some (.slice A2 n1 c2)∧w'.cell? ⟨w.heap.size,2,none⟩=some (.slice A3 n3 c3)∧w'.cell? ⟨w.heap.size,3,none⟩=some (.slice A4 n3 c4))
    (first|exact (HRC.out _ (Below.refl _ _).drew).1|exact (HRC.out _ HB2.out).1|exact (HRC.out _ HB3.out).1|exact (HRC.out _ HB4.out).1|exact (HRC.out _ HB5.out).1|exact (HRC.out _ HB6.out).1|exact (HRC.out _ HB7.out).1)
    (first
      | (go_at_call 31; (with_reducible refine (HLE.out _ (Below.refl _ _).drew).mono ?_); rintro e w2 ⟨rfl, hb2⟩
         have HB2:Hid (Below w1.heap.size w1 w2):=Lib.hid ((Below.refl _ w1).drew.trans hb2)
         clear hb2)
      | (go_at_call 33; (with_reducible refine (HKY.out _ HB2.out).mono ?_); rintro e w3 ⟨A9, c9, rfl, hr9, hb3⟩
         have HB3:=Lib.hid (HB2.out.trans (hb3.mono HB2.out.size))
         have HR9:=Lib.hid hr9
         clear hb3 hr9)
      | (go_at_call 32; (with_reducible refine (HSK.out _ _ _ HB3.out HR9.out).mono ?_); rintro e w4 ⟨rfl, hb4⟩
         have HB4:=Lib.hid (HB3.out.trans (hb4.mono HB3.out.size))
         clear hb4)
      | (go_at_call 17; (with_reducible refine (HPT.out _ HB4.out).mono ?_); rintro e w5 ⟨B1, d1, B2, d2, B3, d3, B4, d4, rfl, hp5, hb5⟩
         have HB5:=Lib.hid (HB4.out.trans (hb5.mono HB4.out.size))
         have HP5:=Lib.hid hp5
         clear hb5 hp5)
      | (go_at_call 34; (with_reducible refine (law10_as _ _ _ _ _ _ _ _ _ _ _ _ _).mono ?_); rintro e w6 ⟨rfl, hb6⟩
         have HB6:=Lib.hid (HB5.out.trans (hb6.mono HB5.out.size))
         have HP6:=Lib.hid (HP5.out.later hb6)
         clear hb6)
      | (go_at_call 19; (with_reducible refine (HSP.out _ _ _ _ _ _ _ _ _ HB6.out HP6.out).mono ?_); rintro e w7 ⟨rfl, hb7⟩
         have HB7:=Lib.hid (HB6.out.trans (hb7.mono HB6.out.size))
         clear hb7))
  go_wp2
  have hn:(0:Int)≤n1:=by omega
  go_loopw [7,8,9] (fun i a b wr=>LikeRel10a n1 w7 i wr) (fun i _ _ _=>n1+2-(intOf i+1).toNat)
  case atStart=>exact ⟨0,by omega,rfl,Below.refl _ _⟩
  case round=>
    obtain ⟨j,hj,rfl,hbw⟩:=hrel
    have HBR:=Lib.hid (HB7.out.trans (hbw.mono HB7.out.size))
    have HBW:=Lib.hid hbw
    clear hbw
    obtain ⟨⟨q0,q1,q2,q3⟩, -, -⟩:=HRC.out wr HBR.out
    have hcase:j=0∨(∃ k,j=k+1∧k<n1)∨j=n1+1∨j=n1+2:=by
      rcases Nat.lt_trichotomy j 0 with h|h|h
      · omega
      · exact .inl h
      · by_cases h1:j≤n1
        · exact .inr (.inl ⟨j-1,by omega,by omega⟩)
        · omega
    rcases hcase with rfl|⟨k,rfl,hk⟩|rfl|rfl
    · have HI:Hid (∀ w',Below w1.heap.size w1 w'→Calls Tryz.prog 35 #[.pointer (some ⟨S,0,none⟩),.int .i64 (-1)] w' fun e w''=>e= .returned (.int .i64 (-1))∧Below w'.heap.size w' w''):=Lib.hid fun w' h=>by
        have :=HID.out (-1) w' h
        rwa [idAt_out (.inl (by omega))] at this
      have HQ:Hid (∀ w',Below w1.heap.size w1 w'→Calls Tryz.prog 36 #[.pointer (some ⟨S,0,none⟩),.int .i64 (-1)] w' fun e w''=>e= .returned (.int .i64 (-1))∧Below w'.heap.size w' w''):=Lib.hid fun w' h=>by
        have :=HSQ.out (-1) w' h
        rwa [idAt_out (.inl (by omega))] at this
      rw [show (((0:Nat):Int)-1)= -1 from rfl]
      go_wp2_with (first
        | (go_at_call 35; (with_reducible refine (HI.out _ HBR.out).mono ?_); rintro e w8 ⟨rfl, hb8⟩
           have HB8:=Lib.hid (HBR.out.trans (hb8.mono HBR.out.size))
           have HB78:Hid (Below w7.heap.size w7 w8):=Lib.hid (HBW.out.trans (hb8.mono HBW.out.size))
           clear hb8)
        | (go_at_call 36; (with_reducible refine (HQ.out _ HB8.out).mono ?_); rintro e w9 ⟨rfl, hb9⟩
           have HB79:Hid (Below w7.heap.size w7 w9):=Lib.hid (HB78.out.trans (hb9.mono HB78.out.size))
           clear hb9))
      exact ⟨⟨1,by omega,rfl,HB79.out⟩,by simp [intOf]⟩
    · obtain ⟨b1,o1,e1,_,hc1⟩:=row_int' (HPA.out wr HBR.out).ids (k:=k) (by rw [HX1.out];exact hk)
      obtain ⟨b2,o2,e2,_,hc2⟩:=row_int' (HPA.out wr HBR.out).seqs (k:=k) (by rw [HX2.out];exact hk)
      subst e1 e2
      obtain ⟨a,ha⟩:∃ a,a=x.ids.getD k 0:=⟨_,rfl⟩
      obtain ⟨b,hb⟩:∃ b,b=x.seqs.getD k 0:=⟨_,rfl⟩
      have HI:Hid (∀ w',Below w1.heap.size w1 w'→Calls Tryz.prog 35 #[.pointer (some ⟨S,0,none⟩),.int .i64 (k:Int)] w' fun e w''=>e= .returned (.int .i64 a)∧Below w'.heap.size w' w''):=Lib.hid fun w' h=>by
        have :=HID.out (k:Int) w' h
        rwa [idAt_getD (by rw [HX1.out];exact hk),← ha] at this
      have HQ:Hid (∀ w',Below w1.heap.size w1 w'→Calls Tryz.prog 36 #[.pointer (some ⟨S,0,none⟩),.int .i64 (k:Int)] w' fun e w''=>e= .returned (.int .i64 b)∧Below w'.heap.size w' w''):=Lib.hid fun w' h=>by
        have :=HSQ.out (k:Int) w' h
        rwa [idAt_getD (by rw [HX2.out];exact hk),← hb] at this
      rw [← ha] at hc1
      rw [← hb] at hc2
      have hi0:(0:Int)≤k:=by omega
      have hi1:(k:Int)<n1:=by omega
      have hi2:(k:Int)≤n1:=by omega
      clear ha hb
      rw [show (((k+1:Nat):Int)-1)=(k:Int) by omega]
      go_wp2_with (first
        | (go_at_call 35; (with_reducible refine (HI.out _ HBR.out).mono ?_); rintro e w8 ⟨rfl, hb8⟩
           have HB8:=Lib.hid (HBR.out.trans (hb8.mono HBR.out.size))
           have HB78:Hid (Below w7.heap.size w7 w8):=Lib.hid (HBW.out.trans (hb8.mono HBW.out.size))
           clear hb8)
        | (go_at_call 36; (with_reducible refine (HQ.out _ HB8.out).mono ?_); rintro e w9 ⟨rfl, hb9⟩
           have HB79:Hid (Below w7.heap.size w7 w9):=Lib.hid (HB78.out.trans (hb9.mono HB78.out.size))
           clear hb9))
      exact ⟨⟨k+2,by omega,by congr 1;omega,HB79.out⟩,by simp [intOf];omega⟩
    · have HI:Hid (∀ w',Below w1.heap.size w1 w'→Calls Tryz.prog 35 #[.pointer (some ⟨S,0,none⟩),.int .i64 (n1:Int)] w' fun e w''=>e= .returned (.int .i64 (-1))∧Below w'.heap.size w' w''):=Lib.hid fun w' h=>by
        have :=HID.out (n1:Int) w' h
        rwa [idAt_out (.inr (by rw [HX1.out];omega))] at this
      have HQ:Hid (∀ w',Below w1.heap.size w1 w'→Calls Tryz.prog 36 #[.pointer (some ⟨S,0,none⟩),.int .i64 (n1:Int)] w' fun e w''=>e= .returned (.int .i64 (-1))∧Below w'.heap.size w' w''):=Lib.hid fun w' h=>by
        have :=HSQ.out (n1:Int) w' h
        rwa [idAt_out (.inr (by rw [HX2.out];omega))] at this
      have hi0:(0:Int)≤n1:=by omega
      have hi1:(n1:Int)≤n1:=by omega
      rw [show (((n1+1:Nat):Int)-1)=(n1:Int) by omega]
      go_wp2_with (first
        | (go_at_call 35; (with_reducible refine (HI.out _ HBR.out).mono ?_); rintro e w8 ⟨rfl, hb8⟩
           have HB8:=Lib.hid (HBR.out.trans (hb8.mono HBR.out.size))
           have HB78:Hid (Below w7.heap.size w7 w8):=Lib.hid (HBW.out.trans (hb8.mono HBW.out.size))
           clear hb8)
        | (go_at_call 36; (with_reducible refine (HQ.out _ HB8.out).mono ?_); rintro e w9 ⟨rfl, hb9⟩
           have HB79:Hid (Below w7.heap.size w7 w9):=Lib.hid (HB78.out.trans (hb9.mono HB78.out.size))
           clear hb9))
      exact ⟨⟨n1+2,by omega,by congr 1;omega,HB79.out⟩,by simp [intOf];omega⟩
    · have hi1:(n1:Int)<(n1:Int)+1:=by omega
      rw [show (((n1+2:Nat):Int)-1)=(n1:Int)+1 by omega]
      clear hj
      go_wp2
      obtain ⟨wA,rfl⟩:∃ wA,wA=wr:=⟨_,rfl⟩
      clear q0 q1 q2 q3 hi1
      go_loopw [10,11] (fun n i wr=>LikeRel10b x wA n i wr) (fun _ i _=>n3-(intOf i).toNat)
      case atStart=>exact ⟨0,Nat.zero_le _,by simp [sumB],rfl,Below.refl _ _⟩
      case round=>
        obtain ⟨j,hj,rfl,rfl,hbw⟩:=hrel
        have HBR2:=Lib.hid (HBR.out.trans (hbw.mono HBR.out.size))
        have HBW2:=Lib.hid hbw
        rw [HX4.out] at hj
        clear hbw
        obtain ⟨⟨q0,q1,q2,q3⟩,t0,t1⟩:=HRC.out wr HBR2.out
        have hT:=like_sumB HOK.out j
        have hT2:j*400000000000≤1048576*400000000000:=Nat.mul_le_mul_right _ (by omega)
        by_cases hjn:j<n3
        · have hjl:j<x.lists.length:=by rw [HX4.out];exact hjn
          have hjk:j<x.keys.length:=by rw [HX3.out];exact hjn
          obtain ⟨b4,o4,A',c',e4,hb4,hc4,hl4,hp4⟩:=(HPA.out wr HBR2.out).lists.at_ hjl
          obtain ⟨b3,o3,e3,hb3,hc3⟩:=row_nm (HPA.out wr HBR2.out).keys hjk
          subst e3 e4
          obtain ⟨Y,hY,hY2⟩:=as_text x.keys[j]
          rw [← hY] at hc3
          have hpo:postsPs x Y.data.toList=x.lists[j]:=by rw [hY2];exact posts_at HOK.out.may hjk hjl
          have hlk:=HOK.out.list (List.getElem_mem hjl)
          have hsn:=sumB_take hjl
          have hmem:x.lists[j]∈x.lists:=List.getElem_mem hjl
          obtain ⟨L,hL⟩:∃ L,L=x.lists[j]:=⟨_,rfl⟩
          rw [← hL] at hpo hlk hsn hmem hc4 hp4
          obtain ⟨m,hm⟩:∃ m,m=L.length:=⟨_,rfl⟩
          rw [← hm] at hc4
          obtain ⟨T,hTT⟩:∃ T,T=sumB (x.lists.take j):=⟨_,rfl⟩
          obtain ⟨T',hT'⟩:∃ T',T'=sumB (x.lists.take (j+1)):=⟨_,rfl⟩
          obtain ⟨M,hM⟩:∃ M,M=(bytesP (-1) L).length:=⟨_,rfl⟩
          rw [← hTT] at hT hsn ⊢
          rw [← hT',← hM] at hsn
          have hM4:M≤400000000000:=by rw [hM];exact hlk.2.2.2
          have HT':=Lib.hid hT'
          have HSN:=Lib.hid hsn
          have HMM:=Lib.hid hM
          have HLM:=Lib.hid hm
          have HBYL:=Lib.hid (HBY.out A' m c' L wr hmem hm.symm hp4)
          have HPGL:Hid (∀ w',Below w1.heap.size w1 w'→Calls Tryz.prog 39 #[.pointer (some ⟨S,0,none⟩),.string Y] w' fun e w''=>∃ A9 c9,e= .returned (.slice A9 m c9)∧Posts w'' w''.heap.size A9 L∧Below w'.heap.size w' w''):=Lib.hid fun w' h=>(HPG.out Y w' h).mono fun e w'' ⟨v,he,hn9,hb9⟩=>by
            rw [hpo] at hn9
            obtain ⟨A9,c9,rfl,_,_,hp9⟩:=hn9.room
            rw [← hm] at he
            exact ⟨A9,c9,he,hp9,hb9⟩
          have HSOL:Hid (∀ (A9:Option Addr) (c9:Nat) w',Posts w' w'.heap.size A9 L→Posts w' w'.heap.size A' L→Calls Tryz.prog 38 #[.slice A9 m c9,.slice A' m c'] w' fun e w''=>e= .returned (.bool true)∧Below w'.heap.size w' w''):=Lib.hid fun A9 c9 w' h1 h2=>HSO.out A9 A' m c9 c' L w' hlk.2.2.1 (by have :=hlk.2.1;omega) hm.symm h1 h2
          have HP4:=Lib.hid hp4
          have HSC:Hid (∀ w',Below wr.heap.size wr w'→Below w1.heap.size w1 w'∧w'.cell? ⟨w.heap.size,2,none⟩=some (.slice (some ⟨b3,o3,none⟩) n3 c3)∧w'.cell? ⟨w.heap.size,3,none⟩=some (.slice (some ⟨b4,o4,none⟩) n3 c4)∧w'.cell? ⟨b3,o3+j,none⟩=some (.string Y)∧w'.cell? ⟨b4,o4+j,none⟩=some (.slice A' m c')):=Lib.hid fun w' h=>by
            have h1:=HBR2.out.trans (h.mono HBR2.out.size)
            obtain ⟨⟨_,_,r2,r3⟩,_,_⟩:=HRC.out _ h1
            exact ⟨h1,r2,r3,(h.cell (p:=⟨b3,_,none⟩) hb3).trans hc3,(h.cell (p:=⟨b4,_,none⟩) hb4).trans hc4⟩
          have hi0:(0:Int)≤j:=by omega
          have hi1:(j:Int)<n3:=by omega
          clear hjl hjk hb3 hb4 hl4 hp4 hY hY2 hpo hlk hsn hmem hL hm hTT hT' hM hj q0 q1 q2 t0 t1
          go_upto_region 20 with (go_at_call 37; (with_reducible refine HBYL.out.mono ?_); rintro e w10 ⟨v10, rfl, ho10, hb10⟩
                                  obtain ⟨A10,c10,rfl,_,_⟩:=ho10.row
                                  rw [← HMM.out]
                                  have HB10:=Lib.hid hb10
                                  clear ho10 hb10)
          go_region_held3 (fun w'=>w'.cell? ⟨w.heap.size,2,none⟩=some (.slice (some ⟨b3,o3,none⟩) n3 c3)∧w'.cell? ⟨w.heap.size,3,none⟩=some (.slice (some ⟨b4,o4,none⟩) n3 c4)∧w'.cell? ⟨b3,o3+j,none⟩=some (.string Y)∧w'.cell? ⟨b4,o4+j,none⟩=some (.slice A' m c'))
            (first|exact (HSC.out _ HB10.out.drew).2|exact (HSC.out _ HB11.out).2|exact (HSC.out _ HB12.out).2)
            (first
              | (go_at_call 39; (with_reducible refine (HPGL.out _ (HSC.out _ HB10.out.drew).1).mono ?_); rintro e w11 ⟨A11, c11, rfl, hp11, hb11⟩
                 have HB11:Hid (Below wr.heap.size wr w11):=Lib.hid (HB10.out.drew.trans (hb11.mono HB10.out.drew.size))
                 have HP11:=Lib.hid hp11
                 have HP12:=Lib.hid (Posts.later HP4.out HB11.out)
                 clear hp11 hb11)
              | (go_at_call 38; (with_reducible refine (HSOL.out _ _ _ HP11.out HP12.out).mono ?_); rintro e w12 ⟨rfl, hb12⟩
                 have HB12:Hid (Below wr.heap.size wr w12):=Lib.hid (HB11.out.trans (hb12.mono HB11.out.size))
                 clear hb12))
          all_goals
            go_wp2
            exact ⟨⟨j+1,by rw [HX4.out];omega,by rw [← HT'.out,HSN.out];push_cast;rfl,by go_num,HBW2.out.trans (HB12.out.mono HBW2.out.size)⟩,by simp [intOf];omega⟩
        · have hje:j=n3:=by omega
          subst hje
          have hall:x.lists.take j=x.lists:=List.take_of_length_le (by rw [HX4.out];exact Nat.le_refl _)
          rw [hall] at hT ⊢
          obtain ⟨T,hTT⟩:∃ T,T=sumB x.lists:=⟨_,rfl⟩
          have HTT:=Lib.hid hTT
          rw [← hTT] at hT ⊢
          have ht0:(0:Int)≤T:=by omega
          clear hTT hall hjn hj
          obtain ⟨wB,rfl⟩:∃ wB,wB=wr:=⟨_,rfl⟩
          go_upto_region 22 with fail
          go_region_held3 (fun w'=>(w'.cell? ⟨w.heap.size,0,none⟩=some (.slice A1 n1 c1)∧w'.cell? ⟨w.heap.size,1,none⟩=some (.slice A2 n1 c2)∧w'.cell? ⟨w.heap.size,2,none⟩=some (.slice A3 j c3)∧w'.cell? ⟨w.heap.size,3,none⟩=some (.slice A4 j c4))∧w'.cell? ⟨w.heap.size+1,0,none⟩=some (.string tf)∧w'.cell? ⟨w.heap.size+1,1,none⟩=some (.string tw))
            (first|exact HRC.out _ HBR2.out.drew|exact HRC.out _ HB13.out|exact HRC.out _ HB14.out)
            (first
              | (go_at_call 41; (with_reducible refine (HKE.out _).mono ?_); rintro e w13 ⟨rfl, hb13⟩
                 have HB13:Hid (Below w1.heap.size w1 w13):=Lib.hid (HBR2.out.drew.trans (hb13.mono HBR2.out.drew.size))
                 clear hb13)
              | (go_at_call 40; (with_reducible refine (HRPX.out _ HB13.out).mono ?_); rintro e w14 ⟨A14, c14, rfl, hc14, hp14, hb14⟩
                 have HB14:Hid (Below w1.heap.size w1 w14):=Lib.hid (HB13.out.trans (hb14.mono HB13.out.size))
                 have HP14:=Lib.hid hp14
                 clear hp14 hb14))
          obtain ⟨⟨q0,q1,q2,q3⟩,t0,t1⟩:=HRC.out w14 HB14.out
          obtain ⟨L,hL⟩:∃ L,L=g.length:=⟨_,rfl⟩
          have hL1:L≤1000:=by rw [hL];exact HGP.out.1
          rw [← hL] at hc14 ⊢
          have HLL:=Lib.hid hL
          clear hL
          go_wp2_with (go_at_call 42; (with_reducible refine (HCU.out _ HB14.out).mono ?_); rintro e w15 ⟨C, rfl, hC, hcat, hb15⟩
                       have HCAT:=Lib.hid hcat
                       have HB15:=Lib.hid hb15
                       have HC:=Lib.hid hC
                       clear hcat hb15 hC)
          clear q0 q1 q2 q3 t0 t1
          go_loopw [14] (fun i wr=>LikeRel10c g C w14 i wr) (fun i _=>L-(intOf i).toNat)
          case atStart=>exact ⟨0,Nat.zero_le _,rfl,HCAT.out,HB15.out⟩
          case round=>
            obtain ⟨k,hk,rfl,hcat,hbw⟩:=hrel
            rw [← HLL.out] at hk
            have HBW3:=Lib.hid hbw
            have HBR3:=Lib.hid (HB14.out.trans (hbw.mono HB14.out.size))
            have HNX:Hid (∀ w',Below wr.heap.size wr w'→Calls Tryz.prog 43 #[.pointer (some ⟨C,0,none⟩)] w' fun e w''=>e= .returned (.int .i64 (docC g (k:Int)))∧CAt (False,0) C g (((k+1:Nat):Int)-1) w''∧Below w14.heap.size w' w''):=Lib.hid fun w' h=>by
              have :=cur_Next C g ((k:Int)-1) w' (hcat.below h)
              rw [nextC_at (by rw [← HLL.out];exact hk)] at this
              refine this.mono fun e w'' ⟨h1,h2,h3⟩=>⟨h1,?_,h3.below (fun q hq=>by rw [hq];exact HC.out) (Nat.le_trans hbw.size h.size)⟩
              rw [show (((k+1:Nat):Int)-1)=(k:Int) by omega]
              exact h2
            clear hcat hbw
            by_cases hkL:k<L
            · have hkg:k<g.length:=by rw [← HLL.out];exact hkL
              obtain ⟨b,off,rfl,hb,hcd, -⟩:=HP14.out.at_ hkg
              obtain ⟨d,hd⟩:∃ d,d=(g.getD k (0,[])).1:=⟨_,rfl⟩
              have hdc:docC g (k:Int)=d:=by rw [docC_at hkg,← hd]
              rw [← hd] at hcd
              rw [hdc] at HNX
              have HSC:Hid (∀ w',Below w14.heap.size w14 w'→w'.cell? ⟨b,off+k*2,none⟩=some (.int .i64 d)):=Lib.hid fun w' h=>(h.cell (p:=⟨b,_,none⟩) hb).trans hcd
              have hi0:(0:Int)≤k:=by omega
              have hi1:(k:Int)<L:=by omega
              clear hb hcd hd hdc hkg hk
              go_upto_region 29 with fail
              go_region_held3 (fun w'=>w'.cell? ⟨b,off+k*2,none⟩=some (.int .i64 d))
                (first|exact HSC.out _ HBW3.out.drew|exact HSC.out _ HB16.out)
                (first
                  | (go_at_call 43; (with_reducible refine (HNX.out _ (Below.refl _ _).drew).mono ?_); rintro e w16 ⟨rfl, hcat, hb16⟩
                     have HB16:Hid (Below w14.heap.size w14 w16):=Lib.hid (HBW3.out.drew.trans hb16)
                     have HC16:=Lib.hid hcat
                     clear hb16 hcat))
              all_goals
                go_wp2
                exact ⟨⟨k+1,by rw [← HLL.out];omega,by go_num,HC16.out,HB16.out⟩,by simp [intOf];omega⟩
            · have hke:k=L:=by omega
              have hdc:docC g (k:Int)=2147483648:=by rw [hke,HLL.out];exact docC_end g
              rw [hdc] at HNX
              subst hke
              obtain ⟨⟨q0,q1,q2,q3⟩,t0,t1⟩:=HRC.out wr HBR3.out
              have hkk:(k:Int)≤k:=Int.le_refl _
              obtain ⟨wC,rfl⟩:∃ wC,wC=wr:=⟨_,rfl⟩
              have HCO2:Hid (∀ w',Below w1.heap.size w1 w'→Calls Tryz.prog 45 #[.pointer (some ⟨S,0,none⟩),.agg #[.string tf,.string tw]] w' fun e w''=>e= .returned (.int .i64 (k:Int))∧Below w'.heap.size w' w''):=Lib.hid fun w' h=>by rw [HLL.out];exact HCO.out w' h
              have HBT2:Hid (∀ w',Below w1.heap.size w1 w'→Calls Tryz.prog 44 #[.pointer (some ⟨S,0,none⟩)] w' fun e w''=>e= .returned (.int .i64 (T:Int))∧Below w'.heap.size w' w''):=Lib.hid fun w' h=>by rw [HTT.out];exact HBT.out w' h
              clear hdc hkL hk
              go_wp2_with (first
                | (go_at_call 44; (with_reducible refine (HBT2.out _ HBR3.out).mono ?_); rintro e w17 ⟨rfl, hb17⟩
                   have HB17:=Lib.hid (HBR3.out.trans (hb17.mono HBR3.out.size))
                   have HD17:=Lib.hid hb17
                   clear hb17 q0 q1 q2 q3 t0 t1
                   obtain ⟨-,t0,t1⟩:=HRC.out w17 HB17.out)
                | (go_at_call 45; (with_reducible refine (HCO2.out _ HB17.out).mono ?_); rintro e w18 ⟨rfl, hb18⟩
                   have HB18:=Lib.hid (HB17.out.trans (hb18.mono HB17.out.size))
                   have HD18:=Lib.hid (HD17.out.trans (hb18.mono HD17.out.size))
                   clear hb18 t0 t1
                   obtain ⟨-,t0,t1⟩:=HRC.out w18 HB18.out)
                | (go_at_call 41; (with_reducible refine (HKE.out _).mono ?_); rintro e w19 ⟨rfl, hb19⟩
                   have HB19:=Lib.hid (HB18.out.trans (hb19.mono HB18.out.size))
                   have HD19:=Lib.hid (HD18.out.trans (hb19.mono HD18.out.size))
                   clear hb19)
                | (go_at_call 39; (with_reducible refine (HPGX.out _ HB19.out).mono ?_); rintro e w20 ⟨v20, rfl, hn20, hb20⟩
                   obtain ⟨A20,c20,rfl,_,_,hp20⟩:=hn20.room
                   rw [← HLL.out]
                   have HB20:=Lib.hid (HB19.out.trans (hb20.mono HB19.out.size))
                   have HD20:=Lib.hid (HD19.out.trans (hb20.mono HD19.out.size))
                   have HP20:=Lib.hid hp20
                   have HP14b:=Lib.hid (Posts.later HP14.out (HBW3.out.trans (HD20.out.mono HBW3.out.size)))
                   have HSOX:=Lib.hid (HSO.out A20 A14 k c20 c14 g w20 HGP.out.2 hL1 HLL.out.symm HP20.out HP14b.out)
                   clear hb20 hp20 hn20)
                | (go_at_call 38; (with_reducible refine HSOX.out.mono ?_); rintro e w21 ⟨rfl, hb21⟩
                   have HD21:=Lib.hid (HD20.out.trans (hb21.mono HD20.out.size))
                   clear hb21)
                | (go_at_call 43; (with_reducible refine (HNX.out _ HD21.out).mono ?_); rintro e w22 ⟨rfl, -, hb22⟩
                   have HB22:Hid (Below w14.heap.size w14 w22):=Lib.hid ((HBW3.out.trans (HD21.out.mono HBW3.out.size)).trans hb22)
                   clear hb22))
              go_ret
              exact ⟨rfl,HB1.out.trans ((HB14.out.trans (HB22.out.mono HB14.out.size)).mono HB1.out.size)⟩
end Go.Proofs.YtmoomnpbiifedaaGreat
