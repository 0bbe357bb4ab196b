import Derived.Test.YtldcadpemnpbmaaGreatDoorMLZz
import Derived.Test.YtldcadpemnpbmaaGreatDoorMLQ06
import Derived.Test.YtldcadpemnpbmaaGreatDoorMLQ16
import Derived.Test.YtldcadpemnpbmaaGreatDoorMLQ01
import Derived.Deep.RegionLaw
import Derived.Deep.RegionHeld3
import Derived.Deep.AppendLies
import Derived.Test.YtldcadpemnpbmaaGreatDoorMLQ07
import Derived.BigCall
import Derived.Test.YtldcadpemnpbmaaGreatDoorMLQ11
set_option linter.unusedVariables false
namespace Go.Proofs.YtldcadpemnpbmaaGreatDoor
open Go Go.RowKit
abbrev Sl:=Option Addr × Nat × Nat
def entQ:List Nm→List Sl→List Value
 |x::l,v::vs=> .string ⟨x.toArray⟩:: .slice v.1 v.2.1 v.2.2::entQ l vs
 |_,_=>[]
theorem entQ_nil (vs:List Sl):entQ [] vs=[]:=by cases vs<;>rfl
theorem entQ_snoc:∀ {l:List Nm} {vs:List Sl} {x:Nm} {v:Sl},vs.length=l.length→entQ (l++[x]) (vs++[v])=entQ l vs++[.string ⟨x.toArray⟩,.slice v.1 v.2.1 v.2.2]
 |[],[],x,v,_=>rfl
 |[],_::_,_,_,h=>by simp at h
 |_::_,[],_,_,h=>by simp at h
 |y::l,u::vs,x,v,h=>by
  have :=entQ_snoc (l:=l) (vs:=vs) (x:=x) (v:=v) (by simpa using h)
  simp only [List.cons_append,entQ,this]
theorem info_entryQ:(Tryz.prog.info? 301).map (fun i=>(i.zero,i.size,i.bytes))=some (some (.agg #[.string ByteArray.empty,.slice none 0 0]),2,40):=by kernel_rfl
def sls (vs:List Sl):List Value:=vs.map fun v=> .slice v.1 v.2.1 v.2.2
theorem row_sl {w:World} {B:Nat} {A:Option Addr} {l:List Sl} {k:Nat} (h:Row w B A (sls l)) (hk:k<l.length):∃ b off,A=some ⟨b,off,none⟩∧b<B∧w.cell? ⟨b,off+k,none⟩=some (.slice l[k].1 l[k].2.1 l[k].2.2):=by
 obtain ⟨b,off,rfl,hb,hc⟩:=Row.at_ h (by simp [sls];omega)
 exact ⟨b,off,rfl,hb,hc _ _ (by simp [sls,hk])⟩
def DictAtQ (w:World) (base B:Nat) (l:List Nm) (vs:List Sl):Prop:=
 base≤B∧vs.length=l.length∧∃ v,w.heap[B]?=some (.cells #[v] 299 (0,0))∧w.ownsRow base 301 2 v l.length (entQ l vs)
def MadeDQ (l:List Nm) (vs:List Sl) (w:World) (e:Ending) (w':World):Prop:=∃ B,e= .returned (.tuple #[.pointer (some ⟨B,0,none⟩),.int .i64 0])∧DictAtQ w' w.heap.size B l vs∧Below w.heap.size w w'
def NoneDQ (w:World) (e:Ending) (w':World):Prop:=e= .returned (.tuple #[.pointer none,.int .i64 1])∧Below w.heap.size w w'
set_option maxHeartbeats 1000000 in
set_option maxRecDepth 100000 in
theorem dictQ_Make_no (A A2:Option Addr) (n c m c2:Nat) (l:List Nm) (w:World) (hr:Row w w.heap.size A (strs l)) (hn:l.length=n) (hl:n≤1073741824) (hno:n≠m∨risesN l=false):
  Calls Tryz.prog 171 #[.slice A n c,.slice A2 m c2] w (NoneDQ w):=by
 by_cases hnm:n=m
 ·have hf:risesN l=false:=hno.resolve_left (fun h=>h hnm)
  have c1:=dict_rise A n c l w hr hn hl
  rw [hf] at c1
  have C1:=Lib.hid c1
  subst hnm
  clear c1 hno hf hr hn
  go_enter Tryz.func171,Tryz.ntmps171
  go_wp2_with (go_at_call 179;refine (C1.out).mono ?_;rintro e w1 ⟨rfl,hb⟩)
  go_ret2
  exact ⟨rfl,hb⟩
 ·have e1:((n:Int) != (m:Int))=true:=by simp;omega
  have e2:((n:Int)==(m:Int))=false:=by rw [beq_eq_false_iff_ne];omega
  clear hr hn hno hnm
  go_enter Tryz.func171,Tryz.ntmps171
  go_wp2
  go_ret2
  exact ⟨rfl,Below.refl _ _⟩
def MakeRelQ (B:Nat) (l:List Nm) (vs:List Sl) (w:World) (i:Value) (wr:World):Prop:=
 ∃ (k:Nat) (v:Value),k≤l.length∧i= .int .i64 (k:Int)∧wr.heap[B]?=some (.cells #[v] 299 (0,0))∧wr.ownsRow w.heap.size 301 2 v k (entQ (l.take k) (vs.take k))∧Below w.heap.size w wr
theorem owned_setQ {w:World} {base B:Nat} {e:TypeId} {size:Nat} {v:Value} {n:Nat} {xs:List Value} {cs:Array Value} {t:TypeId} {fr:Nat × Nat} (h:w.ownsRow base e size v n xs) (hB:w.heap[B]?=some (.cells cs t fr)) (ht:t≠e) (o:Nat) (u:Value):(w.setCell ⟨B,o,none⟩ u).ownsRow base e size v n xs:=
 owned_keep h fun g hg=>Below.heap_setCell _ _ _ _ (fun e1=>owned_apart h hB ht (by rw [hg,e1]))
theorem enteredQ {w0 w1:World} {base B n:Nat} {v v':Value} {xs ys:List Value} (hv:w0.heap[B]?=some (.cells #[v] 299 (0,0))) (hown:w0.ownsRow base 301 2 v n xs) (hg:w0.grownBy w1 v.ownBlock) (hown1:w1.ownsRow base 301 2 v' (n+1) ys) (hbase:base≤w0.heap.size) (hB:base≤B):
  w1.heap[B]?=some (.cells #[v] 299 (0,0))∧(w1.setCell ⟨B,0,none⟩ v').heap[B]?=some (.cells #[v'] 299 (0,0))∧(w1.setCell ⟨B,0,none⟩ v').ownsRow base 301 2 v' (n+1) ys∧Below base w0 (w1.setCell ⟨B,0,none⟩ v'):=by
 have h1:w1.heap[B]?=some (.cells #[v] 299 (0,0)):=(hg.block B (lt_of_block hv) (fun e=>owned_apart hown hv (by decide) e.symm)).trans hv
 refine ⟨h1,by simpa using one_setCell h1,owned_setQ hown1 h1 (by decide) _ _,?_⟩
 exact (((Below.refl base w0).grown hg hbase fun k hk=>(hown.lt k hk).1)).setCell hB _
set_option maxHeartbeats 4000000 in
set_option maxRecDepth 100000 in
theorem dictQ_Make (A A2:Option Addr) (n c c2:Nat) (l:List Nm) (vs:List Sl) (w:World) (hr:Row w w.heap.size A (strs l)) (hn:l.length=n) (hl:n≤1048576) (hv:Row w w.heap.size A2 (sls vs)) (hvn:vs.length=n) (hg:risesN l=true):
    Calls Tryz.prog 171 #[.slice A n c,.slice A2 n c2] w (MadeDQ l vs w):=by
  obtain ⟨i0,hi0,hz0,hz1,hz2⟩:=info_parts info_entryQ
  have c1:=dict_rise A n c l w hr hn (by omega)
  rw [hg] at c1
  have C1:=Lib.hid c1
  have HR:=Lib.hid hr
  have HV:=Lib.hid hv
  have HN:=Lib.hid hn
  have HVN:=Lib.hid hvn
  clear c1 hr hv hn hvn hg
  go_enter Tryz.func171,Tryz.ntmps171
  go_wp2_with (go_at_call 179;refine (C1.out).mono ?_)
  rintro e w1 ⟨rfl,hb1⟩
  obtain ⟨w2,hrun,hown2,hgrow2⟩:=run_make_own (P:=Tryz.prog) w1 w.heap.size 297 301 i0 _ 2 Tryz.underlying297 hi0 hz0 hz1 .i64 .i64 n (by rw [hz2];omega) (by unfold maxLen;omega) hb1.size
  have hb2:Below w.heap.size w w2:=hb1.grown hgrow2 hb1.size (fun k hk=>by cases hk)
  obtain ⟨B,hB⟩:∃ B,B=w2.heap.size:=⟨_,rfl⟩
  obtain ⟨w3,hw3⟩:∃ w3,w3=w2.alloc (.cells #[.slice (some ⟨w1.heap.size,0,none⟩) 0 n] 299):=⟨_,rfl⟩
  have hrel:MakeRelQ B l vs w (.int .i64 ((0:Nat):Int)) w3:=by
    refine ⟨0,.slice (some ⟨w1.heap.size,0,none⟩) 0 n,Nat.zero_le _,rfl,?_,?_,?_⟩
    · rw [hw3,hB];exact heap_alloc_new w2 _
    · rw [hw3];simpa [entQ_nil] using hown2.alloc _
    · rw [hw3];exact hb2.alloc hb2.size _
  have HREL:=Lib.hid hrel
  have HW3:=Lib.hid hw3
  have HB:=Lib.hid hB
  have HBW:Hid (w.heap.size≤B):=Lib.hid (by rw [hB];exact hb2.size)
  clear hrel hown2 hgrow2 hb2 hb1 hw3 hB
  go_wp2
  rw [← HW3.out,← HB.out]
  clear hrun
  go_loopw [26] (MakeRelQ B l vs w) (fun i _=>n-(intOf i).toNat)
  case atStart=>exact HREL.out
  case round=>
    obtain ⟨k,v,hk,rfl,hblk,hown,hbw⟩:=hrel
    rw [HN.out] at hk
    have hsz:=hbw.size
    by_cases hlt:k<n
    · have hkl:k<l.length:=by rw [HN.out];exact hlt
      have hkv:k<vs.length:=by rw [HVN.out];exact hlt
      obtain ⟨b1,o1,e1,hb1,hc1⟩:=row_nm (HR.out.below hbw) hkl
      obtain ⟨b2,o2,e2,hb2,hc2⟩:=row_sl (HV.out.below hbw) hkv
      subst e1 e2
      obtain ⟨x,hx⟩:∃ x:ByteArray,x=⟨l[k].toArray⟩:=⟨_,rfl⟩
      obtain ⟨y,hy⟩:∃ y,y=vs[k]:=⟨_,rfl⟩
      rw [← hx] at hc1
      rw [← hy] at hc2
      have hsn:entQ (l.take (k+1)) (vs.take (k+1))=entQ (l.take k) (vs.take k)++[.string x,.slice y.1 y.2.1 y.2.2]:=by
        rw [List.take_succ_eq_append_getElem hkl,List.take_succ_eq_append_getElem hkv,entQ_snoc (by simp only [List.length_take];rw [HN.out,HVN.out]),← hx,← hy]
      obtain ⟨cs,hcs⟩:∃ cs,cs=entQ (l.take k) (vs.take k):=⟨_,rfl⟩
      rw [← hcs] at hown hsn
      have cB:=cell_of_one hblk
      have fB:=free_of_one hblk
      have k2:(0:Int)≤(k:Int):=by omega
      have k3:(k:Int)<(n:Int):=by omega
      have hBlt:=lt_of_block hblk
      have hal:∀ o,((wr.alloc o).drew).cell? ⟨B,0,none⟩=some v:=fun o=>(((Below.refl _ wr).alloc (Nat.le_refl _) o).cell (p:=⟨B,0,none⟩) hBlt).trans cB
      have HOWN:=Lib.hid hown
      have HBLK:=Lib.hid hblk
      have HSN:=Lib.hid hsn
      clear hx hy hcs hown hblk hsn hkl hkv
      go_wp2
      go_region_law (first
        | (refine step_append_lies _ (by rfl) _ _ _ (by rfl) w.heap.size 301 i0 _ 2 40 Tryz.underlying297 hi0 hz0 hz1 hz2 rfl (by omega) v k cs (by rfl) ((HOWN.out.alloc _).drew)
            ⟨wr.heap.size,0,none⟩ 1 1 [.string x,.slice y.1 y.2.1 y.2.2] (by rfl) (by rfl) (World.news_of_block (cs:=#[.string x,.slice y.1 y.2.1 y.2.2]) (t:=301) (fr:=(0,0)) (heap_alloc_new wr.drew _)) (by intro u hu;simp at hu;rcases hu with hu|hu<;>(subst hu;rfl))
            (by omega) (by unfold maxLen;omega) (by omega) (by simp;omega) (wr.heap.size+1) (by simp) ?_
           intro gg cap w5 hown5 hg5 hat hlt5
           obtain ⟨hB5,hB6,hown6,hb6⟩:=enteredQ (((Below.refl _ wr).alloc (Nat.le_refl _) _).drew.block B hBlt |>.trans HBLK.out) ((HOWN.out.alloc _).drew) hg5 hown5 (by simp;omega) HBW.out
           have cB5:=cell_of_one hB5
           have fB5:=free_of_one hB5))
      all_goals
        have hrel:MakeRelQ B l vs w (.int .i64 ((k:Int)+1)) (w5.setCell ⟨B,0,none⟩ (.slice (some ⟨gg,0,none⟩) (k+1) cap)):=by
          refine ⟨k+1,_,by rw [HN.out];omega,by go_num,hB6,?_,?_⟩
          · rw [HSN.out];exact hown6
          · exact hbw.trans ((((Below.refl _ wr).alloc hsz _).drew).trans hb6)
        have HREL:=Lib.hid hrel
        clear hrel hB6 hown6 hb6 hB5
        go_wp2
        go_roundw
        case rel=>exact HREL.out
        case measure=>simp [intOf];omega
    · have hkn:k=n:=by omega
      have HFIN:Hid (MadeDQ l vs w (.returned (.tuple #[.pointer (some ⟨B,0,none⟩),.int .i64 0])) wr):=Lib.hid ⟨B,rfl,⟨HBW.out,by rw [HN.out,HVN.out],v,hblk,by
        rw [hkn,List.take_of_length_le (by rw [HN.out];omega),List.take_of_length_le (by rw [HVN.out];omega)] at hown
        rw [HN.out]
        exact hown⟩,hbw⟩
      clear hown hblk hbw
      go_wp2
      go_ret2
      exact HFIN.out
end Go.Proofs.YtldcadpemnpbmaaGreatDoor
namespace Go.Proofs.YtldcadpemnpbmaaGreatDoor
open Go Go.RowKit
set_option linter.unusedVariables false
def RisesRel10 (l:List Int) (r last i:Value):Prop:=r= .bool false∧∃ (k:Nat) (x:Int),k≤l.length∧i= .int .i64 (k:Int)∧last= .int .i64 x∧risesZ x (l.drop k)=risesZ (-1) l
set_option maxHeartbeats 1000000 in
set_option maxRecDepth 100000 in
theorem vint_rises_any (A:Option Addr) (m c:Nat) (l:List Int) (w:World) (hr:Row w w.heap.size A (ints l)) (hm:l.length=m) (hl:m≤9223372036854775807):
  Calls Tryz.prog 273 #[.slice A m c] w fun e w'=>e= .returned (.bool (risesZ (-1) l))∧w=w':=by
 have HR:=Lib.hid hr
 clear hr
 subst hm
 obtain ⟨ans,hans⟩:∃ ans,ans=risesZ (-1) l:=⟨_,rfl⟩
 rw [← hans]
 have HA:=Lib.hid hans
 clear hans
 go_enter Tryz.func273,Tryz.ntmps273
 go_wp2
 go_loop [2,3,8] (fun r last i=>RisesRel10 l r last i) (fun _ _ i=>l.length-(intOf i).toNat)
 case atStart=>exact ⟨rfl,0, -1,by omega,rfl,rfl,rfl⟩
 case round=>
  obtain ⟨rfl,k,x,hk,rfl,rfl,hx⟩:=hrel
  by_cases hlt:k<l.length
  ·obtain ⟨b1,o1,e1,_,hc1⟩:=row_int' HR.out hlt
   subst e1
   rw [risesZ_drop hlt] at hx
   obtain ⟨y,hy⟩:∃ y,y=l.getD k 0:=⟨_,rfl⟩
   rw [← hy] at hc1 hx
   clear hy
   by_cases hxy:y≤x
   ·rw [decide_eq_false (by omega),Bool.false_and,← HA.out] at hx
    subst hx
    go_wp2
    go_ret
    exact ⟨rfl,rfl⟩
   ·rw [decide_eq_true (by omega),Bool.true_and] at hx
    have HX:=Lib.hid hx
    clear hx
    go_wp2
    go_round
    case rel=>exact ⟨rfl,k+1,y,by omega,by go_num,rfl,HX.out⟩
    case measure=>simp [intOf];omega
  ·rw [risesZ_end (by omega),← HA.out] at hx
   subst hx
   go_wp2
   go_ret
   exact ⟨rfl,rfl⟩
end Go.Proofs.YtldcadpemnpbmaaGreatDoor
namespace Go.Proofs.YtldcadpemnpbmaaGreatDoor
open Go Go.RowKit
set_option linter.unusedVariables false
def GaveOwn (base:Nat) (bs:List UInt8) (w:World) (e:Ending) (w':World):Prop:=∃ v,e= .returned v∧Own base w' v bs∧Below base w w'
def AddRel (base:Nat) (all:List UInt8) (n:Nat) (w:World) (v i:Value) (wr:World):Prop:=
 ∃ (cur:List UInt8) (x:Nat),i= .int .i64 (x:Int)∧x≤n∧cur.length≤all.length∧cur++putB x=all∧Buf base wr v cur∧Below base w wr
set_option maxHeartbeats 1000000 in
set_option maxRecDepth 100000 in
theorem vint_add (v:Value) (bs:List UInt8) (n:Nat) (base:Nat) (w:World) (hb:Buf base w v bs) (hbase:base≤w.heap.size) (hn:n<9223372036854775808) (hl:bs.length≤1073741824):
  Calls Tryz.prog 274 #[v,.int .i64 (n:Int)] w (GaveOwn base (bs++putB n) w):=by
 obtain ⟨i0,hi0,hz0,hz1,hz2⟩:=info_parts info_byte
 have h9:=putB_nine hn
 obtain ⟨all,hall⟩:∃ all,all=bs++putB n:=⟨_,rfl⟩
 have hal:all.length≤1073741833:=by rw [hall,List.length_append];omega
 rw [← hall]
 have HALL:=Lib.hid hall
 have HB:=Lib.hid hb
 clear hall hb
 go_enter Tryz.func274,Tryz.ntmps274
 go_wp2
 go_loopw [0,1] (fun v i wr=>AddRel base all n w v i wr) (fun _ i _=>(intOf i).toNat)
 case atStart=>exact ⟨bs,n,rfl,Nat.le_refl _,by rw [HALL.out];simp,HALL.out.symm,HB.out,Below.refl _ _⟩
 case round=>
  obtain ⟨cur,x,rfl,hx,hcl,hcat,hbuf,hbw⟩:=hrel
  have hsz:=hbw.size
  have HBUF:=Lib.hid hbuf
  have HCAT:=Lib.hid hcat
  clear hbuf hcat
  by_cases h:128≤x
  ·obtain ⟨c,hc⟩:∃ c,c=UInt8.ofNat (128+x%128):=⟨_,rfl⟩
   have hcn:Hid (c.toNat=128+x%128):=Lib.hid (by rw [hc,byte_nat (by omega)])
   have hcat2:(cur++[c])++putB (x/128)=all:=by
    rw [← HCAT.out,putB_big h,List.append_assoc,hc];rfl
   have hcl2:(cur++[c]).length≤all.length:=by rw [← hcat2,List.length_append (bs:=putB (x/128))];omega
   clear hc
   have HC2:=Lib.hid hcat2
   have HL2:=Lib.hid hcl2
   clear hcat2 hcl2
   go_wp2_with (at_builtin;refine wpList_append_buf _ rfl (.tmp 9) (.tmp 14) 231 rfl base i0 _ Tryz.underlying231 hi0 hz0 hz1 hz2 rfl _ cur rfl (HBUF.out.alloc (by omega) _) (by simp;omega) ⟨wr.heap.size,0,none⟩ 1 _ rfl (news_at wr [.int .u8 _] 5) c (by rw [hcn.out];omega) (by omega) ?_)
   intro v' w3 hown3 hb3
   go_wp2
   go_roundw
   case rel=>exact ⟨_,x/128,by go_num,by omega,HL2.out,HC2.out,hown3.buf,(hbw.alloc (by omega) _).trans hb3⟩
   case measure=>simp [intOf];omega
  ·obtain ⟨c,hc⟩:∃ c,c=UInt8.ofNat x:=⟨_,rfl⟩
   have hcn:Hid (c.toNat=x):=Lib.hid (by rw [hc,byte_nat (by omega)])
   have hcat2:cur++[c]=all:=by rw [← HCAT.out,putB_small (by omega),hc]
   clear hc
   have HC2:=Lib.hid hcat2
   clear hcat2
   go_wp2_with (at_builtin;refine wpList_append_buf _ rfl (.tmp 16) (.tmp 19) 231 rfl base i0 _ Tryz.underlying231 hi0 hz0 hz1 hz2 rfl _ cur rfl (HBUF.out.alloc (by omega) _) (by simp;omega) ⟨wr.heap.size,0,none⟩ 1 _ rfl (news_at wr [.int .u8 _] 5) c (by rw [hcn.out]) (by omega) ?_)
   intro v' w3 hown3 hb3
   go_wp2
   go_ret
   exact ⟨_,rfl,by rw [← HC2.out];exact hown3,(hbw.alloc (by omega) _).trans hb3⟩
end Go.Proofs.YtldcadpemnpbmaaGreatDoor
namespace Go.Proofs.YtldcadpemnpbmaaGreatDoor
open Go Go.RowKit
set_option linter.unusedVariables false
set_option maxHeartbeats 1000000 in
set_option maxRecDepth 100000 in
theorem vint_Put (A:Option Addr) (m c:Nat) (bs:List UInt8) (n:Nat) (w:World) (hm:bs.length=m) (hc:m≤c) (hr:Row w w.heap.size A (Lib.byteCells bs)) (hn:n<9223372036854775808) (hl:bs.length≤1073741824):
  Calls Tryz.prog 229 #[.slice A m c,.int .i64 (n:Int)] w (GaveOwn w.heap.size (bs++putB n) w):=by
 have HR:=Lib.hid hr
 clear hr
 subst hm
 go_enter Tryz.func229,Tryz.ntmps229
 go_wp2_with (go_at_call 274;refine (vint_add _ bs n w.heap.size _ (.inl ⟨A,?_,HR.out⟩) (Nat.le_refl _) hn hl).mono ?_)
 ·rfl
 rintro e w2 ⟨v,rfl,hown,hb⟩
 go_wp2
 go_ret
 exact ⟨_,rfl,hown,hb⟩
end Go.Proofs.YtldcadpemnpbmaaGreatDoor
namespace Go.Proofs.YtldcadpemnpbmaaGreatDoor
open Go Go.RowKit
set_option linter.unusedVariables false
def AddRel10 (base:Nat) (all:List UInt8) (n:Nat) (w:World) (v i:Value) (wr:World):Prop:=
 ∃ (cur:List UInt8) (x:Nat),i= .int .i64 (x:Int)∧x≤n∧cur.length≤all.length∧cur++putB x=all∧Buf base wr v cur∧Below base w wr
set_option maxHeartbeats 1000000 in
set_option maxRecDepth 100000 in
theorem vint_add_any (v:Value) (bs:List UInt8) (n:Nat) (base:Nat) (w:World) (hb:Buf base w v bs) (hbase:base≤w.heap.size) (hn:n<9223372036854775808) (hl:bs.length≤1000000000000):
  Calls Tryz.prog 274 #[v,.int .i64 (n:Int)] w (GaveOwn base (bs++putB n) w):=by
 obtain ⟨i0,hi0,hz0,hz1,hz2⟩:=info_parts info_byte
 have h9:=putB_nine hn
 obtain ⟨all,hall⟩:∃ all,all=bs++putB n:=⟨_,rfl⟩
 have hal:all.length≤1000000000009:=by rw [hall,List.length_append];omega
 rw [← hall]
 have HALL:=Lib.hid hall
 have HB:=Lib.hid hb
 clear hall hb
 go_enter Tryz.func274,Tryz.ntmps274
 go_wp2
 go_loopw [0,1] (fun v i wr=>AddRel10 base all n w v i wr) (fun _ i _=>(intOf i).toNat)
 case atStart=>exact ⟨bs,n,rfl,Nat.le_refl _,by rw [HALL.out];simp,HALL.out.symm,HB.out,Below.refl _ _⟩
 case round=>
  obtain ⟨cur,x,rfl,hx,hcl,hcat,hbuf,hbw⟩:=hrel
  have hsz:=hbw.size
  have HBUF:=Lib.hid hbuf
  have HCAT:=Lib.hid hcat
  clear hbuf hcat
  by_cases h:128≤x
  ·obtain ⟨c,hc⟩:∃ c,c=UInt8.ofNat (128+x%128):=⟨_,rfl⟩
   have hcn:Hid (c.toNat=128+x%128):=Lib.hid (by rw [hc,byte_nat (by omega)])
   have hcat2:(cur++[c])++putB (x/128)=all:=by
    rw [← HCAT.out,putB_big h,List.append_assoc,hc];rfl
   have hcl2:(cur++[c]).length≤all.length:=by rw [← hcat2,List.length_append (bs:=putB (x/128))];omega
   clear hc
   have HC2:=Lib.hid hcat2
   have HL2:=Lib.hid hcl2
   clear hcat2 hcl2
   go_wp2_with (at_builtin;refine wpList_append_buf _ rfl (.tmp 9) (.tmp 14) 231 rfl base i0 _ Tryz.underlying231 hi0 hz0 hz1 hz2 rfl _ cur rfl (HBUF.out.alloc (by omega) _) (by simp;omega) ⟨wr.heap.size,0,none⟩ 1 _ rfl (news_at wr [.int .u8 _] 5) c (by rw [hcn.out];omega) (by omega) ?_)
   intro v' w3 hown3 hb3
   go_wp2
   go_roundw
   case rel=>exact ⟨_,x/128,by go_num,by omega,HL2.out,HC2.out,hown3.buf,(hbw.alloc (by omega) _).trans hb3⟩
   case measure=>simp [intOf];omega
  ·obtain ⟨c,hc⟩:∃ c,c=UInt8.ofNat x:=⟨_,rfl⟩
   have hcn:Hid (c.toNat=x):=Lib.hid (by rw [hc,byte_nat (by omega)])
   have hcat2:cur++[c]=all:=by rw [← HCAT.out,putB_small (by omega),hc]
   clear hc
   have HC2:=Lib.hid hcat2
   clear hcat2
   go_wp2_with (at_builtin;refine wpList_append_buf _ rfl (.tmp 16) (.tmp 19) 231 rfl base i0 _ Tryz.underlying231 hi0 hz0 hz1 hz2 rfl _ cur rfl (HBUF.out.alloc (by omega) _) (by simp;omega) ⟨wr.heap.size,0,none⟩ 1 _ rfl (news_at wr [.int .u8 _] 5) c (by rw [hcn.out]) (by omega) ?_)
   intro v' w3 hown3 hb3
   go_wp2
   go_ret
   exact ⟨_,rfl,by rw [← HC2.out];exact hown3,(hbw.alloc (by omega) _).trans hb3⟩
end Go.Proofs.YtldcadpemnpbmaaGreatDoor
namespace Go.Proofs.YtldcadpemnpbmaaGreatDoor
open Go Go.RowKit
set_option linter.unusedVariables false
def PutRRel10 (base:Nat) (all:List UInt8) (l:List Int) (w:World) (v last i:Value) (wr:World):Prop:=
 ∃ (cur:List UInt8) (k:Nat) (x:Int),k≤l.length∧i= .int .i64 (k:Int)∧last= .int .i64 x∧ -1≤x∧risesZ x (l.drop k)=true∧cur.length≤all.length∧cur++dB x (l.drop k)=all∧Own base wr v cur∧Below base w wr
set_option maxHeartbeats 1000000 in
set_option maxRecDepth 100000 in
theorem vint_PutRising_any (A:Option Addr) (m c:Nat) (bs:List UInt8) (C:Option Addr) (n d:Nat) (l:List Int) (w:World) (hm:bs.length=m) (hc:m≤c) (hr:Row w w.heap.size A (Lib.byteCells bs)) (hl:m≤400000000000)
  (hn:l.length=n) (hn20:n≤2147483648) (hrl:Row w w.heap.size C (ints l)) (hb:∀ x∈l,x≤9223372036854775807) (hri:risesZ (-1) l=true):
  Calls Tryz.prog 228 #[.slice A m c,.slice C n d] w fun e w'=>∃ v,e= .returned (.tuple #[v,.int .i64 0])∧Own w.heap.size w' v (bs++putR l)∧Below w.heap.size w w':=by
 subst hm hn
 have hdl:=dB_length l (-1) (by omega) hri hb
 have h9:=putB_nine (n:=l.length) (by omega)
 obtain ⟨all,hall⟩:∃ all,all=bs++putR l:=⟨_,rfl⟩
 have hal:all.length≤800000000000:=by rw [hall,putR,List.length_append,List.length_append];omega
 rw [← hall]
 have HALL:=Lib.hid hall
 have HR:=Lib.hid hr
 have HRL:=Lib.hid hrl
 have HB:=Lib.hid hb
 have r1:=vint_rises_any C l.length d l w hrl rfl (by omega)
 rw [hri] at r1
 have HRI:=Lib.hid hri
 have R1:=Lib.hid r1
 clear hall hr hrl hb r1 hri hdl
 go_enter Tryz.func228,Tryz.ntmps228
 go_wp2_with (first
  |(go_at_call 273;refine R1.out.mono ?_;rintro e w' ⟨rfl,rfl⟩)
  |(go_at_call 274;refine (vint_add_any _ bs l.length w.heap.size _ (.inl ⟨A,rfl,HR.out⟩) (Nat.le_refl _) (by omega) (by omega)).mono ?_))
 rintro e w2 ⟨v,rfl,hown,hb2⟩
 have HOWN:=Lib.hid hown
 have HB2:=Lib.hid hb2
 clear hown hb2
 go_wp2
 go_loopw [0,6,23] (fun v last i wr=>PutRRel10 w.heap.size all l w v last i wr) (fun _ _ i _=>l.length-(intOf i).toNat)
 case atStart=>exact ⟨bs++putB l.length,0, -1,by omega,rfl,rfl,by omega,HRI.out,by rw [HALL.out,putR,List.length_append,List.length_append,List.length_append];omega,by rw [HALL.out,putR,List.append_assoc];rfl,HOWN.out,HB2.out⟩
 case round=>
  obtain ⟨cur,k,x,hk,rfl,rfl,hx1,hris,hcl,hcat,hown,hbw⟩:=hrel
  have hsz:=hbw.size
  have HOW:=Lib.hid hown
  clear hown
  by_cases hlt:k<l.length
  ·obtain ⟨b1,o1,e1,_,hc1⟩:=row_int' (HRL.out.below hbw) hlt
   subst e1
   rw [risesZ_drop hlt,Bool.and_eq_true,decide_eq_true_iff] at hris
   rw [dB_drop hlt,← List.append_assoc] at hcat
   have hyb:l.getD k 0≤9223372036854775807:=HB.out _ (by rw [List.getD_eq_getElem?_getD,List.getElem?_eq_getElem hlt];simp)
   obtain ⟨y,hy⟩:∃ y,y=l.getD k 0:=⟨_,rfl⟩
   rw [← hy] at hc1 hris hcat hyb
   obtain ⟨hxy,hris⟩:=hris
   obtain ⟨g,hg⟩:∃ g:Nat,y-(x+1)=(g:Int):=⟨(y-(x+1)).toNat,by omega⟩
   rw [hg,Int.toNat_natCast] at hcat
   have hcl2:(cur++putB g).length≤all.length:=by rw [← hcat,List.length_append (bs:=dB y _)];omega
   have HCAT:=Lib.hid hcat
   have HRIS:=Lib.hid hris
   have HCL:=Lib.hid hcl2
   have VA:Hid (Calls Tryz.prog 274 #[u0,.int .i64 (g:Int)] wr (GaveOwn w.heap.size (cur++putB g) wr)):=
    Lib.hid (by exact vint_add_any u0 cur g w.heap.size _ HOW.out.buf (by omega) (by omega) (by omega))
   clear hcat hris hcl2 hy
   go_wp2_with (go_at_call 274;refine VA.out.mono ?_)
   rintro e w3 ⟨v3,rfl,hown3,hb3⟩
   go_wp2
   go_roundw
   case rel=>exact ⟨_,k+1,y,by omega,by go_num,rfl,by omega,HRIS.out,HCL.out,HCAT.out,hown3,hbw.trans hb3⟩
   case measure=>simp [intOf];omega
  ·rw [dB_end (by omega),List.append_nil] at hcat
   subst hcat
   go_wp2
   go_ret2
   exact ⟨_,rfl,HOW.out,hbw⟩
end Go.Proofs.YtldcadpemnpbmaaGreatDoor
set_option linter.unusedVariables false
namespace Go.Proofs.YtldcadpemnpbmaaGreatDoor
open Go Go.RowKit
def MayRelD10 (l:List Po) (w:World) (r last i:Value) (wr:World):Prop:=r= .bool false∧∃ (k:Nat) (x:Int),k≤l.length∧i= .int .i64 (k:Int)∧last= .int .i64 x∧mayB' x (l.drop k)=mayB' (-1) l∧Below w.heap.size w wr
set_option maxHeartbeats 2000000 in
set_option maxRecDepth 100000 in
theorem posting_May_any (A:Option Addr) (n d:Nat) (l:List Po) (w:World) (hn:l.length=n) (hnx:n≤9223372036854775807) (hpo:Posts w w.heap.size A l) (hpl:∀ p∈l,p.2.length≤9223372036854775807):
  Calls Tryz.prog 174 #[.slice A n d] w fun e w'=>e= .returned (.bool (mayB' (-1) l))∧Below w.heap.size w w':=by
 subst hn
 obtain ⟨ans,hans⟩:∃ ans,ans=mayB' (-1) l:=⟨_,rfl⟩
 rw [← hans]
 have HANS:=Lib.hid hans
 have HPO:=Lib.hid hpo
 have HPL:=Lib.hid hpl
 clear hans hpo hpl
 go_enter Tryz.func174,Tryz.ntmps174
 go_wp2
 go_loopw [2,3,8] (fun r last i wr=>MayRelD10 l w r last i wr) (fun _ _ i _=>l.length-(intOf i).toNat)
 case atStart=>exact ⟨rfl,0, -1,by omega,rfl,rfl,rfl,Below.refl _ _⟩
 case round=>
  obtain ⟨rfl,k,x,hk,rfl,rfl,hris,hbw⟩:=hrel
  have hsz:=hbw.size
  by_cases hlt:k<l.length
  ·obtain ⟨b1,o1,e1,hb1,hc1,A2,c2,hc2,hlc,hcx,hr2⟩:=(HPO.out.below hbw).at_ hlt
   subst e1
   have hlp:=HPL.out (l.getD k (0,[])) (by rw [List.getD_eq_getElem?_getD,List.getElem?_eq_getElem hlt];simp)
   rw [drop_po hlt] at hris
   obtain ⟨q,hq⟩:∃ q,q=l.getD k (0,[]):=⟨_,rfl⟩
   rw [← hq] at hc1 hc2 hlc hr2 hris hlp
   obtain ⟨y,ps⟩:=q
   simp only at hc1 hc2 hlc hr2 hlp
   obtain ⟨P,hP⟩:∃ P,P=ps.length:=⟨_,rfl⟩
   rw [← hP] at hc2 hlp
   have hmp:=fun w1 (h:Row w1 w1.heap.size A2 (ints ps))=>may_places_any A2 P c2 ps w1 h hP.symm (by omega)
   have hr3:Row (wr.alloc (.cells #[.int .i64 y,.slice A2 P c2] 153)) (wr.alloc (.cells #[.int .i64 y,.slice A2 P c2] 153)).heap.size A2 (ints ps):=
    (hr2.below ((Below.refl _ wr).alloc hsz _)).more (by simp;omega)
   have hmp2:=hmp _ hr3
   rw [mayB'] at hris
   simp only at hris
   have HBW:=Lib.hid (hbw.trans (((Below.refl _ wr).alloc (Nat.le_refl _) (.cells #[.int .i64 y,.slice A2 P c2] 153)).mono hsz))
   clear hmp hr3 hr2 hP hq hbw
   by_cases hxy:y≤x
   ·rw [decide_eq_false (p:=x<y) (by omega),Bool.false_and,Bool.false_and,Bool.false_and,← HANS.out] at hris
    subst hris
    have hd:decide (y≤x)=true:=decide_eq_true hxy
    clear hmp2
    go_wp2
    go_ret
    exact ⟨rfl,HBW.out⟩
   ·have hd:decide (y≤x)=false:=decide_eq_false hxy
    by_cases hyb:2147483648≤y
    ·rw [decide_eq_false (p:=y<2147483648) (by omega),Bool.and_false,Bool.false_and,Bool.false_and,← HANS.out] at hris
     subst hris
     have hd2:decide (2147483648≤y)=true:=decide_eq_true hyb
     clear hmp2
     go_wp2
     go_ret
     exact ⟨rfl,HBW.out⟩
    ·have hd2:decide (2147483648≤y)=false:=decide_eq_false hyb
     rw [decide_eq_true (p:=x<y) (by omega),decide_eq_true (p:=y<2147483648) (by omega),Bool.true_and,Bool.true_and] at hris
     have HMP:=Lib.hid hmp2
     have HR:=Lib.hid hris
     clear hmp2 hris
     rcases hpb:placesB ps with _|_
     ·rw [hpb] at HMP HR
      go_wp2_with (go_at_call 226;refine HMP.out.mono ?_;rintro e w' ⟨rfl,rfl⟩)
      go_ret
      exact ⟨ret_bool (by rw [HANS.out,← HR.out,Bool.false_and]),HBW.out⟩
     ·rw [hpb] at HMP HR
      go_wp2_with (go_at_call 226;refine HMP.out.mono ?_;rintro e w' ⟨rfl,rfl⟩)
      go_roundw
      case rel=>exact ⟨rfl,k+1,y,by omega,by go_num,rfl,by rw [← HR.out,Bool.true_and],HBW.out⟩
      case measure=>simp [intOf];omega
  ·have hx2:mayB' x (l.drop k)=true:=by rw [List.drop_eq_nil_of_le (by omega)];rfl
   rw [hx2,← HANS.out] at hris
   subst hris
   clear hx2
   go_wp2
   go_ret
   exact ⟨rfl,hbw⟩
def PutRelD10 (all:List UInt8) (l:List Po) (w:World) (last v i:Value) (wr:World):Prop:=
 ∃ (cur:List UInt8) (k:Nat) (x:Int),k≤l.length∧i= .int .i64 (k:Int)∧last= .int .i64 x∧ -1≤x∧mayB' x (l.drop k)=true∧cur.length≤all.length∧cur++bytesP x (l.drop k)=all∧Own w.heap.size wr v cur∧Below w.heap.size w wr
set_option maxHeartbeats 2000000 in
set_option maxRecDepth 100000 in
theorem posting_put_any (A:Option Addr) (n d:Nat) (l:List Po) (x0:Int) (w:World) (hn:l.length=n) (hn60:n≤100) (hpo:Posts w w.heap.size A l) (hx0: -1≤x0) (hmay:mayB' x0 l=true) (hpl:∀ p∈l,p.2.length≤2147483648) (hal0:(bytesP x0 l).length≤400000000000):
  Calls Tryz.prog 176 #[.slice A n d,.int .i64 x0] w (GaveOwn w.heap.size (bytesP x0 l) w):=by
 obtain ⟨i0,hi0,hz0,hz1,hz2⟩:=info_parts info_byte
 subst hn
 obtain ⟨all,hall⟩:∃ all,all=bytesP x0 l:=⟨_,rfl⟩
 rw [← hall] at hal0
 rw [← hall]
 have HALL:=Lib.hid hall
 have HPO:=Lib.hid hpo
 have HMAY:=Lib.hid hmay
 have HPL:=Lib.hid hpl
 clear hall hpo hmay hpl
 go_enter Tryz.func176,Tryz.ntmps176
 go_wp2
 go_loopw [1,5,12] (fun last v i wr=>PutRelD10 all l w last v i wr) (fun _ _ i _=>l.length-(intOf i).toNat)
 case atStart=>exact ⟨[],0,x0,by omega,rfl,rfl,hx0,HMAY.out,by simp,HALL.out.symm,World.ownsRow_nil _ _ _ _,Below.refl _ _⟩
 case round=>
  obtain ⟨cur,k,x,hk,rfl,rfl,hx1,hris,hcl,hcat,hown,hbw⟩:=hrel
  have hsz:=hbw.size
  by_cases hlt:k<l.length
  ·obtain ⟨b1,o1,e1,hb1,hc1,A2,c2,hc2,hlc,hcx,hr2⟩:=(HPO.out.below hbw).at_ hlt
   subst e1
   have hlp:=HPL.out (l.getD k (0,[])) (by rw [List.getD_eq_getElem?_getD,List.getElem?_eq_getElem hlt];simp)
   rw [drop_po hlt] at hris hcat
   obtain ⟨q,hq⟩:∃ q,q=l.getD k (0,[]):=⟨_,rfl⟩
   rw [← hq] at hc1 hc2 hlc hr2 hris hcat hlp
   obtain ⟨y,ps⟩:=q
   simp only at hc1 hc2 hlc hr2 hlp
   obtain ⟨hxy,hyb,hps,hris⟩:=mayB'_cons.1 hris
   simp only at hxy hyb hps hris
   simp only [bytesP] at hcat
   obtain ⟨g,hg⟩:∃ g:Nat,y-(x+1)=(g:Int):=⟨(y-(x+1)).toNat,by omega⟩
   rw [hg,Int.toNat_natCast,← List.append_assoc,← List.append_assoc] at hcat
   have hcl2:((cur++putB g)++putR ps).length≤all.length:=by rw [← hcat,List.length_append (bs:=bytesP y _)];omega
   have hpb:=places_bd hps
   have hg0:g<9223372036854775808:=by omega
   have hpu:∀ w',Calls Tryz.prog 229 #[.slice none 0 0,.int .i64 (y-(x+1))] w' (GaveOwn w'.heap.size (putB g) w'):=fun w'=>by
    have :=vint_Put none 0 0 [] g w' rfl (Nat.le_refl _) Row.nil hg0 (by simp)
    rw [List.nil_append] at this
    rwa [hg]
   obtain ⟨P,hP⟩:∃ P,P=ps.length:=⟨_,rfl⟩
   have hal:=(Below.refl wr.heap.size wr).alloc (Nat.le_refl _) (.cells #[.int .i64 y,.slice A2 P c2] 153)
   have hpr:=vint_PutRising_any none 0 0 [] A2 P c2 ps (wr.alloc (.cells #[.int .i64 y,.slice A2 P c2] 153)) rfl (Nat.le_refl _) Row.nil (by omega) hP.symm (by omega) ((hr2.below (hal.mono hsz)).more (by simp;omega)) (fun x hx=>by have :=hpb x hx;omega) (placesB_iff.1 hps).1
   rw [List.nil_append] at hpr
   rw [← hP] at hc2 hlc
   have hpl9:=putR_length hps (by omega)
   obtain ⟨Q,hQ⟩:∃ Q,Q=(putR ps).length:=⟨_,rfl⟩
   rw [← hP,← hQ] at hpl9
   have hP20:P≤2147483648:=by omega
   have h9g:=putB_nine hg0
   obtain ⟨G,hG⟩:∃ G,G=(putB g).length:=⟨_,rfl⟩
   rw [← hG] at h9g
   have HQ:=Lib.hid hQ
   have HGL:=Lib.hid hG
   have HPU:=Lib.hid hpu
   have HPR:=Lib.hid hpr
   have HAL:=Lib.hid hal
   have HBW:=Lib.hid hbw
   have HCAT:=Lib.hid hcat
   have HRIS:=Lib.hid hris
   have HCL:=Lib.hid hcl2
   have HOW:=Lib.hid (hown.below hal)
   have HCV:Hid (∀ k,u5.ownBlock=some k→k<wr.heap.size):=Lib.hid fun k hk=>(hown.lt k hk).2
   clear hq hg hpu hP hal hpr hQ hG hcat hris hcl2 hown hpb hps hr2 hlp hbw
   go_wp2_with (go_at_call 228;refine HPR.out.mono ?_)
   rintro e w4 ⟨v4,rfl,hown4,hb4⟩
   obtain ⟨A4,c4,rfl,_,hr4⟩:=hown4.row
   have hnb:wr.heap.size<(wr.alloc (.cells #[.int .i64 y,.slice A2 P c2] 153)).heap.size:=by simp
   have hpb4:w4.heap[wr.heap.size]?=some (.cells #[.int .i64 y,.slice A2 P c2] 153 (0,0)):=(hb4.block wr.heap.size hnb).trans (heap_alloc_new wr _)
   have hdc:=(cells_two hpb4).1
   have HO4:=Lib.hid hown4
   have hB4:=HBW.out.trans ((HAL.out.mono hsz).trans (hb4.mono (by simp;omega)))
   have hs4:=hB4.size
   have HR4:=Lib.hid hr4
   have HB4:=Lib.hid hB4
   have hw4:wr.heap.size+1≤w4.heap.size:=by have :=hb4.size;simpa using this
   have HOW4:=Lib.hid (HOW.out.below hb4)
   rw [← HQ.out]
   clear hown4 hb4 hr4 hB4 HOW HPR
   go_wp2_with (go_at_call 229;refine (HPU.out _).mono ?_)
   rintro e w5 ⟨v5,rfl,hown5,hb5⟩
   obtain ⟨A5,c5,rfl,_,hr5⟩:=hown5.row
   have hpb5:w5.heap[wr.heap.size]?=some (.cells #[.int .i64 y,.slice A2 P c2] 153 (0,0)):=(hb5.block wr.heap.size (by omega)).trans hpb4
   have HOW5:=Lib.hid (HOW4.out.below hb5)
   have HR5:=Lib.hid hr5
   have HO5:=Lib.hid (HO4.out.below hb5)
   have hB5:=HB4.out.trans (hb5.mono hs4)
   have hs5:=hB5.size
   have HB5:=Lib.hid hB5
   have hw5:w4.heap.size≤w5.heap.size:=hb5.size
   rw [← HGL.out]
   have hcurl:cur.length+G+Q≤all.length:=by have :=HCL.out;rw [List.length_append,List.length_append,← HGL.out,← HQ.out] at this;omega
   clear hown5 hb5 hr5 hB5 hdc hpb4 HOW4 HO4 HR4 HPU HB4
   go_wp2_with (at_builtin;refine wpList_append_row _ rfl (.tmp 22) (.tmp 28) 231 rfl w.heap.size 5 i0 _ 1 1 Tryz.underlying231 hi0 hz0 hz1 hz2 rfl (by omega) _ cur.length (Lib.byteCells cur) rfl HOW5.out _ A5 G c5 (Lib.byteCells (putB g)) rfl (by rw [Lib.byteCells_length,HGL.out];omega) HR5.out (byteCells_oneCell _) (by unfold maxLen;omega) (by omega) hs5 ?_)
   intro v6 w6 hown6 hg6
   have hb6:Below w.heap.size w5 w6:=(Below.refl _ w5).grown hg6 hs5 fun k hk=>(HOW5.out.lt k hk).1
   have hpb6:w6.heap[wr.heap.size]?=some (.cells #[.int .i64 y,.slice A2 P c2] 153 (0,0)):=(hg6.block wr.heap.size (by omega) (fun e=>owned_apart HOW5.out hpb5 (by decide) e.symm)).trans hpb5
   have hs6:w.heap.size≤w6.heap.size:=by have :=hb6.size;omega
   have hw6:w5.heap.size≤w6.heap.size:=hb6.size
   have ho6:Own (wr.alloc (.cells #[.int .i64 y,.slice A2 P c2] 153)).heap.size w6 (.slice A4 (putR ps).length c4) (putR ps):=
    owned_keep HO5.out fun g hg=>hg6.block g (HO5.out.lt g hg).2 fun e=>by
     have h1:=HCV.out g e.symm
     have h2:=(HO5.out.lt g hg).1
     omega
   have hr6:=owned_row_of ho6
   have HR6:=Lib.hid hr6
   have HO6:=Lib.hid (own_more HGL.out.symm hown6)
   obtain ⟨cur2,hc2⟩:∃ cur2,cur2=cur++putB g:=⟨_,rfl⟩
   have hl2:cur2.length+Q≤800000000000:=by rw [hc2,List.length_append,← HGL.out];omega
   rw [← hc2] at HO6
   have HC2:=Lib.hid hc2
   have HB6:=Lib.hid (HB5.out.trans hb6)
   clear hown6 hg6 hb6 ho6 hr6 hc2 HB5 HOW5 HO5 HR5 HCV hpb5
   go_wp2_with (at_builtin;refine wpList_append_row _ rfl (.tmp 30) (.tmp 31) 231 rfl w.heap.size 5 i0 _ 1 1 Tryz.underlying231 hi0 hz0 hz1 hz2 rfl (by omega) _ cur2.length (Lib.byteCells cur2) rfl HO6.out _ A4 Q c4 (Lib.byteCells (putR ps)) rfl (by rw [Lib.byteCells_length,HQ.out];omega) HR6.out (byteCells_oneCell _) (by unfold maxLen;omega) (by omega) hs6 ?_)
   intro v7 w7 hown7 hg7
   have hb7:Below w.heap.size w6 w7:=(Below.refl _ w6).grown hg7 hs6 fun k hk=>(HO6.out.lt k hk).1
   have hpb7:w7.heap[wr.heap.size]?=some (.cells #[.int .i64 y,.slice A2 P c2] 153 (0,0)):=(hg7.block wr.heap.size (by omega) (fun e=>owned_apart HO6.out hpb6 (by decide) e.symm)).trans hpb6
   have hd7:=(cells_two hpb7).1
   have hfin:PutRelD10 all l w (.int .i64 y) v7 (.int .i64 ((k:Int)+1)) w7:=by
    refine ⟨cur2++putR ps,k+1,y,by omega,by simp,rfl,by omega,HRIS.out,by rw [HC2.out];exact HCL.out,by rw [HC2.out];exact HCAT.out,own_more HQ.out.symm hown7,HB6.out.trans hb7⟩
   have HF:=Lib.hid hfin
   clear hfin hown7 hg7 hb7 hpb6 hpb7
   go_wp2
   go_roundw
   case rel=>exact HF.out
   case measure=>simp [intOf];omega
  ·rw [List.drop_eq_nil_of_le (by omega)] at hcat
   simp only [bytesP,List.append_nil] at hcat
   subst hcat
   go_wp2
   go_ret
   exact ⟨_,rfl,hown,hbw⟩
end Go.Proofs.YtldcadpemnpbmaaGreatDoor
set_option linter.unusedVariables false
namespace Go.Proofs.YtldcadpemnpbmaaGreatDoor
open Go Go.RowKit
theorem last_pnS {l:List Pn} {j:Nat} (h:j+1=l.length):l.getLast?=some (l.getD j (0,[])):=by
 rw [List.getLast?_eq_getElem?,List.getD_eq_getElem?_getD,← h]
 simp
 rw [List.getElem?_eq_getElem (by omega)]
 rfl
theorem mayL_at {n:Nat} {l:List Pn} {j:Nat} (h:j+1=l.length):mayL n l=(mayB' (-1) l&&decide ((l.getD j (0,[])).1<(n:Int))):=by
 unfold mayL
 rw [last_pnS h]
 have :l.length≠0:=by omega
 simp [this]
theorem mayL_nil {n:Nat} {l:List Pn} (h:l.length=0):mayL n l=false:=by
 have :l=[]:=List.eq_nil_of_length_eq_zero h
 subst this
 rfl
set_option maxHeartbeats 2000000 in
set_option maxRecDepth 100000 in
theorem seg_wrong1 (D many:Nat) (A:Option Addr) (n c:Nat) (l:List Pn) (w:World) (hD:w.heap[D]?=some (.cells #[.int .i64 (many:Int)] 3 (0,0))) (hn:l.length=n) (hnx:n≤9223372036854775807) (hp:Posts w w.heap.size A l) (hpl:∀ p∈l,p.2.length≤9223372036854775807):
    Calls Tryz.prog 225 #[.slice A n c,.pointer (some ⟨D,0,none⟩)] w fun e w'=>e= .returned (.bool (!mayL many l))∧Below w.heap.size w w':=by
  have cD:=cell_of_one hD
  rcases Nat.eq_zero_or_pos n with h0|h0
  · have hv:mayL many l=false:=mayL_nil (by omega)
    rw [hv]
    subst h0
    clear hp hpl hn hv
    go_enter Tryz.func225,Tryz.ntmps225
    go_wp2
    go_quiet (fail)
    go_wp2
    go_ret
    exact ⟨rfl,⟨rfl,rfl,rfl,Nat.le_refl _,fun _ _=>rfl⟩⟩
  · obtain ⟨j,hj⟩:∃ j,j+1=n:=⟨n-1,by omega⟩
    have e4:((n:Int)==0)=false:=by rw [beq_eq_false_iff_ne];omega
    have hv:=mayL_at (n:=many) (l:=l) (j:=j) (by omega)
    have HM:=Lib.hid (posting_May_any A n c l w.drew hn hnx hp hpl)
    obtain ⟨b3,o3,e3,hb3,hc3,_⟩:=hp.at_ (k:=j) (by omega)
    subst e3
    obtain ⟨y,hy⟩:∃ y,y=(l.getD j (0,[])).1:=⟨_,rfl⟩
    rw [← hy] at hv hc3
    obtain ⟨m,hm⟩:∃ m,m=mayB' (-1) l:=⟨_,rfl⟩
    rw [← hm] at hv HM
    obtain ⟨z,hz⟩:∃ z,z=mayL many l:=⟨_,rfl⟩
    rw [← hz] at hv ⊢
    have hw2:IntKind.i64.wrap ((n:Int)-1)=(j:Int):=by rw [IntWalk.i64_in _ (by omega)];omega
    have hj0:(0:Int)≤j:=by omega
    have hjn:(j:Int)<n:=by omega
    have HV:=Lib.hid hv
    have hDl:=lt_of_block hD
    have HK:Hid (∀ w',Below w.heap.size w w'→w'.cell? ⟨D,0,none⟩=some (.int .i64 (many:Int))∧w'.cell? ⟨b3,o3+j*2,none⟩=some (.int .i64 y)):=Lib.hid fun w' hb=>⟨(hb.cell (p:=⟨D,0,none⟩) hDl).trans cD,(hb.cell (p:=⟨b3,o3+j*2,none⟩) hb3).trans hc3⟩
    have HB0:Hid (Below w.heap.size w w.drew):=Lib.hid ⟨rfl,rfl,rfl,Nat.le_refl _,fun _ _=>rfl⟩
    clear hy hm hz hj hv hp hpl hn hD
    cases m with
    |false=>
      have hzf:z=false:=HV.out
      subst hzf
      go_enter Tryz.func225,Tryz.ntmps225
      go_upto_region 1 with fail
      refine wp_region_noPanic ?_
      refine wp_region_held_drew (S:=fun _=>True) (by kernel_rfl) (trivial) (fun hHeld=> ?_)
      refine wpAnyH_take (i:=0) (v:= .slice (some ⟨b3,o3,none⟩) n c) rfl (by kernel_rfl) (by kernel_rfl) (by kernel_rfl) (fun _ _ _ h=>h) (Or.inl ⟨by rfl,fun wx hSw=>by go_simp⟩) (by assumption) ?_
      try simp only [Act.put,zA,zB,zD,zE,zF]
      refine wpAnyH_take (i:=1) (v:= .int .i64 (n:Int)) rfl (by kernel_rfl) (by kernel_rfl) (by kernel_rfl) (fun _ _ _ h=>h) (Or.inl ⟨by rfl,fun wx hSw=>by go_simp⟩) (by assumption) ?_
      try simp only [Act.put,zA,zB,zC,zD,zE,zF]
      refine wpAnyH_take (i:=2) (v:= .bool false) rfl (by kernel_rfl) (by kernel_rfl) (by kernel_rfl) (fun _ _ _ h=>h) (Or.inl ⟨by rfl,fun wx hSw=>by go_simp⟩) (by assumption) ?_
      try simp only [Act.put,zA,zB,zC,zD,zE,zF]
      refine wpAnyH_take (i:=3) (v:= .bool false) rfl (by kernel_rfl) (by kernel_rfl) (by kernel_rfl) (fun _ _ _ h=>h) (Or.inl ⟨by rfl,fun wx hSw=>by go_simp⟩) (by assumption) ?_
      try simp only [Act.put,zA,zB,zC,zD,zE,zF]
      refine wpAnyH_take (i:=4) (v:= .slice (some ⟨b3,o3,none⟩) n c) rfl (by kernel_rfl) (by kernel_rfl) (by kernel_rfl) (fun _ _ _ h=>h) (Or.inl ⟨by rfl,fun wx hSw=>by go_simp⟩) (by assumption) ?_
      try simp only [Act.put,zA,zB,zC,zD,zE,zF]
      refine wpAnyH_ready (rs:=[5]) (by kernel_rfl) (by simp) ?_
      refine AllReadyH.cons rfl (fun K hK=> ?_) AllReadyH.nil
      try simp only [zA,zB,zC]
      go_simp
      go_at_call 174
      (with_reducible refine HM.out.mono ?_)
      rintro e w4 ⟨rfl,hb4⟩
      have HB1:Hid (Below w.heap.size w w4):=Lib.hid (HB0.out.trans hb4)
      go_wp2_with fail
      refine hK.out _ _ ?_ (fun hHeld1=> ?_)
      · exact trivial
      clear hK K
      try simp only [Act.put,zA,zB,zC,zD,zE,zF]
      refine wpAnyH_take (i:=6) (v:= .bool true) rfl (by kernel_rfl) (by kernel_rfl) (by kernel_rfl) (fun _ _ _ h=>h) (Or.inl ⟨by rfl,fun wx hSw=>by go_simp⟩) (by assumption) ?_
      try simp only [Act.put,zA,zB,zC,zD,zE,zF]
      refine wpAnyH_take (i:=7) (v:= .bool true) rfl (by kernel_rfl) (by kernel_rfl) (by kernel_rfl) (fun _ _ _ h=>h) (Or.inl ⟨by rfl,fun wx hSw=>by go_simp⟩) (by assumption) ?_
      try simp only [Act.put,zA,zB,zC,zD,zE,zF]
      refine wpAnyH_take (i:=8) (v:= .bool true) rfl (by kernel_rfl) (by kernel_rfl) (by kernel_rfl) (fun _ _ _ h=>h) (Or.inl ⟨by rfl,fun wx hSw=>by go_simp⟩) (by assumption) ?_
      try simp only [Act.put,zA,zB,zC,zD,zE,zF]
      refine wpAnyH_take (i:=9) (v:=undef) rfl (by kernel_rfl) (by kernel_rfl) (by kernel_rfl) (fun _ _ _ h=>h) (Or.inr ⟨by rfl,rfl⟩) (by assumption) ?_
      try simp only [Act.put,zA,zB,zC,zD,zE,zF]
      refine wpAnyH_take (i:=10) (v:=undef) rfl (by kernel_rfl) (by kernel_rfl) (by kernel_rfl) (fun _ _ _ h=>h) (Or.inr ⟨by rfl,rfl⟩) (by assumption) ?_
      try simp only [Act.put,zA,zB,zC,zD,zE,zF]
      refine wpAnyH_take (i:=11) (v:=undef) rfl (by kernel_rfl) (by kernel_rfl) (by kernel_rfl) (fun _ _ _ h=>h) (Or.inr ⟨by rfl,rfl⟩) (by assumption) ?_
      try simp only [Act.put,zA,zB,zC,zD,zE,zF]
      refine wpAnyH_take (i:=12) (v:=undef) rfl (by kernel_rfl) (by kernel_rfl) (by kernel_rfl) (fun _ _ _ h=>h) (Or.inr ⟨by rfl,rfl⟩) (by assumption) ?_
      try simp only [Act.put,zA,zB,zC,zD,zE,zF]
      refine wpAnyH_take (i:=13) (v:=undef) rfl (by kernel_rfl) (by kernel_rfl) (by kernel_rfl) (fun _ _ _ h=>h) (Or.inr ⟨by rfl,rfl⟩) (by assumption) ?_
      try simp only [Act.put,zA,zB,zC,zD,zE,zF]
      refine wpAnyH_take (i:=14) (v:=undef) rfl (by kernel_rfl) (by kernel_rfl) (by kernel_rfl) (fun _ _ _ h=>h) (Or.inr ⟨by rfl,rfl⟩) (by assumption) ?_
      try simp only [Act.put,zA,zB,zC,zD,zE,zF]
      refine wpAnyH_take (i:=15) (v:=undef) rfl (by kernel_rfl) (by kernel_rfl) (by kernel_rfl) (fun _ _ _ h=>h) (Or.inr ⟨by rfl,rfl⟩) (by assumption) ?_
      try simp only [Act.put,zA,zB,zC,zD,zE,zF]
      refine wpAnyH_take (i:=16) (v:=undef) rfl (by kernel_rfl) (by kernel_rfl) (by kernel_rfl) (fun _ _ _ h=>h) (Or.inr ⟨by rfl,rfl⟩) (by assumption) ?_
      try simp only [Act.put,zA,zB,zC,zD,zE,zF]
      refine wpAnyH_take (i:=17) (v:=undef) rfl (by kernel_rfl) (by kernel_rfl) (by kernel_rfl) (fun _ _ _ h=>h) (Or.inr ⟨by rfl,rfl⟩) (by assumption) ?_
      try simp only [Act.put,zA,zB,zC,zD,zE,zF]
      refine wpAnyH_take (i:=18) (v:= .bool true) rfl (by kernel_rfl) (by kernel_rfl) (by kernel_rfl) (fun _ _ _ h=>h) (Or.inl ⟨by rfl,fun wx hSw=>by go_simp⟩) (by assumption) ?_
      try simp only [Act.put,zA,zB,zC,zD,zE,zF]
      refine wpAnyH_take (i:=19) (v:= .bool true) rfl (by kernel_rfl) (by kernel_rfl) (by kernel_rfl) (fun _ _ _ h=>h) (Or.inl ⟨by rfl,fun wx hSw=>by go_simp⟩) (by assumption) ?_
      try simp only [Act.put,zA,zB,zC,zD,zE,zF]
      refine wpAnyH_done (by kernel_rfl) ?_ _
      refine NoPanic.normal ?_
      go_wp2
      go_ret
      exact ⟨rfl,HB1.out⟩
    |true=>
      have hzt:z=decide (y<(many:Int)):=by rw [HV.out,Bool.true_and]
      have hd:decide ((many:Int)≤y)= !z:=by
        rw [hzt]
        by_cases h:y<(many:Int)
        · rw [decide_eq_true h,decide_eq_false (by omega)];rfl
        · rw [decide_eq_false h,decide_eq_true (by omega)];rfl
      clear hzt
      go_enter Tryz.func225,Tryz.ntmps225
      go_wp2
      go_region_held3 (fun w'=>(w'.cell? ⟨D,0,none⟩=some (.int .i64 (many:Int))∧w'.cell? ⟨b3,o3+j*2,none⟩=some (.int .i64 y))∧Below w.heap.size w w')
        (first|exact ⟨HK.out _ HB0.out,HB0.out⟩|exact ⟨HK.out _ HB1.out,HB1.out⟩)
        (first
          | (go_at_call 174; (with_reducible refine HM.out.mono ?_); rintro e w4 ⟨rfl, hb4⟩
             have HB1:Hid (Below w.heap.size w w4):=Lib.hid (HB0.out.trans hb4)))
      go_wp2
      go_ret
      exact ⟨rfl,HB1.out⟩
end Go.Proofs.YtldcadpemnpbmaaGreatDoor
