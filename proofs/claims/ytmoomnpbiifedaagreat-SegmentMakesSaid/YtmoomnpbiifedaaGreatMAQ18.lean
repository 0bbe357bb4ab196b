import Derived.Test.YtmoomnpbiifedaaGreatMAQ09
import Derived.Test.YtmoomnpbiifedaaGreatMAQ17
import Derived.Deep.RegionHeld3
import Derived.Deep.RegionLaw
import Derived.StillTailTactics
import Derived.Deep.AppendLies
import Derived.Test.YtmoomnpbiifedaaGreatMAQ06
import Derived.Test.YtmoomnpbiifedaaGreatMAQ08
import Derived.BigCall
import Derived.Test.YtmoomnpbiifedaaGreatMAQ02
import Derived.BigQuiet
import Derived.Deep.QuietTactic
set_option linter.unusedVariables false
namespace Go.Proofs.YtmoomnpbiifedaaGreat
open Go Go.RowKit
structure LookP (B o b1 b2:Nat) (l:List Nm) (vs:List Nat) (s:ByteArray) (W:World):Prop where
 dict:DictR W B o l vs
 var:W.heap[b1]?=some (.cells #[.pointer (some ⟨B,o,none⟩)] 68 (0,0))
 text:W.heap[b2]?=some (.cells #[.string s] 9 (0,0))
theorem LookP.below {B o b1 b2:Nat} {l:List Nm} {vs:List Nat} {s:ByteArray} {W W':World} (h:LookP B o b1 b2 l vs s W) (hb:Below W.heap.size W W'):LookP B o b1 b2 l vs s W':=
 ⟨h.dict.below hb,(hb.block _ (lt_of_block h.var)).trans h.var,(hb.block _ (lt_of_block h.text)).trans h.text⟩
set_option maxHeartbeats 2000000 in
set_option maxRecDepth 100000 in
theorem dictP_look (B o b1 b2 k:Nat) (l:List Nm) (vs:List Nat) (s:ByteArray) (W:World) (h:LookP B o b1 b2 l vs s W) (hk:k<l.length) (hl:l.length≤1073741824):
  Calls Tryz.prog 147 #[.int .i64 (k:Int),.pointer (some ⟨b1,0,none⟩),.pointer (some ⟨b2,0,none⟩)] W fun e w'=>e= .returned (.int .i64 (cmpN l[k] s.data.toList))∧∃ q,w'=W.drewN q:=by
 obtain ⟨b,off,c,h1,h2,h3,h4,h5,h6⟩:=h.dict.ent hk
 have hv:=cell_of_one h.var
 have ht:=cell_of_one h.text
 obtain ⟨x,hx,hx2⟩:=as_text l[k]
 rw [← hx] at h5
 have hcm:=fun w=>cmp_compareS x s w
 rw [hx2] at hcm
 obtain ⟨z,hz⟩:∃ z,z=cmpN l[k] s.data.toList:=⟨_,rfl⟩
 rw [← hz] at hcm ⊢
 have CM:Hid (∀ n,Calls Tryz.prog 139 #[.string x,.string s] (W.drewN n) fun e w'=>e= .returned (.int .i64 z)∧w'=W.drewN n):=Lib.hid fun n=>(hcm _).mono fun _ _ h=>⟨h.1,h.2.symm⟩
 obtain ⟨n,hn⟩:∃ n,n=l.length:=⟨_,rfl⟩
 rw [← hn] at h1 h2 hl hk
 have k2:(0:Int)≤(k:Int):=by omega
 have k3:(k:Int)<(n:Int):=by omega
 clear hx hx2 hz hn h hcm h6
 go_enter Tryz.func147,Tryz.ntmps147
 go_wp2
 go_quiet ((go_at_call 139;exact Calls.quiet_of_same (CM.out _)))
 go_wp2
 go_ret
 exact ⟨rfl,_,rfl⟩
def SearchP (B o b1 b2:Nat) (l:List Nm) (vs:List Nat) (s:ByteArray) (w:World) (u4 u5 u6 u7:Value) (wr:World):Prop:=
 u4= .int .i64 0∧u5= .bool false∧∃ a b:Nat,u6= .int .i64 (a:Int)∧u7= .int .i64 (b:Int)∧a≤b∧b≤l.length∧Below w.heap.size w wr∧
  (∀ j (hj:j<l.length),j<a→l[j]<s.data.toList)∧∀ j (hj:j<l.length),b≤j→s.data.toList<l[j]
set_option maxHeartbeats 2000000 in
set_option maxRecDepth 100000 in
theorem dictP_search (B o b1 b2:Nat) (l:List Nm) (vs:List Nat) (s:ByteArray) (w:World) (h:LookP B o b1 b2 l vs s w) (hr:Rise l) (hl:l.length≤1073741824):
  Calls Tryz.prog 146 #[.int .i64 (l.length:Int),.func (.func 147) #[] #[.pointer (some ⟨b1,0,none⟩),.pointer (some ⟨b2,0,none⟩)]] w
   fun e w'=>e= .returned (.tuple #[.int .i64 (placeN l s.data.toList),.bool (isN l s.data.toList)])∧Below w.heap.size w w':=by
 have H:=Lib.hid h
 have HR:=Lib.hid hr
 have HL:=Lib.hid hl
 obtain ⟨n,hn⟩:∃ n,n=l.length:=⟨_,rfl⟩
 rw [← hn] at hl ⊢
 have HN:=Lib.hid hn
 obtain ⟨p,hp⟩:∃ p,p=placeN l s.data.toList:=⟨_,rfl⟩
 obtain ⟨z,hz⟩:∃ z,z=isN l s.data.toList:=⟨_,rfl⟩
 rw [← hp,← hz]
 have HP:=Lib.hid hp
 have HZ:=Lib.hid hz
 clear h hr hn hp hz
 go_enter Tryz.func146,Tryz.ntmps146
 go_wp2
 go_loopw [4,5,6,7] (SearchP B o b1 b2 l vs s w) (fun _ _ a b _=>(intOf b-intOf a).toNat)
 case atStart=>exact ⟨rfl,rfl,0,n,rfl,rfl,by omega,by have :=HN.out;omega,Below.refl _ _,fun j _ hj=>by omega,fun j hj hnj=>by have :=HN.out;omega⟩
 case round=>
  obtain ⟨rfl,rfl,a,b,rfl,rfl,hab,hbn,hbw,hlo,hhi⟩:=hrel
  rw [← HN.out] at hbn
  by_cases hlt:a<b
  ·obtain ⟨m,hm⟩:∃ m:Nat,m=a+(b-a)/2:=⟨_,rfl⟩
   have hmI:(a:Int)+((b:Int)-(a:Int))/2=(m:Int):=by omega
   have hma:a≤m:=by omega
   have hmb:m<b:=by omega
   have hmn:m<l.length:=by rw [← HN.out];omega
   have C1:=Lib.hid (dictP_look B o b1 b2 m l vs s wr (H.out.below hbw) hmn HL.out)
   have d1:decide ((a:Int)<(b:Int))=true:=decide_eq_true (by omega)
   have d1':decide (a<b)=true:=decide_eq_true hlt
   have i1:(0:Int)≤(b:Int)-(a:Int):=by omega
   have i2:(b:Int)-(a:Int)≤1073741824:=by omega
   have i3:(0:Int)≤(m:Int):=by omega
   have i4:(m:Int)≤1073741824:=by omega
   have i5:(a:Int)≤1073741824:=by omega
   have HLO:=Lib.hid hlo
   have HHI:=Lib.hid hhi
   clear hm hlo hhi
   rcases nm_tri l[m] s.data.toList with hlt'|heq|hgt
   ·have hc:cmpN l[m] s.data.toList= -1:=by simp [cmpN,hlt']
    rw [hc] at C1
    have HLO2:Hid (∀ j (hj:j<l.length),j<m+1→l[j]<s.data.toList):=Lib.hid fun j hj hjm=>by
     by_cases e:j=m
     ·subst e;exact hlt'
     ·exact nm_trans (rise_at HR.out hmn (by omega)) hlt'
    clear hc hlt'
    go_wp2_with (go_at_call 147;refine (C1.out).mono ?_;rintro e w' ⟨rfl,q,rfl⟩)
    go_roundw
    case rel=>exact ⟨rfl,rfl,m+1,b,by go_num,rfl,by omega,by rw [← HN.out];omega,hbw.trans ⟨rfl,rfl,rfl,Nat.le_refl _,fun _ _=>rfl⟩,HLO2.out,HHI.out⟩
    case measure=>simp [intOf];omega
   ·have hc:cmpN l[m] s.data.toList=0:=by
     unfold cmpN
     rw [if_neg (by rw [heq];exact nm_irrefl _),if_pos heq]
    rw [hc] at C1
    have hf:=found_of hmn (fun j hj hjm=>by have :=rise_at HR.out hmn hjm;rwa [heq] at this) heq
    have hpm:p=m:=by rw [HP.out];exact hf.1
    have hzt:z=true:=by rw [HZ.out];exact hf.2
    subst hpm hzt
    clear hc heq hf
    go_wp2_with (go_at_call 147;refine (C1.out).mono ?_;rintro e w' ⟨rfl,q,rfl⟩)
    go_ret2
    exact ⟨rfl,hbw.trans ⟨rfl,rfl,rfl,Nat.le_refl _,fun _ _=>rfl⟩⟩
   ·have hc:cmpN l[m] s.data.toList=1:=by
     unfold cmpN
     rw [if_neg (nm_asym hgt),if_neg (nm_ne hgt).symm]
    rw [hc] at C1
    have HHI2:Hid (∀ j (hj:j<l.length),m≤j→s.data.toList<l[j]):=Lib.hid fun j hj hjm=>by
     by_cases e:m=j
     ·subst e;exact hgt
     ·exact nm_trans hgt (rise_at HR.out hj (by omega))
    clear hc hgt
    go_wp2_with (go_at_call 147;refine (C1.out).mono ?_;rintro e w' ⟨rfl,q,rfl⟩)
    go_roundw
    case rel=>exact ⟨rfl,rfl,a,m,rfl,rfl,by omega,by rw [← HN.out];omega,hbw.trans ⟨rfl,rfl,rfl,Nat.le_refl _,fun _ _=>rfl⟩,HLO.out,HHI2.out⟩
    case measure=>simp [intOf];omega
  ·have hab2:a=b:=by omega
   subst hab2
   have hmi:=missed_of (s:=s.data.toList) (by rw [← HN.out];omega) hlo (fun h=>hhi a h (Nat.le_refl _))
   have hpm:p=a:=by rw [HP.out];exact hmi.1
   have hzt:z=false:=by rw [HZ.out];exact hmi.2
   subst hpm hzt
   clear hlo hhi hmi hlt
   go_wp2
   go_ret2
   exact ⟨rfl,hbw⟩
set_option maxHeartbeats 1000000 in
set_option maxRecDepth 100000 in
theorem dictP_Place (B o:Nat) (l:List Nm) (vs:List Nat) (s:ByteArray) (w:World) (h:DictR w B o l vs) (hr:Rise l) (hl:l.length≤1073741824):
  Calls Tryz.prog 126 #[.pointer (some ⟨B,o,none⟩),.string s] w fun e w'=>e= .returned (.tuple #[.int .i64 (placeN l s.data.toList),.bool (isN l s.data.toList)])∧Below w.heap.size w w':=by
 obtain ⟨w2,hw2⟩:∃ w2,w2=(w.alloc (.cells #[.pointer (some ⟨B,o,none⟩)] 68)).alloc (.cells #[.string s] 9):=⟨_,rfl⟩
 have hb2:Below w.heap.size w w2:=by rw [hw2];exact ((Below.refl _ _).alloc (Nat.le_refl _) _).alloc (by simp) _
 have hlk:LookP B o w.heap.size (w.heap.size+1) l vs s w2:=by
  refine ⟨h.below hb2,?_,?_⟩
  ·rw [hw2,Below.heap_alloc _ _ _ (by simp)];exact heap_alloc_new w _
  ·rw [hw2];have :=heap_alloc_new (w.alloc (.cells #[.pointer (some ⟨B,o,none⟩)] 68)) (.cells #[.string s] 9);simpa using this
 have C1:=Lib.hid (dictP_Len B o l vs w2 hlk.dict)
 have C2:=Lib.hid (dictP_search B o _ _ l vs s w2 hlk hr hl)
 have HB:=Lib.hid hb2
 have cv:=cell_of_one hlk.var
 obtain ⟨n,hn⟩:∃ n,n=l.length:=⟨_,rfl⟩
 rw [← hn] at C1 C2
 obtain ⟨p,hp⟩:∃ p,p=placeN l s.data.toList:=⟨_,rfl⟩
 obtain ⟨z,hz⟩:∃ z,z=isN l s.data.toList:=⟨_,rfl⟩
 rw [← hp,← hz] at C2
 rw [← hp,← hz]
 have HW2:=Lib.hid hw2
 clear hp hz hn h hr hl hb2 hlk hw2
 go_enter Tryz.func126,Tryz.ntmps126
 go_wp2_with (first
  |(go_at_call 92;rw [← HW2.out];refine (C1.out).mono ?_;rintro e w' ⟨rfl,rfl⟩)
  |(go_at_call 146;refine (C2.out).mono ?_;rintro e w' ⟨rfl,hb⟩))
 go_ret2
 exact ⟨rfl,HB.out.trans (hb.mono HB.out.size)⟩
set_option maxHeartbeats 1000000 in
set_option maxRecDepth 100000 in
theorem dictP_Find (B o:Nat) (l:List Nm) (vs:List Nat) (s:ByteArray) (w:World) (h:DictR w B o l vs) (hr:Rise l) (hl:l.length≤1073741824):
  Calls Tryz.prog 105 #[.pointer (some ⟨B,o,none⟩),.string s] w
   fun e w'=>e= .returned (.tuple #[.pointer (if isN l s.data.toList=true then some ⟨vs.getD (placeN l s.data.toList) 0,0,none⟩ else none),.bool (isN l s.data.toList)])∧Below w.heap.size w w':=by
 have c1:=dictP_Place B o l vs s w h hr hl
 have hfd:=isN_found (l:=l) (s:=s.data.toList)
 obtain ⟨p,hp⟩:∃ p,p=placeN l s.data.toList:=⟨_,rfl⟩
 obtain ⟨z,hz⟩:∃ z,z=isN l s.data.toList:=⟨_,rfl⟩
 rw [← hp,← hz] at c1 ⊢
 rw [← hz] at hfd
 cases z with
 |true=>
  have hpl:p<l.length:=by rw [hp];exact (hfd rfl).1
  have H:=Lib.hid h
  have C1:=Lib.hid c1
  have HPL:=Lib.hid hpl
  rw [if_pos rfl]
  obtain ⟨y,hy⟩:∃ y,y=vs.getD p 0:=⟨_,rfl⟩
  rw [← hy]
  have HY:=Lib.hid hy
  obtain ⟨n,hn⟩:∃ n,n=l.length:=⟨_,rfl⟩
  have HN:=Lib.hid hn
  rw [← hn] at hl hpl
  have k2:(0:Int)≤(p:Int):=by omega
  have k3:(p:Int)<(n:Int):=by omega
  clear h c1 hfd hp hz hn hy
  go_enter Tryz.func105,Tryz.ntmps105
  go_wp2_with (go_at_call 126;refine (C1.out).mono ?_)
  rintro e w1 ⟨rfl,hb⟩
  obtain ⟨b,off,c,h1,h2,h3,h4,h5,h6⟩:=(H.out.below hb).ent HPL.out
  rw [← HN.out] at h1 h2
  rw [← HY.out] at h6
  have HB:=Lib.hid hb
  clear h5 hb
  go_wp2
  go_ret2
  exact ⟨rfl,HB.out⟩
 |false=>
  have C1:=Lib.hid c1
  rw [if_neg (by decide)]
  clear h c1 hfd hp hz
  go_enter Tryz.func105,Tryz.ntmps105
  go_wp2_with (go_at_call 126;refine (C1.out).mono ?_;rintro e w1 ⟨rfl,hb⟩)
  go_ret2
  exact ⟨rfl,hb⟩
end Go.Proofs.YtmoomnpbiifedaaGreat
set_option linter.unusedVariables false
namespace Go.Proofs.YtmoomnpbiifedaaGreat
open Go Go.RowKit
structure RestP (b D:Nat) (l:List Nm) (vs:List Nat) (W:World):Prop where
 vlen:vs.length=l.length
 var:∃ A c,W.heap[D]?=some (.cells #[.slice A l.length c] 72 (0,0))∧l.length≤c∧c≤maxLen∧Row W b A (entP l vs)
def FromGotP (b:Nat) (l:List Nm) (vs:List Nat) (w:World) (e:Ending) (w':World):Prop:=
 ∃ D,e= .returned (.func (.func 93) #[] #[.pointer (some ⟨D,0,none⟩)])∧w.heap.size≤D∧RestP b D l vs w'∧Below w.heap.size w w'∧w'.heap.size=D+1
set_option maxHeartbeats 2000000 in
set_option maxRecDepth 100000 in
theorem dictP_From (B o:Nat) (i:Int) (l:List Nm) (vs:List Nat) (w0 w:World) (h0:DictR w0 B o l vs) (hw0:Below w0.heap.size w0 w) (hl:l.length≤1048576) (hi:i≤9223372036854775807):
  Calls Tryz.prog 53 #[.pointer (some ⟨B,o,none⟩),.int .i64 i] w (FromGotP w0.heap.size (l.drop i.toNat) (vs.drop i.toNat) w):=by
 have h:=h0.below hw0
 have hvl:=h.2.1
 have hbw:=hw0.size
 have C0:=Lib.hid (fun W (hb:Below w.heap.size w W)=>dictP_Len B o l vs W (h.below hb))
 obtain ⟨m,hm⟩:∃ m:Nat,m=i.toNat:=⟨_,rfl⟩
 obtain ⟨n,hn⟩:∃ n,n=l.length:=⟨_,rfl⟩
 obtain ⟨k,hk⟩:∃ k:Nat,k=min m n:=⟨_,rfl⟩
 have hmx:∀ (w:World) (ts:Array TypeId) (t:TypeId),(Builtin.max_ ts t #[.int .i64 i,.int .i64 0]).run Tryz.prog w= .ok (.int .i64 (m:Int)) w:=fun w ts t=>by rw [run_max_int2,hm];congr 2;split<;>omega
 have hmn:∀ (w:World) (ts:Array TypeId) (t:TypeId),(Builtin.min_ ts t #[.int .i64 m,.int .i64 n]).run Tryz.prog w= .ok (.int .i64 (k:Int)) w:=fun w ts t=>by rw [run_min_int2,hk];congr 2;split<;>omega
 have hd1:l.drop i.toNat=l.drop k:=by
  rw [← hm]
  by_cases h1:m≤n
  ·rw [hk,Nat.min_eq_left h1]
  ·rw [List.drop_of_length_le (by omega),List.drop_of_length_le (by omega)]
 have hd2:vs.drop i.toNat=vs.drop k:=by
  rw [← hm]
  by_cases h1:m≤n
  ·rw [hk,Nat.min_eq_left h1]
  ·rw [List.drop_of_length_le (by omega),List.drop_of_length_le (by omega)]
 rw [hd1,hd2]
 have hkn:k≤n:=by omega
 obtain ⟨A,c,hc0,hnc,hcm,hrow0,hA⟩:=h0.read
 have hc:=(hw0.cell (p:=⟨B,o,none⟩) h0.lt).trans hc0
 have hrow:=hrow0.below hw0
 clear hc0 hrow0
 obtain ⟨b0,hb0⟩:∃ b,b=w0.heap.size:=⟨_,rfl⟩
 rw [← hb0] at hrow hbw ⊢
 rw [← hn] at hc hnc C0 hl
 have HN:=Lib.hid hn
 have HV:=Lib.hid hvl
 have HROW:=Lib.hid hrow
 have k1:(0:Int)≤(k:Int):=by omega
 have k2:(k:Int)≤(n:Int):=by omega
 have k3:(n:Int)≤(c:Int):=by omega
 have k4:(n:Int)≤1048576:=by omega
 have HBL:=Lib.hid h.lt
 unfold maxLen at hcm
 have HFIN:Hid (∀ A' c' W,(W.heap.size=w.heap.size+1∧Below w.heap.size w W∧W.heap[w.heap.size]?=some (.cells #[.slice A' (n-k) c'] 72 (0,0)))→n-k≤c'→c'≤maxLen→Row w b0 A' (entP (l.drop k) (vs.drop k))→
   FromGotP b0 (l.drop k) (vs.drop k) w (.returned (.func (.func 93) #[] #[.pointer (some ⟨w.heap.size,0,none⟩)])) W):=Lib.hid fun A' c' W ⟨h1,h2,h3⟩ h4 h5 h6=>
  ⟨w.heap.size,rfl,Nat.le_refl _,⟨by rw [List.length_drop,List.length_drop,hvl],A',c',by rw [List.length_drop,← HN.out];exact h3,by rw [List.length_drop,← HN.out];exact h4,h5,h6.below (h2.mono hbw)⟩,h2,by omega⟩
 clear h h0 hw0 hb0 hm hk hd1 hd2 hrow hvl hn
 rcases hA with ⟨rfl,hl0,rfl⟩|⟨g,rfl⟩
 ·have hn0:n=0:=by rw [HN.out,hl0];rfl
  have hk0:k=0:=by omega
  have hrow0:Row w b0 none (entP (l.drop k) (vs.drop k)):= .inl (by rw [hl0];simp [entP_nil])
  subst hn0 hk0
  have hmin:min (m:Int) 0=0:=by omega
  have HX0:=Lib.hid hrow0
  have hblk:((w.alloc (.cells #[.slice none 0 0] 72)).drew).heap[w.heap.size]?=some (.cells #[.slice none 0 0] 72 (0,0)):=heap_alloc_new w _
  have hba:Below w.heap.size w (w.alloc (.cells #[.slice none 0 0] 72)).drew:=((Below.refl _ w).alloc (Nat.le_refl _) _).drew
  have hn1:=cell_of_one hblk
  have hn2:=free_of_one hblk
  have hn3:=(hba.cell (p:=⟨B,o,none⟩) HBL.out).trans hc
  have HBA:=Lib.hid hba
  clear hrow0 hblk hba hl0
  go_enter Tryz.func53,Tryz.ntmps53
  go_wp2
  go_region_law (first
    |(go_simp;go_at_call 92;refine (C0.out _ (by first|exact (Below.refl _ w).drew|exact HBA.out)).mono ?_;rintro e w' ⟨rfl,rfl⟩))
  all_goals
   have hfin:=HFIN.out none 0 ((w.alloc (.cells #[.slice none 0 0] 72)).drew) ⟨by simp,((Below.refl _ w).alloc (Nat.le_refl _) _).drew,heap_alloc_new w _⟩ (by omega) (by unfold maxLen;omega) HX0.out
   have HF:=Lib.hid hfin
   clear hfin
   go_wp2
   go_ret
   exact HF.out
 ·obtain ⟨AN,hAN⟩:∃ AN,(if c=k then (some ⟨g,0,none⟩:Option Addr) else some ⟨g,k*2,none⟩)=AN:=⟨_,rfl⟩
  have hrow0:Row w b0 AN (entP (l.drop k) (vs.drop k)):=by
   rw [← hAN]
   by_cases hck:c=k
   ·exact .inl (by rw [List.drop_of_length_le (by rw [← HN.out];omega)];simp [entP_nil])
   ·rw [if_neg hck,← entP_drop k HV.out]
    rcases HROW.out with h0|⟨b',o',e,hb,hcl⟩
    ·exact .inl (by rw [h0];simp)
    ·injection e with e
     injection e with e1 e2
     subst e1 e2
     refine .inr ⟨g,k*2,rfl,hb,fun j u hu=> ?_⟩
     have :=hcl (k*2+j) u (by rw [← hu];simp)
     rwa [Nat.zero_add] at this
  have HX0:=Lib.hid hrow0
  have hblk:((w.alloc (.cells #[.slice none 0 0] 72)).drew).heap[w.heap.size]?=some (.cells #[.slice none 0 0] 72 (0,0)):=heap_alloc_new w _
  have hba:Below w.heap.size w (w.alloc (.cells #[.slice none 0 0] 72)).drew:=((Below.refl _ w).alloc (Nat.le_refl _) _).drew
  have hn1:=cell_of_one hblk
  have hn2:=free_of_one hblk
  have hn3:=(hba.cell (p:=⟨B,o,none⟩) HBL.out).trans hc
  have HBLK:=Lib.hid hblk
  have HBA:=Lib.hid hba
  clear hrow0 hblk hba
  go_enter Tryz.func53,Tryz.ntmps53
  go_wp2
  go_region_law (first
    |(go_simp;go_at_call 92;refine (C0.out _ (by first|exact (Below.refl _ w).drew|exact HBA.out)).mono ?_;rintro e w' ⟨rfl,rfl⟩))
  all_goals
   have hfin:=HFIN.out AN (c-k) ((w.alloc (.cells #[.slice AN (n-k) (c-k)] 72)).drew) ⟨by simp,((Below.refl _ w).alloc (Nat.le_refl _) _).drew,heap_alloc_new w _⟩ (by omega) (by unfold maxLen;omega) HX0.out
   have HF:=Lib.hid hfin
   clear hfin
   go_wp2
   go_ret
   exact HF.out
end Go.Proofs.YtmoomnpbiifedaaGreat
set_option linter.unusedVariables false
namespace Go.Proofs.YtmoomnpbiifedaaGreat
open Go Go.RowKit
def Tells {α:Type} (n:Nat) (P:Program) (g:Nat) (lb:Array Value) (encs:α→Array Value) (Mv Kp:World→World→Prop) (Ok:List α→α→World→Prop) (S Sp:List α→Prop) (w:World):Prop:=
 ∀ (l:Nat) (J X:List α→World→Prop) (W:World),Below w.heap.size w W→(∀ s A B,J s A→Mv A B→J s B)→
  (∀ pre x W1,J pre W1→Ok pre x W1→YieldAt Fence.wide (n-1) P l (encs x) W1 fun e W'=>(e= .returned (.bool true)∧J (pre++[x]) W'∧Kp W1 W')∨(e= .returned (.bool false)∧X (pre++[x]) W'))→
  J [] W→CallsIn Fence.wide n P g (#[.func (.yield l) #[] #[]]++lb) W fun e W'=>(∃ v,e= .returned v)∧((∃ xs,S xs∧J xs W')∨∃ xs,Sp xs∧X xs W')
variable {n:Nat} {P:Program}
theorem wpIn_range_tells {α:Type} {g:Operand} {ps:Array Tmp} {assign body:Code} {Q:Exit→Act→World→Prop} {a:Act} {w:World} (h1:1≤n) {gf:Nat} {lb:Array Value} (hg:a.eval g= .func (.func gf) #[] lb)
  (eg:∀ args w,(callFunc gf args).run P w= .ok (.enter gf args) w) {encs:α→Array Value} {Mv Kp:World→World→Prop} {Ok:List α→α→World→Prop} {S Sp:List α→Prop} (hseq:Tells (n-1) P gf lb encs Mv Kp Ok S Sp w)
  (hMb:∀ {A B:World},Below A.heap.size A B→Mv A B) (hMk:∀ {A B:World} {k:Nat} {o:Obj},w.heap.size≤k→Mv A B→A.heap[k]?=some o→o.isCells=false→B.heap[k]?=some o)
  (hKt:∀ {A B C:World},Kp A B→Kp B C→Kp A C) (hKp:∀ (W:World) (l:Nat) (o o':Obj),w.heap.size≤l→W.heap[l]?=some o→o.isCells=false→Kp W (W.putObj l o')) (hps:∀ x,(encs x).size=ps.size)
  (I:List α→World→Prop) (Ix:Code→List α→World→Prop) (hIb:∀ s A B,I s A→Mv A B→I s B) (hIp:∀ s,Firm w.heap.size (I s)) (hIxp:∀ c s,Firm w.heap.size (Ix c s)) (hOk:∀ s x,Firm w.heap.size (Ok s x)) (h0:I [] w) (a₁:α→Act)
  (hassign:∀ (l:Nat) (x:α) (W:World) (K:Act→World→Prop),K (a₁ x) W→assign.wpIn (Fence.wide.inRound l) (n-1-1) P (Exit.then K (fun _ _ _=>False)) {tmps:=(ps.zip (encs x)).foldl (fun t (p,v)=>t.setIfInBounds p v) a.tmps,defers:=[]} W)
  (hbody:∀ (l:Nat) (pre:List α) (x:α) (W:World),I pre W→Ok pre x W→body.wpIn (Fence.wide.inRound l) (n-1-1) P (ownPostK Kp I Ix (pre++[x]) W) (a₁ x) W)
  (hdone:∀ (D:Nat) (xs:List α) (W:World),w.heap.size≤D→S xs→I xs W→W.heap[D]?=some (.deferred (some []))→Q .normal {a with defers:={target:= .collected D,args:=#[]}::a.defers} W)
  (hstop:∀ (D:Nat) (c:Code) (xs:List α) (W:World),w.heap.size≤D→Sp xs→Ix c xs W→W.heap[D]?=some (.deferred (some []))→c.wpIn Fence.wide n P Q {a with defers:={target:= .collected D,args:=#[]}::a.defers} W):
  (Code.rangeFunc g ps assign body).wpIn Fence.wide n P Q a w:=by
 refine wpIn_rangeFunc fun fn hfn=> ?_
 have enter:=run_enterLoop_outer (P:=P) (w:=w) fn a.tmps ps assign body
 obtain ⟨D,hD⟩:∃ D,D=w.heap.size:=⟨_,rfl⟩
 obtain ⟨st,hst⟩:∃ st:LoopState→Option Code→Loop,st=fun s p=>{state:=s,pending:=p,fn:=fn,tmps:=a.tmps,params:=ps,assign:=assign,body:=body,defers:=w.heap.size}:=⟨_,rfl⟩
 obtain ⟨V,hV⟩:∃ V,V=(w.alloc (.deferred (some []))).alloc (.loop (st .ready none)):=⟨_,rfl⟩
 have enter':(Instr.enterLoop fn a.tmps ps assign body Fence.wide.round).run P w= .ok (D+1,[{target:= .collected D,args:=#[]}]) V:=by rw [hV,hst,hD];exact enter
 have bel:Below w.heap.size w V:=by rw [hV];exact ((Below.refl _ w).alloc (Nat.le_refl _) _).alloc (by simp) _
 have hdV:V.heap[D]?=some (.deferred (some [])):=by rw [hV,hD];exact (Below.heap_alloc _ _ _ (by simp)).trans (World.alloc_heap_new w _)
 have hlV:V.heap[D+1]?=some (.loop (st .ready none)):=by
  have :=World.alloc_heap_new (w.alloc (.deferred (some []))) (.loop (st .ready none))
  rwa [World.size_alloc,← hV,← hD] at this
 have stay:∀ (s:List α) (A B:World),(I s A∧A.heap[D+1]?=some (.loop (st .ready none))∧A.heap[D]?=some (.deferred (some [])))→Mv A B→(I s B∧B.heap[D+1]?=some (.loop (st .ready none))∧B.heap[D]?=some (.deferred (some []))):=by
  rintro s A B ⟨i1,i2,i3⟩ hb
  exact ⟨hIb s A B i1 hb,hMk (by omega) hb i2 rfl,hMk (by omega) hb i3 rfl⟩
 have round:∀ (pre:List α) (x:α) (A:World),(I pre A∧A.heap[D+1]?=some (.loop (st .ready none))∧A.heap[D]?=some (.deferred (some [])))→Ok pre x A→
   YieldAt Fence.wide (n-1-1) P (D+1) (encs x) A fun e B=>(e= .returned (.bool true)∧(I (pre++[x]) B∧B.heap[D+1]?=some (.loop (st .ready none))∧B.heap[D]?=some (.deferred (some [])))∧Kp A B)∨
    (e= .returned (.bool false)∧∃ c,Ix c (pre++[x]) B∧B.heap[D+1]?=some (.loop (st .done (some c)))∧B.heap[D]?=some (.deferred (some []))):=by
  rintro pre x A ⟨i1,i2,i3⟩ hx
  have hl:D+1<A.heap.size:=(Array.getElem?_eq_some_iff.1 i2).1
  have y:=run_yield (P:=P) (args:=encs x) i2 (by rw [hst];exact hps x)
  have beg:=run_beginRound (P:=P) i2 (by rw [hst])
  rw [hst] at y
  refine ⟨fn,_,assign,body,y,roundIn_of_wpIn hfn (hassign _ x A _ ⟨_,beg,?_⟩)⟩
  obtain ⟨A1,hA1⟩:∃ A1,A1=A.putObj (D+1) (.loop {st .ready none with state:= .busy}):=⟨_,rfl⟩
  rw [← hA1]
  have l1:A1.heap[D+1]?=some (.loop {st .ready none with state:= .busy}):=by rw [hA1];exact World.putObj_heap_same hl
  have d1:A1.heap[D]?=some (.deferred (some [])):=by rw [hA1];exact (World.putObj_heap_other (by omega)).trans i3
  have k1:Kp A A1:=by rw [hA1];exact hKp A _ _ _ (by omega) i2 rfl
  have b1:=hbody (D+1) pre x A1 (by rw [hA1];exact hIp pre A _ _ _ (by omega) i2 rfl i1) (by rw [hA1];exact hOk pre x A _ _ _ (by omega) i2 rfl hx)
  have fin:∀ (jump:Option Code) (A2:World),KeepsOthers A1 A2→
    (Instr.endRound (D+1) jump).run P A2= .ok (.bool jump.isNone) (A2.putObj (D+1) (.loop (st (if jump.isNone then .ready else .done) jump)))∧A2.heap[D+1]?=some (.loop {st .ready none with state:= .busy})∧
    (A2.putObj (D+1) (.loop (st (if jump.isNone then .ready else .done) jump))).heap[D+1]?=some (.loop (st (if jump.isNone then .ready else .done) jump))∧
    (A2.putObj (D+1) (.loop (st (if jump.isNone then .ready else .done) jump))).heap[D]?=some (.deferred (some [])):=fun jump A2 ko=>by
   have l2:=ko.same _ _ l1 rfl
   have hr:=run_endRound (P:=P) jump l2
   rw [hst] at hr ⊢
   exact ⟨hr,by rw [hst] at l2;exact l2,World.putObj_heap_same (Array.getElem?_eq_some_iff.1 l2).1,(World.putObj_heap_other (by omega)).trans (ko.same _ _ d1 rfl)⟩
  refine wpIn_mono b1 ?_
  rintro ex a2 A2 hp
  cases ex with
  |normal=>
   obtain ⟨ko,k2,i4⟩:=hp
   obtain ⟨hr,l2,l3,d3⟩:=fin none A2 ko
   exact ⟨_,_,hr,.inl ⟨rfl,⟨hIp _ A2 _ _ _ (by omega) l2 rfl i4,l3,d3⟩,hKt (hKt k1 k2) (hKp A2 _ _ _ (by omega) l2 rfl)⟩⟩
  |ret=>
   obtain ⟨ko,i4⟩:=hp
   obtain ⟨hr,l2,l3,d3⟩:=fin (some .ret) A2 ko
   exact ⟨_,_,hr,.inr ⟨rfl,.ret,hIxp _ _ A2 _ _ _ (by omega) l2 rfl i4,l3,d3⟩⟩
  |exit id=>
   obtain ⟨ko,i4⟩:=hp
   obtain ⟨hr,l2,l3,d3⟩:=fin (some (.exit id)) A2 ko
   exact ⟨_,_,hr,.inr ⟨rfl,.exit id,hIxp _ _ A2 _ _ _ (by omega) l2 rfl i4,l3,d3⟩⟩
  |goto t=>
   obtain ⟨ko,i4⟩:=hp
   obtain ⟨hr,l2,l3,d3⟩:=fin (some (.goto t)) A2 ko
   exact ⟨_,_,hr,.inr ⟨rfl,.goto t,hIxp _ _ A2 _ _ _ (by omega) l2 rfl i4,l3,d3⟩⟩
  |panic c=>exact hp.elim
  |outgrown=>exact hp.elim
 refine ⟨D+1,_,V,{target:= .fn (.func gf) lb,args:=#[.func (.yield (D+1)) #[] #[]]},V,gf,#[.func (.yield (D+1)) #[] #[]]++lb,V,enter',?_,?_,?_,fun _=>h1,?_⟩
 ·simp only [resolve,hg]
  simp [go_sem]
 ·intro f' _
  trivial
 ·simp [invoke,go_sem,eg]
 ·refine (hseq (D+1) _ (fun xs B=>∃ c,Ix c xs B∧B.heap[D+1]?=some (.loop (st .done (some c)))∧B.heap[D]?=some (.deferred (some []))) V bel stay round ⟨hIb [] w V h0 (hMb bel),hlV,hdV⟩).mono ?_
  rintro e A ⟨⟨v,rfl⟩,(⟨xs,hS,i1,i2,i3⟩|⟨xs,hS,c,i1,i2,i3⟩)⟩
  ·have fin:=run_endLoop (P:=P) i2 (by rw [hst];simp)
   rw [hst] at fin
   exact ⟨none,_,fin,hdone D xs _ (by omega) hS (hIp xs A _ _ _ (by omega) i2 rfl i1) ((World.putObj_heap_other (by omega)).trans i3)⟩
  ·have fin:=run_endLoop (P:=P) i2 (by rw [hst];simp)
   rw [hst] at fin
   exact ⟨some c,_,fin,hstop D c xs _ (by omega) hS (hIxp c xs A _ _ _ (by omega) i2 rfl i1) ((World.putObj_heap_other (by omega)).trans i3)⟩
end Go.Proofs.YtmoomnpbiifedaaGreat
set_option linter.unusedVariables false
namespace Go.Proofs.YtmoomnpbiifedaaGreat
open Go Go.RowKit
attribute [local go_sem] Oper.semAt_some
def encP (x:Nm × Nat):Array Value:=#[.string ⟨x.1.toArray⟩,.pointer (some ⟨x.2,0,none⟩)]
def OkP (l:List Nm) (vs:List Nat) (pre:List (Nm × Nat)) (x:Nm × Nat) (W:World):Prop:=∃ h:pre.length<l.length,x.1=l[pre.length]∧x.2=vs.getD pre.length 0
def TellRelP (b:Nat) (l:List Nm) (w0:World) (J:List (Nm × Nat)→World→Prop) (i:Value) (wr:World):Prop:=∃ pre:List (Nm × Nat),pre.length≤l.length∧i= .int .i64 (pre.length:Int)∧J pre wr∧Below b w0 wr
set_option maxHeartbeats 4000000 in
set_option maxRecDepth 100000 in
theorem fromP_told (m b D:Nat) (l:List Nm) (vs:List Nat) (w:World) (hm:1≤m) (hb:b≤w.heap.size) (h:RestP b D l vs w) (hl:l.length≤1048576):
  Tells m Tryz.prog 93 #[.pointer (some ⟨D,0,none⟩)] encP (fun A B=>Below A.heap.size A B) (Below b) (OkP l vs) (fun xs=>xs.length=l.length) (fun _=>True) w:=by
 intro lp J X W hW hJ hY h0
 obtain ⟨A,c,hblk,hnc,hcm,hrow⟩:=h.var
 have hvl:=h.vlen
 have hblkW:=(hW.block D (lt_of_block hblk)).trans hblk
 have c1:=cell_of_one hblkW
 have HROW:=Lib.hid (hrow.below (hW.mono hb))
 have HJ:=Lib.hid hJ
 have HY:=Lib.hid hY
 have HREL:Hid (TellRelP b l W J (.int .i64 ((0:Nat):Int)) W):=Lib.hid ⟨[],Nat.zero_le _,rfl,h0,Below.refl _ _⟩
 have hbW:b≤W.heap.size:=Nat.le_trans hb hW.size
 obtain ⟨n,hn⟩:∃ n,n=l.length:=⟨_,rfl⟩
 rw [← hn] at hnc hl c1
 have HN:=Lib.hid hn
 have HV:=Lib.hid hvl
 clear hJ hY h0 h hblk hblkW hrow hW hn hvl
 refine callsIn_of_wp Tryz.func93 rfl trivial ?_ rfl
 simp only [Tryz.ntmps93,List.size_toArray,List.length_cons,List.length_nil,Nat.reduceAdd,Nat.reduceSub,Array.replicate_succ,Array.replicate_zero,List.push_toArray,List.append_toArray,List.nil_append,List.cons_append]
 gi_wp2
 gi_loopw [7] (TellRelP b l W J) (fun i _=>n-(intOf i).toNat)
 case atStart=>exact HREL.out
 case round=>
  obtain ⟨pre,hpl,rfl,hj,hbw⟩:=hrel
  obtain ⟨k,hk⟩:∃ k,k=pre.length:=⟨_,rfl⟩
  rw [← hk,← HN.out] at hpl
  rw [← hk]
  have hsz:=hbw.size
  by_cases hlt:k<n
  ·have hkl:k<l.length:=by rw [← HN.out];exact hlt
   obtain ⟨b1,o1,rfl,hb1,hcs⟩:=(HROW.out.below hbw).at_ (by rw [entP_length HV.out];omega)
   obtain ⟨g1,g2⟩:=entP_at HV.out hkl
   have d1:=hcs _ _ g1
   have d2:=hcs _ _ g2
   rw [← Nat.add_assoc] at d2
   obtain ⟨x,hx⟩:∃ x,x=l[k]:=⟨_,rfl⟩
   obtain ⟨y,hy⟩:∃ y,y=vs.getD k 0:=⟨_,rfl⟩
   rw [← hx] at d1
   rw [← hy] at d2
   have hok:∀ W1,OkP l vs pre (x,y) W1:=fun W1=>⟨by rw [← hk];exact hkl,by simp only [← hk];exact hx,by simp only [← hk];exact hy⟩
   obtain ⟨X1,hX1⟩:∃ t:ByteArray,t=⟨x.toArray⟩:=⟨_,rfl⟩
   rw [← hX1] at d1
   have HOK:=Lib.hid hok
   have HX1:=Lib.hid hX1
   have HK:=Lib.hid hk
   have HJ0:=Lib.hid hj
   have hkn:(k:Int)<(n:Int):=by omega
   have hk0:(0:Int)≤(k:Int):=by omega
   clear g1 g2 hcs hx hy hok hX1 hk hj hkl
   obtain ⟨w3,hw3⟩:∃ w3,w3=wr.alloc (.cells #[.string X1,.pointer (some ⟨y,0,none⟩)] 123):=⟨_,rfl⟩
   have hb3:Below wr.heap.size wr w3:=by rw [hw3];exact (Below.refl _ _).alloc (Nat.le_refl _) _
   have hyy:=HY.out pre (x,y) w3 (HJ.out _ _ _ HJ0.out hb3) (HOK.out w3)
   rw [show encP (x,y)=#[.string X1,.pointer (some ⟨y,0,none⟩)] by unfold encP;rw [HX1.out]] at hyy
   obtain ⟨fn,tmps,assign,body,hy,hR⟩:=hyy
   rw [hw3] at hy
   have HB3:=Lib.hid (hbw.trans (hb3.mono (by omega)))
   have HW3:=Lib.hid hw3
   clear hw3 hb3
   gi_wp2
   rw [HW3.out] at hR
   refine hR.mono ?_
   rintro e W4 (⟨rfl,hJ4,hk4⟩|⟨rfl,hX4⟩)
   ·have hrel:TellRelP b l W J (.int .i64 ((k:Int)+1)) W4:=by
     refine ⟨pre++[(x,y)],?_,?_,hJ4,HB3.out.trans ?_⟩
     ·rw [List.length_append,List.length_singleton,← HK.out,← HN.out];omega
     ·rw [List.length_append,List.length_singleton,← HK.out];rfl
     ·rw [HW3.out];exact hk4
    have HR:=Lib.hid hrel
    clear hrel hJ4 hk4 hy hR
    gi_wp2
    go_roundw
    case rel=>exact HR.out
    case measure=>simp [intOf];omega
   ·gi_wp2
    refine bodyPost_ret (results_none rfl _ _ _) rfl ?_
    exact ⟨⟨_,rfl⟩,.inr ⟨_,trivial,hX4⟩⟩
  ·have hkn:pre.length=l.length:=by rw [← hk,← HN.out];omega
   gi_wp2
   go_end0
   exact ⟨⟨_,rfl⟩,.inl ⟨_,hkn,hj⟩⟩
end Go.Proofs.YtmoomnpbiifedaaGreat
set_option linter.unusedVariables false
namespace Go.Proofs.YtmoomnpbiifedaaGreat
open Go Go.RowKit
theorem Firm.rowVar (N:Nat) (T E:TypeId) (base B:Nat) (xs:List Value):Firm N (fun W=>RowVar T E base B xs W):=fun W l o o' _ ho hc ⟨v,h1,h2⟩=>by
 have hB:B≠l:=fun e=>by subst e;rw [h1] at ho;injection ho with ho;rw [← ho] at hc;cases hc
 refine ⟨v,(World.putObj_heap_other hB).trans h1,owned_keep h2 fun g hg=>World.putObj_heap_other fun e=> ?_⟩
 subst e
 rcases h2.2 with ⟨rfl,_⟩|⟨g',cap,cur,rfl,_,hh,_⟩
 ·cases hg
 ·simp only [Value.ownBlock,Option.some.injEq] at hg
  subst hg
  rw [hh] at ho
  injection ho with ho
  rw [← ho] at hc
  cases hc
theorem Touched.others {T E:TypeId} {base B:Nat} {xs:List Value} {w w':World} (h:RowVar T E base B xs w) (ht:Touched B w w'):KeepsOthers w w':=by
 refine ⟨ht.2.2.2.1,fun k o hk hc=> ?_⟩
 have hlt:=(Array.getElem?_eq_some_iff.1 hk).1
 obtain ⟨v,h1,h2⟩:=h
 rw [ht.2.2.2.2 k hlt ?_ ?_,hk]
 ·rintro rfl
  rw [h1] at hk
  injection hk with hk
  rw [← hk] at hc
  cases hc
 ·intro u t hu he
  rw [h1] at hu
  simp at hu
  rw [← hu.1] at he
  rcases h2.2 with ⟨rfl,_⟩|⟨g',cap,cur,rfl,_,hh,_⟩
  ·cases he
  ·simp only [Value.ownBlock,Option.some.injEq] at he
   subst he
   rw [hh] at hk
   injection hk with hk
   rw [← hk] at hc
   cases hc
end Go.Proofs.YtmoomnpbiifedaaGreat
set_option linter.unusedVariables false
namespace Go.Proofs.YtmoomnpbiifedaaGreat
open Go Go.RowKit
attribute [local go_sem] Oper.semAt_some
theorem Firm.okP (N:Nat) (l:List Nm) (vs:List Nat) (s:List (Nm × Nat)) (x:Nm × Nat):Firm N (OkP l vs s x):=fun _ _ _ _ _ _ _ h=>h
def NamesInP (l:List Nm) (w:World) (Bl:Nat) (pre:List (Nm × Nat)) (W:World):Prop:=RowVar 23 9 w.heap.size Bl (strs (l.take pre.length)) W∧Below w.heap.size w W
set_option maxHeartbeats 8000000 in
set_option maxRecDepth 100000 in
theorem dictP_Names (B o:Nat) (l:List Nm) (vs:List Nat) (w:World) (h:DictR w B o l vs) (hl:l.length≤1048576):
  Calls Tryz.prog 69 #[.pointer (some ⟨B,o,none⟩)] w (GaveNm l w):=by
 obtain ⟨i0,hi0,hz0,hz1,hz2⟩:=info_parts info_string
 refine (callsIn_wide (n:=6)).1 ?_
 have CL:=Lib.hid (dictP_Len B o l vs w h)
 obtain ⟨n,hn⟩:∃ n,n=l.length:=⟨_,rfl⟩
 have HN:=Lib.hid hn
 obtain ⟨w1,hrun,hown1,hgrow1⟩:=run_make_own (P:=Tryz.prog) w w.heap.size 23 9 i0 _ 1 Tryz.underlying23 hi0 hz0 hz1 .i64 .i64 n (by rw [hz2];omega) (by unfold maxLen;omega) (Nat.le_refl _)
 have hb1:Below w.heap.size w w1:=(Below.refl _ w).grown hgrow1 (Nat.le_refl _) (fun k hk=>by cases hk)
 obtain ⟨w2,hw2⟩:∃ w2,w2=w1.alloc (.cells #[.slice (some ⟨w.heap.size,0,none⟩) 0 n] 23):=⟨_,rfl⟩
 obtain ⟨Bl,hBl⟩:∃ Bl,Bl=w1.heap.size:=⟨_,rfl⟩
 have hb2:Below w.heap.size w w2:=by rw [hw2];exact hb1.alloc hb1.size _
 have hrv2:RowVar 23 9 w.heap.size Bl (strs []) w2:=⟨_,by rw [hw2,hBl];exact heap_alloc_new w1 _,by rw [hw2];exact hown1.alloc _⟩
 have HF:=Lib.hid (dictP_From B o 0 l vs w w2 h hb2 hl (by omega))
 have hBl2:w.heap.size≤Bl:=by rw [hBl];exact hb1.size
 rw [← hn] at CL
 have HB2:=Lib.hid hb2
 have HRV2:=Lib.hid hrv2
 have HW2:=Lib.hid hw2
 have HBL:=Lib.hid hBl
 clear h hn hown1 hgrow1 hb1 hw2 hBl hb2 hrv2
 refine callsIn_of_wp_marks Tryz.func69 rfl trivial ?_ rfl
 simp only [Tryz.ntmps69,List.size_toArray,List.length_cons,List.length_nil,Nat.reduceAdd,Nat.reduceSub,Array.replicate_succ,Array.replicate_zero,List.push_toArray,List.append_toArray,List.nil_append,List.cons_append]
 gi_wp2_with (first
  |(refine ⟨trivial,?_⟩;gi_at_call 92;refine (callsIn_wide.2 CL.out).mono ?_;rintro e w' ⟨rfl,rfl⟩)
  |(gi_at_call 92;refine (callsIn_wide.2 CL.out).mono ?_;rintro e w' ⟨rfl,rfl⟩)
  |(refine ⟨trivial,?_⟩;gi_at_call 53;rw [← HW2.out];refine (callsIn_wide.2 HF.out).mono ?_)
  |(gi_at_call 53;rw [← HW2.out];refine (callsIn_wide.2 HF.out).mono ?_))
 rintro e w3 ⟨D,rfl,hD,hrest,hb3,hz3⟩
 rw [Int.toNat_zero,List.drop_zero,List.drop_zero] at hrest
 have hB3:=HB2.out.trans (hb3.mono HB2.out.size)
 have hrv3:=HRV2.out.below hb3
 have hsz3:w.heap.size≤w3.heap.size:=hB3.size
 have HT:=Lib.hid (fromP_told 5 w.heap.size D l vs w3 (by omega) hsz3 hrest hl)
 have HB3:=Lib.hid hB3
 have HRV3:=Lib.hid hrv3
 have HBL3:Hid (Bl<w3.heap.size):=Lib.hid hrv3.lt
 clear hrest hb3 hB3 hrv3 hrun hz3
 gi_wp2
 rw [← HBL.out]
 refine wpIn_range_tells (by omega) (gf:=93) (lb:=#[.pointer (some ⟨D,0,none⟩)]) rfl (enters_of Tryz.func93 (by kernel_rfl) rfl)
  HT.out (fun hb=>hb) (fun {A B k o} hk hmv ho hnc=>(hmv.block k (Array.getElem?_eq_some_iff.1 ho).1).trans ho)
  (fun h k=>h.trans k) (fun W lp o o' hlp ho hc=>Firm.belowW (N:=w3.heap.size) (w0:=W) (by omega) W lp o o' hlp ho hc (Below.refl _ _)) (fun _=>rfl)
  (NamesInP l w Bl) (fun _ _ _=>False)
  (fun s A' B' h hmv=>⟨h.1.below hmv,h.2.trans (hmv.mono (by have :=h.2.size;omega))⟩)
  (fun s=>(Firm.rowVar _ _ _ _ _ _).and (Firm.belowW hsz3))
  (fun c s W l o o' _ _ _ h=>h)
  (fun s x=>Firm.okP _ _ _ _ _) ⟨by simpa using HRV3.out,HB3.out⟩
  (fun x=>{tmps:=#[.pointer (some ⟨B,o,none⟩),undef,.slice none 0 0,.pointer (some ⟨Bl,0,none⟩),.string ⟨x.1.toArray⟩,.pointer (some ⟨B,o,none⟩),.int .i64 n,.slice (some ⟨w.heap.size,0,none⟩) 0 n,.pointer (some ⟨B,o,none⟩),.func (.func 93) #[] #[.pointer (some ⟨D,0,none⟩)],.string ⟨x.1.toArray⟩,.pointer (some ⟨x.2,0,none⟩),undef,undef,undef,undef,undef],defers:=[]}) ?assign ?body ?done ?stop
 case assign=>
  intro lp x W K' hK'
  unfold encP
  gi_wp2
  exact hK'
 case body=>
  rintro lp pre ⟨x,y⟩ W ⟨hrv,hbw⟩ ⟨hlt,hx,hy⟩
  simp only at hx hy ⊢
  have hst:strs (l.take (pre.length+1))=strs (l.take pre.length)++[.string ⟨x.toArray⟩]:=by
   rw [List.take_succ_eq_append_getElem hlt,hx,strs_append];rfl
  have hlen:(strs (l.take pre.length)).length=pre.length:=by rw [strs_length,List.length_take];omega
  have hRV:=hrv
  obtain ⟨v,hv,hown⟩:=hrv
  rw [hlen] at hown
  have cB:=cell_of_one hv
  have fB:=free_of_one hv
  have hsz:=hbw.size
  obtain ⟨X,hX⟩:∃ t:ByteArray,t=⟨x.toArray⟩:=⟨_,rfl⟩
  rw [← hX] at hst ⊢
  obtain ⟨k,hk⟩:∃ k,k=pre.length:=⟨_,rfl⟩
  rw [← hk] at hst hown hlt hlen hRV
  obtain ⟨xs,hxs⟩:∃ xs,xs=strs (l.take k):=⟨_,rfl⟩
  rw [← hxs] at hst hown hlen hRV
  have HST:=Lib.hid hst
  have HO:=Lib.hid hown
  have HRV:=Lib.hid hRV
  have HV:=Lib.hid hv
  have HBW:=Lib.hid hbw
  have HK:=Lib.hid hk
  have HLEN:=Lib.hid hlen
  have hkl:k≤1048576:=by omega
  clear hst hown hRV hv hbw hk hlen hxs hx hy hX
  gi_wp2_with (gi_at_builtin;refine wpListIn_append_own _ rfl (.tmp 12) (.tmp 14) 23 rfl w.heap.size 9 i0 _ 1 16 Tryz.underlying23 hi0 hz0 hz1 hz2 rfl (by omega) _ k xs rfl (HO.out.alloc _) ⟨W.heap.size,0,none⟩ 1 1 [.string X] rfl rfl (news_at W [.string X] 9) (strs_one 0 X) (by unfold maxLen;omega) (by omega) (by simp;omega) ?_)
  intro v' w4 hown4 hgrow4 hz4
  clear hz4
  obtain ⟨g',cap',hv',_,_⟩:=hown4.form (by omega)
  obtain ⟨cB1,fB1,hrv4,htc⟩:=pushed (by decide) HV.out HLEN.out HO.out ((Below.refl _ W).alloc (Nat.le_refl _) _) hgrow4 hown4 rfl
  subst hv'
  have hko:=htc.others HRV.out
  have hbb:=htc.below HRV.out hBl2 hsz
  have hrv5:NamesInP l w Bl (pre++[(x,y)]) (w4.setCell ⟨Bl,0,none⟩ (.slice (some ⟨g',0,none⟩) (k+1) cap')):=by
   refine ⟨?_,HBW.out.trans hbb⟩
   rw [List.length_append,List.length_singleton,← HK.out,HST.out]
   exact hrv4
  have HKO:=Lib.hid hko
  have HBB:=Lib.hid hbb
  have HRV5:=Lib.hid hrv5
  clear hko hbb hrv5 hrv4 htc hown4 hgrow4
  gi_wp2
  exact ⟨HKO.out,HBB.out,HRV5.out⟩
 case done=>
  rintro D' ys W hD2 hys ⟨hrv,hbw⟩ hK'
  rw [hys,List.take_length] at hrv
  obtain ⟨v,hv,hown⟩:=hrv
  have cB:=cell_of_one hv
  have HO:=Lib.hid hown
  have HBW:=Lib.hid hbw
  have HRV:Hid (RowVar 23 9 w.heap.size Bl (strs l) W):=Lib.hid ⟨v,hv,hown⟩
  clear hys hown hbw
  gi_wp2
  refine ⟨by simp,.inl ⟨_,_,rfl,run_takeDeferred hK',?_⟩⟩
  refine ⟨_,results_tmp rfl _ _ _,?_⟩
  have hfr:=Firm.rowVar 0 _ _ _ _ _ W D' _ (.deferred none) (Nat.zero_le _) hK' rfl HRV.out
  obtain ⟨v2,hv2,ho2⟩:=hfr
  have hne:Bl≠D':=by have :=HBL3.out;omega
  rw [World.putObj_heap_other hne,hv] at hv2
  simp at hv2
  subst hv2
  refine ⟨_,rfl,?_,Firm.belowW (N:=w3.heap.size) hsz3 W D' _ _ hD2 hK' rfl HBW.out⟩
  unfold OwnNm
  rw [strs_length] at ho2
  exact ho2
 case stop=>
  rintro D' c pre W _ _ hh _
  exact hh.elim
end Go.Proofs.YtmoomnpbiifedaaGreat
namespace Go.Proofs.YtmoomnpbiifedaaGreat
open Go Go.RowKit
set_option linter.unusedVariables false
def FirstRel (l:List UInt8) (r2 r3 n wth i:Value):Prop:=
 r2= .int .i64 0∧r3= .int .i64 0∧∃ k:Nat,k≤9∧k≤l.length∧i= .int .i64 (k:Int)∧n= .int .i64 (valB (l.take k):Int)∧High l k∧∃ z:Int,wth= .int .i64 z∧(k<9→z=((128^k:Nat):Int))
def GaveF (p:Nat × Nat) (w:World) (e:Ending) (w':World):Prop:=e= .returned (.tuple #[.int .i64 (p.1:Int),.int .i64 (p.2:Int)])∧w=w'
set_option maxHeartbeats 2000000 in
set_option maxRecDepth 100000 in
theorem vint_first (A:Option Addr) (m c:Nat) (l:List UInt8) (w:World) (hm:l.length=m) (hr:Row w w.heap.size A (Lib.byteCells l)) (hl:m≤400000000000):
  Calls Tryz.prog 204 #[.slice A m c] w (GaveF (getF l) w):=by
 have HR:=Lib.hid hr
 clear hr
 subst hm
 obtain ⟨r,hrr⟩:∃ r,r=getF l:=⟨_,rfl⟩
 rw [← hrr]
 have HF:=Lib.hid hrr
 clear hrr
 obtain ⟨lim,hlim⟩:∃ lim:Nat,(if (9:Int)<(l.length:Int) then (9:Int) else (l.length:Int))=(lim:Int):=by
  by_cases h:(9:Int)<(l.length:Int)
  ·exact ⟨9,by rw [if_pos h];rfl⟩
  ·exact ⟨l.length,by rw [if_neg h]⟩
 have hl9:lim≤9∧lim≤l.length∧(lim=9∨lim=l.length):=by split at hlim<;>omega
 go_enter Tryz.func204,Tryz.ntmps204
 go_wp2
 go_loop [2,3,4,5,11] (fun r2 r3 n wth i=>FirstRel l r2 r3 n wth i) (fun _ _ _ _ i=>lim-(intOf i).toNat)
 case atStart=>exact ⟨rfl,rfl,0,by omega,by omega,rfl,by simp [valB],High.zero l,1,rfl,fun _=>by simp⟩
 case round=>
  obtain ⟨rfl,rfl,k,hk9,hkl,rfl,rfl,hh,z,rfl,hz⟩:=hrel
  by_cases hlt:k<lim
  ·obtain ⟨b1,o1,e1,_,hc1⟩:=row_byte HR.out (k:=k) (by omega)
   subst e1
   obtain ⟨q,p,v,hq,hv,hv2,hmul,hp,hvp,hqb⟩:=worth_more (l:=l) (k:=k) (by omega) (by omega)
   have hz':=hz (by omega)
   rw [hq] at hz'
   subst hz'
   rw [hv]
   obtain ⟨c,hc⟩:∃ c,c=(l.getD k 0).toNat:=⟨_,rfl⟩
   have hc255:c<256:=by rw [hc];exact UInt8.toNat_lt _
   have HC:=Lib.hid hc
   have HH:=Lib.hid hh
   have HQ:=Lib.hid hq
   have HV:=Lib.hid hv2
   rw [← hc] at hc1 hmul
   clear hc hh hz hq hv hv2
   by_cases c0:c=0∧0<k
   ·obtain ⟨c0,k0⟩:=c0
    have hr0:r=(0,0):=by rw [HF.out];exact getF_zero HH.out (by omega) (by omega) k0 (by rw [← HC.out];exact c0)
    have HR0:=Lib.hid hr0
    subst c0
    have hk0:(0:Int)<(k:Int):=by omega
    clear hr0
    go_wp2
    go_ret2
    rw [HR0.out]
    exact ⟨rfl,rfl⟩
   ·have hpk:Hid (c<128→r=(v+p,k+1)):=Lib.hid fun h=>by rw [HF.out,getF_some HH.out (by omega) (by omega) (by rw [← HC.out];exact h) (by rw [← HC.out];omega),HV.out]
    have hnx:Hid (128≤c→High l (k+1)):=Lib.hid fun h=>HH.out.succ (by rw [← HC.out];exact h)
    by_cases h128:c<128
    ·have HP:=Lib.hid (hpk.out h128)
     clear hpk hnx
     by_cases hc0:c=0
     ·have hcb:((c:Int)==0)=true:=by rw [beq_iff_eq];omega
      have hkb:decide ((0:Int)<(k:Int))=false:=decide_eq_false (by omega)
      have hp0:Hid (p=0):=Lib.hid (by rw [hc0] at hmul;simp at hmul;omega)
      go_wp2
      go_ret2
      rw [HP.out,hp0.out]
      exact ⟨by simp,rfl⟩
     ·have hcb:((c:Int)==0)=false:=by rw [beq_eq_false_iff_ne];omega
      go_wp2
      go_ret2
      rw [HP.out]
      exact ⟨by simp,rfl⟩
    ·have HN:=Lib.hid (hnx.out (by omega))
     clear hpk hnx
     have hcb:((c:Int)==0)=false:=by rw [beq_eq_false_iff_ne];omega
     by_cases k8:k<8
     ·obtain ⟨hq1,hq2⟩:=pow_next HQ.out k8
      have HQ1:=Lib.hid hq1
      clear hq1
      go_wp2
      go_round
      case rel=>exact ⟨rfl,rfl,k+1,by omega,by omega,by go_num,by rw [HV.out];go_num,HN.out,_,rfl,fun _=>by rw [HQ1.out];simp⟩
      case measure=>simp [intOf]<;>omega
     ·have hq8:q=72057594037927936:=by
       have :=HQ.out
       rw [show k=8 by omega] at this
       rw [← this]
      subst hq8
      go_wp2
      go_round
      case rel=>exact ⟨rfl,rfl,k+1,by omega,by omega,by go_num,by rw [HV.out];go_num,HN.out,_,rfl,fun h=>by omega⟩
      case measure=>simp [intOf]<;>omega
  ·have hr0:r=(0,0):=by rw [HF.out];exact getF_none hh (by omega)
   have HR0:=Lib.hid hr0
   clear hr0
   go_wp2
   go_ret2
   rw [HR0.out]
   exact ⟨rfl,rfl⟩
end Go.Proofs.YtmoomnpbiifedaaGreat
namespace Go.Proofs.YtmoomnpbiifedaaGreat
open Go Go.RowKit
set_option linter.unusedVariables false
structure Taker (Be Bb Ba:Nat) (A:Option Addr) (m c:Nat) (e a:Int) (w:World):Prop where
 err:w.heap[Be]?=some (.cells #[.int .i64 e] 31 (0,0))
 bytes:w.heap[Bb]?=some (.cells #[.slice A m c] 86 (0,0))
 place:w.heap[Ba]?=some (.cells #[.int .i64 a] 3 (0,0))
theorem ne_of_types {w:World} {a b:Nat} {u v:Array Value} {t s:TypeId} {f g:Nat × Nat} (h:w.heap[a]?=some (.cells u t f)) (h2:w.heap[b]?=some (.cells v s g)) (hne:t≠s):a≠b:=by
 rintro rfl
 rw [h] at h2
 simp at h2
 exact hne h2.2.1
section
variable {Be Bb Ba:Nat} {A:Option Addr} {m c:Nat} {e a:Int} {w w':World}
theorem Taker.setErr (h:Taker Be Bb Ba A m c e a w) (x:Int):Taker Be Bb Ba A m c x a (w.setCell ⟨Be,0,none⟩ (.int .i64 x)):=
 ⟨one_setCell h.err,(Below.heap_setCell _ _ _ _ (ne_of_types h.bytes h.err (by decide))).trans h.bytes,(Below.heap_setCell _ _ _ _ (ne_of_types h.place h.err (by decide))).trans h.place⟩
theorem Taker.setPlace (h:Taker Be Bb Ba A m c e a w) (x:Int):Taker Be Bb Ba A m c e x (w.setCell ⟨Ba,0,none⟩ (.int .i64 x)):=
 ⟨(Below.heap_setCell _ _ _ _ (ne_of_types h.err h.place (by decide))).trans h.err,(Below.heap_setCell _ _ _ _ (ne_of_types h.bytes h.place (by decide))).trans h.bytes,one_setCell h.place⟩
end
def Took (Be Bb Ba:Nat) (A:Option Addr) (m c:Nat) (n b e:Int) (a':Int) (w:World) (en:Ending) (w':World):Prop:=
 en= .returned (.tuple #[.int .i64 n,.int .i64 b,.int .i64 e])∧Taker Be Bb Ba A m c e a' w'∧Aside w.heap.size Be Ba w w'
theorem aside_set {B C:Nat} {w:World} (x:Value):Aside w.heap.size B C w (w.setCell ⟨B,0,none⟩ x):=
 ⟨rfl,rfl,rfl,by simp,fun k _ hk _=>Below.heap_setCell _ _ _ _ hk⟩
theorem Taker.drewN {Be Bb Ba:Nat} {A:Option Addr} {m c:Nat} {e a:Int} {w:World} (h:Taker Be Bb Ba A m c e a w) (n:Nat):Taker Be Bb Ba A m c e a (w.drewN n):=⟨h.1,h.2,h.3⟩
theorem Aside.drewN {base B C:Nat} {w w1:World} (h:Aside base B C w w1) (n:Nat):Aside base B C w (w1.drewN n):=⟨h.1,h.2.1,h.2.2.1,h.2.2.2.1,h.2.2.2.2⟩
set_option maxHeartbeats 1000000 in
set_option maxRecDepth 100000 in
theorem take_none (Be Bb Ba:Nat) (A:Option Addr) (m c:Nat) (e a most:Int) (w:World) (ht:Taker Be Bb Ba A m c e a w) (he:e≠0):
  Calls Tryz.prog 203 #[.int .i64 most,.pointer (some ⟨Be,0,none⟩),.pointer (some ⟨Bb,0,none⟩),.pointer (some ⟨Ba,0,none⟩)] w (Took Be Bb Ba A m c 0 0 e a w):=by
 have cE:=cell_of_one ht.err
 have heb:(e==0)=false:=by rw [beq_eq_false_iff_ne];exact he
 have HT:=Lib.hid ht
 clear ht he
 go_enter Tryz.func203,Tryz.ntmps203
 go_wp2
 go_quiet (fail)
 go_wp2
 go_ret3
 exact ⟨rfl,HT.out.drewN _,(Aside.refl _ _ _ _).drewN _⟩
set_option maxHeartbeats 1000000 in
set_option maxRecDepth 100000 in
theorem take_bad (Be Bb Ba:Nat) (b off:Nat) (m c:Nat) (a:Nat) (most:Int) (l:List UInt8) (n k:Nat) (w:World) (ht:Taker Be Bb Ba (some ⟨b,off,none⟩) m c 0 a w) (hr:Row w w.heap.size (some ⟨b,off,none⟩) (Lib.byteCells l)) (hm:l.length=m) (hc:m≤c) (hcx:c≤maxLen) (ha:a≤m) (hl:m≤400000000000)
  (hF:getF (l.drop a)=(n,k)) (hbad:k=0∨most<(n:Int)):
  Calls Tryz.prog 203 #[.int .i64 most,.pointer (some ⟨Be,0,none⟩),.pointer (some ⟨Bb,0,none⟩),.pointer (some ⟨Ba,0,none⟩)] w (Took Be Bb Ba (some ⟨b,off,none⟩) m c 0 0 2 a w):=by
 have cE:=cell_of_one ht.err
 have fE:=free_of_one ht.err
 have cB:=cell_of_one ht.bytes
 have cA:=cell_of_one ht.place
 have f1:=fun A' m' c' h1 h2 h3=>vint_first A' m' c' (l.drop a) w h1 h2 h3
 rw [hF] at f1
 have F1:=Lib.hid f1
 have HT:=Lib.hid ht
 have HR:=Lib.hid hr
 unfold maxLen at hcx
 clear ht hr f1
 have hfin:Hid (∀ nq,Took Be Bb Ba (some ⟨b,off,none⟩) m c 0 0 2 a w (.returned (.tuple #[.int .i64 0,.int .i64 0,.int .i64 2])) ((w.setCell ⟨Be,0,none⟩ (.int .i64 2)).drewN nq)):=
  Lib.hid fun nq=>⟨rfl,(HT.out.setErr 2).drewN _,(aside_set _).drewN _⟩
 rcases Nat.eq_zero_or_pos k with hk|hk
 ·subst hk
  go_enter Tryz.func203,Tryz.ntmps203
  go_wp2_with (go_at_call 204;refine (F1.out _ _ _ (by rw [List.length_drop];omega) (row_drop HR.out hm hc ha _ (by first|exact .inl ⟨rfl,by omega⟩|exact .inr rfl)) (by omega)).mono ?_)
  all_goals
   rintro en w2 ⟨rfl,rfl⟩
   go_wp2
   go_quiet (fail)
   go_wp2
   go_ret3
   exact hfin.out _
 ·have hkb:((k:Int)==0)=false:=by rw [beq_eq_false_iff_ne];omega
  have hmost:most<(n:Int):=by omega
  go_enter Tryz.func203,Tryz.ntmps203
  go_wp2_with (go_at_call 204;refine (F1.out _ _ _ (by rw [List.length_drop];omega) (row_drop HR.out hm hc ha _ (by first|exact .inl ⟨rfl,by omega⟩|exact .inr rfl)) (by omega)).mono ?_)
  all_goals
   rintro en w2 ⟨rfl,rfl⟩
   go_wp2
   go_quiet (fail)
   go_wp2
   go_ret3
   exact hfin.out _
set_option maxHeartbeats 1000000 in
set_option maxRecDepth 100000 in
theorem take_good (Be Bb Ba:Nat) (b off:Nat) (m c:Nat) (a:Nat) (most:Int) (l:List UInt8) (n k:Nat) (w:World) (ht:Taker Be Bb Ba (some ⟨b,off,none⟩) m c 0 a w) (hr:Row w w.heap.size (some ⟨b,off,none⟩) (Lib.byteCells l)) (hm:l.length=m) (hc:m≤c) (hcx:c≤maxLen) (ha:a≤m) (hl:m≤400000000000)
  (hF:getF (l.drop a)=(n,k)) (hk:0<k) (hmost:(n:Int)≤most):
  Calls Tryz.prog 203 #[.int .i64 most,.pointer (some ⟨Be,0,none⟩),.pointer (some ⟨Bb,0,none⟩),.pointer (some ⟨Ba,0,none⟩)] w (Took Be Bb Ba (some ⟨b,off,none⟩) m c n ((a:Int)+k) 0 ((a:Int)+k) w):=by
 have cE:=cell_of_one ht.err
 have cB:=cell_of_one ht.bytes
 have cA:=cell_of_one ht.place
 have fA:=free_of_one ht.place
 have hbd:=getF_bd (l.drop a)
 rw [hF,List.length_drop] at hbd
 simp only at hbd
 have f1:=fun A' m' c' h1 h2 h3=>vint_first A' m' c' (l.drop a) w h1 h2 h3
 rw [hF] at f1
 have F1:=Lib.hid f1
 have HT:=Lib.hid ht
 have HR:=Lib.hid hr
 unfold maxLen at hcx
 clear ht hr f1
 have hfin:Hid (∀ nq,Took Be Bb Ba (some ⟨b,off,none⟩) m c n ((a:Int)+k) 0 ((a:Int)+k) w (.returned (.tuple #[.int .i64 n,.int .i64 ((a:Int)+k),.int .i64 0])) ((w.setCell ⟨Ba,0,none⟩ (.int .i64 ((a:Int)+k))).drewN nq)):=
  Lib.hid fun nq=>⟨rfl,(HT.out.setPlace _).drewN _,(aside_set _).swap.drewN _⟩
 have hkb:((k:Int)==0)=false:=by rw [beq_eq_false_iff_ne];omega
 go_enter Tryz.func203,Tryz.ntmps203
 go_wp2_with (go_at_call 204;refine (F1.out _ _ _ (by rw [List.length_drop];omega) (row_drop HR.out hm hc ha _ (by first|exact .inl ⟨rfl,by omega⟩|exact .inr rfl)) (by omega)).mono ?_)
 all_goals
  rintro en w2 ⟨rfl,rfl⟩
  go_wp2
  go_quiet (fail)
  go_wp2
  go_ret3
  exact hfin.out _
end Go.Proofs.YtmoomnpbiifedaaGreat
