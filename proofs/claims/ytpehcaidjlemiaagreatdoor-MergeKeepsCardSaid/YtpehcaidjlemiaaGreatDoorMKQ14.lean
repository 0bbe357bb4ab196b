import Derived.Test.YtpehcaidjlemiaaGreatDoorMKZz
import Derived.Test.YtpehcaidjlemiaaGreatDoorMKQ13
import Derived.Test.YtpehcaidjlemiaaGreatDoorMKQ02
import Derived.Deep.RegionWith
import Derived.Test.YtpehcaidjlemiaaGreatDoorMKQ11
import Derived.Test.YtpehcaidjlemiaaGreatDoorMKQ07
import Derived.BigCall
import Derived.BigQuiet
import Derived.Deep.QuietTactic
import Derived.Test.YtpehcaidjlemiaaGreatDoorMKQ06
import Derived.Test.YtpehcaidjlemiaaGreatDoorMKQ08
import Derived.OneCell
import Derived.Laws.OwnMore
set_option maxHeartbeats 4000000
set_option maxRecDepth 100000
set_option linter.unusedVariables false
namespace Go.Proofs.YtpehcaidjlemiaaGreatDoor
open Go Go.RowKit
open Plain (Wd WS Rep qax qcW getW hasB mayB turnB qh7)
def qdl (w:World) (B:Nat):Option Nat:=match w.heap[B]? with|some (.cells cs _ _)=>(cs.getD 1 undef).ownBlock|_=>none
structure qci (B:Nat) (w w':World):Prop where
 os:w'.os=w.os
 tape:w'.tape=w.tape
 output:w'.output=w.output
 size:w.heap.size<=w'.heap.size
 keep:∀ k,k<w.heap.size->k≠B->qdl w B≠some k->w'.heap[k]?=w.heap[k]?
 own:∀ g,qdl w' B=some g->qdl w B=some g∨w.heap.size<=g
theorem qci.refl (B:Nat) (w:World):qci B w w:=⟨rfl,rfl,rfl,Nat.le_refl _,fun _ _ _ _=>rfl,fun g h=> .inl h⟩
theorem qci.trans {B:Nat} {a b c:World} (h:qci B a b) (k:qci B b c):qci B a c:=by
 refine ⟨k.os.trans h.os,k.tape.trans h.tape,k.output.trans h.output,Nat.le_trans h.size k.size,fun i hi h1 h2=> ?_,fun g hg=> ?_⟩
 ·rw [k.keep i (Nat.lt_of_lt_of_le hi h.size) h1 (fun e=> ?_),h.keep i hi h1 h2]
  rcases h.own i e with h3|h3
  ·exact h2 h3
  ·omega
 ·rcases k.own g hg with h1|h1
  ·exact h.own g h1
  ·exact .inr (Nat.le_trans h.size h1)
theorem qfD {w:World} {B:Nat} {x v:Value} {t:TypeId} {fr:Nat × Nat} (h:w.heap[B]?=some (.cells #[x,v] t fr)):qdl w B=v.ownBlock:=by unfold qdl;rw [h];rfl
theorem qjV {w w':World} {B:Nat} (h:w'.heap[B]?=w.heap[B]?):qdl w' B=qdl w B:=by unfold qdl;rw [h]
theorem qci.of_below {B:Nat} {w w':World} (h:Below w.heap.size w w') (hB:B<w.heap.size):qci B w w':=
 ⟨h.os,h.tape,h.output,h.size,fun k hk _ _=>h.block k hk,fun g hg=> .inl (by rw [<- qjV (h.block B hB)];exact hg)⟩
theorem qa9.own {w:World} {base B n:Nat} {ws:List Wd} (h:qa9 w base B n ws):∀ g,qdl w B=some g->base<=g/\g<w.heap.size:=by
 obtain ⟨_,v,hv,ho⟩:=h;intro g hg;rw [qfD hv] at hg;exact ho.lt g hg
theorem qci.below {w w':World} {base B n:Nat} {ws:List Wd} (h:qa9 w base B n ws) (ht:qci B w w'):Below base w w':=by
 have hl:=h.lt;refine ⟨ht.os,ht.tape,ht.output,ht.size,fun k hk=>ht.keep k (by have :=h.1;omega) (by have :=h.1;omega) fun e=> ?_⟩;have :=(h.own k e).1;omega
theorem qaU.turned_below {w w':World} {base B:Nat} {r:List Bool} (h:qaU w base B r) (ht:qci B w w'):Below base w w':=by
 obtain ⟨ws,h1,_⟩:=h;exact ht.below h1
theorem qa9.other {w:World} {base B n:Nat} {ws:List Wd} (h:qa9 w base B n ws) {k:Nat} {cs:Array Value} {t:TypeId} {fr:Nat × Nat} (hk:w.heap[k]?=some (.cells cs t fr)) (h1:t≠101) (h2:t≠104):k≠B/\qdl w B≠some k:=by
 obtain ⟨_,v,hv,ho⟩:=h;refine ⟨?_,?_⟩
 ·rintro rfl
  rw [hv] at hk;simp at hk;exact h1 hk.2.1.symm
 ·rw [qfD hv]
  exact qai ho hk h2
theorem qaU.row {w w':World} {base B:Nat} {r:List Bool} (h:qaU w base B r) (ht:qci B w w') {base':Nat} {e:TypeId} {size n:Nat} {v:Value} {xs:List Value} (ho:w.ownsRow base' e size v n xs) (h1:e≠101) (h2:e≠104):
  w'.ownsRow base' e size v n xs:=by
 obtain ⟨ws,hs,_⟩:=h;refine qat ho fun g hg=> ?_
 rcases ho.2 with ⟨rfl,_⟩|⟨g',cap,cur,rfl,_,hh,_⟩
 ·cases hg
 ·simp only [Value.ownBlock,Option.some.injEq] at hg
  subst hg;obtain ⟨a,b⟩:=hs.other hh h1 h2;exact ht.keep g' (Array.getElem?_eq_some_iff.1 hh).1 a b
theorem qa9.drew {w:World} {base B n:Nat} {ws:List Wd} (h:qa9 w base B n ws):qa9 w.drew base B n ws:=h
theorem qci.drew {B:Nat} {a w:World} (h:qci B a w):qci B a w.drew:=⟨h.os,h.tape,h.output,h.size,h.keep,h.own⟩
def qol (base B:Nat) (r:List Bool) (b:Bool) (w:World) (e:Ending) (w':World):Prop:=e= .returned (.bool b)/\qaU w' base B r/\qci B w w'
theorem qom {w:World} {base B n g c k y a x:Nat} {ws:List Wd} (hv:w.heap[B]?=some (.cells #[.int .i64 n,.slice (some ⟨g,0,none⟩) ws.length c] 101 (0,0))) (hb:base<=B)
  (ho:w.ownsRow base 104 2 (.slice (some ⟨g,0,none⟩) ws.length c) ws.length (qaa ws)) (hk:ws[k]?=some (a,x)):
  qa9 (w.setCell ⟨g,k*2+1,none⟩ (.int .u64 y)) base B n (ws.set k (a,y))/\qci B w (w.setCell ⟨g,k*2+1,none⟩ (.int .u64 y)):=by
 have hne:some g≠some B:=qai ho hv (by decide);have hgB:g≠B:=fun e=>hne (by rw [e])
 have hst:=ho.stored (k*2+1) (.int .u64 y);have hB:(w.setCell ⟨g,k*2+1,none⟩ (.int .u64 y)).heap[B]?=w.heap[B]?:=Below.heap_setCell _ _ _ _ (fun e=>hgB e.symm);refine ⟨⟨hb,_,hB.trans hv,?_⟩,rfl,rfl,rfl,by simp [World.setCell],fun j hj h1 h2=>Below.heap_setCell _ _ _ _ ?_,fun g' hg'=> .inl ?_⟩
 ·rw [qk1 ws k a x y hk,List.length_set]
  exact hst.1
 ·rintro rfl
  rw [qfD hv] at h2;exact h2 rfl
 ·rw [<- qjV hB]
  exact hg'
theorem qvg {w:World} {B:Nat} {x y u:Value} {t:TypeId} (h:w.heap[B]?=some (.cells #[x,y] t (0,0))):(w.setCell ⟨B,1,none⟩ u).heap[B]?=some (.cells #[x,u] t (0,0)):=
 heap_setCell_same w B 1 #[x,y] t u h
theorem qvh {w w3:World} {base B n:Nat} {ws ws':List Wd} {v v':Value} {o:Obj} (hb:base<=B) (hv:w.heap[B]?=some (.cells #[.int .i64 n,v] 101 (0,0))) (ho:w.ownsRow base 104 2 v ws.length (qaa ws))
  (hgot:qfh (w.alloc o) base v ws' v' w3):
  qa9 (w3.setCell ⟨B,1,none⟩ v') base B n ws'/\qci B w (w3.setCell ⟨B,1,none⟩ v')/\w3.cell? ⟨B,1,none⟩=some v/\w3.frozen? ⟨B,1,none⟩=false:=by
 obtain ⟨h1,h2,h3⟩:=hgot;have hlt:B<w.heap.size:=(Array.getElem?_eq_some_iff.1 hv).1;have hne:v.ownBlock≠some B:=qai ho hv (by decide);have hB3:w3.heap[B]?=some (.cells #[.int .i64 n,v] 101 (0,0)):=by
  rw [h2.block B (by simp;omega) (fun e=>hne e.symm),Below.heap_alloc _ _ _ hlt];exact hv
 obtain ⟨_,c2,_,f2⟩:=qeT hB3;have hne3:v'.ownBlock≠some B:=qai h1 hB3 (by decide);have hB4:=qvg (u:=v') hB3;refine ⟨⟨hb,v',hB4,ownsRow_setCell_other h1 hne3 v'⟩,⟨h2.os,h2.tape,h2.output,?_,fun j hj e1 e2=> ?_,fun g hg=> ?_⟩,c2,f2⟩
 ·have :=h2.size
  simp [World.setCell] at this ⊢;omega
 ·rw [Below.heap_setCell _ _ _ _ e1,h2.block j (by simp;omega) (fun e=>e2 (by rw [qfD hv];exact e.symm)),Below.heap_alloc _ _ _ hj]
 ·rw [qfD hB4] at hg
  rcases h3 g hg with h4|h4
  ·exact .inl (by rw [qfD hv];exact h4)
  ·exact .inr (by simp at h4;omega)
theorem qvi (base B:Nat) (r:List Bool) (i:Int) (w:World) (h:qaU w base B r) (hn:r.length<=big) (hi63:i<9223372036854775808) (hi0: -9223372036854775808<=i) (hbase:base<=w.heap.size):
  Calls Tryz.prog 34 #[.pointer (some ⟨B,0,none⟩),.int .i64 i] w (qol base B (turnB r i true) (mayB r.length i&& !hasB r i) w):=by
 obtain ⟨ws,hs,hrep⟩:=h;have HM:=qH (qqC base B r.length ws i w hs hn);cases hm:mayB r.length i
 ·have ht:turnB r i true=r:=by
   unfold turnB;unfold mayB at hm;split
   ·rename_i h0
    simp only [h0,decide_true,Bool.true_and,decide_eq_false_iff_not] at hm;rw [List.set_eq_of_length_le (by omega)]
   ·rfl
  rw [ht,Bool.false_and];rw [hm] at HM;have H:Hid (qaU w base B r):=qH ⟨ws,hs,hrep⟩;clear ht hm hs hrep
  go_enter Tryz.func34,Tryz.ntmps34
  go_wp2_with (go_at_call 72;(with_reducible refine HM.out.mono ?_);rintro e w' ⟨rfl,rfl⟩)
  go_ret;exact ⟨rfl,H.out,qci.refl _ _⟩
 ·rw [hm] at HM
  have hm':=hm;unfold mayB at hm';simp only [Bool.and_eq_true,decide_eq_true_eq] at hm';obtain ⟨m,rfl⟩:∃ m:Nat,i=(m:Int):=⟨i.toNat,by omega⟩;have hmn:m<r.length:=by omega
  have hl:=(qfP hrep.wds hn).1;have hhas:hasB r (m:Int)=(getW ws (m/64)).testBit (m%64):=by
   unfold hasB;have :=hrep.mem m;unfold Plain.memW at this;rw [<- this];simp
  have htb:turnB r (m:Int) true=r.set m true:=by unfold turnB;rw [if_pos (by omega),Int.toNat_natCast]
  rw [htb,Bool.true_and,hhas];have HF:=qH (fun w h=>qqw base B r.length ws (m/64) w h hrep.wds hn (by omega));have HB:=qH (fun w=>qkV m w (by omega));have hpf:=Plain.bit_fits (Nat.mod_lt m (show 0<64 by decide));cases hkept:qcW ws (m/64)
  ·have hgx:=Plain.getW_not hrep.wds.asc hkept
   have hIns:=hrep.wds.insert (a:=m/64) (y:=0) hkept (by omega) (by omega) (fun j hj=>by simp at hj);obtain ⟨hWI,hGI⟩:=hIns;have hple:=Plain.posW_le ws (m/64);have hx:(ws.take (qax ws (m/64))++(m/64,0)::ws.drop (qax ws (m/64)))[qax ws (m/64)]?=some (m/64,0):=by
    rw [List.getElem?_append_right (by rw [List.length_take];omega),List.length_take,Nat.min_eq_left hple,Nat.sub_self];rfl
   have hnb:∀ j,(0 ||| 2^(m%64)).testBit j=true->m/64*64+j<r.length:=by
    intro j hj;rw [Plain.or_pow_bit] at hj;split at hj
    ·rename_i e;subst e;omega
    ·simp at hj
   obtain ⟨hW,hG⟩:=hWI.set (y:=0 ||| 2^(m%64)) hx (Plain.or_fits (by omega) hpf) hnb;have hR2:Rep (r.set m true) ((ws.take (qax ws (m/64))++(m/64,0)::ws.drop (qax ws (m/64))).set (qax ws (m/64)) (m/64,0 ||| 2^(m%64))):=
    hrep.turned hmn hW (y:=0 ||| 2^(m%64)) (fun a=>by
     rw [hG,hGI];by_cases e:a=m/64
     ·rw [if_pos e,if_pos e]
     ·rw [if_neg e,if_neg e,if_neg e]) (fun j=>by rw [Plain.or_pow_bit,hgx])
   have hne:=Plain.or_pow_ne 0 (m%64);rw [hgx,<- hne];have hlen:(ws.take (qax ws (m/64))++(m/64,0)::ws.drop (qax ws (m/64))).length=ws.length+1:=by simp;omega
   have hor:bits .or .u64 (0:Int) ((2^(m%64):Nat):Int)=((0 ||| 2^(m%64):Nat):Int):=bits_or_u64_nat 0 (2^(m%64)) (by omega) hpf;have hzf:=Plain.or_fits (a:=0) (by omega) hpf;have HX:=qH hx;have HS:=qH hs;have HFIN:Hid (∀ w',qa9 w' base B r.length ((ws.take (qax ws (m/64))++(m/64,0)::ws.drop (qax ws (m/64))).set (qax ws (m/64)) (m/64,0 ||| 2^(m%64)))->qaU w' base B (r.set m true)):=fun w' h'=>⟨_,by rw [List.length_set];exact h',hR2⟩
   have HINS:=qH (fun (w:World) (v:Value) (VB:Nat) (ho:w.ownsRow base 104 2 v ws.length (qaa ws)) hv hVg hbw=>qvf w base v ws.length (qax ws (m/64)) ws (m/64,0) VB ho rfl (by omega) hple hv hVg hbw);clear htb hR2 hG hW hgx hs hrep hx hnb hne hhas hm hWI hGI;obtain ⟨q,hq⟩:∃ q,q=m/64:=⟨_,rfl⟩;have hq2:(m:Int)/64=(q:Int):=by omega
   have hqb:q<=144115188075855872:=by omega
   rw [<- hq] at HF HX HFIN HINS hkept hlen hple;clear hq;obtain ⟨k,hk⟩:∃ k,k=qax ws q:=⟨_,rfl⟩;rw [<- hk] at HX HFIN HINS hlen hple;have HK:=qH hk;have HKE:=qH hkept;obtain ⟨y,hy⟩:∃ y,y=2^(m%64):=⟨_,rfl⟩;rw [<- hy] at HB hpf hor hzf HFIN ⊢;obtain ⟨z,hz⟩:∃ z,z=0 ||| y:=⟨_,rfl⟩;rw [<- hz] at hor hzf HFIN ⊢;obtain ⟨ws2,hws2⟩:∃ ws2,ws2=ws.take k++(q,0)::ws.drop k:=⟨_,rfl⟩;rw [<- hws2] at HX HFIN HINS hlen;clear hk hkept hy hz hn hm' hws2
   go_enter Tryz.func34,Tryz.ntmps34
   go_wp2_with (go_at_call 72;(with_reducible refine HM.out.mono ?_);rintro e w' ⟨rfl,rfl⟩)
   go_wp2_with (go_at_call 73;(with_reducible refine (HF.out _ HS.out).mono ?_))
   rintro e w2 ⟨rfl,hb2⟩;rw [<- HK.out,HKE.out];have HS2:=qH (HS.out.below hb2);have HT2:=qH (qci.of_below hb2 HS.out.lt);have hbs:=hb2.size;clear hb2;obtain ⟨hbB,v,hv,ho⟩:=HS2.out;obtain ⟨c0,c1,_,_⟩:=qeT hv;have HV:=qH hv;have HO:=qH ho;have hown:v.ownBlock≠some w2.heap.size:=fun e=>by have :=(ho.lt _ e).2;omega
   have HI:=qH (HINS.out (w2.alloc (.cells #[.int .i64 q,.int .u64 (0:Nat)] 104)) v w2.heap.size (ho.alloc _) (heap_alloc_new w2 _) hown (by simp;omega));clear hv ho c0 hown hbs
   go_wp2_with (go_at_call 74;refine HI.out.mono ?_)
   rintro e w3 ⟨v',rfl,hgot⟩;obtain ⟨hs4,ht4,c3,f3⟩:=qvh hbB HV.out HO.out hgot;have hT4:=qH (HT2.out.trans ht4);have ho3:=hgot.1;obtain ⟨_,u4,hv4,ho4⟩:=hs4;have hu4:u4=v':=by
    have h1:(w3.setCell ⟨B,1,none⟩ v').cell? ⟨B,1,none⟩=some u4:=(qeT hv4).2.1;rw [World.cell?_setCell_same' _ _ _ (by rw [c3];rfl)] at h1;injection h1 with h1
    exact h1.symm
   subst hu4;obtain ⟨A,c,rfl,hc,hr⟩:=qaR ho3;obtain ⟨b1,o1,e1,_,hc1,hc2⟩:=qfN hr (k:=k) (by omega);have hxe:ws2[k]'(by omega)=(q,0):=(List.getElem?_eq_some_iff.1 HX.out).2;rw [hxe] at hc1 hc2;have hgA:o1=0:=by
    rcases ho3.2 with ⟨hv',_⟩|⟨g',_,_,hv',_⟩
    ·rw [e1] at hv';injection hv' with h1;cases h1
    ·rw [e1] at hv';injection hv' with h1;injection h1 with h1;injection h1
   subst e1;subst hgA;have hfz:=ho3.frozenAt (k*2+1);have hBb:B≠b1:=fun e=>qai ho4 hv4 (by decide) (by rw [e];rfl)
   have hbB2:¬ b1=B:=fun e=>hBb e.symm
   have HW:=qH (qom (y:=z) hv4 hbB ho4 HX.out);rw [Nat.zero_add] at hc1 hc2;have hc2':w3.cell? ⟨b1,k*2+1,none⟩=some (.int .u64 0):=hc2;have hkl:k<ws2.length:=by omega
   have hkl2:(k:Int)<ws2.length:=by omega
   have hl2:ws2.length<=16777218:=by omega
   clear hr ho3 hv4 ho4 hxe hc hc2 c1 hgot ht4 hlen;go_wp2
   go_region_with (go_at_call 75;(with_reducible refine (HB.out _).mono ?_);rintro e w' ⟨rfl,rfl⟩)
   all_goals
    go_wp2;go_ret;exact ⟨qdM (by rw [Bool.eq_iff_iff];simp only [bne_iff_ne,ne_eq];omega),HFIN.out _ HW.out.1.drew,hT4.out.trans HW.out.2.drew⟩
  ·obtain ⟨x,hx,hlt⟩:=Plain.keptW_at hkept
   have hgx:=Plain.getW_kept hrep.wds hx;have hxf:=hrep.wds.fits _ (List.mem_of_getElem? hx);have hnb:∀ j,(x ||| 2^(m%64)).testBit j=true->m/64*64+j<r.length:=by
    intro j hj;rw [Plain.or_pow_bit] at hj;split at hj
    ·rename_i e;subst e;omega
    ·exact hrep.wds.inn _ (List.mem_of_getElem? hx) j hj
   obtain ⟨hW,hG⟩:=hrep.wds.set (k:=qax ws (m/64)) (y:=x ||| 2^(m%64)) hx (Plain.or_fits hxf hpf) hnb;have hR2:Rep (r.set m true) (ws.set (qax ws (m/64)) (m/64,x ||| 2^(m%64))):=
    hrep.turned hmn hW hG (fun j=>by rw [Plain.or_pow_bit,hgx])
   have hne:=Plain.or_pow_ne x (m%64);rw [hgx,<- hne];have hor:=bits_or_u64_nat x (2^(m%64)) hxf hpf;have hzf:=Plain.or_fits hxf hpf;have HX:=qH hx;have HS:=qH hs;have HFIN:Hid (∀ w',qa9 w' base B r.length (ws.set (qax ws (m/64)) (m/64,x ||| 2^(m%64)))->qaU w' base B (r.set m true)):=fun w' h'=>⟨_,by rw [List.length_set];exact h',hR2⟩
   clear htb hR2 hG hW hgx hs hrep hx hnb hne hhas hm;obtain ⟨q,hq⟩:∃ q,q=m/64:=⟨_,rfl⟩;have hq2:(m:Int)/64=(q:Int):=by omega
   have hqb:q<=144115188075855872:=by omega
   rw [<- hq] at HF HX HFIN hkept hlt;clear hq;obtain ⟨k,hk⟩:∃ k,k=qax ws q:=⟨_,rfl⟩;rw [<- hk] at HX HFIN hlt;have HK:=qH hk;have HKE:=qH hkept;obtain ⟨y,hy⟩:∃ y,y=2^(m%64):=⟨_,rfl⟩;rw [<- hy] at HB hpf hor hzf HFIN ⊢;obtain ⟨z,hz⟩:∃ z,z=x ||| y:=⟨_,rfl⟩;rw [<- hz] at hor hzf HFIN ⊢;clear hk hkept hy hz hn hm'
   go_enter Tryz.func34,Tryz.ntmps34
   go_wp2_with (go_at_call 72;(with_reducible refine HM.out.mono ?_);rintro e w' ⟨rfl,rfl⟩)
   go_wp2_with (go_at_call 73;(with_reducible refine (HF.out _ HS.out).mono ?_))
   rintro e w2 ⟨rfl,hb2⟩;rw [<- HK.out,HKE.out];have HS2:=qH (HS.out.below hb2);have HT2:=qH (qci.of_below hb2 HS.out.lt);clear hb2;obtain ⟨hbB,v,hv,ho⟩:=HS2.out;obtain ⟨A,c,rfl,hc,hr⟩:=qaR ho;obtain ⟨b1,o1,e1,_,hc1,hc2⟩:=qfN hr hlt;have hxe:ws[k]'hlt=(q,x):=(List.getElem?_eq_some_iff.1 HX.out).2;rw [hxe] at hc1 hc2;have hgA:o1=0:=by
    rcases ho.2 with ⟨hv',_⟩|⟨g',_,_,hv',_⟩
    ·rw [e1] at hv';injection hv' with h1;cases h1
    ·rw [e1] at hv';injection hv' with h1;injection h1 with h1;injection h1
   subst e1;subst hgA;have hfz:=ho.frozenAt (k*2+1);have hBb:B≠b1:=fun e=>qai ho hv (by decide) (by rw [e];rfl)
   have hbB2:¬ b1=B:=fun e=>hBb e.symm
   obtain ⟨c0,c1,_,_⟩:=qeT hv;have HW:=qH (qom (y:=z) hv hbB ho HX.out);rw [Nat.zero_add] at hc1 hc2;clear hr ho hv hxe c0 hc;go_wp2
   go_region_with (go_at_call 75;(with_reducible refine (HB.out _).mono ?_);rintro e w' ⟨rfl,rfl⟩)
   all_goals
    go_wp2;go_ret;exact ⟨qdM (by rw [Bool.eq_iff_iff];simp only [bne_iff_ne,ne_eq];omega),HFIN.out _ HW.out.1.drew,HT2.out.trans HW.out.2.drew⟩
def qdH (w:World) (A:Option Addr) (Ls:List (List En)):Prop:=∃ Ss:List Nat,Ss.length=Ls.length/\Row w w.heap.size A (qb3 Ss)/\∀ i (h:i<Ls.length),qb6 w (Ss.getD i 0) (qad Ls[i])
def qem (w:World) (A:Option Addr) (rs:List (List Bool)):Prop:=∃ Bs:List Nat,Bs.length=rs.length/\Row w w.heap.size A (qb3 Bs)/\∀ i (h:i<rs.length),∃ base,qaU w base (Bs.getD i 0) rs[i]
section
variable {w w':World} {A:Option Addr} {Ls:List (List En)} {rs:List (List Bool)}
theorem qdH.below (h:qdH w A Ls) (hb:Below w.heap.size w w'):qdH w' A Ls:=by
 obtain ⟨Ss,h1,h2,h3⟩:=h;exact ⟨Ss,h1,(h2.below hb).more hb.size,fun i hi=>(h3 i hi).below hb⟩
theorem qem.below (h:qem w A rs) (hb:Below w.heap.size w w'):qem w' A rs:=by
 obtain ⟨Bs,h1,h2,h3⟩:=h;exact ⟨Bs,h1,(h2.below hb).more hb.size,fun i hi=>by obtain ⟨base,h⟩:=h3 i hi;exact ⟨base,h.below hb⟩⟩
theorem qdH.at_ (h:qdH w A Ls) {i:Nat} (hi:i<Ls.length):∃ b off S,A=some ⟨b,off,none⟩/\b<w.heap.size/\w.cell? ⟨b,off+i,none⟩=some (.pointer (some ⟨S,0,none⟩))/\qb6 w S (qad Ls[i]):=by
 obtain ⟨Ss,h1,h2,h3⟩:=h;have hs:i<Ss.length:=by omega
 obtain ⟨b,off,rfl,hb,hc⟩:=qho h2 hs;have h4:=h3 i hi;rw [List.getD_eq_getElem?_getD,List.getElem?_eq_getElem hs] at h4;exact ⟨b,off,Ss[i],rfl,hb,hc,h4⟩
theorem qem.at_ (h:qem w A rs) {i:Nat} (hi:i<rs.length):∃ b off B base,A=some ⟨b,off,none⟩/\b<w.heap.size/\w.cell? ⟨b,off+i,none⟩=some (.pointer (some ⟨B,0,none⟩))/\qaU w base B rs[i]:=by
 obtain ⟨Bs,h1,h2,h3⟩:=h;have hs:i<Bs.length:=by omega
 obtain ⟨b,off,rfl,hb,hc⟩:=qho h2 hs;obtain ⟨base,h4⟩:=h3 i hi;rw [List.getD_eq_getElem?_getD,List.getElem?_eq_getElem hs] at h4;exact ⟨b,off,Bs[i],base,rfl,hb,hc,h4⟩
end
theorem qfE:∀ {Ls:List (List En)} {rs:List (List Bool)},qbm Ls rs↔Ls.length=rs.length/\∀ i (h1:i<Ls.length) (h2:i<rs.length),rs[i].length=Ls[i].length
 |[],[]=>⟨fun _=>⟨rfl,fun i h=>by simp at h⟩,fun _=> .nil⟩
 |[],r::rs=>⟨fun h=>(by cases h),fun h=>by simp at h⟩
 |L::Ls,[]=>⟨fun h=>(by cases h),fun h=>by simp at h⟩
 |L::Ls,r::rs=>by
  constructor
  ·intro h
   cases h with
   |cons h hs=>
    obtain ⟨h1,h2⟩:=qfE.1 hs;refine ⟨by simp [h1],fun i=> ?_⟩;cases i with
    |zero=>intro _ _;exact h
    |succ i=>intro g1 g2;exact h2 i (by simpa using g1) (by simpa using g2)
  ·rintro ⟨h1,h2⟩
   exact .cons (h2 0 (by simp) (by simp)) (qfE.2 ⟨by simpa using h1,fun i g1 g2=>h2 (i+1) (by simpa using g1) (by simpa using g2)⟩)
theorem qon (L:List En):(qad L).ids.length=L.length:=by simp [qad]
def qoo (Ls:List (List En)) (rs:List (List Bool)) (w:World) (idx:Value) (wr:World):Prop:=∃ k:Nat,k<=Ls.length/\idx= .int .i64 (k:Int)/\(∀ i (h1:i<Ls.length) (h2:i<rs.length),i<k->rs[i].length=Ls[i].length)/\Below w.heap.size w wr
theorem qvj (A A2:Option Addr) (m c m2 c2:Nat) (Ls:List (List En)) (rs:List (List Bool)) (w:World) (hS:qdH w A Ls) (hR:qem w A2 rs) (hm:Ls.length=m) (hm2:rs.length=m2) (hmx:m<=1000000):
  Calls Tryz.prog 37 #[.slice A m c,.slice A2 m2 c2] w fun e w'=>∃ z:Bool,e= .returned (.bool z)/\(z=true↔qbm Ls rs)/\Below w.heap.size w w':=by
 have HS:=qH hS;have HR:=qH hR;have HM:=qH hm;have HM2:=qH hm2;clear hS hR hm hm2;by_cases hmm:m=m2
 ·subst hmm
  go_enter Tryz.func37,Tryz.ntmps37
  go_wp2
  go_loopw [5,6,14] (fun u5 u6 idx wr=>qoo Ls rs w idx wr) (fun _ _ idx _=>m-(intOf idx).toNat)
  case atStart=>exact ⟨0,Nat.zero_le _,rfl,fun i _ _ h=>by omega,Below.refl _ _⟩
  case round=>
   obtain ⟨k,hk,rfl,hall,hbw⟩:=hrel;rw [HM.out] at hk;have HALL:=qH hall;clear hall;by_cases hkm:k<m
   ·have hk1:k<Ls.length:=by rw [HM.out];exact hkm
    have hk2:k<rs.length:=by rw [HM2.out];exact hkm
    obtain ⟨b,off,S,rfl,hb,q1,hseg⟩:=((HS.out).below hbw).at_ hk1;obtain ⟨b2,off2,B,base,rfl,hb2,q2,hset⟩:=((HR.out).below hbw).at_ hk2;have C1:=qH (qqJ base B rs[k] wr hset);have C2:=qH (qjG hseg);rw [qon] at C2;obtain ⟨x,hx⟩:∃ x,x=rs[k].length:=⟨_,rfl⟩;obtain ⟨y,hy⟩:∃ y,y=Ls[k].length:=⟨_,rfl⟩;rw [<- hx] at C1;rw [<- hy] at C2;have HX:=qH hx;have HY:=qH hy;have HBW:=qH hbw;have hi1:(k:Int)<(m:Int):=by omega
    clear hx hy hset hseg hbw;by_cases hxy:x=y
    ·have hfin:∀ wx,Below wr.heap.size wr wx->qoo Ls rs w (.int .i64 ((k:Int)+1)) wx:=fun wx hwx=>⟨k+1,by rw [HM.out];omega,rfl,fun i h1 h2 hik=>by
      by_cases e:i=k
      ·subst e;rw [<- HX.out,<- HY.out,hxy]
      ·exact HALL.out i h1 h2 (by omega),(HBW.out).trans (hwx.mono (HBW.out).size)⟩
     have HFIN:=qH hfin;subst hxy;clear hfin
     go_wp2_with (first
      |(go_at_call 80;refine (C1.out).mono ?_;rintro e w5 ⟨rfl,h5⟩;obtain rfl:wr=w5:=h5)
      |(go_at_call 20;refine (C2.out).mono ?_;rintro e w6 ⟨rfl,hb6⟩))
     go_roundw
     case rel=>exact HFIN.out _ hb6
     case measure=>simp [intOf];omega
    ·have hno:¬ qbm Ls rs:=fun h=>hxy (by rw [HX.out,HY.out];exact (qfE.1 h).2 k hk1 hk2)
     have HNO:=qH hno;have d1:((x:Int)==(y:Int))=false:=beq_eq_false_iff_ne.2 (by omega);clear hno hxy
     go_wp2_with (first
      |(go_at_call 80;refine (C1.out).mono ?_;rintro e w5 ⟨rfl,h5⟩;obtain rfl:wr=w5:=h5)
      |(go_at_call 20;refine (C2.out).mono ?_;rintro e w6 ⟨rfl,hb6⟩))
     go_ret;exact ⟨false,rfl,⟨fun h=>(by cases h),fun h=>absurd h HNO.out⟩,(HBW.out).trans (hb6.mono (HBW.out).size)⟩
   ·have hyes:qbm Ls rs:=qfE.2 ⟨by rw [HM.out,HM2.out],fun i h1 h2=>HALL.out i h1 h2 (by have :=HM.out;omega)⟩
    have HYES:=qH hyes;clear hyes;go_wp2;go_ret;exact ⟨true,rfl,⟨fun _=>HYES.out,fun _=>rfl⟩,hbw⟩
 ·have hno:¬ qbm Ls rs:=fun h=>hmm (by rw [<- HM.out,<- HM2.out];exact (qfE.1 h).1)
  have HNO:=qH hno;have d1:((m:Int)==(m2:Int))=false:=beq_eq_false_iff_ne.2 (by omega);clear hno hmm
  go_enter Tryz.func37,Tryz.ntmps37
  go_wp2;go_ret;exact ⟨false,rfl,⟨fun h=>(by cases h),fun h=>absurd h HNO.out⟩,Below.refl _ _⟩
section
variable {α:Type} (key:α->Int)
def qbJ (l:List α) (n:Nat):Prop:=∀ i (hi:i<l.length),0<i->i<n->key (l[(i-1)/2]'(by omega))<=key l[i]
structure qen (l:List α) (j:Nat):Prop where
 but:∀ i (hi:i<l.length),0<i->i≠j->key (l[(i-1)/2]'(by omega))<=key l[i]
 kids:∀ c (hc:c<l.length) (_:0<c),∀ (hp:(c-1)/2=j) (h0:0<j),key (l[(j-1)/2]'(by omega))<=key l[c]
structure qjW (l:List α) (j n:Nat):Prop where
 but:∀ i (hi:i<l.length),0<i->i<n->(i-1)/2≠j->key (l[(i-1)/2]'(by omega))<=key l[i]
 kids:∀ c (hc:c<l.length),0<c->c<n->∀ (hp:(c-1)/2=j) (h0:0<j),key (l[(j-1)/2]'(by omega))<=key l[c]
def qcj (l:List α) (i j:Nat) (hi:i<l.length) (hj:j<l.length):List α:=(l.set i l[j]).set j l[i]
variable {key} {l:List α} {i j n:Nat}
theorem qeo (hi:i<l.length) (hj:j<l.length):(qcj l i j hi hj).length=l.length:=by simp [qcj]
theorem qgN (hi:i<l.length) (hj:j<l.length):(qcj l i j hi hj).Perm l:=List.set_set_perm hi hj
theorem qd5 (hi:i<l.length) (hj:j<l.length) {k:Nat} (hk:k<(qcj l i j hi hj).length):
  (qcj l i j hi hj)[k]=if k=j then l[i] else if k=i then l[j] else l[k]'(by rw [qeo] at hk;exact hk):=by
 have hsw:(qcj l i j hi hj)[k]=((l.set i l[j]).set j l[i])[k]'(by simpa [qcj] using hk):=rfl;rw [hsw,List.getElem_set];by_cases h:j=k
 ·rw [if_pos h,if_pos h.symm]
 ·rw [if_neg h,if_neg (fun e=>h e.symm),List.getElem_set]
  by_cases h2:i=k
  ·rw [if_pos h2,if_pos h2.symm]
  ·rw [if_neg h2,if_neg (fun e=>h2 e.symm)]
theorem qen.top (h:qen key l 0):qbJ key l l.length:=fun i hi h0 _=>h.but i hi h0 (by omega)
theorem qen.stop (h:qen key l j) (hj:j<l.length) (hs:¬ key l[j]<key (l[(j-1)/2]'(by omega))):qbJ key l l.length:=fun i hi h0 _=>by
 by_cases e:i=j
 ·subst e;omega
 ·exact h.but i hi h0 e
theorem qen.step (h:qen key l j) (hj:j<l.length) (h0:0<j) (hs:key l[j]<key (l[(j-1)/2]'(by omega))):qen key (qcj l ((j-1)/2) j (by omega) hj) ((j-1)/2):=by
 constructor
 ·intro i hi hi0 hne
  rw [qd5,qd5];have hil:i<l.length:=by rwa [qeo] at hi
  by_cases e:i=j
  ·subst e
   rw [if_pos rfl,if_neg (by omega),if_pos rfl];omega
  ·rw [if_neg e,if_neg hne]
   by_cases e2:(i-1)/2=j
   ·rw [if_pos e2]
    exact h.kids i hil hi0 e2 h0
   ·rw [if_neg e2]
    by_cases e3:(i-1)/2=(j-1)/2
    ·rw [if_pos e3]
     have :=h.but i hil hi0 e;simp only [e3] at this;omega
    ·rw [if_neg e3]
     exact h.but i hil hi0 e
 ·intro c hc hc0 hp h1
  rw [qd5,qd5];have hcl:c<l.length:=by rwa [qeo] at hc
  have hpp:=h.but ((j-1)/2) (by omega) h1 (by omega);rw [if_neg (by omega),if_neg (by omega)];by_cases e:c=j
  ·rw [if_pos e];exact hpp
  ·rw [if_neg e,if_neg (by omega)]
   have :=h.but c hcl hc0 e;simp only [hp] at this;omega
theorem qbJ.least (h:qbJ key l n) (hn:n<=l.length):∀ i (hi:i<n),key (l[0]'(by omega))<=key (l[i]'(by omega)):=by
 intro i
 induction i using Nat.strongRecOn with
 |_ i ih=>
  intro hi;by_cases e:i=0
  ·subst e;omega
  ·have h1:=ih ((i-1)/2) (by omega) (by omega)
   have h2:=h i (by omega) (by omega) hi;omega
theorem qbJ.put (h:qbJ key l l.length) (x:α):qen key (l++[x]) l.length:=by
 constructor
 ·intro i hi h0 hne
  have hil:i<l.length:=by simp at hi;omega
  rw [List.getElem_append_left (by omega),List.getElem_append_left hil];exact h i hil h0 hil
 ·intro c hc h0 hp _
  simp at hc;omega
theorem qbJ.pop (h:qbJ key l l.length) (hl:0<l.length):qjW key (qcj l 0 (l.length-1) hl (by omega)) 0 (l.length-1):=by
 constructor
 ·intro i hi h0 hin hne
  have hil:i<l.length:=by rwa [qeo] at hi
  rw [qd5,qd5,if_neg (by omega),if_neg hne,if_neg (by omega),if_neg (by omega)];exact h i hil h0 hil
 ·intro c _ _ _ _ h0
  omega
end
abbrev Hd:=Int × Nat × Nat
structure qcU (l:List (List Int)) (a:List Nat) (H:List Hd):Prop where
 ins:∀ x∈H,InO l x.2/\x.2.2=a.getD x.2.1 0/\x.1=qaL l x.2
 all:∀ i,InO l (i,a.getD i 0)->∃ x∈H,x.2.1=i
 once:(H.map (·.2.1)).Nodup
theorem qcU.perm {l:List (List Int)} {a:List Nat} {H K:List Hd} (h:qcU l a H) (hp:K.Perm H):qcU l a K:=
 ⟨fun x hx=>h.ins x (hp.mem_iff.1 hx),fun i hi=>by obtain ⟨x,hx,e⟩:=h.all i hi;exact ⟨x,hp.mem_iff.2 hx,e⟩,(hp.map _).nodup_iff.2 h.once⟩
theorem qgO {a:List Nat} {b:Nat} (hb:b<a.length) (v i:Nat):(a.set b v).getD i 0=if i=b then v else a.getD i 0:=by
 rw [List.getD_eq_getElem?_getD,List.getElem?_set];by_cases e:b=i
 ·subst e;simp [hb]
 ·rw [if_neg e,if_neg (fun e2=>e e2.symm),List.getD_eq_getElem?_getD (l:=a) (i:=i)]
theorem qcU.rest {l:List (List Int)} {a:List Nat} {x:Hd} {R:List Hd} (h:qcU l a (x::R)):∀ y∈R,y.2.1≠x.2.1:=fun y hy e=>by
 have :=h.once;rw [List.map_cons,List.nodup_cons] at this;exact this.1 (List.mem_map.2 ⟨y,hy,e⟩)
theorem qcU.last {l:List (List Int)} {a:List Nat} {x:Hd} {R:List Hd} (hl:a.length=l.length) (h:qcU l a (x::R)) (hn:¬ InO l (x.2.1,x.2.2+1)):qcU l (a.set x.2.1 (x.2.2+1)) R:=by
 have hx:=h.ins x (List.mem_cons_self ..);have hb:x.2.1<a.length:=by rw [hl];exact hx.1.1
 have hr:=h.rest;refine ⟨fun y hy=> ?_,fun i hi=> ?_,?_⟩
 ·obtain ⟨h1,h2,h3⟩:=h.ins y (List.mem_cons_of_mem _ hy)
  refine ⟨h1,?_,h3⟩;rw [qgO hb,if_neg (hr y hy)];exact h2
 ·rw [qgO hb] at hi
  split at hi
  ·rename_i e
   subst e;exact absurd hi hn
  ·rename_i e
   obtain ⟨y,hy,e2⟩:=h.all i hi;rcases List.mem_cons.1 hy with rfl|hy
   ·exact absurd e2.symm e
   ·exact ⟨y,hy,e2⟩
 ·have :=h.once
  rw [List.map_cons,List.nodup_cons] at this;exact this.2
theorem qcU.next {l:List (List Int)} {a:List Nat} {x:Hd} {R:List Hd} (hl:a.length=l.length) (h:qcU l a (x::R)) (hn:InO l (x.2.1,x.2.2+1)):qcU l (a.set x.2.1 (x.2.2+1)) ((qaL l (x.2.1,x.2.2+1),x.2.1,x.2.2+1)::R):=by
 have hx:=h.ins x (List.mem_cons_self ..);have hb:x.2.1<a.length:=by rw [hl];exact hx.1.1
 have hr:=h.rest;refine ⟨fun y hy=> ?_,fun i hi=> ?_,?_⟩
 ·rcases List.mem_cons.1 hy with rfl|hy
  ·exact ⟨hn,by simp only;rw [qgO hb,if_pos rfl],rfl⟩
  ·obtain ⟨h1,h2,h3⟩:=h.ins y (List.mem_cons_of_mem _ hy)
   refine ⟨h1,?_,h3⟩;rw [qgO hb,if_neg (hr y hy)];exact h2
 ·rw [qgO hb] at hi
  split at hi
  ·rename_i e
   subst e;exact ⟨_,List.mem_cons_self ..,rfl⟩
  ·rename_i e
   obtain ⟨y,hy,e2⟩:=h.all i hi;rcases List.mem_cons.1 hy with rfl|hy
   ·exact absurd e2.symm e
   ·exact ⟨y,List.mem_cons_of_mem _ hy,e2⟩
 ·have :=h.once
  rw [List.map_cons] at this ⊢;exact this
theorem qcU.none {l:List (List Int)} {a:List Nat} {o:List Pl} {last:Int} (h:qcU l a []) (hm:qdR l a o last):qcd l o:=
 hm.done fun i hi=>by
  apply Classical.byContradiction;intro hc;obtain ⟨x,hx,_⟩:=h.all i (qde.2 ⟨hi,by omega⟩);simp at hx
theorem qcU.least {l:List (List Int)} {a:List Nat} {x:Hd} {R:List Hd} (h:qcU l a (x::R)) (hm:∀ y∈R,x.1<=y.1):InO l (x.2.1,a.getD x.2.1 0)/\∀ i,InO l (i,a.getD i 0)->qaL l (x.2.1,a.getD x.2.1 0)<=qaL l (i,a.getD i 0):=by
 obtain ⟨h1,h2,h3⟩:=h.ins x (List.mem_cons_self ..);rw [<- h2];refine ⟨h1,fun i hi=> ?_⟩;obtain ⟨y,hy,rfl⟩:=h.all i hi;obtain ⟨g1,g2,g3⟩:=h.ins y hy;rw [<- g2,<- show x.1=qaL l (x.2.1,x.2.2) from h3,<- show y.1=qaL l (y.2.1,y.2.2) from g3]
 rcases List.mem_cons.1 hy with rfl|hy
 ·exact Int.le_refl _
 ·exact hm y hy
structure qd6 (l:List (List Int)) (k:Nat) (H:List Hd):Prop where
 ins:∀ x∈H,InO l x.2/\x.2.2=0/\x.1=qaL l x.2/\x.2.1<k
 all:∀ i,i<k->InO l (i,0)->∃ x∈H,x.2.1=i
 once:(H.map (·.2.1)).Nodup
theorem qvk (l:List (List Int)):qd6 l 0 []:=⟨fun x h=>by simp at h,fun i h=>by omega,List.Pairwise.nil⟩
theorem qd6.skip {l:List (List Int)} {k:Nat} {H:List Hd} (h:qd6 l k H) (hn:¬ InO l (k,0)):qd6 l (k+1) H:=
 ⟨fun x hx=>by obtain ⟨h1,h2,h3,h4⟩:=h.ins x hx;exact ⟨h1,h2,h3,by omega⟩,fun i hi hi2=>by
  by_cases e:i=k
  ·subst e;exact absurd hi2 hn
  ·exact h.all i (by omega) hi2,h.once⟩
theorem qd6.put {l:List (List Int)} {k:Nat} {H:List Hd} (h:qd6 l k H) (hn:InO l (k,0)):qd6 l (k+1) (H++[(qaL l (k,0),k,0)]):=by
 refine ⟨fun x hx=> ?_,fun i hi hi2=> ?_,?_⟩
 ·rcases List.mem_append.1 hx with hx|hx
  ·obtain ⟨h1,h2,h3,h4⟩:=h.ins x hx;exact ⟨h1,h2,h3,by omega⟩
  ·rw [List.mem_singleton.1 hx]
   exact ⟨hn,rfl,rfl,by simp⟩
 ·by_cases e:i=k
  ·subst e;exact ⟨_,List.mem_append_right _ (List.mem_singleton.2 rfl),rfl⟩
  ·obtain ⟨x,hx,e2⟩:=h.all i (by omega) hi2
   exact ⟨x,List.mem_append_left _ hx,e2⟩
 ·rw [List.map_append,List.nodup_append]
  refine ⟨h.once,by simp,fun u hu v hv e=> ?_⟩;obtain ⟨x,hx,rfl⟩:=List.mem_map.1 hu;simp at hv;have :=(h.ins x hx).2.2.2;omega
theorem qd6.start {l:List (List Int)} {H:List Hd} (h:qd6 l l.length H):qcU l (List.replicate l.length 0) H:=by
 have e:∀ i,(List.replicate l.length 0).getD i 0=0:=fun i=>by
  rw [List.getD_eq_getElem?_getD,List.getElem?_replicate];split<;>rfl
 exact ⟨fun x hx=>by obtain ⟨h1,h2,h3,h4⟩:=h.ins x hx;exact ⟨h1,by rw [e];exact h2,h3⟩,fun i hi=>by rw [e] at hi;exact h.all i hi.1 hi,h.once⟩
def hds:List Hd->List Value
 |[]=>[]
 |x::H=> .int .i64 x.1:: .int .i64 (x.2.1:Int):: .int .i64 (x.2.2:Int)::hds H
theorem qhN:∀ H:List Hd,(hds H).length=H.length*3
 |[]=>rfl
 |x::H=>by simp [hds,qhN H];omega
theorem qhO:∀ a b:List Hd,hds (a++b)=hds a++hds b
 |[],b=>rfl
 |x::a,b=>by simp [hds,qhO a b]
theorem qvl:∀ (H:List Hd) (k:Nat),hds (H.take k)=(hds H).take (k*3)
 |H,0=>by simp [hds]
 |[],k+1=>by simp [hds]
 |x::H,k+1=>by rw [show (k+1)*3=k*3+1+1+1 by omega];simp [hds,qvl H k]
theorem qop:∀ {H:List Hd} {k:Nat} (hk:k<H.length),(hds H)[k*3]?=some (.int .i64 H[k].1)/\(hds H)[k*3+1]?=some (.int .i64 (H[k].2.1:Int))/\(hds H)[k*3+2]?=some (.int .i64 (H[k].2.2:Int))
 |[],k,hk=>by simp at hk
 |x::H,0,hk=>⟨rfl,rfl,rfl⟩
 |x::H,k+1,hk=>by
  have :=qop (H:=H) (k:=k) (by simpa using hk);rw [show (k+1)*3=k*3+1+1+1 by omega];simpa [hds] using this
theorem qoq:∀ (H:List Hd) (k:Nat) (x:Hd),hds (H.set k x)=(((hds H).set (k*3) (.int .i64 x.1)).set (k*3+1) (.int .i64 (x.2.1:Int))).set (k*3+2) (.int .i64 (x.2.2:Int))
 |[],k,x=>by simp [hds]
 |y::H,0,x=>by simp [hds]
 |y::H,k+1,x=>by
  rw [zF,hds,hds,qoq H k x,show (k+1)*3=k*3+1+1+1 by omega];simp
def qd7 (t:TypeId):Prop:=t=170∨t=165
structure qaG (base:Nat) (w w':World):Prop where
 below:Below base w w'
 keep:∀ (k:Nat) (o:Obj),w.heap[k]?=some o->(∀ cs t fr,o= .cells cs t fr->¬ qd7 t)->w'.heap[k]?=some o
section
variable {base:Nat} {w w' w'':World}
theorem qaG.refl (base:Nat) (w:World):qaG base w w:=⟨Below.refl _ _,fun _ _ h _=>h⟩
theorem qaG.trans (h:qaG base w w') (k:qaG base w' w''):qaG base w w'':=⟨h.below.trans k.below,fun i o hi ho=>k.keep i o (h.keep i o hi ho) ho⟩
theorem qaG.of_below (h:Below w.heap.size w w') (hb:base<=w.heap.size):qaG base w w':=
 ⟨h.mono hb,fun k o hk _=>by rw [h.block k (Array.getElem?_eq_some_iff.1 hk).1,hk]⟩
theorem qaG.setCell {B i:Nat} {cs:Array Value} {t:TypeId} {fr:Nat × Nat} (h:w.heap[B]?=some (.cells cs t fr)) (ht:qd7 t) (hb:base<=B) (v:Value):qaG base w (w.setCell ⟨B,i,none⟩ v):=
  ⟨(Below.refl base w).setCell (p := ⟨B, i, none⟩) hb v, fun k o hk ho => by
    by_cases e:k=B
    · subst e
      rw [h] at hk;injection hk with hk
      exact absurd ht (ho _ _ _ hk.symm)
    · rw [Below.heap_setCell _ _ _ _ e,hk]⟩
theorem qaG.grown {row:Option Nat} (hg:w.grownBy w' row) (hr:∀ k,row=some k->base<=k/\∃ cs t fr,w.heap[k]?=some (.cells cs t fr)/\qd7 t) (hb:base<=w.heap.size):qaG base w w':=
  ⟨(Below.refl base w).grown hg hb (fun k e => (hr k e).1), fun k o hk ho => by
    rw [hg.block k (Array.getElem?_eq_some_iff.1 hk).1 ?_,hk];intro e;obtain ⟨_,cs,t,fr,h1,h2⟩:=hr k e.symm;rw [h1] at hk;injection hk with hk
    exact ho _ _ _ hk.symm h2⟩
theorem qfi {b:Nat} {e:TypeId} {size n:Nat} {v:Value} {xs:List Value} (h:w.ownsRow b e size v n xs) {g:Nat} (hg:v.ownBlock=some g):∃ cs,w.heap[g]?=some (.cells cs e (0,0)):=by
 rcases h.2 with ⟨rfl,_⟩|⟨g',cap,cur,rfl,_,hh,r⟩
 ·cases hg
 ·simp only [Value.ownBlock,Option.some.injEq] at hg
  subst hg;exact ⟨_,hh⟩
theorem qaG.grownOwn {e:TypeId} {size n:Nat} {v:Value} {xs:List Value} (ho:w.ownsRow base e size v n xs) (he:qd7 e) (hg:w.grownBy w' v.ownBlock) (hb:base<=w.heap.size):qaG base w w':=
 qaG.grown hg (fun k hk=>⟨(ho.lt k hk).1,by obtain ⟨cs,h⟩:=qfi ho hk;exact ⟨cs,e,_,h,he⟩⟩) hb
theorem qaG.owned (h:qaG base w w') {b:Nat} {e:TypeId} {size n:Nat} {v:Value} {xs:List Value} (ho:w.ownsRow b e size v n xs) (he:¬ qd7 e):w'.ownsRow b e size v n xs:=by
 refine ⟨ho.1,?_⟩;rcases ho.2 with hn|⟨g,cap,cur,hv,hg,hh,r⟩
 ·exact .inl hn
 ·exact .inr ⟨g,cap,cur,hv,hg,h.keep g _ hh (fun cs t fr e'=>by cases e';exact he),r⟩
theorem qvm {b:Nat} {e:TypeId} {size g n m cap:Nat} {xs:List Value} (h:w.ownsRow b e size (.slice (some ⟨g,0,none⟩) n cap) n xs) (hm:m<=n):w.ownsRow b e size (.slice (some ⟨g,0,none⟩) m cap) m (xs.take (m*size)):=by
 have hmn:m*size<=n*size:=Nat.mul_le_mul_right _ hm;refine ⟨by rw [List.length_take,h.1];omega,?_⟩;rcases h.2 with ⟨hv,_⟩|⟨g',cap',cur,hv,hg,hh,h1,h2,h3,h4⟩
 ·cases hv
 ·cases hv
  refine .inr ⟨g,cap,cur,rfl,hg,hh,by omega,h2,h3,?_⟩;rw [<- h4,List.take_take,Nat.min_eq_left hmn]
end
def HAt (base:Nat) (w:World) (B:Nat) (H:List Hd):Prop:=
 base<=B/\∃ v,w.heap[B]?=some (.cells #[v] 165 (0,0))/\w.ownsRow base 170 3 v H.length (hds H)
section
variable {base B:Nat} {w w':World} {H:List Hd}
theorem HAt.below (h:HAt base w B H) (hb:Below w.heap.size w w'):HAt base w' B H:=by
 obtain ⟨h1,v,h2,h3⟩:=h;exact ⟨h1,v,by rw [hb.block B (Array.getElem?_eq_some_iff.1 h2).1,h2],qao h3 hb⟩
theorem HAt.lt (h:HAt base w B H):B<w.heap.size:=by
 obtain ⟨_,v,h2,_⟩:=h;exact (Array.getElem?_eq_some_iff.1 h2).1
theorem HAt.read (h:HAt base w B H):∃ A c,w.cell? ⟨B,0,none⟩=some (.slice A H.length c)/\H.length<=c/\c<=maxLen/\Row w w.heap.size A (hds H):=by
 obtain ⟨_,v,h2,h3⟩:=h;obtain ⟨A,c,rfl,h4,h5,h6⟩:=qbn h3;exact ⟨A,c,cell_of_one h2,h4,h5,h6⟩
theorem HAt.at_ (h:HAt base w B H) {k:Nat} (hk:k<H.length):∃ g c,w.heap[B]?=some (.cells #[.slice (some ⟨g,0,none⟩) H.length c] 165 (0,0))/\w.ownsRow base 170 3 (.slice (some ⟨g,0,none⟩) H.length c) H.length (hds H)/\H.length<=c/\c<=maxLen/\g≠B/\
  w.cell? ⟨g,k*3,none⟩=some (.int .i64 H[k].1)/\w.cell? ⟨g,k*3+1,none⟩=some (.int .i64 (H[k].2.1:Int))/\w.cell? ⟨g,k*3+2,none⟩=some (.int .i64 (H[k].2.2:Int)):=by
 obtain ⟨_,v,h2,h3⟩:=h;rcases h3.2 with ⟨rfl,e⟩|⟨g,cap,cur,rfl,hg,hh,h5,h6,_⟩
 ·have :=h3.1
  rw [e,qhN] at*;simp at this;omega
 ·obtain ⟨e1,e2,e3⟩:=qop hk
  have hlt:k*3+2<H.length*3:=by omega
  refine ⟨g,cap,h2,h3,h5,h6,fun e=> ?_,?_,?_,?_⟩
  ·subst e
   rw [h2] at hh;injection hh with hh
   injection hh with _ hh
   exact absurd hh (by decide)
  ·rw [h3.cellAt _ (by omega)];exact e1
  ·rw [h3.cellAt _ (by omega)];exact e2
  ·rw [h3.cellAt _ (by omega)];exact e3
end
section
variable {α:Type} (key:α->Int)
def qeK (l:List α) (n m:Nat):Prop:=∀ i (hi:i<l.length),0<i->i<n->m<=(i-1)/2->key (l[(i-1)/2]'(by omega))<=key l[i]
structure qdU (l:List α) (j n m:Nat):Prop where
 but:∀ i (hi:i<l.length),0<i->i<n->m<=(i-1)/2->(i-1)/2≠j->key (l[(i-1)/2]'(by omega))<=key l[i]
 kids:∀ c (hc:c<l.length),0<c->c<n->∀ (hp:(c-1)/2=j) (h0:0<j),m<=(j-1)/2->key (l[(j-1)/2]'(by omega))<=key l[c]
variable {key} {l:List α} {i j n m:Nat}
theorem qeK.all (h:qeK key l n 0):qbJ key l n:=fun i hi h0 hin=>h i hi h0 hin (Nat.zero_le _)
theorem qvn (l:List α) (n:Nat):qeK key l n (n/2):=fun i hi h0 hin hm=>by omega
theorem qeK.down (h:qeK key l n (j+1)):qdU key l j n j:=
 ⟨fun i hi h0 hin hm hne=>h i hi h0 hin (by omega),fun c hc h0 hcn hp hj hm=>by omega⟩
theorem qjW.f (h:qjW key l j n):qdU key l j n 0:=⟨fun i hi h0 hin _ hne=>h.but i hi h0 hin hne,fun c hc h0 hcn hp hj _=>h.kids c hc h0 hcn hp hj⟩
theorem qdU.stop (h:qdU key l j n m) (hn:n<=l.length) (hs:∀ c (hc:c<n) (h0:0<c) (hp:(c-1)/2=j),key (l[j]'(by omega))<=key (l[c]'(by omega))):qeK key l n m:=fun i hi h0 hin hm=>by
 by_cases e:(i-1)/2=j
 ·have :=hs i hin h0 e
  simp only [e];exact this
 ·exact h.but i hi h0 hin hm e
theorem qdU.step (h:qdU key l j n m) (hn:n<=l.length) {k:Nat} (hk:k<n) (h0:0<k) (hp:(k-1)/2=j) (hmj:m<=j) (hs:key (l[k]'(by omega))<key (l[j]'(by omega)))
  (hl:∀ c (hc:c<n) (h0:0<c) (hp:(c-1)/2=j),key (l[k]'(by omega))<=key (l[c]'(by omega))):qdU key (qcj l j k (by omega) (by omega)) k n m:=by
 constructor
 ·intro i hi hi0 hin hm hne
  have hil:i<l.length:=by rwa [qeo] at hi
  rw [qd5,qd5,if_neg hne];by_cases e:i=k
  ·subst e
   rw [if_pos hp,if_pos rfl];exact Int.le_of_lt hs
  ·rw [if_neg e]
   by_cases e2:(i-1)/2=j
   ·rw [if_pos e2,if_neg (by omega)]
    exact hl i hin hi0 e2
   ·rw [if_neg e2]
    by_cases e3:i=j
    ·rw [if_pos e3]
     have :=h.kids k (by omega) h0 hk hp (by omega) (by omega);simp only [e3];exact this
    ·rw [if_neg e3]
     exact h.but i hil hi0 hin hm e2
 ·intro c hc hc0 hcn hcp hk0 hm
  have hcl:c<l.length:=by rwa [qeo] at hc
  rw [qd5,qd5,if_neg (by omega),if_pos hp,if_neg (by omega),if_neg (by omega)];have :=h.but c hcl hc0 hcn (by omega) (by omega);simp only [hcp] at this;exact this
theorem qbJ.popF (h:qbJ key l l.length) (hl:0<l.length):qdU key (qcj l 0 (l.length-1) hl (by omega)) 0 (l.length-1) 0:=(h.pop hl).f
theorem qbJ.init {x:α} (h:qbJ key (l++[x]) l.length):qbJ key l l.length:=fun i hi h0 hin=>by
 have :=h i (by simp;omega) h0 hin;rwa [List.getElem_append_left (by omega),List.getElem_append_left hi] at this
end
end Go.Proofs.YtpehcaidjlemiaaGreatDoor
