import Derived.Test.YtmoomnpbiifedaaGreatMAQ11
import Derived.Test.YtmoomnpbiifedaaGreatMAQ07
import Derived.Test.YtmoomnpbiifedaaGreatMAQ10
import Derived.Test.YtmoomnpbiifedaaGreatMAQ05
import Derived.Test.YtmoomnpbiifedaaGreatMAQ08
import Derived.Test.YtmoomnpbiifedaaGreatMAQ06
import Derived.RangeFuncNested
import Derived.RangeFuncCalls
import Derived.Deep.RegionHeld3
import Derived.OrdersIn
import Derived.TacticsIn
import Derived.Lib.AppendZeros
set_option linter.unusedVariables false
namespace Go.Proofs.YtmoomnpbiifedaaGreat
open Go Go.RowKit
attribute [local go_sem] Oper.semAt_some
def NmVar (base B:Nat) (l:List Nm) (W:World):Prop:=∃ v,W.heap[B]?=some (.cells #[v] 23 (0,0))∧OwnNm base W v l
theorem ownN_cells {base:Nat} {w:World} {v:Value} {l:List Nm} (h:OwnNm base w v l) {k:Nat} {o:Obj} (hk:w.heap[k]?=some o) (ho:o.isCells=false):v.ownBlock≠some k:=by
 intro he
 rcases h.2 with ⟨rfl,_⟩|⟨g,cap,cur,rfl,_,hh,_⟩
 ·cases he
 ·simp only [Value.ownBlock,Option.some.injEq] at he
  subst he
  rw [hh] at hk
  cases hk
  cases ho
theorem NmVar.firm (N base B:Nat) (l:List Nm):FirmM N (NmVar base B l):=fun W k o o' _ ho hc ⟨v,h1,h2⟩=>by
 have hB:B≠k:=fun e=>by subst e;rw [h1] at ho;injection ho with ho;rw [← ho] at hc;cases hc
 exact ⟨v,(World.putObj_heap_other hB).trans h1,owned_keep h2 fun g hg=>World.putObj_heap_other fun e=>by subst e;exact ownN_cells h2 ho hc hg⟩
theorem NmVar.moved {base base' B:Nat} {l:List Nm} {w w':World} (h:NmVar base B l w) (hm:MvIt base' w w'):NmVar base B l w':=by
 obtain ⟨v,h1,h2⟩:=h
 refine ⟨v,hm.keep _ _ h1 (by simp),owned_keep h2 fun g hg=> ?_⟩
 rcases h2.2 with ⟨rfl,_⟩|⟨g',cap,cur,rfl,_,hh,_⟩
 ·cases hg
 ·simp only [Value.ownBlock,Option.some.injEq] at hg
  subst hg
  rw [hm.keep _ _ hh (by simp),hh]
def CollInS (w:World) (pre:List Nm) (W:World):Prop:=NmVar w.heap.size w.heap.size pre W∧Below w.heap.size w W∧pre.length≤134217728
def CollAxS (f:Value) (w:World) (x:Nm) (a:Act) (W:World):Prop:=a={tmps:=#[.slice none 0 0,f,.pointer (some ⟨w.heap.size,0,none⟩),undef,.slice none 0 0,kV x,f,kV x,undef,undef,undef,undef,undef],defers:=[]}
def GotKeysS (ks:List Nm) (w:World) (e:Ending) (w':World):Prop:=∃ v ts,e= .returned v∧ts.Perm ks∧OwnNm w.heap.size w' v ts∧Below w.heap.size w w'
set_option maxHeartbeats 8000000 in
set_option maxRecDepth 100000 in
theorem keys_appendS (Bx B c:Nat) (m:List EntK) (w:World) (hm:MapK w B c m) (hc:w.cell? ⟨Bx,0,none⟩=some (.map (some B))) (hl:m.length≤134217727):
  Calls Tryz.prog 142 #[.slice none 0 0,.func (.func 120) #[] #[.pointer (some ⟨Bx,0,none⟩)]] w (GotKeysS (m.map (·.1)) w):=by
 obtain ⟨i0,hi0,hz0,hz1,hz2⟩:=info_parts info_string
 refine (callsIn_wide (n:=6)).1 ?_
 obtain ⟨w2,hw2⟩:∃ w2,w2=w.alloc (.cells #[.slice none 0 0] 23):=⟨_,rfl⟩
 have hb2:Below w.heap.size w w2:=by rw [hw2];exact (Below.refl _ _).alloc (Nat.le_refl _) _
 have hm2:MapK w2 B c m:=(hb2.block B (Array.getElem?_eq_some_iff.1 hm).1).trans hm
 have hc2:=(hb2.cell (p:=⟨Bx,0,none⟩) (World.block_lt_of_cell? w _ hc)).trans hc
 have hv2:NmVar w.heap.size w.heap.size [] w2:=⟨_,by rw [hw2];exact heap_alloc_new w _,OwnNm.nil⟩
 have hs2:w2.heap.size=w.heap.size+1:=by rw [hw2];simp
 have HT:=Lib.hid (keys_movedP 5 w.heap.size Bx B c m w2 (by omega) hb2.size hm2 hc2)
 have HW2:=Lib.hid hw2
 have HB2:=Lib.hid hb2
 have HV2:=Lib.hid hv2
 clear hw2 hb2 hm2 hc2 hv2 hm hc
 refine callsIn_of_wp_marks Tryz.func142 rfl trivial ?_ rfl
 simp only [Tryz.ntmps142,List.size_toArray,List.length_cons,List.length_nil,Nat.reduceAdd,Nat.reduceSub,Array.replicate_succ,Array.replicate_zero,List.push_toArray,List.append_toArray,List.nil_append,List.cons_append]
 gi_wp2
 rw [← HW2.out]
 refine wpIn_range_moved (by omega) (gf:=120) (lb:=#[.pointer (some ⟨Bx,0,none⟩)]) rfl (enters_of Tryz.func120 (by kernel_rfl) rfl)
  HT.out (fun hb=>MvIt.of hb (Nat.le_refl _)) (fun {A B k o} hk hmv ho hnc=>hmv.keep _ _ ho (by rcases hnc with ⟨x,rfl⟩|⟨x,rfl⟩<;>simp))
  (fun h k=>h.trans k) (fun W lp x o' hlp ho=>KpIt.loop W lp x o' (by omega) ho) (fun _=>rfl)
  (CollInS w) (fun s A' B' h hmv=>⟨h.1.moved hmv,h.2.1.trans (hmv.below.mono (by omega)),h.2.2⟩)
  (fun s=>fun W l o o' h1 h2 h3 h=>⟨NmVar.firm _ _ _ _ W l o o' h1 h2 h3 h.1,Below.firm (by omega) W l o o' h1 h2 h3 h.2.1,h.2.2⟩)
  (fun s x W l o o' _ _ _ h=>h) ⟨HV2.out,HB2.out,by simp⟩
  (CollAxS (.func (.func 120) #[] #[.pointer (some ⟨Bx,0,none⟩)]) w) (fun x a' W l o o' _ ho hc h=>h) ?assign ?body ?done
 case assign=>
  intro lp pre x W K' hi hx hK'
  unfold encK kV
  gi_wp2
  exact hK' _ _ rfl hi hx (Below.refl _ _) (KpIt.of (Below.refl _ _) hi.2.1.size)
 case body=>
  rintro lp pre x a' W rfl ⟨⟨v,hv,hown⟩,hbw,hpl⟩ hlt
  unfold kV
  obtain ⟨X,hX⟩:∃ X:ByteArray,X=⟨x.toArray⟩:=⟨_,rfl⟩
  rw [← hX]
  have hfl:strs [x]=[.string X]:=by rw [hX];rfl
  have cB:=cell_of_one hv
  have fB:=free_of_one hv
  have hsz:=hbw.size
  have hlB:=lt_of_block hv
  obtain ⟨k,hk⟩:∃ k,k=pre.length:=⟨_,rfl⟩
  have ho1:W.ownsRow w.heap.size 9 1 v k (strs pre):=by rw [hk];exact hown
  have hkl:k≤134217727:=by omega
  have HO:=Lib.hid ho1
  have HOW:=Lib.hid hown
  have HV:=Lib.hid hv
  have HBW:=Lib.hid hbw
  have HK:=Lib.hid hk
  have HFL:=Lib.hid hfl
  have HLT:=Lib.hid hlt
  clear hv hown hbw ho1 hk hfl hX hlt hpl
  gi_wp2_with (gi_at_builtin;refine wpListIn_append_own _ rfl (.tmp 8) (.tmp 10) 23 rfl w.heap.size 9 i0 _ 1 16 Tryz.underlying23 hi0 hz0 hz1 hz2 rfl (by omega) _ k (strs pre) rfl (HO.out.alloc _) ⟨W.heap.size,0,none⟩ 1 1 [.string X] rfl rfl (news_at W [.string X] 9) (by intro u hu;simp at hu;subst hu;rfl) (by unfold maxLen;omega) (by omega) (by simp;omega) ?_)
  intro v' w4 hown4 hgrow4 hz4
  clear hz4
  obtain ⟨g',cap',hv',_,_⟩:=hown4.form (by omega)
  have hne:=owned_apart HOW.out HV.out (by decide)
  have hal:Below W.heap.size W (W.alloc (.cells #[.string X] 9)):=(Below.refl _ _).alloc (Nat.le_refl _) _
  have hv4:w4.heap[w.heap.size]?=some (.cells #[v] 23 (0,0)):=(hgrow4.block _ (by simp;omega) (fun e=>hne e.symm)).trans ((hal.block _ hlB).trans HV.out)
  have cB4:=cell_of_one hv4
  have fB4:=free_of_one hv4
  have hne':=owned_apart hown4 hv4 (by decide)
  have hs4:W.heap.size≤w4.heap.size:=Nat.le_trans hal.size hgrow4.size
  have hkeep:∀ (j:Nat),j<W.heap.size→j≠w.heap.size→v.ownBlock≠some j→(w4.setCell ⟨w.heap.size,0,none⟩ v').heap[j]?=W.heap[j]?:=fun j h1 h2 h3=>by
   rw [Below.heap_setCell _ _ _ _ h2,hgrow4.block j (Nat.lt_of_lt_of_le h1 hal.size) (fun e=>h3 e.symm),hal.block j h1]
  have hnc:∀ (j:Nat) (o:Obj),W.heap[j]?=some o→o.isCells=false→(w4.setCell ⟨w.heap.size,0,none⟩ v').heap[j]?=some o:=fun j o h1 h2=>by
   rw [hkeep j (Array.getElem?_eq_some_iff.1 h1).1 (fun e=> ?_) (ownN_cells HOW.out h1 h2),h1]
   subst e
   have :=HV.out
   rw [this] at h1
   injection h1 with h1
   rw [← h1] at h2
   cases h2
  have hbl:Below w.heap.size W (w4.setCell ⟨w.heap.size,0,none⟩ v'):=⟨hgrow4.os,hgrow4.tape,hgrow4.output,by simpa using hs4,fun j hj=>hkeep j (by omega) (by omega) (fun e=>by have :=(HO.out.lt j e).1;omega)⟩
  have hin:CollInS w (pre++[x]) (w4.setCell ⟨w.heap.size,0,none⟩ v'):=by
   refine ⟨⟨v',one_setCell hv4,?_⟩,HBW.out.trans hbl,by rw [List.length_append,List.length_singleton,← HK.out];omega⟩
   have :=ownsRow_setCell_other hown4 (show v'.ownBlock≠some (⟨w.heap.size,0,none⟩:Addr).block from hne') v'
   unfold OwnNm
   rw [List.length_append,List.length_singleton,← HK.out,strs_append,HFL.out]
   exact this
  have HKO:Hid (KeepsOthers W (w4.setCell ⟨w.heap.size,0,none⟩ v')):=Lib.hid ⟨by simpa using hs4,hnc⟩
  have HKP:Hid (KpIt w.heap.size W (w4.setCell ⟨w.heap.size,0,none⟩ v')):=Lib.hid ⟨hbl,fun j o h1 h2=>hnc j o h1 (by rcases h2 with ⟨_,_,_,_,rfl⟩|⟨_,_,rfl⟩<;>rfl)⟩
  have HIN:=Lib.hid hin
  subst hv'
  clear hkeep hnc hbl hin hne hne' hal hv4 hgrow4 hown4
  gi_wp2
  exact ⟨HKO.out,HKP.out,HIN.out⟩
 case done=>
  rintro D' ys W hD2 hys ⟨⟨v,hv,hown⟩,hbw,_⟩ hK'
  have cB:=cell_of_one hv
  have HO:=Lib.hid hown
  have HBW:=Lib.hid hbw
  have HV:=Lib.hid hv
  have HYS:=Lib.hid hys
  clear hys hown hbw hv
  gi_wp2
  refine ⟨by simp,.inl ⟨_,_,rfl,run_takeDeferred hK',?_⟩⟩
  refine ⟨_,results_tmp rfl _ _ _,?_⟩
  refine ⟨v,ys,rfl,HYS.out,owned_keep HO.out fun g hg=>World.putObj_heap_other fun e=> ?_,Below.firm (by omega) W D' _ (.deferred none) hD2 hK' rfl HBW.out⟩
  subst e
  exact ownN_cells HO.out hK' rfl hg
set_option maxHeartbeats 1000000 in
theorem keys_collectS (Bx B c:Nat) (m:List EntK) (w:World) (hm:MapK w B c m) (hc:w.cell? ⟨Bx,0,none⟩=some (.map (some B))) (hl:m.length≤134217727):
  Calls Tryz.prog 118 #[.func (.func 120) #[] #[.pointer (some ⟨Bx,0,none⟩)]] w (GotKeysS (m.map (·.1)) w):=by
 have HA:=Lib.hid (keys_appendS Bx B c m w hm hc hl)
 clear hm hc
 go_enter Tryz.func118,Tryz.ntmps118
 go_wp2_with (go_at_call 142;(with_reducible refine HA.out.mono ?_);rintro e w' ⟨v,ts,rfl,hp,ho,hb⟩)
 go_ret
 exact ⟨v,ts,rfl,hp,ho,hb⟩
set_option maxHeartbeats 2000000 in
theorem keys_sortedS (Bx B c:Nat) (m:List EntK) (l:List En) (w:World) (hm:MapK w B c m) (hc:w.cell? ⟨Bx,0,none⟩=some (.map (some B))) (hl:m.length≤134217727) (hk:(m.map (·.1)).Perm (keysE l)):
    Calls Tryz.prog 89 #[.func (.func 120) #[] #[.pointer (some ⟨Bx,0,none⟩)]] w (GaveNm (keysE l) w):=by
  have HA:=Lib.hid (keys_collectS Bx B c m w hm hc hl)
  have hks:(m.map (·.1)).length≤134217727:=by simpa using hl
  have HK:=Lib.hid hk
  obtain ⟨ks,hk2⟩:∃ ks,ks=m.map (·.1):=⟨_,rfl⟩
  rw [← hk2] at hks HA HK
  clear hm hc hk hk2
  go_enter Tryz.func89,Tryz.ntmps89
  go_wp2_with (first
    | (go_at_call 118; (with_reducible refine HA.out.mono ?_); rintro e w1 ⟨v, ts, rfl, hp, ho, hb⟩
       have hlt:ts.length≤134217727:=by rw [hp.length_eq];exact hks
       have HS:=Lib.hid (sort_texts w.heap.size v ts w1 ho hb.size (by omega))
       have HP:=Lib.hid hp
       have HB:=Lib.hid hb
       clear hp ho hb)
    |(go_at_call 119;(with_reducible refine HS.out.mono ?_);rintro e w2 ⟨rfl,ho2,hb2⟩))
  go_ret
  rw [sorted_keys (HP.out.trans HK.out)] at ho2
  exact ⟨v,rfl,ho2,HB.out.trans hb2⟩
end Go.Proofs.YtmoomnpbiifedaaGreat
set_option linter.unusedVariables false
namespace Go.Proofs.YtmoomnpbiifedaaGreat
open Go Go.RowKit
section
variable {S:Nat→Prop} {w:World} {B:Nat} {l:List En} {up:Int}
theorem keysE_bound {l:List En} (hg:GoodE l) (hn:l.length≤1000):(keysE l).length≤4000000:=by
 have h1:=keysE_length (l:=l) (a:=[]) (M:=4000) fun q hq=>by
  have h:=hg q hq
  have h1:=termsUp_length (l:=q.2.1) (M:=500) h.wordsS q.2.1.length (Nat.le_refl _)
  rw [termsUp_all] at h1
  exact Nat.le_trans h1 (Nat.le_trans (Nat.mul_le_mul_right _ h.len) (by omega))
 have h2:l.length*4000≤1000*4000:=Nat.mul_le_mul_right _ hn
 have h3:(keysE l).length≤l.length*4000+([]:List Nm).length:=h1
 simp only [List.length_nil] at h3
 omega
theorem buf_Keys (h:BufAt S w B l up) (hn:l.length≤1000):Calls Tryz.prog 51 #[.pointer (some ⟨B,0,none⟩)] w (GaveNm (keysE l) w):=by
  obtain ⟨v,M,c,g,h⟩:=h
  obtain ⟨c0,c1,c2,c3,_⟩:=four_cells h.cells
  obtain ⟨m,hm,hk,hl⟩:=h.map.keys
  have hp:(m.map (·.1)).Perm (keysE l):=by rw [hk];exact h.stand.perm
  have hlen:m.length≤134217727:=by rw [hl,h.stand.length];have :=keysE_bound h.good hn;omega
  have HM:=Lib.hid hm
  have HP:=Lib.hid hp
  clear h hm hk hl hp
  go_enter Tryz.func51,Tryz.ntmps51
  go_wp2_with (first
    | (go_at_call 90; (with_reducible refine (maps_KeysP M w).mono ?_); rintro e w1 ⟨rfl, hw1⟩
       have hb1:Below w.heap.size w w1:=by rw [hw1];exact (Below.refl _ _).alloc (Nat.le_refl _) _
       have hc1:w1.cell? ⟨w.heap.size,0,none⟩=some (.map (some M)):=by rw [hw1];simp
       have hm1:MapK w1 M c m:=(hb1.block M (Array.getElem?_eq_some_iff.1 HM.out).1).trans HM.out
       have HS:=Lib.hid (keys_sortedS w.heap.size M c m l w1 hm1 hc1 hlen HP.out)
       have HB1:=Lib.hid hb1
       clear hw1 hb1 hc1 hm1)
    |(go_at_call 89;(with_reducible refine HS.out.mono ?_);rintro e w2 ⟨v2,rfl,ho2,hb2⟩))
  go_ret
  exact ⟨_,rfl,ho2.low HB1.out.size,HB1.out.trans (hb2.mono HB1.out.size)⟩
end
end Go.Proofs.YtmoomnpbiifedaaGreat
set_option linter.unusedVariables false
namespace Go.Proofs.YtmoomnpbiifedaaGreat
open Go Go.RowKit
structure AddOk (G:List En):Prop where
 may:∀ q∈G,mayD q.2.1=0∧∀ f∈q.2.1,f.1.length≤1024∧f.2.length≤1024
 rise:risesZ (-1) (G.map (·.2.2))=true
 few:G.length≤100
theorem AddOk.good {G:List En} (h:AddOk G):GoodE G:=fun q hq=>goodF_of (h.may q hq).1 fun f hf=>((h.may q hq).2 f hf).2
theorem posts_doc {key:Nm} {p:Pn}:∀ {l:List En} {i:Nat},p∈postsE i l key→(i:Int)≤p.1∧p.1<(i+l.length:Nat)
 |[],i,h=>by simp [postsE] at h
 |q::l,i,h=>by
  rw [postsE] at h
  rcases List.mem_append.1 h with h|h
  ·unfold postIn at h
   obtain ⟨t,_,rfl⟩:=List.mem_map.1 h
   simp only [List.length_cons]
   omega
  ·have :=posts_doc h
   simp only [List.length_cons]
   omega
theorem keys_posts {l:List En} {key:Nm} (h:key∈keysE l):0<(postsE 0 l key).length:=by
 obtain ⟨q,hq,t,ht,e⟩:=mem_keysE.1 h
 exact posts_there ⟨q,hq,t,ht,e⟩
theorem build_may {G:List En} (h:AddOk G):mayPs (buildP G)=true:=by
 refine mayPs_iff.2 ⟨by simp [buildP],by simp [buildP],h.rise,risesN_iff.2 (rise_keysE G),fun l hl=> ?_⟩
 obtain ⟨key,hk,rfl⟩:=List.mem_map.1 hl
 have hn:(buildP G).ids.length=G.length:=by simp [buildP]
 have hp:=keys_posts hk
 have hm:=posts_may (key:=key) (i:=0) (last:= -1) h.good (by omega) (by have :=h.few;omega)
 unfold mayL
 rw [hm,hn,Bool.true_and,Bool.and_eq_true,decide_eq_true_iff,decide_eq_true_iff]
 refine ⟨by omega,fun p hp'=> ?_⟩
 have :=(posts_doc (List.mem_of_getLast? hp')).2
 simpa using this
theorem build_keys {G:List En} (h:AddOk G):(keysE G).length≤400000:=by
 have h1:=keysE_length (l:=G) (a:=[]) (M:=4000) fun q hq=>terms_len9 (h.good q hq)
 have h2:(keysE G).length≤G.length*4000+([]:List Nm).length:=h1
 have :=h.few
 simp only [List.length_nil] at h2
 omega
theorem build_small {G:List En} (h:AddOk G):PSmall (buildP G):=by
 refine ⟨by have :=h.few;simp [buildP];omega,by have :=build_keys h;simp only [buildP];omega,fun l hl=> ?_⟩
 obtain ⟨key,hk,rfl⟩:=List.mem_map.1 hl
 have h1:=posts_len h.good (key:=key) G 0 (fun q hq=>hq)
 have h2:=totalP_le (l:=postsE 0 G key) (n:=500) fun p hp=>(posts_good h.good p hp).2
 have :=h.few
 exact ⟨by omega,by omega⟩
theorem build_few {G:List En} (h:AddOk G):PFew (buildP G):=by
 have hs:=build_small h
 have hk:=hs.keys
 have hi:=hs.ids
 refine ⟨by omega,by simp [buildP] at hi ⊢;omega,by omega,by simp [buildP] at hk ⊢;omega,fun l hl=>⟨by have :=(hs.lists l hl).1;omega,fun p hp=> ?_⟩⟩
 obtain ⟨key,hk,rfl⟩:=List.mem_map.1 hl
 have :=(posts_good h.good p hp).2
 omega
end Go.Proofs.YtmoomnpbiifedaaGreat
set_option linter.unusedVariables false
namespace Go.Proofs.YtmoomnpbiifedaaGreat
open Go
section
variable {P:Program} {ops:Array Oper} {Q:Exit→Act→World→Prop} {md:Region.Mode} {n l:Nat}
def AtEnd (Q:Exit→Act→World→Prop):Exit→Act→World→Prop
 |.normal,a,w=>Q .normal a w
 |_,_,_=>False
theorem AtEnd.imp:∀ e a w,AtEnd Q e a w→Q e a w:=fun e a w h=>by
 cases e<;>first|exact h|exact (h:False).elim
theorem AtEnd.fin {a:Act} {w:World} (h:Q .normal a w):AtEnd Q .normal a w:=h
theorem AtEnd.no_out:¬ LetsOut (AtEnd Q):=fun ⟨_,_,h⟩=>h
theorem step_in_round {o:Oper} {a:Act} {w:World} {K:Act→World→Prop} (hd:∀ c,o.op≠ .defer c) (h:o.wp P a w K Q):o.wpIn (Fence.wide.inRound l) n P a w K Q:=by
 refine ⟨fun _ _=>trivial,?_⟩
 have e:o.semAt (Fence.wide.inRound l).round a.eval=execOp a.eval o:=Oper.semAt_some l _ _ hd
 rw [e]
 unfold Oper.wp at h
 generalize (execOp a.eval o).run P w=r at*
 cases r with
 |ok x w'=>
  cases x<;>first
   |exact h
   |exact (h:False).elim
   |exact ⟨fun e=>(by cases e),CallsIn.inRound l (callsIn_wide.2 h)⟩
   |exact ⟨fun e=>(by cases e),fun c cs _=>let ⟨v,w2,h1,h2⟩:=h c cs;⟨v,w2,h1,stepsIn_wide.2 h2⟩⟩
 |halt x w'=>cases x<;>exact h
theorem op_in_round {i:Nat} {a:Act} {w:World} {K K':Act→World→Prop} (hd:∀ (i:Nat) (o:Oper),ops[i]?=some o→∀ c,o.op≠ .defer c) (hk:∀ a w,K a w→K' a w) (h:wpOp P ops (AtEnd Q) i K a w):wpOpIn (Fence.wide.inRound l) n P ops (AtEnd Q) i K' a w:=by
 unfold wpOp at h
 unfold wpOpIn
 cases ho:ops[i]? with
 |none=>rw [ho] at h;exact hk _ _ h
 |some o=>
  rw [ho] at h
  simp only at h ⊢
  split
  ·rename_i hw
   rw [if_pos hw] at h
   rcases h with h|⟨_,h⟩
   ·exact Oper.wpIn_mono hk (step_in_round (hd i o ho) h)
   ·exact (AtEnd.no_out h).elim
  ·rename_i hw
   rw [if_neg hw] at h
   exact ⟨fun _ _=>trivial,hk _ _ h⟩
theorem any_in_round (hd:∀ (i:Nat) (o:Oper),ops[i]?=some o→∀ c,o.op≠ .defer c):∀ (fuel:Nat) (listed:Array Bool) (a:Act) (w:World),wpAny P md ops (AtEnd Q) fuel listed a w→wpAnyIn (Fence.wide.inRound l) n P md ops (AtEnd Q) fuel listed a w
 |0,_,_,_,h=>h
 |fuel+1,listed,a,w,h=>⟨h.1,fun i hi=>op_in_round hd (fun a' w' h'=>any_in_round hd fuel _ a' w' h') (h.2 i hi)⟩
def notDefer (o:Oper):Bool:=match o.op with| .defer _=>false|_=>true
theorem no_defer (h:ops.toList.all notDefer=true):∀ (i:Nat) (o:Oper),ops[i]?=some o→∀ c,o.op≠ .defer c:=fun i o hi c e=>by
 have h1:=List.all_eq_true.1 h o (by rw [Array.mem_toList_iff];exact Array.mem_of_getElem? hi)
 unfold notDefer at h1
 rw [e] at h1
 cases h1
theorem step_append_known {o:Oper} {a:Act} {w:World} {K:Act→World→Prop} {E:Prop} (hg:o.guard=none) (s x:Operand) (t:TypeId)
  (hop:o.op=Op.call {callee:=Callee.builtin Builtin.append,args:=#[s,x],argTypes:=#[t,t]}) (vs vx:Value) (hs:a.eval s=vs) (hx:a.eval x=vx) (v':Value) (w':World)
  (hr:(Builtin.append_ #[t,t] o.type #[vs,vx]).run P w= .ok v' w') (hK:K (a.put o.dst v') w'):if Region.wanted o (yielded ops a.tmps)=true then Oper.wp P o a w K Q else E:=by
 have hw:Region.wanted o (yielded ops a.tmps)=true:=by simp [Region.wanted,hg]
 rw [if_pos hw]
 exact Lib.wp_append_run w s x t t hop vs vx hs hx v' w' hr hK
theorem region_in_round {S:World→Prop} {id:Nat} {a:Act} {w:World} (hm:P.follows .mixedOrders=true) (hd:ops.toList.all notDefer=true) (hS:S w.drew)
  (h:S w.drew→wpAnyH P .any ops (AtEnd Q) S ops.size (Array.replicate ops.size false) a w.drew):(Code.region id ops true).wpIn (Fence.wide.inRound l) n P Q a w:=
 wpIn_mono (wpIn_region_any hm (any_in_round (no_defer hd) _ _ _ _ (wpAny_of_held _ _ _ _ (h hS)))) AtEnd.imp
end
end Go.Proofs.YtmoomnpbiifedaaGreat
