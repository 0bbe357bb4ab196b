import Derived.Test.YtmoomnpbiifedaaGreatMVQ05
import Derived.Test.YtmoomnpbiifedaaGreatMVQ01
import Derived.Test.YtmoomnpbiifedaaGreatMVQ04
import Derived.Test.YtmoomnpbiifedaaGreatMVQ02
import Derived.Test.YtmoomnpbiifedaaGreatMVQ03
import Derived.Shelf.SlSortCmp.WholeK
import Derived.Deep.RegionHeld3
import Derived.Shelf.SlSortCmp.NoneTotal
import Derived.Test.YtmoomnpbiifedaaGreatProg
set_option linter.unusedVariables false
namespace Go.Proofs.YtmoomnpbiifedaaGreat
open Go Go.RowKit
attribute [local go_sem] Oper.semAt_some
set_option maxHeartbeats 1000000 in
theorem maps_Keys (B:Nat) (w:World):
  Calls Tryz.prog 137 #[.map (some B)] w fun e w'=>e= .returned (.func (.func 156) #[] #[.pointer (some ⟨w.heap.size,0,none⟩)])∧w'=w.alloc (.cells #[.map (some B)] 192):=by
 go_enter Tryz.func137,Tryz.ntmps137
 go_wp2
 go_ret
 exact ⟨rfl,rfl⟩
def KeysRel (base r B:Nat) (m:List Ent) (w0:World) (J:List Tm→World→Prop) (wr:World):Prop:=∃ pre:List Tm,ItAt wr r B m pre∧MapAt wr B m∧J pre wr∧w0.heap.size≤wr.heap.size
def leftIt (r n:Nat) (W:World):Nat:=match W.heap[r]? with|some (.mapIter _ _ seen _)=>n-seen.size|_=>0
theorem leftIt_of {W:World} {r B:Nat} {m:List Ent} {pre:List Tm} (h:ItAt W r B m pre):leftIt r m.length W=m.length-pre.length:=by
 obtain ⟨seen,h1,_,_,rfl⟩:=h
 simp [leftIt,h1]
set_option maxHeartbeats 4000000 in
set_option maxRecDepth 100000 in
theorem keys_moved (q b Bx B:Nat) (m:List Ent) (w:World) (hq:1≤q) (hb:b≤w.heap.size) (hm:MapAt w B m) (hc:w.cell? ⟨Bx,0,none⟩=some (.map (some B))):
  Moved q Tryz.prog 156 #[.pointer (some ⟨Bx,0,none⟩)] encT (MvIt w.heap.size) (KpIt b) (fun pre _ _=>pre.length<m.length) (fun xs=>xs.Perm (m.map (·.1))) w:=by
 intro lp J W hW hJ hY h0
 have hmW:MapAt W B m:=(hW.block B (Array.getElem?_eq_some_iff.1 hm).1).trans hm
 have hcW:=(hW.cell (p:=⟨Bx,0,none⟩) (World.block_lt_of_cell? w _ hc)).trans hc
 have HJ:=Lib.hid hJ
 have HY:=Lib.hid hY
 have hszW:=hW.size
 obtain ⟨r,hr⟩:∃ r,r=W.heap.size:=⟨_,rfl⟩
 obtain ⟨w2,hw2⟩:∃ w2,w2=W.alloc (.mapIter (some B) m.length #[] m.length):=⟨_,rfl⟩
 have hb2:Below W.heap.size W w2:=by rw [hw2];exact (Below.refl _ _).alloc (Nat.le_refl _) _
 have hrel0:KeysRel b r B m W J w2:=by
  refine ⟨[],⟨[],by rw [hw2,hr];exact heap_alloc_new _ _,by simp,by simp,rfl⟩,(hb2.block B (Array.getElem?_eq_some_iff.1 hmW).1).trans hmW,hJ _ _ _ h0 (MvIt.of hb2 hszW),hb2.size⟩
 have HREL:=Lib.hid hrel0
 have HW2:=Lib.hid hw2
 have hrb:w.heap.size≤r:=by omega
 have HR:=Lib.hid hr
 clear hJ hY h0 hm hc hW hrel0 hw2 hb2 hr
 refine callsIn_of_wp Tryz.func156 rfl trivial ?_ rfl
 simp only [Tryz.ntmps156,List.size_toArray,List.length_cons,List.length_nil,Nat.reduceAdd,Nat.reduceSub,Array.replicate_succ,Array.replicate_zero,List.push_toArray,List.append_toArray,List.nil_append,List.cons_append]
 gi_wp2_with (first
  |(gi_at_range;refine wpListIn_range_tm _ rfl _ rfl B m rfl hmW ?_;rw [← HW2.out,← HR.out])
  |gi_in)
 gi_loopw [3] (fun _ wr=>KeysRel b r B m W J wr) (fun _ wr=>leftIt r m.length wr)
 case atStart=>exact HREL.out
 case round=>
  obtain ⟨pre,hit,hmr,hj,hsz⟩:=hrel
  gi_wp2_with (first
   |(gi_at_next;refine wpListIn_next_tm _ rfl _ rfl w.heap.size r B m pre rfl hmr hit hrb ?_ ?_)
   |gi_in)
  ·intro hp
   gi_wp2
   go_end0
   exact ⟨⟨_,rfl⟩,pre,hp,hj⟩
  ·intro t1 t2 v w3 hlen hmv hit3 hen
   obtain ⟨t,ht⟩:∃ t:Tm,t=(t1,t2):=⟨_,rfl⟩
   rw [← ht] at hit3 hen ⊢
   have hj3:=HJ.out _ _ _ hj hmv
   have hm3:MapAt w3 B m:=hmv.keep _ _ hmr (by simp)
   have hl:=leftIt_of hit
   have hsz3:=hmv.below.size
   obtain ⟨X,hX⟩:∃ X:ByteArray,X=⟨t.1.toArray⟩:=⟨_,rfl⟩
   obtain ⟨Y,hY⟩:∃ Y:ByteArray,Y=⟨t.2.toArray⟩:=⟨_,rfl⟩
   have htV:tV t= .agg #[.string X,.string Y]:=by rw [hX,hY];rfl
   rw [htV] at hen ⊢
   obtain ⟨w4,hw4⟩:∃ w4,w4=w3.alloc (.cells #[.string X,.string Y] 39):=⟨_,rfl⟩
   have hb4:Below w3.heap.size w3 w4:=by rw [hw4];exact (Below.refl _ _).alloc (Nat.le_refl _) _
   have hyy:=HY.out pre t w4 (HJ.out _ _ _ hj3 (MvIt.of hb4 (by omega))) hlen
   rw [show encT t=#[.agg #[.string X,.string Y]] by unfold encT;rw [htV]] at hyy
   obtain ⟨fn,tmps,assign,body,hy,hRR⟩:=hyy
   have hm4:MapAt w4 B m:=(hb4.block B (Array.getElem?_eq_some_iff.1 hm3).1).trans hm3
   have hit4:ItAt w4 r B m (pre++[t]):=by
    obtain ⟨seen,g1,g2,g3,g4⟩:=hit3
    exact ⟨seen,(hb4.block r (Array.getElem?_eq_some_iff.1 g1).1).trans g1,g2,g3,g4⟩
   have hs4:=hb4.size
   rw [hw4] at hy
   have HW4:=Lib.hid hw4
   have HIT4:=Lib.hid hit4
   have HM4:=Lib.hid hm4
   have HL:=Lib.hid hl
   clear hX hY htV hw4 hb4 hit4 hm4 hit hit3 hmr hm3 hmv hj hj3 hl
   gi_wp2
   rw [HW4.out] at hRR
   refine hRR.mono ?_
   rintro e W4 ⟨rfl,hJ4,hk4⟩
   have hrel:KeysRel b r B m W J W4:=by
    have hk5:KpIt b w4 W4:=by rw [HW4.out];exact hk4
    obtain ⟨seen,g1,g2,g3,g4⟩:=HIT4.out
    exact ⟨pre++[t],⟨seen,hk5.keep _ _ g1 (.inl ⟨_,_,_,_,rfl⟩),g2,g3,g4⟩,hk5.keep _ _ HM4.out (.inr ⟨_,_,rfl⟩),hJ4,by have :=hk5.below.size;omega⟩
   have hlt:leftIt r m.length W4<leftIt r m.length wr:=by
    have hk5:KpIt b w4 W4:=by rw [HW4.out];exact hk4
    obtain ⟨seen,g1,g2,g3,g4⟩:=HIT4.out
    have :ItAt W4 r B m (pre++[t]):=⟨seen,hk5.keep _ _ g1 (.inl ⟨_,_,_,_,rfl⟩),g2,g3,g4⟩
    rw [HL.out,leftIt_of this,List.length_append,List.length_singleton]
    omega
   have HRL:=Lib.hid hrel
   have HLT:=Lib.hid hlt
   clear hrel hlt hJ4 hk4 hy hRR
   gi_wp2
   go_roundw
   case rel=>exact HRL.out
   case measure=>exact HLT.out
end Go.Proofs.YtmoomnpbiifedaaGreat
set_option linter.unusedVariables false
namespace Go.Proofs.YtmoomnpbiifedaaGreat
open Go Go.RowKit
attribute [local go_sem] Oper.semAt_some
theorem KpIt.trans {b:Nat} {w w1 w2:World} (h:KpIt b w w1) (k:KpIt b w1 w2):KpIt b w w2:=⟨h.below.trans k.below,fun i o hi ho=>k.keep i o (h.keep i o hi ho) ho⟩
theorem KpIt.of {b:Nat} {w w1:World} (h:Below w.heap.size w w1) (hb:b≤w.heap.size):KpIt b w w1:=⟨h.mono hb,fun k o hk _=>(h.block k (Array.getElem?_eq_some_iff.1 hk).1).trans hk⟩
theorem KpIt.loop {b:Nat} (W:World) (l:Nat) (x:Loop) (o':Obj) (hl:b≤l) (h:W.heap[l]?=some (.loop x)):KpIt b W (W.putObj l o'):=by
 refine ⟨⟨rfl,rfl,rfl,by simp,fun k hk=>World.putObj_heap_other (by omega)⟩,fun k o hk ho=> ?_⟩
 rw [World.putObj_heap_other,hk]
 rintro rfl
 rw [h] at hk
 cases hk
 rcases ho with ⟨_,_,_,_,ho⟩|⟨_,_,ho⟩<;>cases ho
def TmVar (base B:Nat) (l:List Tm) (W:World):Prop:=∃ v,W.heap[B]?=some (.cells #[v] 136 (0,0))∧OwnTm base W v l
theorem own_cells {base:Nat} {w:World} {v:Value} {l:List Tm} (h:OwnTm base w v l) {k:Nat} {o:Obj} (hk:w.heap[k]?=some o) (ho:o.isCells=false):v.ownBlock≠some k:=by
 intro he
 rcases h.2 with ⟨rfl,_⟩|⟨g,cap,cur,rfl,_,hh,_⟩
 ·cases he
 ·simp only [Value.ownBlock,Option.some.injEq] at he
  subst he
  rw [hh] at hk
  cases hk
  cases ho
theorem TmVar.firm (N base B:Nat) (l:List Tm):FirmM N (TmVar base B l):=fun W k o o' _ ho hc ⟨v,h1,h2⟩=>by
 have hB:B≠k:=fun e=>by subst e;rw [h1] at ho;injection ho with ho;rw [← ho] at hc;cases hc
 exact ⟨v,(World.putObj_heap_other hB).trans h1,owned_keep h2 fun g hg=>World.putObj_heap_other fun e=>by subst e;exact own_cells h2 ho hc hg⟩
theorem TmVar.moved {base base' B:Nat} {l:List Tm} {w w':World} (h:TmVar base B l w) (hm:MvIt base' w w'):TmVar base B l w':=by
 obtain ⟨v,h1,h2⟩:=h
 refine ⟨v,hm.keep _ _ h1 (by simp),owned_keep h2 fun g hg=> ?_⟩
 rcases h2.2 with ⟨rfl,_⟩|⟨g',cap,cur,rfl,_,hh,_⟩
 ·cases hg
 ·simp only [Value.ownBlock,Option.some.injEq] at hg
  subst hg
  rw [hm.keep _ _ hh (by simp),hh]
theorem Below.firm {b N:Nat} {w:World} (hb:b≤N):FirmM N (fun W=>Below b w W):=fun W l o o' hl _ _ h=>h.trans ⟨rfl,rfl,rfl,by simp,fun k hk=>World.putObj_heap_other (by omega)⟩
def CollIn (w:World) (pre:List Tm) (W:World):Prop:=TmVar w.heap.size w.heap.size pre W∧Below w.heap.size w W∧pre.length≤134217728
def CollAx (f:Value) (w:World) (x:Tm) (a:Act) (W:World):Prop:=∃ Bx,W.heap[Bx]?=some (.cells #[.string ⟨x.1.toArray⟩,.string ⟨x.2.toArray⟩] 39 (0,0))∧a={tmps:=#[.slice none 0 0,f,.pointer (some ⟨w.heap.size,0,none⟩),undef,.slice none 0 0,.pointer (some ⟨Bx,0,none⟩),f,.agg #[.string ⟨x.1.toArray⟩,.string ⟨x.2.toArray⟩],undef,undef,undef,undef,undef],defers:=[]}
def GotKeys (ks:List Tm) (w:World) (e:Ending) (w':World):Prop:=∃ v ts,e= .returned v∧ts.Perm ks∧OwnTm w.heap.size w' v ts∧Below w.heap.size w w'
set_option maxHeartbeats 8000000 in
set_option maxRecDepth 100000 in
theorem keys_append (Bx B:Nat) (m:List Ent) (w:World) (hm:MapAt w B m) (hc:w.cell? ⟨Bx,0,none⟩=some (.map (some B))) (hl:m.length≤134217727):
  Calls Tryz.prog 176 #[.slice none 0 0,.func (.func 156) #[] #[.pointer (some ⟨Bx,0,none⟩)]] w (GotKeys (m.map (·.1)) w):=by
 obtain ⟨i0,hi0,hz0,hz1,hz2⟩:=info_parts info_term
 refine (callsIn_wide (n:=6)).1 ?_
 obtain ⟨w2,hw2⟩:∃ w2,w2=w.alloc (.cells #[.slice none 0 0] 136):=⟨_,rfl⟩
 have hb2:Below w.heap.size w w2:=by rw [hw2];exact (Below.refl _ _).alloc (Nat.le_refl _) _
 have hm2:MapAt w2 B m:=(hb2.block B (Array.getElem?_eq_some_iff.1 hm).1).trans hm
 have hc2:=(hb2.cell (p:=⟨Bx,0,none⟩) (World.block_lt_of_cell? w _ hc)).trans hc
 have hv2:TmVar w.heap.size w.heap.size [] w2:=⟨_,by rw [hw2];exact heap_alloc_new w _,OwnTm.nil⟩
 have hs2:w2.heap.size=w.heap.size+1:=by rw [hw2];simp
 have HT:=Lib.hid (keys_moved 5 w.heap.size Bx B m w2 (by omega) hb2.size hm2 hc2)
 have HW2:=Lib.hid hw2
 have HB2:=Lib.hid hb2
 have HV2:=Lib.hid hv2
 clear hw2 hb2 hm2 hc2 hv2 hm hc
 refine callsIn_of_wp_marks Tryz.func176 rfl trivial ?_ rfl
 simp only [Tryz.ntmps176,List.size_toArray,List.length_cons,List.length_nil,Nat.reduceAdd,Nat.reduceSub,Array.replicate_succ,Array.replicate_zero,List.push_toArray,List.append_toArray,List.nil_append,List.cons_append]
 gi_wp2
 rw [← HW2.out]
 refine wpIn_range_moved (by omega) (gf:=156) (lb:=#[.pointer (some ⟨Bx,0,none⟩)]) rfl (enters_of Tryz.func156 (by kernel_rfl) rfl)
  HT.out (fun hb=>MvIt.of hb (Nat.le_refl _)) (fun {A B k o} hk hmv ho hnc=>hmv.keep _ _ ho (by rcases hnc with ⟨x,rfl⟩|⟨x,rfl⟩<;>simp))
  (fun h k=>h.trans k) (fun W lp x o' hlp ho=>KpIt.loop W lp x o' (by omega) ho) (fun _=>rfl)
  (CollIn w) (fun s A' B' h hmv=>⟨h.1.moved hmv,h.2.1.trans (hmv.below.mono (by omega)),h.2.2⟩)
  (fun s=>fun W l o o' h1 h2 h3 h=>⟨TmVar.firm _ _ _ _ W l o o' h1 h2 h3 h.1,Below.firm (by omega) W l o o' h1 h2 h3 h.2.1,h.2.2⟩)
  (fun s x W l o o' _ _ _ h=>h) ⟨HV2.out,HB2.out,by simp⟩
  (CollAx (.func (.func 156) #[] #[.pointer (some ⟨Bx,0,none⟩)]) w) (fun x a' W l o o' _ ho hc h=> ?hAx) ?assign ?body ?done
 case hAx=>
  obtain ⟨Bx',h1,h2⟩:=h
  exact ⟨Bx',(World.putObj_heap_other fun e=>by subst e;rw [h1] at ho;injection ho with ho;rw [← ho] at hc;cases hc).trans h1,h2⟩
 case assign=>
  intro lp pre x W K' hi hx hK'
  unfold encT tV
  have hb:Below W.heap.size W (W.alloc (.cells #[.string ⟨x.1.toArray⟩,.string ⟨x.2.toArray⟩] 39)):=(Below.refl _ _).alloc (Nat.le_refl _) _
  have hsz:=hi.2.1.size
  have hi2:CollIn w pre (W.alloc (.cells #[.string ⟨x.1.toArray⟩,.string ⟨x.2.toArray⟩] 39)):=⟨hi.1.moved (MvIt.of hb (Nat.le_refl _)),hi.2.1.trans (hb.mono hsz),hi.2.2⟩
  have HI:=Lib.hid hi2
  have HB:=Lib.hid hb
  clear hi hi2 hb
  gi_wp2
  exact hK' _ _ ⟨W.heap.size,heap_alloc_new _ _,rfl⟩ HI.out hx HB.out (KpIt.of HB.out hsz)
 case body=>
  rintro lp pre x a' W ⟨Bt,hx,rfl⟩ ⟨⟨v,hv,hown⟩,hbw,hpl⟩ hlt
  obtain ⟨X,hX⟩:∃ X:ByteArray,X=⟨x.1.toArray⟩:=⟨_,rfl⟩
  obtain ⟨Y,hY⟩:∃ Y:ByteArray,Y=⟨x.2.toArray⟩:=⟨_,rfl⟩
  rw [← hX,← hY] at hx ⊢
  have hfl:flds [x]=[.string X,.string Y]:=by rw [hX,hY];rfl
  obtain ⟨cx0,cx1⟩:W.cell? ⟨Bt,0,none⟩=some (.string X)∧W.cell? ⟨Bt,1,none⟩=some (.string Y):=⟨by simp [World.cell?,hx],by simp [World.cell?,hx]⟩
  have cB:=cell_of_one hv
  have fB:=free_of_one hv
  have hsz:=hbw.size
  have hlB:=lt_of_block hv
  obtain ⟨k,hk⟩:∃ k,k=pre.length:=⟨_,rfl⟩
  have ho1:W.ownsRow w.heap.size 39 2 v k (flds pre):=by rw [hk];exact hown
  have hkl:k≤134217727:=by omega
  have HO:=Lib.hid ho1
  have HOW:=Lib.hid hown
  have HV:=Lib.hid hv
  have HBW:=Lib.hid hbw
  have HK:=Lib.hid hk
  have HFL:=Lib.hid hfl
  have HLT:=Lib.hid hlt
  clear hv hown hbw ho1 hk hfl hX hY hlt hpl hx
  gi_wp2_with (gi_at_builtin;refine wpListIn_append_own _ rfl (.tmp 8) (.tmp 10) 136 rfl w.heap.size 39 i0 _ 2 32 Tryz.underlying136 hi0 hz0 hz1 hz2 rfl (by omega) _ k (flds pre) rfl (HO.out.alloc _) ⟨W.heap.size,0,none⟩ 1 1 [.string X,.string Y] rfl rfl (news_at W [.string X,.string Y] 39) (by intro u hu;simp at hu;rcases hu with rfl|rfl<;>rfl) (by unfold maxLen;omega) (by omega) (by simp;omega) ?_)
  intro v' w4 hown4 hgrow4 hz4
  clear hz4
  obtain ⟨g',cap',hv',_,_⟩:=hown4.form (by omega)
  have hne:=owned_apart HOW.out HV.out (by decide)
  have hal:Below W.heap.size W (W.alloc (.cells #[.string X,.string Y] 39)):=(Below.refl _ _).alloc (Nat.le_refl _) _
  have hv4:w4.heap[w.heap.size]?=some (.cells #[v] 136 (0,0)):=(hgrow4.block _ (by simp;omega) (fun e=>hne e.symm)).trans ((hal.block _ hlB).trans HV.out)
  have cB4:=cell_of_one hv4
  have fB4:=free_of_one hv4
  have hne':=owned_apart hown4 hv4 (by decide)
  have hs4:W.heap.size≤w4.heap.size:=Nat.le_trans hal.size hgrow4.size
  have hkeep:∀ (j:Nat),j<W.heap.size→j≠w.heap.size→v.ownBlock≠some j→(w4.setCell ⟨w.heap.size,0,none⟩ v').heap[j]?=W.heap[j]?:=fun j h1 h2 h3=>by
   rw [Below.heap_setCell _ _ _ _ h2,hgrow4.block j (Nat.lt_of_lt_of_le h1 hal.size) (fun e=>h3 e.symm),hal.block j h1]
  have hnc:∀ (j:Nat) (o:Obj),W.heap[j]?=some o→o.isCells=false→(w4.setCell ⟨w.heap.size,0,none⟩ v').heap[j]?=some o:=fun j o h1 h2=>by
   rw [hkeep j (Array.getElem?_eq_some_iff.1 h1).1 (fun e=> ?_) (own_cells HOW.out h1 h2),h1]
   subst e
   have :=HV.out
   rw [this] at h1
   injection h1 with h1
   rw [← h1] at h2
   cases h2
  have hbl:Below w.heap.size W (w4.setCell ⟨w.heap.size,0,none⟩ v'):=⟨hgrow4.os,hgrow4.tape,hgrow4.output,by simpa using hs4,fun j hj=>hkeep j (by omega) (by omega) (fun e=>by have :=(HO.out.lt j e).1;omega)⟩
  have hin:CollIn w (pre++[x]) (w4.setCell ⟨w.heap.size,0,none⟩ v'):=by
   refine ⟨⟨v',one_setCell hv4,?_⟩,HBW.out.trans hbl,by rw [List.length_append,List.length_singleton,← HK.out];omega⟩
   have :=ownsRow_setCell_other hown4 (show v'.ownBlock≠some (⟨w.heap.size,0,none⟩:Addr).block from hne') v'
   unfold OwnTm
   rw [List.length_append,List.length_singleton,← HK.out,flds_append,HFL.out]
   exact this
  have HKO:Hid (KeepsOthers W (w4.setCell ⟨w.heap.size,0,none⟩ v')):=Lib.hid ⟨by simpa using hs4,hnc⟩
  have HKP:Hid (KpIt w.heap.size W (w4.setCell ⟨w.heap.size,0,none⟩ v')):=Lib.hid ⟨hbl,fun j o h1 h2=>hnc j o h1 (by rcases h2 with ⟨_,_,_,_,rfl⟩|⟨_,_,rfl⟩<;>rfl)⟩
  have HIN:=Lib.hid hin
  subst hv'
  clear hkeep hnc hbl hin hne hne' hal hv4 hgrow4 hown4
  gi_wp2
  exact ⟨HKO.out,HKP.out,HIN.out⟩
 case done=>
  rintro D' ys W hD2 hys ⟨⟨v,hv,hown⟩,hbw,_⟩ hK'
  have cB:=cell_of_one hv
  have HO:=Lib.hid hown
  have HBW:=Lib.hid hbw
  have HV:=Lib.hid hv
  have HYS:=Lib.hid hys
  clear hys hown hbw hv
  gi_wp2
  refine ⟨by simp,.inl ⟨_,_,rfl,run_takeDeferred hK',?_⟩⟩
  refine ⟨_,results_tmp rfl _ _ _,?_⟩
  refine ⟨v,ys,rfl,HYS.out,owned_keep HO.out fun g hg=>World.putObj_heap_other fun e=> ?_,Below.firm (by omega) W D' _ (.deferred none) hD2 hK' rfl HBW.out⟩
  subst e
  exact own_cells HO.out hK' rfl hg
end Go.Proofs.YtmoomnpbiifedaaGreat
set_option linter.unusedVariables false
namespace Go.Proofs.YtmoomnpbiifedaaGreat
open Go Go.RowKit
theorem gtr_str (t:TypeId) (a b:ByteArray):binOp .gtr t (.string a) (.string b)=pure (.bool !(Op.bytesLess a.toList b.toList || a.toList==b.toList)):=by simp [binOp,Op.stringOp]
attribute [local go_sem] gtr_str
theorem is_nan8 (s:ByteArray) (w:World):Calls Tryz.prog 157 #[.string s] w fun e w'=>e= .returned (.bool false)∧w=w':=by
 go_enter Tryz.func157,Tryz.ntmps157
 go_wp2
 go_ret
 exact ⟨by simp,rfl⟩
set_option maxHeartbeats 1000000 in
theorem cmp_compare8 (x y:ByteArray) (w:World):Calls Tryz.prog 139 #[.string x,.string y] w fun e w'=>e= .returned (.int .i64 (cmpN x.data.toList y.data.toList))∧w=w':=by
 have e1:Op.bytesLess x.toList y.toList=decide (x.data.toList<y.data.toList):=by rw [Lib.toList_data,Lib.toList_data,less_of]
 have e2:(x.toList==y.toList)=decide (x.data.toList=y.data.toList):=by rw [Lib.toList_data,Lib.toList_data,Bool.eq_iff_iff];simp
 by_cases h1:x.data.toList<y.data.toList
 ·have hc:cmpN x.data.toList y.data.toList= -1:=by simp [cmpN,h1]
  rw [decide_eq_true h1] at e1
  rw [hc]
  clear e2 hc h1
  go_enter Tryz.func139,Tryz.ntmps139
  go_wp2_with (go_at_call 157;refine (is_nan8 _ _).mono ?_;rintro e w' ⟨rfl,rfl⟩)
  go_ret
  exact ⟨rfl,rfl⟩
 ·rw [decide_eq_false h1] at e1
  by_cases h2:x.data.toList=y.data.toList
  ·have hc:cmpN x.data.toList y.data.toList=0:=by simp [cmpN,h2]
   rw [decide_eq_true h2] at e2
   rw [hc]
   clear hc h1 h2
   go_enter Tryz.func139,Tryz.ntmps139
   go_wp2_with (go_at_call 157;refine (is_nan8 _ _).mono ?_;rintro e w' ⟨rfl,rfl⟩)
   go_ret
   exact ⟨rfl,rfl⟩
  ·have hc:cmpN x.data.toList y.data.toList=1:=by simp [cmpN,h1,h2]
   rw [decide_eq_false h2] at e2
   rw [hc]
   clear hc h1 h2
   go_enter Tryz.func139,Tryz.ntmps139
   go_wp2_with (go_at_call 157;refine (is_nan8 _ _).mono ?_;rintro e w' ⟨rfl,rfl⟩)
   go_ret
   exact ⟨rfl,rfl⟩
open Go.Sort
def Grew (w w':World):Prop:=∃ q os,w'=grow (w.drewN q) os
theorem Grew.alloc {w w':World} (h:Grew w w') (o:Obj):Grew w (w'.alloc o):=by
 obtain ⟨q,os,rfl⟩:=h
 exact ⟨q,os++#[o],by rw [alloc_eq_grow,grow_grow]⟩
theorem Grew.refl (w:World):Grew w w:=⟨0,#[],by rw [grow_empty];rfl⟩
theorem Grew.trans {w w1 w2:World} (h:Grew w w1) (k:Grew w1 w2):Grew w w2:=by
 obtain ⟨q,os,rfl⟩:=h
 obtain ⟨q2,os2,rfl⟩:=k
 refine ⟨q+q2,os++os2,?_⟩
 rw [← grow_grow]
 congr 1
 show grow ((w.drewN q).drewN q2) os=_
 congr 1
 exact World.drewN_drewN w q q2
theorem Grew.drew {w w':World} (h:Grew w w'):Grew w w'.drew:=h.trans ⟨1,#[],by rw [grow_empty];rfl⟩
theorem Grew.below {w w':World} (h:Grew w w'):Below w.heap.size w w':=by
 obtain ⟨q,os,rfl⟩:=h
 exact ⟨rfl,rfl,rfl,by simp [grow],fun k hk=>heap_grow_old _ _ hk⟩
set_option maxHeartbeats 1000000 in
theorem word_Key_at (f g:ByteArray) (w:World) (hf:f.size≤140737488355328) (hg:g.size≤140737488355328):
  Calls Tryz.prog 75 #[.agg #[.string f,.string g]] w fun e w'=>e= .returned (.string (keyB f g))∧Grew w w':=by
 go_enter Tryz.func75,Tryz.ntmps75
 go_wp2
 go_ret
 exact ⟨rfl,(Grew.refl w).alloc _⟩
set_option maxHeartbeats 4000000 in
set_option maxRecDepth 100000 in
theorem invert_cmp (a b c d:ByteArray) (w:World) (ha:a.size≤1073741824) (hb:b.size≤1073741824) (hc:c.size≤1073741824) (hd:d.size≤1073741824):
    Calls Tryz.prog 138 #[.agg #[.string a,.string b],.agg #[.string c,.string d]] w fun e w'=>e= .returned (.int .i64 (cmpN (keyL a.data.toList b.data.toList) (keyL c.data.toList d.data.toList)))∧Grew w w':=by
  obtain ⟨w1,hw1⟩:∃ w1,w1=(w.alloc (.cells #[.string a,.string b] 39)).alloc (.cells #[.string c,.string d] 39):=⟨_,rfl⟩
  have hg1:Grew w w1:=by rw [hw1];exact ((Grew.refl w).alloc _).alloc _
  have hcell:∀ w',Below w1.heap.size w1 w'→w'.cell? ⟨w.heap.size,0,none⟩=some (.string a)∧w'.cell? ⟨w.heap.size,1,none⟩=some (.string b)∧w'.cell? ⟨w.heap.size+1,0,none⟩=some (.string c)∧w'.cell? ⟨w.heap.size+1,1,none⟩=some (.string d):=fun w' h=>by
    have hs1:w1.heap.size=w.heap.size+2:=by rw [hw1];simp
    have h0:w1.heap[w.heap.size]?=some (.cells #[.string a,.string b] 39 (0,0)):=by rw [hw1,Below.heap_alloc _ _ _ (by simp)];exact heap_alloc_new _ _
    have h1:w1.heap[w.heap.size+1]?=some (.cells #[.string c,.string d] 39 (0,0)):=by
      rw [hw1]
      have :=heap_alloc_new (w.alloc (.cells #[.string a,.string b] 39)) (.cells #[.string c,.string d] 39)
      rwa [World.size_alloc] at this
    have h0':=(h.block _ (by omega)).trans h0
    have h1':=(h.block _ (by omega)).trans h1
    exact ⟨by simp [World.cell?,h0'],by simp [World.cell?,h0'],by simp [World.cell?,h1'],by simp [World.cell?,h1']⟩
  have hk1:=fun w'=>word_Key_at a b w' (by omega) (by omega)
  have hk2:=fun w'=>word_Key_at c d w' (by omega) (by omega)
  have hcmp:=fun w'=>cmp_compare8 (keyB a b) (keyB c d) w'
  rw [keyB_list,keyB_list] at hcmp
  obtain ⟨K1,hK1⟩:∃ K1,K1=keyB a b:=⟨_,rfl⟩
  obtain ⟨K2,hK2⟩:∃ K2,K2=keyB c d:=⟨_,rfl⟩
  obtain ⟨R,hR⟩:∃ R,R=cmpN (keyL a.data.toList b.data.toList) (keyL c.data.toList d.data.toList):=⟨_,rfl⟩
  rw [← hK1] at hk1 hcmp
  rw [← hK2] at hk2 hcmp
  rw [← hR] at hcmp ⊢
  have HG1:=Lib.hid hg1
  have HC:=Lib.hid hcell
  have HK1:=Lib.hid hk1
  have HK2:=Lib.hid hk2
  have HCM:=Lib.hid hcmp
  have HW1:=Lib.hid hw1
  clear hw1 hg1 hcell hk1 hk2 hcmp hK1 hK2 hR
  go_enter Tryz.func138,Tryz.ntmps138
  go_wp2
  rw [show (w.alloc _).alloc _=w1 from HW1.out.symm]
  have hst:Grew w1 w1.drew:=(Grew.refl w1).drew
  have HST:Hid (Grew w1 w1.drew):=Lib.hid hst
  clear hst
  go_region_held3 (fun w'=>(w'.cell? ⟨w.heap.size,0,none⟩=some (.string a)∧w'.cell? ⟨w.heap.size,1,none⟩=some (.string b)∧w'.cell? ⟨w.heap.size+1,0,none⟩=some (.string c)∧w'.cell? ⟨w.heap.size+1,1,none⟩=some (.string d))∧Grew w1 w')
    (first|exact ⟨HC.out _ HST.out.below,HST.out⟩|exact ⟨HC.out _ HG4.out.below,HG4.out⟩|exact ⟨HC.out _ HG5.out.below,HG5.out⟩)
    (first
      | (go_at_call 75; (with_reducible refine (HK1.out _).mono ?_); rintro e w4 ⟨rfl, hg4⟩
         have HG4:Hid (Grew w1 w4):=Lib.hid (HST.out.trans hg4))
      | (go_at_call 75; (with_reducible refine (HK2.out _).mono ?_); rintro e w5 ⟨rfl, hg5⟩
         have HG5:Hid (Grew w1 w5):=Lib.hid (HG4.out.trans hg5))
      |(go_at_call 139;(with_reducible refine (HCM.out _).mono ?_);rintro e w6 ⟨rfl,rfl⟩))
  all_goals
    go_wp2
    go_ret
    exact ⟨rfl,HG1.out.trans HG5.out⟩
end Go.Proofs.YtmoomnpbiifedaaGreat
set_option linter.unusedVariables false
namespace Go.Proofs.YtmoomnpbiifedaaGreat
open Go.Shelf Go.RowKit
def laySortTm_ren:Go.Shelf.Ren:=⟨fun |6=>155|14=>177|15=>144|20=>189|21=>190|22=>191|23=>192|24=>193|25=>194|26=>195|27=>196|28=>170|29=>171|46=>205|47=>184|48=>185|49=>206|50=>207|57=>210|n=>n,fun |0=>0|3=>3|4=>4|5=>5|9=>9|22=>136|24=>39|25=>199|39=>157|45=>216|46=>217|50=>109|53=>224|55=>226|66=>236|70=>240|76=>258|77=>231|n=>n,fun |n=>n⟩
theorem laySortTm:SlLaysF0.n6 Tryz.prog laySortTm_ren:={
 mixed:=by kernel_rfl
 f6:=⟨Tryz.f155.name,by kernel_rfl,Tryz.func155.trans (congrArg some (by kernel_rfl))⟩
 f14:=⟨Tryz.f177.name,by kernel_rfl,Tryz.func177.trans (congrArg some (by kernel_rfl))⟩
 f15:=Tryz.func144.trans (congrArg some (by kernel_rfl))
 f20:=⟨Tryz.f189.name,by kernel_rfl,Tryz.func189.trans (congrArg some (by kernel_rfl))⟩
 f21:=⟨Tryz.f190.name,by kernel_rfl,Tryz.func190.trans (congrArg some (by kernel_rfl))⟩
 f22:=⟨Tryz.f191.name,by kernel_rfl,Tryz.func191.trans (congrArg some (by kernel_rfl))⟩
 f23:=⟨Tryz.f192.name,by kernel_rfl,Tryz.func192.trans (congrArg some (by kernel_rfl))⟩
 f24:=⟨Tryz.f193.name,by kernel_rfl,Tryz.func193.trans (congrArg some (by kernel_rfl))⟩
 f25:=⟨Tryz.f194.name,by kernel_rfl,Tryz.func194.trans (congrArg some (by kernel_rfl))⟩
 f26:=⟨Tryz.f195.name,by kernel_rfl,Tryz.func195.trans (congrArg some (by kernel_rfl))⟩
 f27:=⟨Tryz.f196.name,by kernel_rfl,Tryz.func196.trans (congrArg some (by kernel_rfl))⟩
 f28:=Tryz.func170.trans (congrArg some (by kernel_rfl))
 f29:=Tryz.func171.trans (congrArg some (by kernel_rfl))
 f46:=⟨Tryz.f205.name,by kernel_rfl,Tryz.func205.trans (congrArg some (by kernel_rfl))⟩
 f47:=Tryz.func184.trans (congrArg some (by kernel_rfl))
 f48:=Tryz.func185.trans (congrArg some (by kernel_rfl))
 f49:=⟨Tryz.f206.name,by kernel_rfl,Tryz.func206.trans (congrArg some (by kernel_rfl))⟩
 f50:=⟨Tryz.f207.name,by kernel_rfl,Tryz.func207.trans (congrArg some (by kernel_rfl))⟩
 f57:=⟨Tryz.f210.name,by kernel_rfl,Tryz.func210.trans (congrArg some (by kernel_rfl))⟩
 t0:=Tryz.underlying0
 a0:=Tryz.isAgg0
 z0:=Tryz.sizeOf0
 v0:=Tryz.zeroValue0
 t3:=Tryz.underlying3
 a3:=Tryz.isAgg3
 z3:=Tryz.sizeOf3
 v3:=Tryz.zeroValue3
 t4:=Tryz.underlying4
 a4:=Tryz.isAgg4
 z4:=Tryz.sizeOf4
 v4:=Tryz.zeroValue4
 t5:=Tryz.underlying5
 a5:=Tryz.isAgg5
 z5:=Tryz.sizeOf5
 v5:=Tryz.zeroValue5
 t9:=Tryz.underlying9
 a9:=Tryz.isAgg9
 z9:=Tryz.sizeOf9
 v9:=Tryz.zeroValue9
 t22:=Tryz.underlying136
 a22:=Tryz.isAgg136
 z22:=Tryz.sizeOf136
 v22:=Tryz.zeroValue136
 t25:=Tryz.underlying199
 a25:=Tryz.isAgg199
 z25:=Tryz.sizeOf199
 v25:=Tryz.zeroValue199
 t39:=Tryz.underlying157
 a39:=Tryz.isAgg157
 z39:=Tryz.sizeOf157
 v39:=Tryz.zeroValue157
 t45:=Tryz.underlying216
 a45:=Tryz.isAgg216
 z45:=Tryz.sizeOf216
 v45:=Tryz.zeroValue216
 t46:=Tryz.underlying217
 a46:=Tryz.isAgg217
 z46:=Tryz.sizeOf217
 v46:=Tryz.zeroValue217
 t50:=Tryz.underlying109
 a50:=Tryz.isAgg109
 z50:=Tryz.sizeOf109
 v50:=Tryz.zeroValue109
 t53:=Tryz.underlying224
 a53:=Tryz.isAgg224
 z53:=Tryz.sizeOf224
 v53:=Tryz.zeroValue224
 t55:=Tryz.underlying226
 a55:=Tryz.isAgg226
 z55:=Tryz.sizeOf226
 v55:=Tryz.zeroValue226
 t66:=Tryz.underlying236
 a66:=Tryz.isAgg236
 z66:=Tryz.sizeOf236
 v66:=Tryz.zeroValue236
 t70:=Tryz.underlying240
 a70:=Tryz.isAgg240
 z70:=Tryz.sizeOf240
 v70:=Tryz.zeroValue240
 t76:=Tryz.underlying258
 a76:=Tryz.isAgg258
 z76:=Tryz.sizeOf258
 v76:=Tryz.zeroValue258
 t77:=Tryz.underlying231
 a77:=Tryz.isAgg231
 z77:=Tryz.sizeOf231
 v77:=Tryz.zeroValue231}
end Go.Proofs.YtmoomnpbiifedaaGreat
set_option linter.unusedVariables false
namespace Go.Proofs.YtmoomnpbiifedaaGreat
open Go Go.RowKit Go.Sort Go.Shelf
abbrev Tm':={t:Tm//t.1.length≤536870912∧t.2.length≤536870912}
instance:Inhabited Tm':=⟨⟨([],[]),by simp,by simp⟩⟩
def encS (x:Tm'):List Value:=[.string ⟨x.1.1.toArray⟩,.string ⟨x.1.2.toArray⟩]
def cfS (x y:Tm'):Int:=cmpN (keyT x.1) (keyT y.1)
theorem cmpN_neg {x y:Nm}:cmpN x y<0↔x<y:=by
 unfold cmpN
 by_cases h:x<y
 ·simp [h]
 ·rw [if_neg h]
  split<;>simp [h]
theorem ltS_iff (x y:Tm'):ltOf cfS x y=decide (keyT x.1<keyT y.1):=by
 unfold ltOf cfS
 rw [Bool.eq_iff_iff,decide_eq_true_iff,decide_eq_true_iff]
 exact cmpN_neg
theorem swoS:SWO (ltOf cfS):=by
 refine ⟨fun x=> ?_,fun x y z h1 h2=> ?_,fun x y z h1 h2=> ?_⟩
 ·rw [ltS_iff];simp
 ·rw [ltS_iff,decide_eq_true_iff] at*;exact nm_trans h1 h2
 ·rw [ltS_iff,decide_eq_false_iff_not] at*
  intro h3
  rcases nm_tri (keyT x.1) (keyT y.1) with e|e|e
  ·exact h1 e
  ·rw [e] at h3;exact h2 h3
  ·exact h2 (nm_trans e h3)
theorem cmp_lays (blk off size:Nat) (w:World):CmpLays Tryz.prog 138 #[] encS 2 cfS blk off size w:=by
 intro m os dk hs x y
 obtain ⟨⟨x1,x2⟩,hx1,hx2⟩:=x
 obtain ⟨⟨y1,y2⟩,hy1,hy2⟩:=y
 have sz:∀ l:Nm,(⟨l.toArray⟩:ByteArray).size=l.length:=fun l=>by simp [ByteArray.size]
 have h:=invert_cmp ⟨x1.toArray⟩ ⟨x2.toArray⟩ ⟨y1.toArray⟩ ⟨y2.toArray⟩ (sortWorldK encS 2 w blk off m dk os) (by rw [sz];simp at hx1;omega) (by rw [sz];simp at hx2;omega) (by rw [sz];simp at hy1;omega) (by rw [sz];simp at hy2;omega)
 exact h
theorem flatK_list (ts:List Tm'):(flatK encS 2 ts.toArray).toList=flds (ts.map (·.1)):=by
 apply List.ext_getElem?
 intro j
 have hsz:(flatK encS 2 ts.toArray).toList.length=ts.length*2:=by rw [Array.length_toList,size_flatK];simp
 have hf:(flds (ts.map (·.1))).length=ts.length*2:=by rw [flds_length,List.length_map]
 by_cases hj:j<ts.length*2
 ·have h1:=get_flatK encS 2 ts.toArray j (by simpa using hj)
  have hk:j/2<ts.length:=by omega
  obtain ⟨g1,g2⟩:=flds_at (l:=ts.map (·.1)) (k:=j/2) (by simpa using hk)
  have hgd:ts.toArray[j/2]! =ts[j/2]:=by rw [getElem!_pos _ _ (by simpa using hk)];simp
  rw [hgd] at h1
  rw [List.getElem?_eq_getElem (by omega)]
  have h2:(flatK encS 2 ts.toArray).toList[j]'(by omega)=(flatK encS 2 ts.toArray)[j]! :=by
   rw [getElem!_pos _ _ (by rw [size_flatK];simpa using hj)];simp
  rw [h2,h1]
  rcases Nat.mod_two_eq_zero_or_one j with e|e
  ·have e3:(flds (ts.map (·.1)))[j]?=(flds (ts.map (·.1)))[j/2*2]?:=congrArg (fun k=>(flds (ts.map (·.1)))[k]?) (by omega)
   rw [e3,g1,e]
   simp [encS]
  ·have e3:(flds (ts.map (·.1)))[j]?=(flds (ts.map (·.1)))[j/2*2+1]?:=congrArg (fun k=>(flds (ts.map (·.1)))[k]?) (by omega)
   rw [e3,g2,e]
   simp [encS]
 ·rw [List.getElem?_eq_none (by omega),List.getElem?_eq_none (by omega)]
theorem heap_rowK {w:World} {g n:Nat} {os:Array Obj} {cur:Array Value} {e:TypeId} {fr:Nat × Nat} (F:Array Value) (hb:w.heap[g]?=some (.cells cur e fr)):
  (grow (putRow id (Sort.ahead w n) g 0 F) os).heap[g]?=some (.cells (putCells id 0 F cur) e fr):=by
 have hg:g<w.heap.size:=(Array.getElem?_eq_some_iff.1 hb).1
 rw [heap_grow_old _ _ (by simpa using hg)]
 simp [putRow,mapBlock,Sort.ahead,Array.getElem?_modify,hb,onCells]
theorem grown_rowK {w:World} {g n:Nat} {os:Array Obj} (F:Array Value):w.grownBy (grow (putRow id (Sort.ahead w n) g 0 F) os) (some g):=by
 refine ⟨rfl,rfl,rfl,by simp,fun k hk hne=> ?_⟩
 rw [heap_grow_old _ _ (by simpa using hk)]
 have :g≠k:=fun e=>hne (by rw [e])
 simp [putRow,mapBlock,Sort.ahead,Array.getElem?_modify,this]
theorem take_rowK (cur F:Array Value) (h:F.size≤cur.size):(putCells id 0 F cur).toList.take F.size=F.toList:=by
 apply List.ext_getElem?
 intro j
 by_cases hj:j<F.size
 ·rw [List.getElem?_take_of_lt hj,Array.getElem?_toList]
  simp [putCells,hj,show j<cur.size by omega]
 ·rw [List.getElem?_take_eq_none (by omega),List.getElem?_eq_none (by simp;omega)]
theorem sort_tm (base:Nat) (v:Value) (ts:List Tm) (w:World) (ho:OwnTm base w v ts) (hb:base≤w.heap.size) (hf:∀ t∈ts,t.1.length≤536870912∧t.2.length≤536870912) (hbig:ts.length≤1073741824):
  Calls Tryz.prog 155 #[v,.func (.func 138) #[] #[]] w fun e w'=>e= .returned (.tuple #[])∧∃ ts':List Tm,ts'.Perm ts∧(ts'.Pairwise fun s t=>¬ keyT t<keyT s)∧OwnTm base w' v ts'∧Below base w w':=by
 rcases ho.2 with ⟨rfl,h0⟩|⟨g,cap,cur,rfl,hbase,hh,h1,h2,h3,h4⟩
 ·obtain rfl:ts=[]:=List.eq_nil_of_length_eq_zero h0
  exact (AnyF.slices_SortFunc_none (ρ:=laySortTm_ren) laySortTm none 0 _ w).mono fun e w' ⟨he,hw⟩=>⟨he,[],List.Perm.refl _,List.Pairwise.nil,by rw [hw];exact OwnTm.nil,by rw [hw];exact Below.refl _ _⟩
 ·obtain ⟨us,hus⟩:∃ us:List Tm',us.map (·.1)=ts:=⟨ts.attach.map fun x=>⟨x.1,hf x.1 x.2⟩,by rw [List.map_map];exact List.attach_map_subtype_val ts⟩
  have hul:us.length=ts.length:=by rw [← hus,List.length_map]
  have hH:HoldsK encS 2 w g 0 us.toArray:=by
   unfold HoldsK
   intro j hj
   rw [size_flatK] at hj
   have hj':j<ts.length*2:=by simpa [hul] using hj
   refine ⟨?_,by simp [World.frozen?,hh]⟩
   have e1:(flatK encS 2 us.toArray)[j]?=(flds ts)[j]?:=by rw [← Array.getElem?_toList,flatK_list,hus]
   have e2:(flds ts)[j]?=cur[j]?:=by
    rw [← h4,List.getElem?_take_of_lt hj',Array.getElem?_toList]
   have e3:(flatK encS 2 us.toArray)[j]?=some (flatK encS 2 us.toArray)[j]! :=by rw [getElem!_pos _ _ (by rw [size_flatK];exact hj),Array.getElem?_eq_getElem]
   simp only [World.cell?,hh,Nat.zero_add,Option.isSome_none,Bool.false_eq_true,if_false,id]
   rw [← e3,e1,e2]
  have hsort:=AnyQ.slices_SortFunc (ρ:=laySortTm_ren) laySortTm 2 Tryz.isAgg39 Tryz.sizeOf39 encS (fun _=>rfl) (fun x u hu=>by simp [encS] at hu;rcases hu with rfl|rfl<;>rfl) cfS swoS 138 #[] g 0 cap us.toArray w (enters_of Tryz.func138 (by kernel_rfl) rfl) (cmp_lays _ _ _ _) hH (Array.getElem?_eq_some_iff.1 hh).1 (by simp [hul];omega)
  rw [show us.toArray.size=ts.length by simp [hul]] at hsort
  refine hsort.mono fun e w' ⟨he,d',n,os,hp,hs,hw⟩=>⟨he,d'.toList.map (·.1),?_,?_,?_,?_⟩
  ·obtain ⟨p1,p2,p3⟩:=hp
   have q1:d'.size=ts.length:=by rw [p1];simp [hul]
   rw [show d'.extract 0 ts.length=d' by rw [← q1];simp,show us.toArray.extract 0 ts.length=us.toArray by rw [← hul];simp] at p3
   rw [← hus]
   exact p3.map _
  ·have q1:d'.size=ts.length:=by rw [hp.1];simp [hul]
   rw [List.pairwise_map,List.pairwise_iff_getElem]
   intro i j hi hj hij
   have :=hs i j (Nat.zero_le _) hij (by rw [← q1];simpa using hj)
   rw [ltS_iff,decide_eq_false_iff_not,getElem!_pos d' j (by simpa using hj),getElem!_pos d' i (by simpa using hi)] at this
   simpa using this
  ·have q1:d'.size=ts.length:=by rw [hp.1];simp [hul]
   have q2:(flatK encS 2 d').toList=flds (d'.toList.map (·.1)):=by have :=flatK_list d'.toList;simpa using this
   have q3:(flatK encS 2 d').size=ts.length*2:=by rw [size_flatK,q1]
   rw [hw]
   have hlen:(d'.toList.map (·.1)).length=ts.length:=by simp [q1]
   refine ⟨by rw [flds_length],.inr ⟨g,cap,putCells id 0 (flatK encS 2 d') cur,by rw [hlen],hbase,heap_rowK _ hh,by rw [hlen];exact h1,h2,by simp [putCells,h3],?_⟩⟩
   rw [hlen,← q3,take_rowK _ _ (by rw [q3,h3];exact Nat.mul_le_mul_right _ h1),q2]
  ·rw [hw]
   exact (Below.refl base w).grown (grown_rowK _) hb (fun j hj=>by cases hj;exact hbase)
end Go.Proofs.YtmoomnpbiifedaaGreat
set_option linter.unusedVariables false
namespace Go.Proofs.YtmoomnpbiifedaaGreat
open Go Go.RowKit
set_option maxHeartbeats 1000000 in
theorem keys_collect (Bx B:Nat) (m:List Ent) (w:World) (hm:MapAt w B m) (hc:w.cell? ⟨Bx,0,none⟩=some (.map (some B))) (hl:m.length≤134217727):
  Calls Tryz.prog 154 #[.func (.func 156) #[] #[.pointer (some ⟨Bx,0,none⟩)]] w (GotKeys (m.map (·.1)) w):=by
 have HA:=Lib.hid (keys_append Bx B m w hm hc hl)
 clear hm hc
 go_enter Tryz.func154,Tryz.ntmps154
 go_wp2_with (go_at_call 176;(with_reducible refine HA.out.mono ?_);rintro e w' ⟨v,ts,rfl,hp,ho,hb⟩)
 go_ret
 exact ⟨v,ts,rfl,hp,ho,hb⟩
def GotSorted (ks:List Tm) (w:World) (e:Ending) (w':World):Prop:=∃ v ts,e= .returned v∧ts.Perm ks∧(ts.Pairwise fun s t=>¬ keyT t<keyT s)∧OwnTm w.heap.size w' v ts∧Below w.heap.size w w'
set_option maxHeartbeats 2000000 in
theorem keys_sorted (Bx B:Nat) (m:List Ent) (w:World) (hm:MapAt w B m) (hc:w.cell? ⟨Bx,0,none⟩=some (.map (some B))) (hl:m.length≤134217727) (hf:∀ t∈m.map (·.1),t.1.length≤536870912∧t.2.length≤536870912):
    Calls Tryz.prog 136 #[.func (.func 156) #[] #[.pointer (some ⟨Bx,0,none⟩)],.func (.func 138) #[] #[]] w (GotSorted (m.map (·.1)) w):=by
  have HA:=Lib.hid (keys_collect Bx B m w hm hc hl)
  have HF:=Lib.hid hf
  have hks:(m.map (·.1)).length≤134217727:=by simpa using hl
  obtain ⟨ks,hk⟩:∃ ks,ks=m.map (·.1):=⟨_,rfl⟩
  rw [← hk] at hks HA HF ⊢
  clear hm hc hf hk
  go_enter Tryz.func136,Tryz.ntmps136
  go_wp2_with (first
    | (go_at_call 154; (with_reducible refine HA.out.mono ?_); rintro e w1 ⟨v, ts, rfl, hp, ho, hb⟩
       have hlt:ts.length≤134217727:=by rw [hp.length_eq];exact hks
       have HS:=Lib.hid (sort_tm w.heap.size v ts w1 ho hb.size (fun t ht=>HF.out t (hp.mem_iff.1 ht)) (by omega))
       have HP:=Lib.hid hp
       have HB:=Lib.hid hb
       clear hp ho hb)
    |(go_at_call 155;(with_reducible refine HS.out.mono ?_);rintro e w2 ⟨rfl,ts2,hp2,hs2,ho2,hb2⟩))
  go_ret
  exact ⟨v,ts2,rfl,hp2.trans HP.out,hs2,ho2,HB.out.trans hb2⟩
end Go.Proofs.YtmoomnpbiifedaaGreat
set_option linter.unusedVariables false
namespace Go.Proofs.YtmoomnpbiifedaaGreat
open Go Go.RowKit
def OwnI (base:Nat) (w:World) (v:Value) (l:List Int):Prop:=w.ownsRow base 3 1 v l.length (ints l)
theorem OwnI.nil {base:Nat} {w:World}:OwnI base w (.slice none 0 0) []:=World.ownsRow_nil _ _ _ _
def GrAt (base:Nat) (w:World) (B:Nat) (g:List Gr):Prop:=∃ m:List Ent,MapAt w B m∧base≤B∧m.length=g.length∧
 (∀ (i:Nat) (e:Ent) (p:Gr),m[i]?=some e→g[i]?=some p→e.1=p.1∧OwnI base w e.2 p.2)∧
 ∀ (i j:Nat) (e f:Ent) (k:Nat),i≠j→m[i]?=some e→m[j]?=some f→e.2.ownBlock=some k→f.2.ownBlock≠some k
theorem owned_not_map {base:Nat} {w:World} {v:Value} {l:List Int} (h:OwnI base w v l) {B:Nat} {es:Array MapEntry} {c:Nat} (hB:w.heap[B]?=some (.map es c)):v.ownBlock≠some B:=by
 intro he
 rcases h.2 with ⟨rfl,_⟩|⟨g,cap,cur,rfl,_,hh,_⟩
 ·cases he
 ·simp only [Value.ownBlock,Option.some.injEq] at he
  subst he
  rw [hh] at hB
  cases hB
theorem GrAt.lt {base:Nat} {w:World} {B:Nat} {g:List Gr} (h:GrAt base w B g):B<w.heap.size:=by obtain ⟨m,h1,_⟩:=h;exact (Array.getElem?_eq_some_iff.1 h1).1
theorem GrAt.made (w:World):GrAt w.heap.size (w.alloc (.map #[] 0)) w.heap.size []:=⟨[],heap_alloc_new w _,Nat.le_refl _,rfl,by simp,by simp⟩
theorem GrAt.below {base:Nat} {w w':World} {B:Nat} {g:List Gr} (h:GrAt base w B g) (hb:Below w.heap.size w w'):GrAt base w' B g:=by
 have hlt:=h.lt
 obtain ⟨m,h1,h2,h3,h4,h5⟩:=h
 exact ⟨m,(hb.block B hlt).trans h1,h2,h3,fun i e p he hp=>⟨(h4 i e p he hp).1,owned_below (h4 i e p he hp).2 hb⟩,h5⟩
theorem posM_getG {base:Nat} {w:World}:∀ {m:List Ent} {g:List Gr} (t:Tm),m.length=g.length→(∀ (i:Nat) (e:Ent) (p:Gr),m[i]?=some e→g[i]?=some p→e.1=p.1∧OwnI base w e.2 p.2)→OwnI base w (valM m t) (getG g t)
 |[],g,t,hl,h=>by
  cases g with
  |nil=>exact OwnI.nil
  |cons p g=>cases hl
 |e::m,g,t,hl,h=>by
  cases g with
  |nil=>cases hl
  |cons p g=>
   obtain ⟨h1,h2⟩:=h 0 e p rfl rfl
   have ih:=posM_getG (m:=m) (g:=g) t (by simpa using hl) fun i e' p' he hp=>h (i+1) e' p' (by simpa using he) (by simpa using hp)
   rw [getG]
   by_cases ht:e.1=t
   ·have hp:posM (e::m) t=0:=by unfold posM;rw [List.findIdx_cons];simp [ht]
    have hv:valM (e::m) t=e.2:=by unfold valM;simp [hp]
    rw [if_pos (by rw [← h1];exact ht),hv]
    exact h2
   ·have hp:posM (e::m) t=posM m t+1:=by unfold posM;rw [List.findIdx_cons];simp [ht]
    have hv:valM (e::m) t=valM m t:=by unfold valM;simp [hp]
    rw [if_neg (by rw [← h1];exact ht),hv]
    exact ih
theorem GrAt.look {base:Nat} {w:World} {B:Nat} {g:List Gr} (h:GrAt base w B g) (t:Tm):∃ v,(∃ m,MapAt w B m∧valM m t=v)∧OwnI base w v (getG g t):=by
 obtain ⟨m,h1,h2,h3,h4,h5⟩:=h
 exact ⟨_,⟨m,h1,rfl⟩,posM_getG t h3 h4⟩
theorem addG_at:∀ {m:List Ent} {g:List Gr} {t:Tm} {a:Int},m.length=g.length→(∀ (i:Nat) (e:Ent) (p:Gr),m[i]?=some e→g[i]?=some p→e.1=p.1)→
  (addG g t a).length=(entM m t).length∧(addG g t a)[posM m t]?=some (t,getG g t++[a])∧∀ i p,i≠posM m t→(addG g t a)[i]?=some p→g[i]?=some p
 |[],g,t,a,hl,h=>by
  cases g with
  |nil=>refine ⟨by simp [addG,entM,posM],by simp [addG,posM,getG],fun i p hi hp=> ?_⟩;cases i with|zero=>simp [posM] at hi|succ i=>simp [addG] at hp
  |cons p g=>cases hl
 |e::m,g,t,a,hl,h=>by
  cases g with
  |nil=>cases hl
  |cons p g=>
   have h1:=h 0 e p rfl rfl
   obtain ⟨i1,i2,i3⟩:=addG_at (m:=m) (g:=g) (t:=t) (a:=a) (by simpa using hl) fun i e' p' he hp=>h (i+1) e' p' (by simpa using he) (by simpa using hp)
   have hl':m.length=g.length:=by simpa using hl
   rw [addG]
   by_cases ht:e.1=t
   ·have hp:posM (e::m) t=0:=by unfold posM;rw [List.findIdx_cons];simp [ht]
    have ht':p.1=t:=by rw [← h1];exact ht
    rw [if_pos ht',hp]
    refine ⟨by simp [entM,hp,hl'],by simp [getG,ht'],fun i q hi hq=> ?_⟩
    cases i with
    |zero=>exact absurd rfl hi
    |succ i=>simpa using hq
   ·have hp:posM (e::m) t=posM m t+1:=by unfold posM;rw [List.findIdx_cons];simp [ht]
    have ht':¬ p.1=t:=by rw [← h1];exact ht
    have he:(entM (e::m) t).length=(entM m t).length+1:=by
     unfold entM
     rw [hp]
     by_cases hq:posM m t<m.length
     ·rw [if_pos hq,if_pos (by simpa using hq)];rfl
     ·rw [if_neg hq,if_neg (by simpa using hq)];simp
    rw [if_neg ht',hp]
    refine ⟨by rw [he,List.length_cons,i1],by rw [List.getElem?_cons_succ,i2,getG,if_neg ht'],fun i q hi hq=> ?_⟩
    cases i with
    |zero=>simpa using hq
    |succ i=>simpa using i3 i q (by omega) (by simpa using hq)
theorem GrAt.added {base:Nat} {w w3:World} {B:Nat} {g:List Gr} {m:List Ent} {t:Tm} {a:Int} {v':Value}
  (h1:MapAt w B m) (h2:base≤B) (h3:m.length=g.length) (h4:∀ (i:Nat) (e:Ent) (p:Gr),m[i]?=some e→g[i]?=some p→e.1=p.1∧OwnI base w e.2 p.2)
  (h5:∀ (i j:Nat) (e f:Ent) (k:Nat),i≠j→m[i]?=some e→m[j]?=some f→e.2.ownBlock=some k→f.2.ownBlock≠some k)
  (hk:∀ (k:Nat),k<w.heap.size→k≠B→(valM m t).ownBlock≠some k→w3.heap[k]?=w.heap[k]?)
  (hm:∀ hp:posM m t<(entM m t).length,MapAt w3 B ((entM m t).set (posM m t) ((entM m t)[posM m t].1,v'))) (ho:OwnI base w3 v' (getG g t++[a])) (hn:v'.ownBlock=(valM m t).ownBlock∨∀ k,v'.ownBlock=some k→w.heap.size≤k):GrAt base w3 B (addG g t a):=by
 obtain ⟨p1,p2⟩:=posM_entM m t
 obtain ⟨q1,q2,q3⟩:=addG_at (a:=a) (t:=t) h3 fun i e p he hp=>(h4 i e p he hp).1
 have hB:B<w.heap.size:=(Array.getElem?_eq_some_iff.1 h1).1
 have hp2:(entM m t)[posM m t]=(t,valM m t):=by rw [List.getElem?_eq_getElem p1] at p2;exact Option.some.inj p2
 have hm':=hm p1
 rw [hp2] at hm'
 have hm2:MapAt w3 B ((entM m t).set (posM m t) (t,v')):=hm'
 have hent:∀ (i:Nat) (e:Ent),i≠posM m t→(entM m t)[i]?=some e→m[i]?=some e:=fun i e hi he=>by
  unfold entM at he
  split at he
  ·exact he
  ·rename_i hlt
   have hle:posM m t≤m.length:=List.findIdx_le_length
   rw [List.getElem?_append] at he
   split at he
   ·exact he
   ·rename_i h6
    have :i≠m.length:=by omega
    rw [List.getElem?_eq_none (by simp;omega)] at he
    cases he
 have hval:∀ (i:Nat) (e:Ent) (k:Nat),i≠posM m t→m[i]?=some e→e.2.ownBlock=some k→(valM m t).ownBlock≠some k:=fun i e k hi he hk'=>by
  unfold valM
  split
  ·rename_i hlt
   exact h5 i (posM m t) e _ k hi he (List.getElem?_eq_getElem hlt) hk'
  ·intro hh;cases hh
 refine ⟨_,hm2,h2,by rw [List.length_set,q1],fun i e p he hp=> ?_,fun i j e f k hij he hf hk'=> ?_⟩
 ·rw [List.getElem?_set] at he
  by_cases hi:posM m t=i
  ·subst hi
   rw [if_pos rfl,if_pos p1] at he
   rw [q2] at hp
   cases he
   cases hp
   exact ⟨rfl,ho⟩
  ·rw [if_neg hi] at he
   have he':=hent i e (fun h=>hi h.symm) he
   have hp':=q3 i p (fun h=>hi h.symm) hp
   obtain ⟨r1,r2⟩:=h4 i e p he' hp'
   refine ⟨r1,owned_keep r2 fun k hk'=> ?_⟩
   exact hk k (r2.lt k hk').2 (fun e=>owned_not_map r2 h1 (by rw [hk',e])) (hval i e k (fun h=>hi h.symm) he' hk')
 ·rw [List.getElem?_set] at he hf
  have hother:∀ (x:Nat) (u:Ent),posM m t≠x→(entM m t)[x]?=some u→∀ k,u.2.ownBlock=some k→v'.ownBlock≠some k:=fun x u hx hu k hk2 hv=>by
   have hu':=hent x u (fun h=>hx h.symm) hu
   rcases hn with hn|hn
   ·rw [hn] at hv
    exact hval x u k (fun h=>hx h.symm) hu' hk2 hv
   ·have hlx:x<g.length:=by rw [← h3];exact (List.getElem?_eq_some_iff.1 hu').1
    have :=((h4 x u _ hu' (List.getElem?_eq_getElem hlx)).2.lt k hk2).2
    have :=hn k hv
    omega
  by_cases hi:posM m t=i
  ·subst hi
   rw [if_pos rfl,if_pos p1] at he
   cases he
   rw [if_neg hij] at hf
   intro hf2
   exact hother j f hij hf k hf2 hk'
  ·rw [if_neg hi] at he
   by_cases hj:posM m t=j
   ·subst hj
    rw [if_pos rfl,if_pos p1] at hf
    cases hf
    exact hother i e hi he k hk'
   ·rw [if_neg hj] at hf
    exact h5 i j e f k hij (hent i e (fun h=>hi h.symm) he) (hent j f (fun h=>hj h.symm) hf) hk'
end Go.Proofs.YtmoomnpbiifedaaGreat
