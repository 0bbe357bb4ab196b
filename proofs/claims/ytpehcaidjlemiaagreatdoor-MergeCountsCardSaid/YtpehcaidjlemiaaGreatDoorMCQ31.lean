import Derived.Test.YtpehcaidjlemiaaGreatDoorMCZz
import Derived.Test.YtpehcaidjlemiaaGreatDoorMCQ30
import Derived.Test.YtpehcaidjlemiaaGreatDoorMCQ09
import Derived.Test.YtpehcaidjlemiaaGreatDoorMCQ06
import Derived.Test.YtpehcaidjlemiaaGreatDoorMCQ02
import Derived.BigRegion
import Derived.Deep.AppendLies
import Derived.Deep.RegionLaw
import Derived.Deep.CutRange
import Derived.Test.YtpehcaidjlemiaaGreatDoorMCQ29
import Derived.Test.YtpehcaidjlemiaaGreatDoorMCQ27
import Derived.Test.YtpehcaidjlemiaaGreatDoorMCQ12
import Derived.Test.YtpehcaidjlemiaaGreatDoorMCQ05
import Derived.Test.YtpehcaidjlemiaaGreatDoorMCQ16
import Derived.Test.YtpehcaidjlemiaaGreatDoorMCQ11
import Derived.Carry
import Derived.Shelf.SlicesE.Clone
import Derived.Test.YtpehcaidjlemiaaGreatDoorProg
import Derived.Test.YtpehcaidjlemiaaGreatDoorMCQ26
set_option maxHeartbeats 4000000
set_option maxRecDepth 100000
set_option linter.unusedVariables false
namespace Go.Proofs.YtpehcaidjlemiaaGreatDoor
open Go Go.RowKit
theorem qbj.of_mem {G g:List En} (hG:qbj G) (hr:qdg g) (hm:∀ x∈g,x∈G):qbj g where
 may q hq:=hG.may q (hm q hq)
 rise:=qfr (List.pairwise_map.2 hr) fun a ha=>by
  obtain ⟨q,hq,rfl⟩:=List.mem_map.1 ha;have :=qpS hG q (hm q hq);omega
 few:=by
  have hn:g.Nodup:=hr.imp fun h e=>by subst e;exact Int.lt_irrefl _ h
  exact Nat.le_trans (qj7 hn hm) hG.few
theorem qze {G:List En} (hG:qbj G) (ts:List Int) (m j:Nat):qbj (qdC ts m j G):=hG.of_mem ((qkH hG).sublist (qgw ts m j G)) (qgw ts m j G).subset
theorem qzf (ts:List Int) {m:Nat} (hm:0<m):∀ (G:List En),(qbm G ts m).flatten.length=G.length:=by
 intro G
 induction h:G.length generalizing G with
 |zero=>
  have :G=[]:=List.eq_nil_of_length_eq_zero h;subst this;rw [qkK];simp
 |succ n ih=>
  obtain ⟨g,q,rfl⟩:∃ g q,G=g++[q]:=⟨G.dropLast,G.getLast (by intro e;rw [e] at h;simp at h),(List.dropLast_concat_getLast _).symm⟩;have hl:g.length=n:=by simpa using h
  have hi:=ih g hl;have hj:qca ts m g.length<(qbm g ts m).length:=by rw [qh9];exact qhn ts hm _
  have e1:qdC ts m (qca ts m g.length) g=(qbm g ts m)[qca ts m g.length]:=(qf7 hj).symm;rw [qkL,e1];clear e1 h ih;generalize qca ts m g.length=j at hj ⊢;generalize qbm g ts m=D at hj hi ⊢;rw [List.set_eq_take_append_cons_drop,if_pos hj];have e2:D.flatten=(D.take j).flatten++(D[j]++(D.drop (j+1)).flatten):=by
   conv=>lhs;rw [<- List.take_append_drop j D,List.drop_eq_getElem_cons hj]
   rw [List.flatten_append,List.flatten_cons]
  rw [e2] at hi;simp only [List.flatten_append,List.flatten_cons,List.length_append,List.length_singleton] at hi ⊢;omega
structure qdo (lo:Nat) (Ls:List (List En)) (rs:List (List Bool)) (Ss Bs:List Nat) (vs vb:Value) (w0 w:World):Prop where
 segs:w.ownsRow lo 33 1 vs Ls.length (qbn Ss)
 sets:w.ownsRow lo 37 1 vb rs.length (qbn Bs)
 slen:Ss.length=Ls.length
 blen:Bs.length=rs.length
 at_:∀ i (h:i<Ls.length),qbC w (Ss.getD i 0) (qac Ls[i])
 is_:∀ i (h:i<rs.length),∃ base,qci w base (Bs.getD i 0) rs[i]
 size:lo<=w.heap.size
 below:Below lo w0 w
theorem qzg (w:World):qdo w.heap.size [] [] [] [] (.slice none 0 0) (.slice none 0 0) w w:=
 ⟨World.ownsRow_nil _ _ _ _,World.ownsRow_nil _ _ _ _,rfl,rfl,fun i h=>by simp at h,fun i h=>by simp at h,Nat.le_refl _,Below.refl _ _⟩
section
variable {lo:Nat} {Ls:List (List En)} {rs:List (List Bool)} {Ss Bs:List Nat} {vs vb v':Value} {w0 w w':World}
theorem qdo.later (h:qdo lo Ls rs Ss Bs vs vb w0 w) (hb:Below w.heap.size w w'):qdo lo Ls rs Ss Bs vs vb w0 w':=
 ⟨qan h.segs hb,qan h.sets hb,h.slen,h.blen,fun i hi=>(h.at_ i hi).below hb,fun i hi=>by obtain ⟨b,hs⟩:=h.is_ i hi;exact ⟨b,hs.below hb⟩,Nat.le_trans h.size hb.size,h.below.trans (hb.mono h.size)⟩
theorem qpZ {l:List Nat} {x i:Nat} (h:i<l.length):(l++[x]).getD i 0=l.getD i 0:=by
 rw [List.getD_eq_getElem?_getD,List.getD_eq_getElem?_getD,List.getElem?_append_left h]
theorem qp0 {l:List Nat} {x i:Nat} (h:i=l.length):(l++[x]).getD i 0=x:=by
 subst h;rw [List.getD_eq_getElem?_getD,List.getElem?_append_right (Nat.le_refl _)];simp
theorem qdo.seg (h:qdo lo Ls rs Ss Bs vs vb w0 w) {S:Nat} {L:List En} (hS:qbC w S (qac L)) (ho:w'.ownsRow lo 33 1 v' (Ls.length+1) (qbn Ss++[.pointer (some ⟨S,0,none⟩)])) (hg:w.grownBy w' vs.ownBlock):qdo lo (Ls++[L]) rs (Ss++[S]) Bs v' vb w0 w':=by
 have hk:=qeL.grown h.segs hg;have hK:¬ qeM 33:=by unfold qeM;decide
 refine ⟨by simpa [qbn] using ho,qkJ h.sets hk (by decide),by simp [h.slen],h.blen,fun i hi=> ?_,fun i hi=> ?_,Nat.le_trans h.size hg.size,h.below.grown hg h.size fun k hk=>(h.segs.lt k hk).1⟩
 ·by_cases e:i=Ls.length
  ·subst e
   rw [qp0 h.slen.symm];simpa using hS.keptN hk hK
  ·have hi':i<Ls.length:=by simp at hi;omega
   rw [qpZ (by rw [h.slen];exact hi'),List.getElem_append_left hi'];exact (h.at_ i hi').keptN hk hK
 ·obtain ⟨b,hs⟩:=h.is_ i hi
  exact ⟨b,hs.keptN hk (by decide) (by decide)⟩
theorem qdo.set (h:qdo lo Ls rs Ss Bs vs vb w0 w) {B base:Nat} {r:List Bool} (hB:qci w base B r) (ho:w'.ownsRow lo 37 1 v' (rs.length+1) (qbn Bs++[.pointer (some ⟨B,0,none⟩)])) (hg:w.grownBy w' vb.ownBlock):qdo lo Ls (rs++[r]) Ss (Bs++[B]) vs v' w0 w':=by
 have hk:=qeL.grown h.sets hg;have hK:¬ qeM 37:=by unfold qeM;decide
 refine ⟨qkJ h.segs hk (by decide),by simpa [qbn] using ho,h.slen,by simp [h.blen],fun i hi=>(h.at_ i hi).keptN hk hK,fun i hi=> ?_,Nat.le_trans h.size hg.size,h.below.grown hg h.size fun k hk=>(h.sets.lt k hk).1⟩;by_cases e:i=rs.length
 ·subst e
  rw [qp0 h.blen.symm];exact ⟨base,by simpa using hB.keptN hk (by decide) (by decide)⟩
 ·have hi':i<rs.length:=by simp at hi;omega
  rw [qpZ (by rw [h.blen];exact hi'),List.getElem_append_left hi'];obtain ⟨b,hs⟩:=h.is_ i hi';exact ⟨b,hs.keptN hk (by decide) (by decide)⟩
theorem qdo.ins {A A2:Option Addr} {n c n2 c2:Nat} (h:qdo lo Ls rs Ss Bs (.slice A n c) (.slice A2 n2 c2) w0 w):qdT w A Ls/\qek w A2 rs:=by
 have en:n=Ls.length:=by
  obtain ⟨_,_,e,_⟩:=qaM h.segs;injection e
 have en2:n2=rs.length:=by
  obtain ⟨_,_,e,_⟩:=qaM h.sets;injection e
 subst en en2;exact ⟨⟨Ss,h.slen,qbG h.segs,h.at_⟩,⟨Bs,h.blen,qbG h.sets,h.is_⟩⟩
theorem qdo.lens (h:qdo lo Ls rs Ss Bs vs vb w0 w):∃ A c A2 c2,vs= .slice A Ls.length c/\vb= .slice A2 rs.length c2/\Ls.length<=c/\rs.length<=c2:=by
 obtain ⟨A,c,e,h1,_⟩:=qaM h.segs;obtain ⟨A2,c2,e2,h2,_⟩:=qaM h.sets;exact ⟨A,c,A2,c2,e,e2,h1,h2⟩
end
theorem qzh (Ls:List (List En)) (L:List En):qea (Ls++[L])=qea Ls++[List.replicate L.length true]:=by simp [qea]
theorem qia (Ls:List (List En)):(qea Ls).length=Ls.length:=by simp [qea]
theorem qzi:(Tryz.prog.info? 33).map (fun i=>(i.zero,i.size,i.bytes))=some (some (.pointer none),1,8):=by kernel_rfl
theorem qzj:(Tryz.prog.info? 37).map (fun i=>(i.zero,i.size,i.bytes))=some (some (.pointer none),1,8):=by kernel_rfl
theorem qzk (f:List En->Nat) {D:List (List En)} {j:Nat} (hj:j<D.length) (x:List En):((D.set j x).map f).sum+f D[j]=(D.map f).sum+f x:=by
 have e2:D=D.take j++(D[j]::D.drop (j+1)):=by
  conv=>lhs;rw [<- List.take_append_drop j D,List.drop_eq_getElem_cons hj]
 have e3:(D.map f).sum=((D.take j).map f).sum+(f D[j]+((D.drop (j+1)).map f).sum):=by
  conv=>lhs;rw [e2]
  rw [List.map_append,List.map_cons,List.sum_append,List.sum_cons]
 rw [List.set_eq_take_append_cons_drop,if_pos hj,e3,List.map_append,List.map_cons,List.sum_append,List.sum_cons];omega
theorem qp1 (f:List En->Nat) (c:En->Nat) (h0:f []=0) (hs:∀ g q,f (g++[q])=f g+c q) (ts:List Int) {m:Nat} (hm:0<m):∀ (G:List En),((qbm G ts m).map f).sum=f G:=by
 intro G
 induction h:G.length generalizing G with
 |zero=>
  have :G=[]:=List.eq_nil_of_length_eq_zero h;subst this;rw [qkK,List.map_replicate,h0];simp
 |succ n ih=>
  obtain ⟨g,q,rfl⟩:∃ g q,G=g++[q]:=⟨G.dropLast,G.getLast (by intro e;rw [e] at h;simp at h),(List.dropLast_concat_getLast _).symm⟩;have hl:g.length=n:=by simpa using h
  have hi:=ih g hl;have hj:qca ts m g.length<(qbm g ts m).length:=by rw [qh9];exact qhn ts hm _
  have e1:qdC ts m (qca ts m g.length) g=(qbm g ts m)[qca ts m g.length]:=(qf7 hj).symm;have e2:=qzk f hj ((qbm g ts m)[qca ts m g.length]++[q]);rw [qkL,e1,hs];rw [hs] at e2;omega
theorem qp2 (f:List En->Nat) {D:List (List En)} {k:Nat} (hk:k<D.length):((D.take (k+1)).map f).sum=((D.take k).map f).sum+f D[k]:=by
 rw [List.take_succ_eq_append_getElem hk,List.map_append,List.sum_append];simp
theorem qp3 (f:List En->Nat) (D:List (List En)) (k:Nat):((D.take k).map f).sum<=(D.map f).sum:=by
 have e:(D.map f).sum=((D.take k).map f).sum+((D.drop k).map f).sum:=by rw [<- List.sum_append,<- List.map_append,List.take_append_drop]
 omega
def qcN (key:Nm) (L:List En):Nat:=(qag 0 L key).length
def qdp (key:Nm) (L:List En):Nat:=qai (qag 0 L key)
theorem qp4 (j:Int):∀ l:List Pn,qai (l.map fun q=>(j,q.2))=qai l
 |[]=>rfl
 |p::r=>by rw [List.map_cons,qai,qai,qp4 j r]
theorem qzl (key:Nm) (g:List En) (q:En):qcN key (g++[q])=qcN key g+(qbe 0 q.2.1 (qas q.2.1) key).length:=by
 unfold qcN;rw [qhf,List.length_append];congr 1;simp [qbe]
theorem qzm (key:Nm) (g:List En) (q:En):qdp key (g++[q])=qdp key g+qai (qbe 0 q.2.1 (qas q.2.1) key):=by
 unfold qdp;rw [qhf,qhB,<- qtm 0 (0+g.length),qp4]
theorem qzn (key:Nm) (ts:List Int) {m:Nat} (hm:0<m) (G:List En):((qbm G ts m).map (qcN key)).sum=qcN key G:=qp1 _ _ rfl (qzl key) ts hm G
theorem qzo (key:Nm) (ts:List Int) {m:Nat} (hm:0<m) (G:List En):((qbm G ts m).map (qdp key)).sum=qdp key G:=qp1 _ _ rfl (qzm key) ts hm G
theorem qp5 {L:List En} (h:qbj L) (key:Nm):qcN key L<=100:=by
 have h1:=qfO h.good (key:=key) L 0 (fun q hq=>hq);have :=h.few;unfold qcN;omega
theorem qzp {L:List En} (h:qbj L) (key:Nm):qdp key L<=50000:=by
 have h1:=qp5 h key;have h2:=qjE (l:=qag 0 L key) (n:=500) fun p hp=>(qhl h.good p hp).2
 unfold qcN at h1;unfold qdp;omega
theorem qzq:(Tryz.prog.info? 27).map (fun i=>(i.zero,i.size,i.bytes))=some (some (.slice none 0 0),1,24):=by kernel_rfl
def qp6 (G:List En) (ds:List Int) (m:Nat) (w:World) (e:Ending) (w':World):Prop:=∃ D vs xss,e= .returned (.slice (some ⟨D,0,none⟩) m m)/\qch w.heap.size D m w (qbm G ds m) vs xss w'
def qib (G:List En) (ds:List Int) (m D:Nat) (w:World) (i:Value) (wr:World):Prop:=∃ (k:Nat) (vs:List Value) (xss:List (List Value)),k<=G.length/\i= .int .i64 (k:Int)/\qch w.heap.size D m w (qbm (G.take k) ds m) vs xss wr
theorem qzr (AG AT:Option Addr) (N cG tn tc m:Nat) (G:List En) (ds:List Int) (w:World) (hG:qaP (fun k=>k<w.heap.size) w (.slice AG N cG) G) (hN:G.length=N) (hN1:N<=1000) (ht:Row w w.heap.size AT (qaa ds)) (hto:ds.length=tn) (htn:tn<=9223372036854775807)
    (hti:∀ a∈ds, -9223372036854775808<=a/\a<=9223372036854775807) (hm:0<m) (hm1:m<=1000):
    Calls Tryz.prog 9 #[.slice AG N cG,.slice AT tn tc,.int .i64 (m:Int)] w (qp6 G ds m w):=by
  obtain ⟨i0,ii0,iz0,iz1,iz2⟩:=info_parts qzq;obtain ⟨t0,hi0,hz0,hz1,hz2⟩:=info_parts qiQ;have HG:=qH hG;have HT:=qH ht;have HN:=qH hN;have HTO:=qH hto;have HTI:=qH hti;have hrep:(madeCells #[Value.slice none 0 0] m).toList=List.replicate m (.slice none 0 0):=by
    rw [toList_madeCells_one]
  have HREP:=qH hrep;clear hG ht hN hto hti hrep
  go_enter Tryz.func9,Tryz.ntmps9
  go_wp2_with (at_make;refine wpList_make_full _ rfl _ _ 25 rfl w.heap.size 27 i0 _ 1 Tryz.underlying25 ii0 iz0 iz1 _ _ _ _ m rfl rfl rfl rfl (by rw [iz2];omega) (by unfold maxLen;omega) (Nat.le_refl _) ?_)
  intro w1 hown hgrow;rw [HREP.out] at hown;have hb1:Below w.heap.size w w1:=(Below.refl _ _).grown hgrow (Nat.le_refl _) (fun k hk=>by cases hk);have hst:qib G ds m w.heap.size w (.int .i64 0) w1:=⟨0,_,_,Nat.zero_le _,rfl,by rw [List.take_zero,qkK];exact qzd hown hb1 hb1.size⟩;obtain ⟨D,hD⟩:∃ D,D=w.heap.size:=⟨_,rfl⟩;have HST:Hid (qib G ds m D w (.int .i64 0) w1):=qH (by rw [hD];exact hst);clear hown hgrow hb1 hst;rw [<- hD];clear hD HREP;go_wp2
  go_loopw [8,9] (fun i _ wr=>qib G ds m D w i wr) (fun i _ _=>N-(intOf i).toNat)
  case atStart=>exact HST.out
  case round=>
    clear HST;obtain ⟨k,vs,xss,hk,rfl,hat⟩:=hrel;rw [HN.out] at hk;by_cases hkn:k<N
    · have hkl:k<G.length:=by rw [HN.out];exact hkn
      obtain ⟨b,c0,Af,cf,hV,hbS,hb,e0,e1,e2,hc1,hc2,hrf⟩:=HG.out.at_ hkl;simp only [Value.slice.injEq] at hV;obtain ⟨rfl, -,rfl⟩:=hV;have hbel:=hat.below;have g0:=(hbel.cell (p:=⟨b,k*3,none⟩) hb).trans e0;have g1:=(hbel.cell (p:=⟨b,k*3+1,none⟩) hb).trans e1;have g2:=(hbel.cell (p:=⟨b,k*3+2,none⟩) hb).trans e2;have hrf2:qcd (fun k=>k<w.heap.size) wr Af (flds G[k].2.1):=hrf.keepO fun j hj=>hbel.block j hj.1
      have htk:G.take (k+1)=G.take k++[G[k]]:=List.take_succ_eq_append_getElem hkl;have htl:(G.take k).length=k:=by rw [List.length_take];omega
      have hsn:=qkL (G.take k) G[k] ds (m:=m);rw [htl,<- htk] at hsn;obtain ⟨q,hq⟩:∃ q,q=G[k]:=⟨_,rfl⟩;rw [<- hq] at g0 g1 g2 hc1 hrf2 hsn;obtain ⟨n2,hn2⟩:∃ n2,n2=q.2.1.length:=⟨_,rfl⟩;rw [<- hn2] at g1 hc1;obtain ⟨q1,hq1⟩:∃ q1,q1=q.1:=⟨_,rfl⟩;rw [<- hq1] at g0;obtain ⟨q3,hq3⟩:∃ q3,q3=q.2.2:=⟨_,rfl⟩;rw [<- hq3] at g2;obtain ⟨j,hj⟩:∃ j,j=qca ds m k:=⟨_,rfl⟩;have hjm:j<m:=by rw [hj];exact qhn ds hm k
      obtain ⟨x,hx⟩:∃ x,x=ds.getD k 0:=⟨_,rfl⟩;obtain ⟨y,hy⟩:∃ y,y=if x<0 then-(x+1) else x:=⟨_,rfl⟩
      have hxb: -9223372036854775808<=x/\x<=9223372036854775807:=by
        rw [hx,List.getD_eq_getElem?_getD];by_cases h:k<ds.length
        · rw [List.getElem?_eq_getElem h];exact HTI.out _ (List.getElem_mem h)
        · rw [List.getElem?_eq_none (by omega)];simp
      have hy0:0<=y/\y<=9223372036854775807:=by rw [hy];split<;>omega
      have hyj:y%(m:Int)=(j:Int):=by
        rw [hj];unfold qca;rw [<- hx,<- hy];have :=Int.emod_nonneg y (b:=(m:Int)) (by omega);omega
      rw [<- hj] at hsn;have hr:=hat.row hjm;have hsn2:(qbm (G.take k) ds m)[j]'(by rw [qh9];exact hjm)=qdC ds m j (G.take k):=qf7 _;have hvl:j<vs.length:=by rw [hat.vlen];exact hjm
      have hxl:j<xss.length:=by rw [hat.xlen];exact hjm
      obtain ⟨nv,hnv⟩:∃ nv,nv=((qbm (G.take k) ds m)[j]'(by rw [qh9];exact hjm)).length:=⟨_,rfl⟩;have hnvk:nv<=k:=by
        rw [hnv,hsn2];have :=(qgw ds m j (G.take k)).length_le;omega
      rw [<- hnv] at hr;obtain ⟨Av,cv,hav, -⟩:=qbh hr;have hcell:=hat.cell hjm;rw [hav] at hr hcell;obtain ⟨c9,f9⟩:=hcell;have hDl:=hat.lt;have c9a:∀ o,(wr.alloc o).cell? ⟨D,j,none⟩=some (.slice Av nv cv):=fun o=>(((Below.refl wr.heap.size wr).alloc (Nat.le_refl _) o).cell (p:=⟨D,j,none⟩) hDl.1).trans c9
      have hfin:∀ (wa w8:World) (gg cap:Nat),Below wr.heap.size wr wa->w8.ownsRow w.heap.size 61 3 (.slice (some ⟨gg,0,none⟩) (nv+1) cap) (nv+1) ((xss[j]'hxl)++[.int .i64 q1,.slice Af n2 cf,.int .i64 q3])->wa.grownBy w8 (Value.slice Av nv cv).ownBlock->((Value.slice Av nv cv).ownBlock=some gg∨wa.heap.size<=gg)->
          (w8.cell? ⟨D,j,none⟩=some (.slice Av nv cv)/\w8.frozen? ⟨D,j,none⟩=false)/\qib G ds m D w (.int .i64 ((k:Int)+1)) (w8.setCell ⟨D,j,none⟩ (.slice (some ⟨gg,0,none⟩) (nv+1) cap)):=fun wa w8 gg cap hal hown8 hgrow hat8=>by
        have ha:=hat.later hal;have hpu:=ha.push hjm (v':= .slice (some ⟨gg,0,none⟩) (nv+1) cap) (q:=q) (A:=Af) (c:=cf) (by rw [<- hn2];exact hc1) hc2 (hrf2.keepO fun i hi=>hal.block i (Nat.lt_of_lt_of_le hi.1 hat.size)) (by rw [<- hnv,<- hn2,<- hq1,<- hq3];exact hown8) (by rw [hav];exact hgrow) (fun g hg=>by
          rw [hav];injection hg with hg
          subst hg;exact hat8)
        have h2:=hpu.2;rw [hsn2,<- hsn] at h2;exact ⟨by rw [<- hav];exact hpu.1,k+1,_,_,hkl,by go_num,h2⟩
      have HFIN:=qH hfin;have HROW:=qH hr;have HSZ:=qH hat.size;have HBEL:=qH hbel;have hk1:(k:Int)<(N:Int):=by omega
      have hjm1:(j:Int)<(m:Int):=by omega
      have HYJ:=qH hyj;have HY:=qH hy;have HX:=qH hx;obtain ⟨xs,hxs⟩:∃ xs,xs=xss[j]:=⟨_,rfl⟩;rw [<- hxs] at HFIN HROW;clear hfin hr hat hav hsn hsn2 hnv hbel e0 e1 e2 hbS hc1 hc2 hrf hrf2 htk htl hq hn2 hq1 hq3 hj hx hy hyj hvl hxl hxs f9
      go_upto_if 21 with fail
      obtain ⟨d1,hd1⟩:∃ d1,d1=decide (k<tn):=⟨_,rfl⟩;rw [<- hd1];have HD1:=qH hd1;clear hd1
      go_cut [9] from 12 to 46 (fun s wx=>s= .int .i64 x/\wx=wr)
      case first=>
        cases d1 with
        |true=>
          have hktn:k<tn:=of_decide_eq_true HD1.out.symm;have hkt:(k:Int)<(tn:Int):=by omega
          have hkt2:k<ds.length:=by rw [HTO.out];omega
          obtain ⟨b3,o3,rfl,hb3,hcd⟩:=qcO HT.out hkt2;have hxe:ds[k]=x:=by rw [HX.out,List.getD_eq_getElem?_getD,List.getElem?_eq_getElem hkt2];rfl
          rw [hxe] at hcd;have hcd2:=(HBEL.out.cell (p:=⟨b3,o3+k,none⟩) hb3).trans hcd;clear hcd hb3 hxe
          go_wp2_with fail
          go_meet;exact ⟨rfl,rfl⟩
        |false=>
          have hkt:¬ k<tn:=of_decide_eq_false HD1.out.symm;have hxe:x=0:=by rw [HX.out,List.getD_eq_getElem?_getD,List.getElem?_eq_none (by have :=HTO.out;omega)];rfl
          have HXE:=qH hxe;clear hkt hxe
          go_wp2_with fail
          go_meet;exact ⟨by rw [HXE.out],rfl⟩
      case rest=>
        obtain ⟨rfl,rfl⟩:=hcut;clear HD1 d1
        go_upto_if 27 with fail
        obtain ⟨d2,hd2⟩:∃ d2,d2=decide (x<0):=⟨_,rfl⟩;rw [<- hd2];have HD2:=qH hd2;clear hd2
        go_cut [9] from 12 to 46 (fun s wx=>s= .int .i64 y/\wx=wc)
        case first=>
          cases d2 with
          |true=>
            have hx0:x<0:=of_decide_eq_true HD2.out.symm;have hye: -(x+1)=y:=by rw [HY.out,if_pos hx0]
            have HYE:=qH hye;have hz:=IntWalk.i64_in (x+1) (by omega);have hz2:=IntWalk.i64_in (-(x+1)) (by omega);clear hye
            go_wp2_with fail
            go_meet;exact ⟨by rw [HYE.out],rfl⟩
          |false=>
            have hx0:¬ x<0:=of_decide_eq_false HD2.out.symm;have hye:x=y:=by rw [HY.out,if_neg hx0]
            have HYE:=qH hye;clear hye
            go_wp2_with fail
            go_meet;exact ⟨by rw [HYE.out],rfl⟩
        case rest=>
          obtain ⟨rfl,rfl⟩:=hcut;clear HD2 d2;obtain ⟨y0,y1⟩:=hy0
          go_upto_region 11 with fail
          rw [HYJ.out];have hsz:=HSZ.out
          go_region_law (first
            | (refine step_append_lies _ (by rfl) _ _ _ (by rfl) w.heap.size 61 t0 _ 3 40 Tryz.underlying27 hi0 hz0 hz1 hz2 rfl (by omega) (.slice Av nv cv) nv xs (by rfl) (HROW.out.drew.alloc _)
                ⟨wc.drew.heap.size,0,none⟩ 1 1 [.int .i64 q1,.slice Af n2 cf,.int .i64 q3] (by rfl) (by rfl) (World.news_of_block (cs:=#[.int .i64 q1,.slice Af n2 cf,.int .i64 q3]) (t:=61) (fr:=(0,0)) (heap_alloc_new wc.drew _)) (by intro u hu;simp at hu;rcases hu with rfl|rfl|rfl<;>rfl)
                (by omega) (by unfold maxLen;omega) (by omega) (by simp;omega) (wc.heap.size+1) (by simp) ?_
               intro gg cap w8 hown8 hgrow hat8 hlt8;obtain ⟨⟨c8,f8⟩,hd8⟩:=HFIN.out _ w8 gg cap ((Below.refl _ wc).drew.alloc (Nat.le_refl _) _) hown8 hgrow (by
                 rcases hat8 with h|h
                 · exact .inl h
                 · exact .inr (by simp;omega))
               have HD8:=qH hd8;clear hown8 hgrow hat8 hlt8 hd8))
          all_goals
            go_wp2;go_roundw
            case rel=>exact HD8.out
            case measure=>simp [intOf];omega
    · have hkN:k=N:=by omega
      subst hkN;rw [List.take_of_length_le (by rw [HN.out];exact Nat.le_refl _)] at hat;go_wp2;go_ret;exact ⟨D,vs,xss,rfl,hat⟩
structure qeb (S:Nat->Prop) (B:Nat) (L:List En) (up:Int) (V:Value) (G:List En) (w wr:World):Prop where
 buf:qcJ S wr B L up
 ge:∀ k,S k->w.heap.size<=k
 own:qaP (fun k=>k<w.heap.size) wr V G
 bel:Below w.heap.size w wr
section
variable {S:Nat->Prop} {B:Nat} {L:List En} {up:Int} {V:Value} {G:List En} {w wr w':World}
theorem qeb.keep (h:qeb S B L up V G w wr) (hk:∀ k,S k->w'.heap[k]?=wr.heap[k]?) (hb:Below w.heap.size wr w'):qeb S B L up V G w w':=
 ⟨h.buf.keep hk hb.size,h.ge,h.own.keeps fun k hk _=>hb.block k hk,h.bel.trans hb⟩
theorem qeb.below (h:qeb S B L up V G w wr) (hb:Below wr.heap.size wr w'):qeb S B L up V G w w':=h.keep (fun k hk=>hb.block k (h.buf.lt k hk)) (hb.mono h.bel.size)
theorem qeb.add (h:qeb S B L up V G w wr) (hm:qbj G) (hlen:L.length<=1000) {i:Nat} (hi:i<G.length) (h0:0<=G[i].2.2) (hup:up<G[i].2.2):
  ∃ b c0 A c,V= .slice (some ⟨b,0,none⟩) G.length c0/\b<wr.heap.size/\wr.cell? ⟨b,i*3,none⟩=some (.int .i64 G[i].1)/\wr.cell? ⟨b,i*3+1,none⟩=some (.slice A G[i].2.1.length c)/\wr.cell? ⟨b,i*3+2,none⟩=some (.int .i64 G[i].2.2)/\
   ∀ w1,Below wr.heap.size wr w1->Calls Tryz.prog 30 #[.pointer (some ⟨B,0,none⟩),.agg #[.int .i64 G[i].1,.slice A G[i].2.1.length c,.int .i64 G[i].2.2]] w1 fun e w'=>e= .returned (.int .i64 0)/\∃ S',qeb S' B (L++[G[i]]) G[i].2.2 V G w w'/\(∀ k,S' k->S k∨w1.heap.size<=k)/\qbK S w1 w':=by
 obtain ⟨b,c0,A,c,hv,_,hb,e0,e1,e2,hc,hcx,hr⟩:=h.own.at_ hi;refine ⟨b,c0,A,c,hv,hb,e0,e1,e2,fun w1 hb1=> ?_⟩;have h1:=h.below hb1;obtain ⟨m1,m2⟩:=hm.may _ (List.getElem_mem hi);have hgf:qdy G[i].2.1:=qiO m1 fun f hf=>(m2 f hf).2
 have hsz:=h.bel.size;have hrow:qaN (fun k=>k<w1.heap.size/\¬ S k) w1 A (flds G[i].2.1):=by
  have h2:=qaN.keep (w':=w1) hr.1 fun k hk=>hb1.block k hk.lt
  exact h2.imp fun k hk=>⟨by have :=hk.lt;have :=hb1.size;omega,fun hs=>by have :=h.ge k hs;have :=hk.1;omega⟩
 refine (qyT h1.buf G[i] A _ c rfl hc hrow hr.2 (by have :=hgf.len;omega) m2 hlen).mono ?_;rintro e w' ⟨rfl,_,h2⟩;have hme:qgr up G[i]=0:=by unfold qgr;rw [if_neg (by rw [m1];decide),if_neg (by omega)]
 rw [hme] at h2 ⊢;obtain ⟨S',hb',hS,ho⟩:=h2 rfl;have hbw:=ho.below h1.ge h1.bel.size;exact ⟨rfl,S',⟨hb',fun k hk=>(hS k hk).elim (h1.ge k) fun hk=>by have :=h1.bel.size;omega,h1.own.keeps fun k hk _=>hbw.block k hk,h1.bel.trans hbw⟩,hS,ho⟩
end
theorem qp7:∀ {l:List Int} {x:Int} {i:Nat},qaj x l=true->(hi:i<l.length)->x<l[i]/\∀ j (hj:j<l.length),j<i->l[j]<l[i]
 |[],_,_,_,hi=>by simp at hi
 |y::l,x,i,h,hi=>by
  rw [qaj,Bool.and_eq_true,decide_eq_true_iff] at h;cases i with
  |zero=>exact ⟨h.1,fun j _ hj=>by omega⟩
  |succ i=>
   have ih:=qp7 (i:=i) h.2 (by simpa using hi);refine ⟨by have :=ih.1;simp only [zC];omega,fun j hj hji=> ?_⟩;cases j with
   |zero=>exact ih.1
   |succ j=>exact ih.2 j (by simpa using hj) (by omega)
theorem qbj.next {G:List En} (h:qbj G) {i:Nat} (hi:i<G.length):0<=G[i].2.2/\qey (G.take i)<G[i].2.2:=by
 have hl:i<(G.map (·.2.2)).length:=by simpa using hi
 obtain ⟨h1,h2⟩:=qp7 h.rise hl;simp only [List.getElem_map] at h1 h2;refine ⟨by omega,?_⟩;rcases Nat.eq_zero_or_pos i with rfl|hp
 ·simp [qsP];omega
 ·have hlt:0<(G.take i).length:=by rw [List.length_take];omega
  rw [qsQ hlt];have hlen:(G.take i).length=i:=by rw [List.length_take];omega
  simp only [hlen,List.getElem_take];exact h2 (i-1) (by simp;omega) (by omega)
structure qcq (T:TypeId) (b0 base P:Nat) (v1 v2:Value) (xs ys:List Int) (w:World):Prop where
 cells:w.heap[P]?=some (.cells #[v1,v2,.slice none 0 0,.slice none 0 0] T (0,0))
 le:b0<=P
 hbase:b0<=base
 size:base<=w.heap.size
 ids:w.ownsRow base 3 1 v1 xs.length (qaa xs)
 seqs:w.ownsRow base 3 1 v2 ys.length (qaa ys)
 apart:∀ g,v1.ownBlock=some g->v2.ownBlock≠some g
section
variable {T:TypeId} {b0 base P:Nat} {v1 v2:Value} {xs ys:List Int} {w w':World}
theorem qcq.lt (h:qcq T b0 base P v1 v2 xs ys w):P<w.heap.size:=(Array.getElem?_eq_some_iff.1 h.cells).1
theorem qcq.keep (h:qcq T b0 base P v1 v2 xs ys w) (hk:∀ k,k<w.heap.size->k=P∨v1.ownBlock=some k∨v2.ownBlock=some k->w'.heap[k]?=w.heap[k]?) (hs:w.heap.size<=w'.heap.size):qcq T b0 base P v1 v2 xs ys w':=
 ⟨(hk P h.lt (.inl rfl)).trans h.cells,h.le,h.hbase,Nat.le_trans h.size hs,qav h.ids fun g hg=>hk g (h.ids.lt g hg).2 (.inr (.inl hg)),qav h.seqs fun g hg=>hk g (h.seqs.lt g hg).2 (.inr (.inr hg)),h.apart⟩
theorem qcq.below (h:qcq T b0 base P v1 v2 xs ys w) (hb:Below w.heap.size w w'):qcq T b0 base P v1 v2 xs ys w':=h.keep (fun k hk _=>hb.block k hk) hb.size
theorem qcq.id (h:qcq T b0 base P v1 v2 xs ys w) (hT:T≠3) {v':Value} {x:Int} (hown:w'.ownsRow base 3 1 v' (xs.length+1) (qaa xs++[.int .i64 x])) (hg:w.grownBy w' v1.ownBlock) (hat:v'.ownBlock=v1.ownBlock∨v'.ownBlock=some w.heap.size):
  w'.heap[P]?=some (.cells #[v1,v2,.slice none 0 0,.slice none 0 0] T (0,0))/\qcq T b0 base P v' v2 (xs++[x]) ys (w'.setCell ⟨P,0,none⟩ v')/\Below b0 w (w'.setCell ⟨P,0,none⟩ v')/\∀ k,k<w.heap.size->k≠P->v1.ownBlock≠some k->(w'.setCell ⟨P,0,none⟩ v').heap[k]?=w.heap[k]?:=by
 have hlt:=h.lt;obtain ⟨h1,h2,h3,h4,h5,h6,h7⟩:=h;have hP:w'.heap[P]?=some (.cells #[v1,v2,.slice none 0 0,.slice none 0 0] T (0,0)):=(hg.block P hlt (fun e=>qap h5 h1 hT e.symm)).trans h1;refine ⟨hP,⟨by simpa using heap_setCell_same w' P 0 _ _ v' hP,h2,h3,by have :=hg.size;simp;omega,?_,?_,fun g hg' e=> ?_⟩,((Below.refl b0 w).grown hg (Nat.le_trans h3 h4) fun k hk=>by have :=(h5.lt k hk).1;omega).setCell (p:=⟨P,0,none⟩) h2 v',fun k hk hkP hkv=>(Below.heap_setCell _ _ _ _ (show k≠P from hkP)).trans (hg.block k hk (fun e=>hkv e.symm))⟩
 ·have :=qav (w':=w'.setCell ⟨P,0,none⟩ v') hown fun g hg'=>Below.heap_setCell _ _ _ _ (fun e=>qap hown hP hT (by rw [hg',e]))
  rw [List.length_append,List.length_singleton];simpa [qaa] using this
 ·have h6':w'.ownsRow base 3 1 v2 ys.length (qaa ys):=qav h6 fun g hg'=>hg.block g (h6.lt g hg').2 fun e=>h7 g e.symm hg'
  exact qav h6' fun g hg'=>Below.heap_setCell _ _ _ _ (fun e=>qap h6' hP hT (by rw [hg',e]))
 ·rcases hat with hat|hat
  ·exact h7 g (hat▸hg') e
  ·rw [hat] at hg'
   injection hg' with hg'
   have :=(h6.lt g e).2;omega
theorem qcq.seq (h:qcq T b0 base P v1 v2 xs ys w) (hT:T≠3) {v':Value} {x:Int} (hown:w'.ownsRow base 3 1 v' (ys.length+1) (qaa ys++[.int .i64 x])) (hg:w.grownBy w' v2.ownBlock) (hat:v'.ownBlock=v2.ownBlock∨v'.ownBlock=some w.heap.size):
  w'.heap[P]?=some (.cells #[v1,v2,.slice none 0 0,.slice none 0 0] T (0,0))/\qcq T b0 base P v1 v' xs (ys++[x]) (w'.setCell ⟨P,1,none⟩ v')/\Below b0 w (w'.setCell ⟨P,1,none⟩ v')/\∀ k,k<w.heap.size->k≠P->v2.ownBlock≠some k->(w'.setCell ⟨P,1,none⟩ v').heap[k]?=w.heap[k]?:=by
 have hlt:=h.lt;obtain ⟨h1,h2,h3,h4,h5,h6,h7⟩:=h;have hP:w'.heap[P]?=some (.cells #[v1,v2,.slice none 0 0,.slice none 0 0] T (0,0)):=(hg.block P hlt (fun e=>qap h6 h1 hT e.symm)).trans h1;refine ⟨hP,⟨by simpa using heap_setCell_same w' P 1 _ _ v' hP,h2,h3,by have :=hg.size;simp;omega,?_,?_,fun g hg' e=> ?_⟩,((Below.refl b0 w).grown hg (Nat.le_trans h3 h4) fun k hk=>by have :=(h6.lt k hk).1;omega).setCell (p:=⟨P,1,none⟩) h2 v',fun k hk hkP hkv=>(Below.heap_setCell _ _ _ _ (show k≠P from hkP)).trans (hg.block k hk (fun e=>hkv e.symm))⟩
 ·have h5':w'.ownsRow base 3 1 v1 xs.length (qaa xs):=qav h5 fun g hg'=>hg.block g (h5.lt g hg').2 fun e=>h7 g hg' e.symm
  exact qav h5' fun g hg'=>Below.heap_setCell _ _ _ _ (fun e=>qap h5' hP hT (by rw [hg',e]))
 ·have :=qav (w':=w'.setCell ⟨P,1,none⟩ v') hown fun g hg'=>Below.heap_setCell _ _ _ _ (fun e=>qap hown hP hT (by rw [hg',e]))
  rw [List.length_append,List.length_singleton];simpa [qaa] using this
 ·rcases hat with hat|hat
  ·exact h7 g hg' (hat▸e)
  ·rw [hat] at e
   injection e with e
   have :=(h5.lt g hg').2;omega
end
structure qdK (T:TypeId) (b0 base P:Nat) (v1 v2 v3 v4:Value) (ks:List Nm) (ls:List (List Pn)) (w:World):Prop where
 cells:w.heap[P]?=some (.cells #[v1,v2,v3,v4] T (0,0))
 le:b0<=P
 hbase:b0<=base
 size:base<=w.heap.size
 keys:∃ bk,w.ownsRow bk 9 1 v3 ks.length (qad ks)
 lists:∃ cs,w.ownsRow base 71 1 v4 ls.length cs/\LG b0 w ls cs
section
variable {T:TypeId} {b0 base P:Nat} {v1 v2 v3 v4:Value} {xs ys:List Int} {ks:List Nm} {ls:List (List Pn)} {w w':World}
theorem qdK.lt (h:qdK T b0 base P v1 v2 v3 v4 ks ls w):P<w.heap.size:=(Array.getElem?_eq_some_iff.1 h.cells).1
theorem qdK.below (h:qdK T b0 base P v1 v2 v3 v4 ks ls w) (hb:Below w.heap.size w w'):qdK T b0 base P v1 v2 v3 v4 ks ls w':=by
 have hlt:=h.lt;obtain ⟨h1,h2,h3,h4,⟨bk,h5⟩,cs,h6,h7⟩:=h;exact ⟨(hb.block P hlt).trans h1,h2,h3,Nat.le_trans h4 hb.size,⟨bk,qan h5 hb⟩,cs,qan h6 hb,h7.keep (.of_below hb (by omega))⟩
theorem qdK.list (h:qdK T b0 base P v1 v2 v3 v4 ks ls w) (hT:¬ PoK T) (hT1:T≠9) (hT2:T≠71) {v':Value} {l:List Pn} {A:Option Addr} {c:Nat} (hc:l.length<=c/\c<=maxLen) (hp:qcA b0 w A l) {cs:List Value} (h6:w.ownsRow base 71 1 v4 ls.length cs) (h7:LG b0 w ls cs)
  (hown:w'.ownsRow base 71 1 v' (ls.length+1) (cs++[.slice A l.length c])) (hg:w.grownBy w' v4.ownBlock):
  w'.heap[P]?=some (.cells #[v1,v2,v3,v4] T (0,0))/\qdK T b0 base P v1 v2 v3 v' ks (ls++[l]) (w'.setCell ⟨P,3,none⟩ v')/\Below b0 w (w'.setCell ⟨P,3,none⟩ v')/\qa8 b0 w (w'.setCell ⟨P,3,none⟩ v')/\
   (∀ k,k<base->k≠P->(w'.setCell ⟨P,3,none⟩ v').heap[k]?=w.heap[k]?)/\∀ (k:Nat) (cs:Array Value) (t:TypeId) (fr:Nat × Nat),k≠P->w.heap[k]?=some (.cells cs t fr)->t≠71->(w'.setCell ⟨P,3,none⟩ v').heap[k]?=some (.cells cs t fr):=by
 have hlt:=h.lt;obtain ⟨h1,h2,h3,h4,⟨bk,h5⟩,_⟩:=h;have hP:w'.heap[P]?=some (.cells #[v1,v2,v3,v4] T (0,0)):=(hg.block P hlt (fun e=>qap h6 h1 hT2 e.symm)).trans h1;have hk1:qa8 b0 w w':=qa8.grown h6 h3 (by unfold PoK;decide) hg h4;have hk2:qa8 b0 w' (w'.setCell ⟨P,3,none⟩ v'):=qa8.setCell hP h2 hT v';refine ⟨hP,⟨by simpa using heap_setCell_same w' P 3 _ _ v' hP,h2,h3,by have :=hk1.size;simp;omega,⟨bk,?_⟩,cs++[.slice A l.length c],?_,(h7.snoc hc hp).keep (hk1.trans hk2)⟩,((Below.refl b0 w).grown hg (Nat.le_trans h3 h4) fun k hk=>by have :=(h6.lt k hk).1;omega).setCell (p:=⟨P,3,none⟩) h2 v',hk1.trans hk2,
  fun k hk hkP=>(Below.heap_setCell _ _ _ _ (show k≠P from hkP)).trans (hg.block k (by omega) (fun e=>by have :=(h6.lt k e.symm).1;omega)),
  fun k cs' t fr hkP hk ht=>(Below.heap_setCell _ _ _ _ (show k≠P from hkP)).trans ((hg.block k (Array.getElem?_eq_some_iff.1 hk).1 (fun e=>qap h6 hk ht e.symm)).trans hk)⟩
 ·have h5':=qhX h5 h6 (by decide) hg
  exact qav h5' fun g hg'=>Below.heap_setCell _ _ _ _ (fun e=>qap h5' hP hT1 (by rw [hg',e]))
 ·rw [List.length_append,List.length_singleton]
  exact qav hown fun g hg'=>Below.heap_setCell _ _ _ _ (fun e=>qap hown hP hT2 (by rw [hg',e]))
theorem qdK.rows {A3 A4:Option Addr} {n3 c3 n4 c4:Nat} (h:qdK T b0 base P v1 v2 (.slice A3 n3 c3) (.slice A4 n4 c4) ks ls w):Row w w.heap.size A3 (qad ks)/\qcU w w.heap.size A4 ls:=by
 obtain ⟨_,_,_,_,⟨_,h5⟩,cs,h6,h7⟩:=h;exact ⟨qbG h5,cs,h7.cells,qbG h6⟩
theorem qcq.lists (h:qcq T b0 base P v1 v2 xs ys w) (hT:¬ PoK T) (hT1:T≠9) {bk:Nat} {v3:Value} {ks:List Nm} (hk:w.ownsRow bk 9 1 v3 ks.length (qad ks)):
    qdK T b0 w.heap.size P v1 v2 v3 (.slice none 0 0) ks [] (w.setCell ⟨P,2,none⟩ v3)/\qa8 b0 w (w.setCell ⟨P,2,none⟩ v3)/\Below b0 w (w.setCell ⟨P,2,none⟩ v3):=
  ⟨⟨by simpa using heap_setCell_same w P 2 _ _ v3 h.cells, h.le, by have := h.hbase; have := h.size; omega, by simp, ⟨bk, qav hk fun g hg => Below.heap_setCell _ _ _ _ (fun e => qap hk h.cells hT1 (by rw [hg, e]))⟩, [], World.ownsRow_nil _ _ _ _, LG.nil⟩,
    qa8.setCell h.cells h.le hT v3,(Below.refl b0 w).setCell (p:=⟨P,2,none⟩) h.le v3⟩
theorem qcq.rowG (h:qcq T b0 base P v1 v2 xs ys w):∃ A1 c1 A2 c2,v1= .slice A1 xs.length c1/\v2= .slice A2 ys.length c2/\xs.length<=c1/\ys.length<=c2/\qb4 b0 3 w A1 (qaa xs)/\qb4 b0 3 w A2 (qaa ys):=by
 have h5:=h.ids;have h6:=h.seqs;obtain ⟨A1,c1,e1,hc1,_⟩:=qaM h5;obtain ⟨A2,c2,e2,hc2,_⟩:=qaM h6;subst e1 e2;exact ⟨A1,c1,A2,c2,rfl,rfl,hc1,hc2,.of_own h5,.of_own h6⟩
end
def qzs (w:World) (e:Ending) (w':World):Prop:=∃ S B,e= .returned (.pointer (some ⟨B,0,none⟩))/\qcJ S w' B [] (-1)/\(∀ k,S k->w.heap.size<=k)/\Below w.heap.size w w'
theorem qzt (w:World):qcJ (fun k=>k=w.heap.size∨k=w.heap.size+1) ((w.alloc (.map #[] 0)).alloc (.cells #[.slice none 0 0,.map (some w.heap.size),.int .i64 0,.int .i64 (-1)] 126)) (w.heap.size+1) [] (-1):=by
 refine ⟨.slice none 0 0,w.heap.size,0,[],?_,.inr rfl,qaP.nil,⟨[],?_,.inl rfl,rfl,fun i e p h=>(by simp at h),fun i j e f k _ h=>(by simp at h)⟩,qdR.nil,fun q h=>(by cases h),by decide,fun h=>absurd rfl h,fun k h=>by simp;omega⟩
 ·simpa [qdd] using heap_alloc_new (w.alloc (.map #[] 0)) (.cells #[.slice none 0 0,.map (some w.heap.size),.int .i64 0,.int .i64 (-1)] 126)
 ·unfold qa2
  rw [Below.heap_alloc _ _ _ (by simp)];exact heap_alloc_new w _
theorem qzu (w:World):Calls Tryz.prog 29 #[] w (qzs w):=by
 have HF:=qH (qzt w);have HB:Hid (Below w.heap.size w ((w.alloc (.map #[] 0)).alloc (.cells #[.slice none 0 0,.map (some w.heap.size),.int .i64 0,.int .i64 (-1)] 126))):=qH (((Below.refl _ _).alloc (Nat.le_refl _) _).alloc (by simp) _);have hmm:=@run_makeMap Tryz.prog
 go_enter Tryz.func29,Tryz.ntmps29
 go_wp2;go_ret;exact ⟨_,_,rfl,HF.out,fun k h=>by omega,HB.out⟩
theorem qzv {w:World} {base:Nat} {e:TypeId} {size g n cap k:Nat} {xs:List Value} {u:Value} (h:w.ownsRow base e size (.slice (some ⟨g,0,none⟩) n cap) n xs):(w.setCell ⟨g,k,none⟩ u).ownsRow base e size (.slice (some ⟨g,0,none⟩) n cap) n (xs.set k u):=by
 refine ⟨by rw [List.length_set];exact h.1,?_⟩;rcases h.2 with ⟨hv,_⟩|⟨g',cap',cur,hv,hg,hh,h1,h2,h3,h4⟩
 ·cases hv
 ·cases hv
  refine .inr ⟨g,cap,cur.setIfInBounds k u,rfl,hg,qcW hh,h1,h2,by simpa using h3,?_⟩;rw [<- h4,Array.toList_setIfInBounds,List.take_set]
theorem qzw {w:World} {base:Nat} {e:TypeId} {size g n cap k:Nat} {xs:List Value} (h:w.ownsRow base e size (.slice (some ⟨g,0,none⟩) n cap) n xs) (hk:k<n*size):(∃ u,w.cell? ⟨g,k,none⟩=some u)/\w.frozen? ⟨g,k,none⟩=false:=by
 rcases h.2 with ⟨hv,_⟩|⟨g',cap',cur,hv,hg,hh,h1,h2,h3,h4⟩
 ·cases hv
 ·cases hv
  have hkc:k<cur.size:=by
   rw [h3];exact Nat.lt_of_lt_of_le hk (Nat.mul_le_mul_right _ h1)
  exact ⟨⟨cur[k],by simp [World.cell?,hh,hkc]⟩,by simp [World.frozen?,hh]⟩
structure qdL (old new:Option Addr->List Value->Prop) (l:List Pn) (j:Nat) (cs:List Value):Prop where
 len:cs.length=l.length*2
 each:∀ i (h:i<l.length),cs[i*2]?=some (.int .i64 l[i].1)/\∃ A c,cs[i*2+1]?=some (.slice A l[i].2.length c)/\l[i].2.length<=c/\c<=maxLen/\(i<j->new A (qaa l[i].2))/\(j<=i->old A (qaa l[i].2))
section
variable {old new old' new':Option Addr->List Value->Prop} {l:List Pn} {j:Nat} {cs:List Value}
theorem qdL.of (h:qak old l cs):qdL old new l 0 cs:=⟨h.len,fun i hi=>by
 obtain ⟨h1,A,c,h2,h3,h4,h5⟩:=h.at_ hi;have e:l.getD i (0,[])=l[i]:=by simp [hi]
 rw [e] at h1 h2 h3 h5;exact ⟨h1,A,c,h2,h3,h4,fun h=>by omega,fun _=>h5⟩⟩
theorem qdL.imp (h:qdL old new l j cs) (ho:∀ A xs,old A xs->old' A xs) (hn:∀ A xs,new A xs->new' A xs):qdL old' new' l j cs:=⟨h.len,fun i hi=>by
 obtain ⟨h1,A,c,h2,h3,h4,h5,h6⟩:=h.each i hi;exact ⟨h1,A,c,h2,h3,h4,fun h=>hn _ _ (h5 h),fun h=>ho _ _ (h6 h)⟩⟩
theorem qdL.put (h:qdL old new l j cs) (hj:j<l.length) {A:Option Addr} {c:Nat} (hc:l[j].2.length<=c/\c<=maxLen) (hn:new A (qaa l[j].2)):qdL old new l (j+1) (cs.set (j*2+1) (.slice A l[j].2.length c)):=⟨by rw [List.length_set];exact h.len,fun i hi=>by
 have hl:=h.len;obtain ⟨h1,A',c',h2,h3,h4,h5,h6⟩:=h.each i hi;rw [List.getElem?_set_ne (by omega)];by_cases hij:i=j
 ·subst hij
  exact ⟨h1,A,c,List.getElem?_set_self (by omega),hc.1,hc.2,fun _=>hn,fun h=>by omega⟩
 ·rw [List.getElem?_set_ne (by omega)]
  exact ⟨h1,A',c',h2,h3,h4,fun h=>h5 (by omega),fun h=>h6 (by omega)⟩⟩
theorem qp8:∀ {l:List Pn} {cs:List Value},cs.length=l.length*2->(∀ i (h:i<l.length),cs[i*2]?=some (.int .i64 l[i].1)/\∃ A c,cs[i*2+1]?=some (.slice A l[i].2.length c)/\l[i].2.length<=c/\c<=maxLen/\new A (qaa l[i].2))->qak new l cs
 |[],cs,hl,h=>List.eq_nil_of_length_eq_zero (by simpa using hl)
 |q::l,cs,hl,h=>by
  rcases cs with _|⟨a,_|⟨b,cs⟩⟩
  ·simp at hl
  ·simp at hl;omega
  ·obtain ⟨h1,A,c,h2,h3,h4,h5⟩:=h 0 (by simp)
   simp at h1 h2;subst h1 h2;refine ⟨A,c,cs,rfl,h3,h4,h5,qp8 (by simp at hl;omega) fun i hi=> ?_⟩;have :=h (i+1) (by simpa using hi);rw [show (i+1)*2=i*2+1+1 by omega] at this;simpa using this
theorem qdL.all (h:qdL old new l l.length cs):qak new l cs:=qp8 h.len fun i hi=>by
 obtain ⟨h1,A,c,h2,h3,h4,h5,h6⟩:=h.each i hi;exact ⟨h1,A,c,h2,h3,h4,h5 hi⟩
end
open Go.Shelf
def qzx:Go.Shelf.Ren:=⟨fun |41=>68|n=>n,fun |4=>4|22=>71|23=>74|n=>n,fun |n=>n⟩
theorem qzy:SlLaysE0.n41 Tryz.prog qzx:={
 mixed:=by kernel_rfl
 f41:=⟨Tryz.f68.name,by kernel_rfl,Tryz.func68.trans (congrArg some (by kernel_rfl))⟩
 t4:=Tryz.underlying4
 a4:=Tryz.isAgg4
 z4:=Tryz.sizeOf4
 v4:=Tryz.zeroValue4
 t22:=Tryz.underlying71
 a22:=Tryz.isAgg71
 z22:=Tryz.sizeOf71
 v22:=Tryz.zeroValue71}
def qzz:Go.Shelf.Ren:=⟨fun |41=>53|n=>n,fun |4=>4|22=>23|23=>3|n=>n,fun |n=>n⟩
theorem qzA:SlLaysE0.n41 Tryz.prog qzz:={
 mixed:=by kernel_rfl
 f41:=⟨Tryz.f53.name,by kernel_rfl,Tryz.func53.trans (congrArg some (by kernel_rfl))⟩
 t4:=Tryz.underlying4
 a4:=Tryz.isAgg4
 z4:=Tryz.sizeOf4
 v4:=Tryz.zeroValue4
 t22:=Tryz.underlying23
 a22:=Tryz.isAgg23
 z22:=Tryz.sizeOf23
 v22:=Tryz.zeroValue23}
theorem qp9 {R:Option Addr->List Value->Prop}:∀ {l:List Pn} {cs:List Value},qak R l cs->∀ u∈cs,u.oneCell'=true
 |[],cs,h,u,hu=>by simp only [qak] at h;subst h;cases hu
 |q::l,cs,h,u,hu=>by
  obtain ⟨A,c,cs',rfl,_,_,_,h'⟩:=h;simp only [List.mem_cons] at hu;rcases hu with rfl|rfl|hu
  ·rfl
  ·rfl
  ·exact qp9 h' u hu
theorem qzB {ρ:Go.Shelf.Ren} (L:SlLaysE0.n41 Tryz.prog ρ) {i0:TypeInfo} {z:Value} {size bytes:Nat} (hi:Tryz.prog.info? (ρ.t 23)=some i0) (hz0:i0.zero=some z) (hz1:i0.size=size) (hz2:i0.bytes=bytes) (hzs:z.cells.size=size) (hsz:0<size)
  (z23:∀ w,(Go.sizeOf (ρ.t 23)).run Tryz.prog w= .ok size w) {base:Nat} {e:TypeId} {v:Value} {n:Nat} {cs:List Value} {w:World} (h:w.ownsRow base e size v n cs) (hn:n<=maxLen) (hbig:n*bytes<=140737488355328) (h1:∀ u∈cs,u.oneCell'=true):
  Calls Tryz.prog (ρ.f 41) #[v] w fun e w'=>∃ v',e= .returned v'/\w'.ownsRow w.heap.size (ρ.t 23) size v' n cs/\Below w.heap.size w w':=by
 rcases h.2 with ⟨rfl,h0⟩|⟨g,cap,cur,rfl,_⟩
 ·have hc:cs=[]:=List.eq_nil_of_length_eq_zero (by rw [h.1,h0];simp)
  subst hc h0;refine (AnyE.slices_Clone_nil L 0 0 w).mono ?_;rintro e w' ⟨rfl,rfl⟩;exact ⟨_,rfl,World.ownsRow_nil _ _ _ _,Below.refl _ _⟩
 ·refine (AnyE.slices_Clone L i0 z size bytes hi hz0 hz1 hz2 hzs hsz z23 g 0 n cap cs w h.1 hn hbig (fun j u hu=> ?_) h1).mono ?_
  ·have :=h.cells (g:=g) rfl j u hu
   simpa [Addr.add_lit] using this
  ·rintro e w' ⟨v',rfl,ho,_,hb⟩
   exact ⟨v',rfl,ho,hb⟩
theorem qzC {base:Nat} {v:Value} {n:Nat} {cs:List Value} {w:World} (h:w.ownsRow base 74 2 v n cs) (hn:n<=100000000) (h1:∀ u∈cs,u.oneCell'=true):
  Calls Tryz.prog 68 #[v] w fun e w'=>∃ v',e= .returned v'/\w'.ownsRow w.heap.size 74 2 v' n cs/\Below w.heap.size w w':=by
 obtain ⟨i0,hi0,hz0,hz1,hz2⟩:=info_parts qfX;exact qzB qzy hi0 hz0 hz1 hz2 rfl (by decide) Tryz.sizeOf74 h (by unfold maxLen;omega) (by omega) h1
theorem qzD {A:Option Addr} {n c B:Nat} {l:List Int} {w:World} (hl:l.length=n) (h:Row w B A (qaa l)) (hne:0<n) (hn:n<=100000000):
  Calls Tryz.prog 53 #[.slice A n c] w fun e w'=>∃ v',e= .returned v'/\w'.ownsRow w.heap.size 3 1 v' n (qaa l)/\Below w.heap.size w w':=by
 obtain ⟨i0,hi0,hz0,hz1,hz2⟩:=info_parts qds;rcases h with h0|⟨b,off,rfl,_,hc⟩
 ·have :=congrArg List.length h0
  simp [qaa] at this;subst this;simp at hl;omega
 ·refine (AnyE.slices_Clone qzA i0 _ 1 8 hi0 hz0 hz1 hz2 rfl (by decide) Tryz.sizeOf3 b off n c (qaa l) w (by simp [qaa,hl]) (by unfold maxLen;omega) (by omega) hc (ints_oneCell _ _)).mono ?_
  rintro e w' ⟨v',rfl,ho,_,hb⟩;exact ⟨v',rfl,ho,hb⟩
def qqa (l:List Pn) (w:World) (e:Ending) (w':World):Prop:=∃ v,e= .returned v/\qbx (fun k=>w.heap.size<=k) w' v l/\Below w.heap.size w w'
def qkM (l:List Pn) (N:Nat) (V:Value) (w:World) (x:Value) (wr:World):Prop:=∃ (j:Nat) (cs:List Value),j<=l.length/\x= .int .i64 (j:Int)/\wr.ownsRow w.heap.size 74 2 V N cs/\
 qdL (Row wr w.heap.size) (qaN (Of (fun k=>w.heap.size<=k) 3 wr) wr) l j cs/\Below w.heap.size w wr
theorem qzE {S:Nat->Prop} {w:World} {B:Nat} {l:List En} {up:Int} (h:qcJ S w B l up) (key:ByteArray) (L:List Pn) (hL:L=qag 0 l key.data.toList) (hln:L.length<=10000000) (hne:∀ p∈L,0<p.2.length/\p.2.length<=100000):
    Calls Tryz.prog 32 #[.pointer (some ⟨B,0,none⟩),.string key] w (qqa L w):=by
  obtain ⟨v,M,c,g,h⟩:=h;have c1:=(qcc h.cells).2.1;obtain ⟨v1,⟨m,hm,hv1⟩,ho⟩:=h.map.look key.data.toList;rw [h.stand.posts,<- hL] at ho;have hkv:kV key.data.toList= .string key:=by simp [kV]
  obtain ⟨cs,o1,o2,o3⟩:=ho;have hcl:=qzC o1 (by omega) (qp9 o3);have HLK:Hid (qa2 w M c m):=qH hm;have HCL:=qH hcl;have HPO:Hid (qak (Row w w.heap.size) L cs):=qH (o3.imp fun _ _ h=>qaN.row h fun b hb=>hb.lt);have HNE:=qH hne;have HV1:=qH hv1;have HKV:=qH hkv;obtain ⟨N,hN⟩:∃ N,N=L.length:=⟨_,rfl⟩;rw [<- hN] at HCL hln;have HN:=qH hN;clear h hL hm hv1 o1 o2 o3 hcl hne hN hkv
  go_enter Tryz.func32,Tryz.ntmps32
  go_wp2_with (first
    | (refine quX _ (by rfl) _ _ (by rfl) M c m key.data.toList (by rfl) HLK.out (by rw [HKV.out]; rfl) ?_
       rw [HV1.out])
    | (go_at_call 68; (with_reducible refine HCL.out.mono ?_); rintro e w1 ⟨V1, rfl, ho1, hb1⟩
       obtain ⟨A1,k1,rfl,hk1,hu1⟩:=qeC ho1;clear hu1;have HST:Hid (qkM L N (.slice A1 N k1) w (.int .i64 ((0:Nat):Int)) w1):=qH (by
         exact ⟨0,cs,Nat.zero_le _,rfl,ho1,(qdL.of HPO.out).imp (fun _ _ h=>h.below hb1) fun _ _ h=>h,hb1⟩)
       clear ho1 hb1))
  go_loopw [17] (fun x wr=>qkM L N (.slice A1 N k1) w x wr) (fun x _=>N-(intOf x).toNat)
  case atStart=>exact HST.out
  case round=>
    obtain ⟨j,cs2,hj,rfl,hown,hrow,hbw⟩:=hrel;by_cases hlt:j<N
    · have hjl:j<L.length:=by rw [<- HN.out];exact hlt
      obtain ⟨g1,rfl⟩:∃ g1,A1=some ⟨g1,0,none⟩:=by
        rcases hown.2 with ⟨hv,h5⟩|⟨g',cap,cur,hv,_⟩
        · have :=HN.out;omega
        · injection hv with e
          exact ⟨g',e⟩
      obtain ⟨e0,A',c',e1,e2,e3,e4,e5⟩:=hrow.each j hjl;have hne:=HNE.out _ (List.getElem_mem hjl);have hc0:wr.cell? ⟨g1,j*2,none⟩=some (.int .i64 L[j].1):=by have :=hown.cells (g:=g1) rfl _ _ e0;simpa [Addr.add_lit] using this
      have hc1:wr.cell? ⟨g1,j*2+1,none⟩=some (.slice A' L[j].2.length c'):=by have :=hown.cells (g:=g1) rfl _ _ e1;simpa [Addr.add_lit] using this
      have hlt1:=hown.lt g1 rfl;have hold:=e5 (Nat.le_refl _);obtain ⟨csg,frg,hhg⟩:=qeE hown rfl;obtain ⟨w2,hw2⟩:∃ w2,w2=wr.alloc (.cells #[.int .i64 L[j].1,.slice A' L[j].2.length c'] 74):=⟨_,rfl⟩;have hb2:Below wr.heap.size wr w2:=by rw [hw2];exact (Below.refl _ _).alloc (Nat.le_refl _) _
      have hbs:=hbw.size;have hs2:w2.heap.size=wr.heap.size+1:=by rw [hw2];simp
      have hCI:=qzD (n:=L[j].2.length) (c:=c') rfl (Row.below hold (hb2.mono hbs)) hne.1 (by omega);have HAFT:Hid (∀ (w5:World) (A5:Option Addr) (c5:Nat),w5.ownsRow w2.heap.size 3 1 (.slice A5 L[j].2.length c5) L[j].2.length (qaa L[j].2)->L[j].2.length<=c5/\c5<=maxLen->Below w2.heap.size w2 w5->
          (∃ u,w5.cell? ⟨g1,j*2+1,none⟩=some u)/\w5.frozen? ⟨g1,j*2+1,none⟩=false/\qkM L N (.slice (some ⟨g1,0,none⟩) N k1) w (.int .i64 ((j:Int)+1)) (w5.setCell ⟨g1,j*2+1,none⟩ (.slice A5 L[j].2.length c5))):=qH fun w5 A5 c5 ho5 hc5 hb5=>by
        have hb25:=hb2.trans (hb5.mono hb2.size);have hown5:=qan hown hb25;obtain ⟨f1,f2⟩:=qzw (k:=j*2+1) hown5 (by omega);have hs5:=hb5.size;have hkeep:∀ k,k<wr.heap.size->k≠g1->(w5.setCell ⟨g1,j*2+1,none⟩ (.slice A5 L[j].2.length c5)).heap[k]?=wr.heap[k]?:=fun k h1 h2=>(qdJ (Ne.symm h2)).trans (hb25.block k h1)
        have hne1:∀ {k:Nat} {u:World},u.heap[g1]?=some (.cells csg 74 frg)->Of (fun k=>w.heap.size<=k) 3 u k->k≠g1:=fun {k u} h1 ⟨_,cs',fr',hh,_⟩ e=>by
          subst e;rw [h1] at hh;injection hh with hh
          injection hh with _ h2 _
          exact absurd h2 (by decide)
        have hg5:w5.heap[g1]?=some (.cells csg 74 frg):=(hb25.block _ hlt1.2).trans hhg;have hn5:qaN (Of (fun k=>w.heap.size<=k) 3 w5) w5 A5 (qaa L[j].2):=qpD ho5 fun k h1 _=>by omega
        have hn6:qaN (Of (fun k=>w.heap.size<=k) 3 (w5.setCell ⟨g1,j*2+1,none⟩ (.slice A5 L[j].2.length c5))) (w5.setCell ⟨g1,j*2+1,none⟩ (.slice A5 L[j].2.length c5)) A5 (qaa L[j].2):=hn5.keepO fun k hk=>qdJ (Ne.symm (hne1 hg5 hk))
        have hrow6:qdL (Row (w5.setCell ⟨g1,j*2+1,none⟩ (.slice A5 L[j].2.length c5)) w.heap.size) (qaN (Of (fun k=>w.heap.size<=k) 3 (w5.setCell ⟨g1,j*2+1,none⟩ (.slice A5 L[j].2.length c5))) (w5.setCell ⟨g1,j*2+1,none⟩ (.slice A5 L[j].2.length c5))) L j cs2:=hrow.imp (fun A xs h=>qaN.keep h fun b hb=>hkeep b (by omega) (by omega)) fun A xs h=>h.keepO fun k hk=>hkeep k hk.lt (hne1 hhg hk)
        refine ⟨f1,f2,j+1,cs2.set (j*2+1) (.slice A5 L[j].2.length c5),hjl,by push_cast;rfl,qzv hown5,hrow6.put hjl hc5 hn6,⟨?_,?_,?_,?_,fun k hk=> ?_⟩⟩
        · exact hb25.os.trans hbw.os
        · exact hb25.tape.trans hbw.tape
        · exact hb25.output.trans hbw.output
        · simp;omega
        · rw [hkeep k (by omega) (by omega)]
          exact hbw.block k hk
      obtain ⟨dd,hdd⟩:∃ dd,dd=L[j].1:=⟨_,rfl⟩;obtain ⟨P,hP⟩:∃ P,P=L[j].2:=⟨_,rfl⟩;rw [<- hdd] at hc0 hw2;rw [<- hP] at hc1 hw2 hCI HAFT hne e2;have HCI:=qH hCI;have HW2:=qH hw2;have j0:(0:Int)<=j:=by omega
      have j1:(j:Int)<N:=by omega
      obtain ⟨hpl0,hpl⟩:=hne;clear hown hrow hbw hhg hold e0 e1 e3 e4 e5 hCI hw2 hdd hP hb2
      go_wp2_with (first
        | (go_at_call 53; rw [show wr.alloc _ = w2 from HW2.out.symm]; (with_reducible refine HCI.out.mono ?_); rintro e w5 ⟨V5, rfl, ho5, hb5⟩
           obtain ⟨A5,c5,rfl,hc5,hu5⟩:=qeC ho5;obtain ⟨⟨u5,hu5'⟩,hf5,hrel5⟩:=HAFT.out w5 A5 c5 ho5 hc5 hb5;have HREL:=qH hrel5;clear hu5 ho5 hb5 hrel5))
      exact ⟨HREL.out,by simp [intOf];omega⟩
    · have hjn:j=L.length:=by have :=HN.out;omega
      subst hjn;have hfin:qbx (fun k=>w.heap.size<=k) wr (.slice A1 N k1) L:=by
        rw [HN.out] at hown;rw [HN.out];exact ⟨cs2,qbc hown (Nat.zero_le _),fun k hk=>(hown.lt k hk).1,hrow.all⟩
      have HFIN:=qH hfin;have HBW:=qH hbw;clear hfin hown hrow hbw;go_wp2;go_ret;exact ⟨_,rfl,HFIN.out,HBW.out⟩
end Go.Proofs.YtpehcaidjlemiaaGreatDoor
