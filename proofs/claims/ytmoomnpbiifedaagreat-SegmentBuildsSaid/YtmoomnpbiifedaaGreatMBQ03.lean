import Derived.Test.YtmoomnpbiifedaaGreatMBZz
import Derived.Test.YtmoomnpbiifedaaGreatMBQ01
import Derived.Test.YtmoomnpbiifedaaGreatMBQ02
import Derived.Test.YtmoomnpbiifedaaGreatProg
import Derived.Lib.Hide
import Derived.BigQuiet
import Derived.Deep.QuietTactic
import Derived.Sort.Walk0
import Derived.Lib.RowBridge
import Derived.Lib.SlicesCompact
import Derived.Lib.BitFns
import Derived.Lib.Strings
namespace Go.Proofs.YtmoomnpbiifedaaGreat
open Go Go.RowKit
set_option linter.unusedVariables false
theorem gather_at {o:List (List Int)} {n l:List Int} {k:Nat} (hk:k<l.length):gather (o,n) (l.drop k)=gather (step (o,n) l[k]) (l.drop (k+1)):=by
 rw [List.drop_eq_getElem_cons hk,gather_cons]
theorem gather_past {o:List (List Int)} {n l:List Int} {k:Nat} (hk:l.length≤k) (hn:n≠[]):gather (o,n) (l.drop k)=gather (o++[n],[]) (l.drop (k+1)):=by
 rw [List.drop_of_length_le hk,List.drop_of_length_le (by omega),gather_last hn,gather_done]
theorem gather_stop {o:List (List Int)} {n l:List Int} {k:Nat} (hn:n≠[]) (h:(hk:k<l.length)→inWord l[k]=false):gather (o,n) (l.drop k)=gather (o++[n],[]) (l.drop (k+1)):=by
 by_cases hk:k<l.length
 ·rw [gather_at hk,step_end (h hk) hn]
 ·exact gather_past (by omega) hn
def RefOut (l:List Int) (w1:World) (o i:Value) (wr:World):Prop:=
 ∃ (k:Nat) (out:List (List Int)) (vo:Value),vo=o∧k≤l.length+1∧i= .int .i64 k∧out.length≤k∧wr.ownsRow w1.heap.size 9 1 o out.length (strs (out.map text))∧Below w1.heap.size w1 wr∧gather (out,[]) (l.drop k)=wordSigns l
def RefIn (l:List Int) (w1:World) (out:List (List Int)) (o:Value) (k0:Nat) (i n:Value) (wr:World):Prop:=
 ∃ (k:Nat) (own:List Int) (vn:Value),vn=n∧k≤l.length∧k0≤k∧i= .int .i64 k∧own.length≤k∧(own=[]→k=k0)∧wr.ownsRow w1.heap.size 9 1 o out.length (strs (out.map text))∧wr.ownsRow w1.heap.size 3 1 n own.length (ints own)∧Below w1.heap.size w1 wr∧gather (out,own) (l.drop k)=wordSigns l
set_option maxHeartbeats 2000000 in
set_option maxRecDepth 100000 in
theorem ref_Words (s:ByteArray) (w:World) (hs:s.size≤268435456):
  Calls Tryz.prog 130 #[.string s] w (GaveStrs (words s.data.toList) w):=by
 obtain ⟨i0,hi0,hz0,hz1,hz2⟩:=info_parts info_int
 obtain ⟨i1,hi1,hy0,hy1,hy2⟩:=info_parts info_string
 have hsl:=signs_length s.data.toList
 have hsz:s.data.toList.length=s.size:=Array.length_toList
 rw [hsz] at hsl
 have hwd:(wordSigns (signs s.data.toList)).map text=words s.data.toList:=rfl
 go_enter Tryz.func130,Tryz.ntmps130
 go_wp2_with (go_at_call 148;refine (ref_Signs s _ (by omega)).mono ?_)
 rintro e w1 ⟨v,rfl,hown,hb⟩
 obtain ⟨A,c,rfl,_,hrow⟩:=owned_row hown
 obtain ⟨l,hl⟩:∃ l,l=signs s.data.toList:=⟨_,rfl⟩
 rw [← hl] at hrow hsl hwd
 rw [← hl]
 have HB:=Lib.hid hb
 have HR:=Lib.hid hrow
 have HWD:=Lib.hid hwd
 clear hl hb hown hrow hwd
 go_wp2
 go_loopw [4,5] (fun o i wr=>RefOut l w1 o i wr) (fun _ i _=>l.length+1-(intOf i).toNat)
 case atStart=>exact ⟨0,[],_,rfl,by omega,rfl,by simp,World.ownsRow_nil _ _ _ _,Below.refl _ _,rfl⟩
 case round=>
  obtain ⟨k,out,vo,rfl,hk,rfl,hok,hout,hbw,hga⟩:=hrel
  by_cases hlt:k<l.length
  ·obtain ⟨b1,o1,e1,_,hc1⟩:=row_int (HR.out.below hbw) hlt
   subst e1
   by_cases hin:inWord l[k]=true
   ·have r1:=fun w=>ref_in l[k] w
    rw [hin] at r1
    have R1:=Lib.hid r1
    have HIN:Hid (inWord l[k]=true):=Lib.hid hin
    have HGA:=Lib.hid hga
    have HOUT:=Lib.hid hout
    obtain ⟨x,hx⟩:∃ x,x=l[k]:=⟨_,rfl⟩
    rw [← hx] at hc1 R1 HIN
    have HX:=Lib.hid hx
    clear r1 hin hga hout hx
    go_wp2_with (go_at_call 149;refine (R1.out _).mono ?_;rintro e w' ⟨rfl,rfl⟩)
    go_loopw [5,7] (fun i n wr=>RefIn l w1 out vo k i n wr) (fun i _ _=>l.length-(intOf i).toNat)
    case atStart=>exact ⟨k,[],_,rfl,by omega,by omega,rfl,by simp,fun _=>rfl,HOUT.out,World.ownsRow_nil _ _ _ _,hbw,HGA.out⟩
    case round=>
     obtain ⟨j,own,vn,rfl,hj,hkj,rfl,hoj,hne0,hout2,hown2,hbw2,hga2⟩:=hrel
     have hne:(k<j∨j=l.length∨(∃ h:j<l.length,inWord l[j]=false))→own≠[]:=by
      intro hh he
      have hjk:=hne0 he
      subst hjk
      rcases hh with hh|hh|⟨_,hh⟩
      ·omega
      ·omega
      ·rw [← HX.out,HIN.out] at hh;cases hh
     by_cases hltj:j<l.length
     ·obtain ⟨b2,o2,e2,_,hc2⟩:=row_int (HR.out.below hbw2) hltj
      simp at e2
      obtain ⟨rfl,rfl⟩:=e2
      by_cases hinj:inWord l[j]=true
      ·have r2:=fun w=>ref_in l[j] w
       rw [hinj] at r2
       have f2:=fun w=>ref_Fold l[j] w
       have ga2:=gather_at (o:=out) (n:=own) hltj
       rw [hga2,step_in hinj] at ga2
       obtain ⟨y,hy⟩:∃ y,y=l[j]:=⟨_,rfl⟩
       rw [← hy] at hc2 r2 f2 ga2
       obtain ⟨z,hz⟩:∃ z,z=fold y:=⟨_,rfl⟩
       rw [← hz] at f2 ga2
       have R2:=Lib.hid r2
       have F2:=Lib.hid f2
       have GA2:=Lib.hid ga2
       have HO2:=Lib.hid hout2
       have hszj:=hbw2.size
       clear r2 f2 ga2 hinj hga2 hy hz hne hne0 hout2 hc1
       go_wp2_with (first
        |(go_at_call 149;refine (R2.out _).mono ?_;rintro e w' ⟨rfl,rfl⟩)
        |(go_at_call 150;refine (F2.out _).mono ?_;rintro e w' ⟨rfl,rfl⟩)
        |(at_builtin;refine wpList_append_own _ rfl (.tmp 34) (.tmp 40) 22 rfl w1.heap.size 3 i0 _ 1 8 Tryz.underlying22 hi0 hz0 hz1 hz2 rfl (by omega) _ own.length (ints own) rfl (hown2.alloc _) ⟨_,0,none⟩ 1 1 [.int .i64 z] rfl rfl (news_at _ [.int .i64 z] 3) (by intro u hu;simp at hu;subst hu;rfl) (by unfold maxLen;omega) (by omega) (by simp;omega) ?_))
       intro v' w5 hown5 hgrow5 _
       have hbw5:=(hbw2.alloc (by omega) _).grown hgrow5 (by simp;omega) (fun j hj=>(hown2.lt j hj).1)
       have hout5:=(HO2.out.alloc _).kept hgrow5 (owned_other HO2.out hown2 (by decide))
       clear hgrow5
       go_wp2
       go_roundw
       case rel=>
        refine ⟨j+1,own++[z],_,rfl,by omega,by omega,by go_num,by simp;omega,by simp,hout5,?_,hbw5,GA2.out.symm⟩
        simpa [ints] using hown5
       case measure=>simp [intOf];omega
      ·have hinj':inWord l[j]=false:=by simpa using hinj
       have r2:=fun w=>ref_in l[j] w
       rw [hinj'] at r2
       have hne:=hne (.inr (.inr ⟨hltj,hinj'⟩))
       have HIJ:=Lib.hid hinj'
       obtain ⟨A3,c3,rfl,_,hrow3⟩:=owned_row hown2
       have HN:=Lib.hid hrow3
       have R2:=Lib.hid r2
       have HG2:=Lib.hid hga2
       have HO2:=Lib.hid hout2
       have HBW2:=Lib.hid hbw2
       obtain ⟨y,hy⟩:∃ y,y=l[j]:=⟨_,rfl⟩
       rw [← hy] at hc2 R2
       clear r2 hinj hinj' hga2 hout2 hrow3 hown2 hne0 hc1 hy
       go_wp2_with (first
        |(go_at_call 149;refine (R2.out _).mono ?_;rintro e w' ⟨rfl,rfl⟩)
        |(go_at_call 151;refine (ref_Text_at _ _ _ own _ rfl HN.out (by omega)).mono ?_))
       rintro e w4 ⟨rfl,hb4⟩
       obtain ⟨tx,htx⟩:∃ tx:ByteArray,tx=⟨(text own).toArray⟩:=⟨_,rfl⟩
       rw [← htx]
       have hout4:=owned_below HO2.out hb4
       have hbw4:Below w1.heap.size w1 w4:=HBW2.out.trans (hb4.mono HBW2.out.size)
       have HTX:=Lib.hid htx
       clear htx hb4
       have hsz4:=hbw4.size
       go_wp2_with (at_builtin;refine wpList_append_own _ rfl (.tmp 44) (.tmp 47) 23 rfl w1.heap.size 9 i1 _ 1 16 Tryz.underlying23 hi1 hy0 hy1 hy2 rfl (by omega) _ out.length (strs (out.map text)) rfl (hout4.alloc _) ⟨w4.heap.size,0,none⟩ 1 1 [.string tx] rfl rfl (news_at w4 [.string tx] 9) (by intro u hu;simp at hu;subst hu;rfl) (by unfold maxLen;omega) (by omega) (by simp;omega) ?_)
       intro v' w5 hown5 hgrow5 _
       have hbw5:=(hbw4.alloc (by omega) _).grown hgrow5 (by simp;omega) (fun j hj=>(hout4.lt j hj).1)
       clear hgrow5 hout4 hbw4
       go_wp2
       go_roundw
       case rel=>
        refine ⟨j+1,out++[own],_,rfl,by omega,by go_num,by simp;omega,?_,hbw5,?_⟩
        ·rw [HTX.out] at hown5;simpa [strs] using hown5
        ·rw [← gather_stop hne (fun _=>HIJ.out)];exact HG2.out
       case measure=>simp [intOf];omega
     ·have hne:=hne (.inr (.inl (by omega)))
      obtain ⟨A3,c3,rfl,_,hrow3⟩:=owned_row hown2
      have HN:=Lib.hid hrow3
      have HG2:=Lib.hid hga2
      have HO2:=Lib.hid hout2
      have HBW2:=Lib.hid hbw2
      clear hga2 hout2 hrow3 hown2 hne0 hc1
      go_wp2_with (first
       |(go_at_call 151;refine (ref_Text_at _ _ _ own _ rfl HN.out (by omega)).mono ?_))
      rintro e w4 ⟨rfl,hb4⟩
      obtain ⟨tx,htx⟩:∃ tx:ByteArray,tx=⟨(text own).toArray⟩:=⟨_,rfl⟩
      rw [← htx]
      have hout4:=owned_below HO2.out hb4
      have hbw4:Below w1.heap.size w1 w4:=HBW2.out.trans (hb4.mono HBW2.out.size)
      have HTX:=Lib.hid htx
      clear htx hb4
      have hsz4:=hbw4.size
      go_wp2_with (at_builtin;refine wpList_append_own _ rfl (.tmp 44) (.tmp 47) 23 rfl w1.heap.size 9 i1 _ 1 16 Tryz.underlying23 hi1 hy0 hy1 hy2 rfl (by omega) _ out.length (strs (out.map text)) rfl (hout4.alloc _) ⟨w4.heap.size,0,none⟩ 1 1 [.string tx] rfl rfl (news_at w4 [.string tx] 9) (by intro u hu;simp at hu;subst hu;rfl) (by unfold maxLen;omega) (by omega) (by simp;omega) ?_)
      intro v' w5 hown5 hgrow5 _
      have hbw5:=(hbw4.alloc (by omega) _).grown hgrow5 (by simp;omega) (fun j hj=>(hout4.lt j hj).1)
      clear hgrow5 hout4 hbw4
      go_wp2
      go_roundw
      case rel=>
       refine ⟨j+1,out++[own],_,rfl,by omega,by go_num,by simp;omega,?_,hbw5,?_⟩
       ·rw [HTX.out] at hown5;simpa [strs] using hown5
       ·rw [← gather_stop hne (fun h=>absurd h hltj)];exact HG2.out
      case measure=>simp [intOf];omega
   ·have hin':inWord l[k]=false:=by simpa using hin
    have r1:=fun w=>ref_in l[k] w
    rw [hin'] at r1
    have ga:=gather_at (o:=out) (n:=[]) hlt
    rw [hga,step_skip hin'] at ga
    have R1:=Lib.hid r1
    have HOUT:=Lib.hid hout
    have GA:=Lib.hid ga
    obtain ⟨x,hx⟩:∃ x,x=l[k]:=⟨_,rfl⟩
    rw [← hx] at hc1 R1
    clear r1 hin hin' hga hout hx ga
    go_wp2_with (go_at_call 149;refine (R1.out _).mono ?_;rintro e w' ⟨rfl,rfl⟩)
    go_roundw
    case rel=>exact ⟨k+1,out,_,rfl,by omega,by go_num,by omega,HOUT.out,hbw,GA.out.symm⟩
    case measure=>simp [intOf];omega
  ·rw [List.drop_of_length_le (by omega),gather_done] at hga
   have HGA:=Lib.hid hga
   clear hga
   go_wp2
   go_ret
   refine ⟨_,rfl,?_,HB.out.trans (hbw.mono HB.out.size)⟩
   have :=HWD.out
   rw [← HGA.out] at this
   rw [← this,List.length_map]
   exact owned_low hout HB.out.size
end Go.Proofs.YtmoomnpbiifedaaGreat
namespace Go.Proofs.YtmoomnpbiifedaaGreat
open Go Go.RowKit
set_option linter.unusedVariables false
def errFrom:Nat→List (List UInt8)→Int
 |_,[]=>0
 |i,w::ws=>if 30<w.length then 3 else if 500≤i then 7 else errFrom (i+1) ws
def tokCells:Nat→List (List UInt8)→List Value
 |_,[]=>[]
 |i,w::ws=> .string ⟨w.toArray⟩:: .int .i64 i::tokCells (i+1) ws
theorem tokCells_append:∀ (a:List (List UInt8)) (i:Nat) (b:List (List UInt8)),tokCells i (a++b)=tokCells i a++tokCells (i+a.length) b
 |[],i,b=>by simp [tokCells]
 |w::a,i,b=>by
  simp only [List.cons_append,tokCells,tokCells_append a,List.length_cons]
  rw [show i+1+a.length=i+(a.length+1) by omega]
theorem tokCells_take {ws:List (List UInt8)} {k:Nat} (hk:k<ws.length):tokCells 0 (ws.take (k+1))=tokCells 0 (ws.take k)++[.string ⟨ws[k].toArray⟩,.int .i64 k]:=by
 rw [List.take_succ_eq_append_getElem hk,tokCells_append,List.length_take,Nat.zero_add,Nat.min_eq_left (by omega)]
 rfl
theorem errFrom_at {ws:List (List UInt8)} {k:Nat} (hk:k<ws.length):errFrom k (ws.drop k)=if 30<ws[k].length then 3 else if 500≤k then 7 else errFrom (k+1) (ws.drop (k+1)):=by
 rw [List.drop_eq_getElem_cons hk,errFrom]
theorem info_token:(Tryz.prog.info? 189).map (fun i=>(i.zero,i.size,i.bytes))=some (some (.agg #[.string ByteArray.empty,.int .i64 0]),2,24):=by kernel_rfl
def GaveToks (ws:List (List UInt8)) (w:World) (e:Ending) (w':World):Prop:=
 ∃ v,e= .returned (.tuple #[v,.int .i64 (errFrom 0 ws)])∧(errFrom 0 ws=0→w'.ownsRow w.heap.size 189 2 v ws.length (tokCells 0 ws))∧(errFrom 0 ws≠0→v= .slice none 0 0)∧Below w.heap.size w w'
def ToksRel (ws:List (List UInt8)) (w1:World) (a b o i:Value) (wr:World):Prop:=
 ∃ (k:Nat) (vo:Value),vo=o∧a= .slice none 0 0∧b= .int .i64 0∧k≤ws.length∧k≤500∧i= .int .i64 k∧wr.ownsRow w1.heap.size 189 2 o k (tokCells 0 (ws.take k))∧Below w1.heap.size w1 wr∧errFrom k (ws.drop k)=errFrom 0 ws
end Go.Proofs.YtmoomnpbiifedaaGreat
namespace Go.Proofs.YtmoomnpbiifedaaGreat
open Go Go.RowKit
set_option linter.unusedVariables false
def keyL (f g:List UInt8):List UInt8:=f++0::g
theorem keyL_inj {f g f' g':List UInt8} (h:keyL f g=keyL f' g') (h0:(0:UInt8)∉f) (h1:(0:UInt8)∉f'):f=f'∧g=g':=by
 induction f generalizing f' with
 |nil=>
  cases f' with
  |nil=>simp [keyL] at h;exact ⟨rfl,h⟩
  |cons b f'=>simp [keyL] at h;exact absurd (by rw [← h.1];exact List.mem_cons_self ..) h1
 |cons a f ih=>
  cases f' with
  |nil=>simp [keyL] at h;exact absurd (by rw [h.1];exact List.mem_cons_self ..) h0
  |cons b f'=>
   simp only [keyL,List.cons_append,List.cons.injEq] at h
   obtain ⟨h2,h3⟩:=ih (f':=f') h.2 (fun e=>h0 (List.mem_cons_of_mem _ e)) (fun e=>h1 (List.mem_cons_of_mem _ e))
   exact ⟨by rw [h.1,h2],h3⟩
def keyB (f g:ByteArray):ByteArray:=f++⟨#[0]⟩++g
theorem keyB_list (f g:ByteArray):(keyB f g).data.toList=keyL f.data.toList g.data.toList:=by simp [keyB,keyL]
set_option maxHeartbeats 1000000 in
theorem ref_Key (f g:ByteArray) (w:World) (hf:f.size≤140737488355328) (hg:g.size≤140737488355328):
  Calls Tryz.prog 41 #[.agg #[.string f,.string g]] w fun e w'=>e= .returned (.string (keyB f g))∧Below w.heap.size w w':=by
 go_enter Tryz.func41,Tryz.ntmps41
 go_wp2
 go_ret
 exact ⟨rfl,(Below.refl _ _).alloc (Nat.le_refl _) _⟩
end Go.Proofs.YtmoomnpbiifedaaGreat
set_option linter.unusedVariables false
namespace Go.Proofs.YtmoomnpbiifedaaGreat
abbrev Nm:=List UInt8
theorem nm_nil_lt {a:UInt8} {x:Nm}:([]:Nm)<a::x:=by simp
theorem nm_lt_nil {x:Nm}:¬ x<([]:Nm):=by simp
theorem nm_cons {a b:UInt8} {x y:Nm}:a::x<b::y↔a<b∨a=b∧x<y:=List.cons_lt_cons_iff
theorem by_irr (a:UInt8):¬ a<a:=by rw [UInt8.lt_iff_toNat_lt];omega
theorem nm_irrefl:∀ x:Nm,¬ x<x
 |[]=>nm_lt_nil
 |a::x=>by
  rw [nm_cons]
  rintro (h|⟨_,h⟩)
  ·exact by_irr a h
  ·exact nm_irrefl x h
theorem nm_trans:∀ {x y z:Nm},x<y→y<z→x<z
 |_,[],_,h,_=>absurd h nm_lt_nil
 |_,_::_,[],_,h=>absurd h nm_lt_nil
 |[],_::_,_::_,_,_=>nm_nil_lt
 |a::x,b::y,c::z,h,k=>by
  rw [nm_cons] at h k ⊢
  rcases h with h|⟨rfl,h⟩
  ·rcases k with k|⟨rfl,k⟩
   ·left;rw [UInt8.lt_iff_toNat_lt] at*;omega
   ·exact .inl h
  ·rcases k with k|⟨rfl,k⟩
   ·exact .inl k
   ·exact .inr ⟨rfl,nm_trans h k⟩
theorem nm_tri:∀ x y:Nm,x<y∨x=y∨y<x
 |[],[]=> .inr (.inl rfl)
 |[],_::_=> .inl nm_nil_lt
 |_::_,[]=> .inr (.inr nm_nil_lt)
 |a::x,b::y=>by
  rw [nm_cons,nm_cons]
  by_cases h1:a<b
  ·exact .inl (.inl h1)
  ·by_cases h2:b<a
   ·exact .inr (.inr (.inl h2))
   ·have e:a=b:=by
     rw [UInt8.lt_iff_toNat_lt] at h1 h2
     exact UInt8.toNat_inj.1 (by omega)
    subst e
    rcases nm_tri x y with h|rfl|h
    ·exact .inl (.inr ⟨rfl,h⟩)
    ·exact .inr (.inl rfl)
    ·exact .inr (.inr (.inr ⟨rfl,h⟩))
theorem nm_asym {x y:Nm} (h:x<y):¬ y<x:=fun k=>nm_irrefl x (nm_trans h k)
theorem nm_ne {x y:Nm} (h:x<y):x≠y:=fun e=>nm_irrefl y (e▸h)
def Rise (l:List Nm):Prop:=l.Pairwise (· <·)
instance (l:List Nm):Decidable (Rise l):=inferInstanceAs (Decidable (l.Pairwise (· <·)))
def risesN (l:List Nm):Bool:=decide (Rise l)
theorem risesN_iff {l:List Nm}:risesN l=true↔Rise l:=by simp [risesN]
theorem rise_at {l:List Nm} (h:Rise l) {i j:Nat} (hj:j<l.length) (hij:i<j):l[i]<l[j]:=List.pairwise_iff_getElem.1 h i j (by omega) hj hij
theorem rise_adj {l:List Nm} (h:∀ i,(hi:i+1<l.length)→l[i]<l[i+1]):Rise l:=by
 refine List.pairwise_iff_getElem.2 fun i j hi hj hij=> ?_
 induction j with
 |zero=>omega
 |succ j ih=>
  by_cases e:i=j
  ·subst e;exact h i hj
  ·exact nm_trans (ih (by omega) (by omega)) (h j hj)
theorem rise_bad {l:List Nm} {k:Nat} (hk:k<l.length) (h0:0<k) (h:¬ l[k-1]<l[k]):risesN l=false:=by
 rw [← Bool.not_eq_true,risesN_iff]
 exact fun hr=>h (rise_at hr hk (by omega))
theorem rise_good {l:List Nm} (h:∀ i,(hi:i<l.length)→0<i→l[i-1]<l[i]):risesN l=true:=by
 rw [risesN_iff]
 exact rise_adj fun i hi=>by have :=h (i+1) hi (by omega);simpa using this
def placeN:List Nm→Nm→Nat
 |[],_=>0
 |x::l,s=>if x<s then placeN l s+1 else 0
def isN:List Nm→Nm→Bool
 |[],_=>false
 |x::l,s=>if x<s then isN l s else x==s
def putN:List Nm→Nm→List Nm
 |[],s=>[s]
 |x::l,s=>if x<s then x::putN l s else if x=s then x::l else s::x::l
theorem placeN_le:∀ (l:List Nm) (s:Nm),placeN l s≤l.length
 |[],_=>Nat.le_refl _
 |x::l,s=>by
  have :=placeN_le l s
  simp only [placeN,List.length_cons]
  split<;>omega
theorem placeN_below:∀ {l:List Nm} {s:Nm} {j:Nat} (hj:j<l.length),j<placeN l s→l[j]<s
 |[],_,_,h,_=>by simp at h
 |x::l,s,j,hj,h=>by
  simp only [placeN] at h
  split at h
  ·rename_i hx
   cases j with
   |zero=>exact hx
   |succ j=>exact placeN_below (l:=l) (by simpa using hj) (by omega)
  ·omega
theorem placeN_stop:∀ {l:List Nm} {s:Nm} (h:placeN l s<l.length),¬ l[placeN l s]<s
 |[],_,h=>by simp at h
 |x::l,s,h=>by
  by_cases hx:x<s
  ·have e:placeN (x::l) s=placeN l s+1:=by simp [placeN,hx]
   have :=placeN_stop (l:=l) (s:=s) (by rw [e] at h;simpa using h)
   simpa [e] using this
  ·have e:placeN (x::l) s=0:=by simp [placeN,hx]
   simpa [e] using hx
theorem place_of {l:List Nm} {s:Nm} {k:Nat} (hk:k≤l.length) (h1:∀ j (hj:j<l.length),j<k→l[j]<s) (h2:∀ h:k<l.length,¬ l[k]<s):placeN l s=k:=by
 have a:=placeN_le l s
 rcases Nat.lt_trichotomy (placeN l s) k with h|h|h
 ·exact absurd (h1 _ (by omega) h) (placeN_stop (by omega))
 ·exact h
 ·exact absurd (placeN_below (by omega) h) (h2 (by omega))
theorem isN_at:∀ {l:List Nm} {s:Nm} (h:placeN l s<l.length),isN l s=(l[placeN l s]==s)
 |[],_,h=>by simp at h
 |x::l,s,h=>by
  by_cases hx:x<s
  ·have e:placeN (x::l) s=placeN l s+1:=by simp [placeN,hx]
   have e2:isN (x::l) s=isN l s:=by simp [isN,hx]
   have :=isN_at (l:=l) (s:=s) (by rw [e] at h;simpa using h)
   rw [e2,this]
   simp [e]
  ·have e:placeN (x::l) s=0:=by simp [placeN,hx]
   simp [e,isN,hx]
theorem isN_end:∀ {l:List Nm} {s:Nm},placeN l s=l.length→isN l s=false
 |[],_,_=>rfl
 |x::l,s,h=>by
  by_cases hx:x<s
  ·have e:placeN (x::l) s=placeN l s+1:=by simp [placeN,hx]
   rw [e] at h
   simpa [isN,hx] using isN_end (l:=l) (s:=s) (by simpa using h)
  ·have e:placeN (x::l) s=0:=by simp [placeN,hx]
   rw [e] at h
   simp at h
theorem found_of {l:List Nm} {s:Nm} {k:Nat} (hk:k<l.length) (h1:∀ j (hj:j<l.length),j<k→l[j]<s) (h2:l[k]=s):placeN l s=k∧isN l s=true:=by
 have e:=place_of (s:=s) (by omega) h1 (fun _=>by rw [h2];exact nm_irrefl s)
 subst e
 exact ⟨rfl,by rw [isN_at hk,h2];simp⟩
theorem missed_of {l:List Nm} {s:Nm} {k:Nat} (hk:k≤l.length) (h1:∀ j (hj:j<l.length),j<k→l[j]<s) (h2:∀ h:k<l.length,s<l[k]):placeN l s=k∧isN l s=false:=by
 have e:=place_of (s:=s) hk h1 (fun h=>nm_asym (h2 h))
 subst e
 refine ⟨rfl,?_⟩
 by_cases h:placeN l s<l.length
 ·rw [isN_at h]
  simpa using (nm_ne (h2 h)).symm
 ·exact isN_end (by have :=placeN_le l s;omega)
theorem isN_found {l:List Nm} {s:Nm} (h:isN l s=true):∃ hk:placeN l s<l.length,l[placeN l s]=s:=by
 by_cases hk:placeN l s<l.length
 ·rw [isN_at hk] at h
  exact ⟨hk,by simpa using h⟩
 ·rw [isN_end (by have :=placeN_le l s;omega)] at h
  cases h
theorem isN_own {l:List Nm} (hr:Rise l) {i:Nat} (hi:i<l.length):placeN l l[i]=i∧isN l l[i]=true:=
 found_of hi (fun j hj hji=>rise_at hr hi hji) rfl
def cmpN (x s:Nm):Int:=if x<s then-1 else if x=s then 0 else 1
theorem putN_is:∀ {l:List Nm} {s:Nm},isN l s=true→putN l s=l
 |[],_,h=>by cases h
 |x::l,s,h=>by
  by_cases hx:x<s
  ·rw [isN,if_pos hx] at h
   rw [putN,if_pos hx,putN_is h]
  ·rw [isN,if_neg hx] at h
   rw [putN,if_neg hx,if_pos (by simpa using h)]
theorem putN_not:∀ {l:List Nm} {s:Nm},isN l s=false→putN l s=l.take (placeN l s)++[s]++l.drop (placeN l s)
 |[],_,h=>rfl
 |x::l,s,h=>by
  by_cases hx:x<s
  ·rw [isN,if_pos hx] at h
   rw [putN,if_pos hx,putN_not h,placeN,if_pos hx]
   simp
  ·rw [isN,if_neg hx] at h
   rw [putN,if_neg hx,if_neg (by simpa using h),placeN,if_neg hx]
   simp
theorem mem_putN:∀ {l:List Nm} {s x:Nm},x∈putN l s↔x=s∨x∈l
 |[],s,x=>by simp [putN]
 |y::l,s,x=>by
  rw [putN]
  split
  ·rw [List.mem_cons,mem_putN,List.mem_cons];exact or_left_comm
  ·split
   ·rename_i e
    subst e
    rw [List.mem_cons]
    exact ⟨fun h=> .inr h,fun h=>h.elim .inl id⟩
   ·rw [List.mem_cons,List.mem_cons]
theorem rise_putN:∀ {l:List Nm} {s:Nm},Rise l→Rise (putN l s)
 |[],s,_=>by simp [putN,Rise]
 |y::l,s,h=>by
  have h':=List.pairwise_cons.1 h
  rw [putN]
  split
  ·rename_i hy
   refine List.pairwise_cons.2 ⟨fun a ha=> ?_,rise_putN h'.2⟩
   rcases mem_putN.1 ha with rfl|ha
   ·exact hy
   ·exact h'.1 a ha
  ·rename_i hy
   split
   ·exact h
   ·rename_i hne
    have hs:s<y:=((nm_tri y s).resolve_left hy).resolve_left hne
    refine List.pairwise_cons.2 ⟨fun a ha=> ?_,h⟩
    rcases List.mem_cons.1 ha with rfl|ha
    ·exact hs
    ·exact nm_trans hs (h'.1 a ha)
theorem putN_length (l:List Nm) (s:Nm):(putN l s).length≤l.length+1:=by
 cases h:isN l s with
 |true=>rw [putN_is h];omega
 |false=>rw [putN_not h];have :=placeN_le l s;simp;omega
theorem rise_ext:∀ {a b:List Nm},Rise a→Rise b→(∀ x,x∈a↔x∈b)→a=b
 |[],[],_,_,_=>rfl
 |[],y::b,_,_,h=>absurd ((h y).2 (List.mem_cons_self ..)) (by simp)
 |x::a,[],_,_,h=>absurd ((h x).1 (List.mem_cons_self ..)) (by simp)
 |x::a,y::b,ha,hb,h=>by
  have ha':=List.pairwise_cons.1 ha
  have hb':=List.pairwise_cons.1 hb
  have e:x=y:=by
   rcases List.mem_cons.1 ((h x).1 (List.mem_cons_self ..)) with e|h1
   ·exact e
   ·rcases List.mem_cons.1 ((h y).2 (List.mem_cons_self ..)) with e|h2
    ·exact e.symm
    ·exact absurd (ha'.1 y h2) (nm_asym (hb'.1 x h1))
  subst e
  congr 1
  refine rise_ext ha'.2 hb'.2 fun z=>⟨fun hz=> ?_,fun hz=> ?_⟩
  ·rcases List.mem_cons.1 ((h z).1 (List.mem_cons_of_mem _ hz)) with rfl|h1
   ·exact absurd (ha'.1 z hz) (nm_irrefl z)
   ·exact h1
  ·rcases List.mem_cons.1 ((h z).2 (List.mem_cons_of_mem _ hz)) with rfl|h1
   ·exact absurd (hb'.1 z hz) (nm_irrefl z)
   ·exact h1
structure Good (g:List Nm):Prop where
 rise:Rise g
 eight:∀ x∈g,x.length≤8
theorem mem_foldl_putN:∀ (xs:List Nm) (a:List Nm) (x:Nm),x∈xs.foldl putN a↔x∈xs∨x∈a
 |[],a,x=>by simp
 |y::xs,a,x=>by
  rw [List.foldl_cons,mem_foldl_putN xs,mem_putN,List.mem_cons]
  constructor
  ·rintro (h|h|h)
   ·exact .inl (.inr h)
   ·exact .inl (.inl h)
   ·exact .inr h
  ·rintro ((h|h)|h)
   ·exact .inr (.inl h)
   ·exact .inl h
   ·exact .inr (.inr h)
theorem rise_foldl_putN:∀ (xs:List Nm) (a:List Nm),Rise a→Rise (xs.foldl putN a)
 |[],a,h=>h
 |y::xs,a,h=>rise_foldl_putN xs _ (rise_putN h)
theorem foldl_putN_length:∀ (xs a:List Nm),(xs.foldl putN a).length≤xs.length+a.length
 |[],a=>by simp
 |y::xs,a=>by
  rw [List.foldl_cons,List.length_cons]
  have :=foldl_putN_length xs (putN a y)
  have :=putN_length a y
  omega
end Go.Proofs.YtmoomnpbiifedaaGreat
set_option linter.unusedVariables false
namespace Go.Proofs.YtmoomnpbiifedaaGreat
open Go
abbrev Fd:=Nm × Nm
abbrev Tm:=Nm × Nm
def smallB (c:UInt8):Bool:=decide (97≤c.toNat)&&decide (c.toNat≤122)
def nameB (s:Nm):Bool:=s.all smallB&&(decide (1≤s.length)&&decide (s.length≤12))
theorem nameB_bad {s:Nm} {k:Nat} (hk:k<s.length) (h:smallB s[k]=false):nameB s=false:=by
 rw [← Bool.not_eq_true,nameB,Bool.and_eq_true]
 intro hh
 rw [List.all_eq_true.1 hh.1 _ (List.getElem_mem hk)] at h
 cases h
theorem nameB_good {s:Nm} (h:∀ k (hk:k<s.length),smallB s[k]=true):nameB s=(decide (1≤s.length)&&decide (s.length≤12)):=by
 rw [nameB,List.all_eq_true.2 fun c hc=>by obtain ⟨k,hk,rfl⟩:=List.getElem_of_mem hc;exact h k hk,Bool.true_and]
theorem nameB_zero {s:Nm} (h:nameB s=true):(0:UInt8)∉s:=fun h0=>by
 rw [nameB,Bool.and_eq_true] at h
 exact absurd (List.all_eq_true.1 h.1 _ h0) (by decide)
def mayF:List Nm→Nat→List Fd→Int
 |_,n,[]=>if 500<n then 7 else 0
 |seen,n,f::fs=>if nameB f.1=false then 4 else if f.1∈seen then 5 else if errFrom 0 (words f.2)≠0 then errFrom 0 (words f.2) else mayF (seen++[f.1]) (n+(words f.2).length) fs
def mayD (l:List Fd):Int:=if 8<l.length then 7 else mayF [] 0 l
def wordsD:List Fd→Nm→List Nm
 |[],_=>[]
 |f::fs,s=>if f.1=s then words f.2 else wordsD fs s
theorem wordsD_at {l:List Fd} {s:Nm}:∀ {k:Nat} (hk:k<l.length),(∀ j (hj:j<l.length),j<k→l[j].1≠s)→l[k].1=s→wordsD l s=words l[k].2:=by
 induction l with
 |nil=>intro k hk;simp at hk
 |cons f fs ih=>
  intro k hk h1 h2
  cases k with
  |zero=>exact if_pos h2
  |succ k=>
   have e:=h1 0 (by simp) (by omega)
   rw [zB] at e
   rw [wordsD,if_neg e]
   exact ih (by simpa using hk) (fun j hj hjk=>by have :=h1 (j+1) (by simpa using hj) (by omega);simpa using this) (by simpa using h2)
theorem wordsD_none {l:List Fd} {s:Nm} (h:∀ j (hj:j<l.length),l[j].1≠s):wordsD l s=[]:=by
 induction l with
 |nil=>rfl
 |cons f fs ih=>
  have e:=h 0 (by simp)
  rw [zB] at e
  rw [wordsD,if_neg e]
  exact ih fun j hj=>by have :=h (j+1) (by simpa using hj);simpa using this
def placesW:Nat→List Nm→Nm→List Int
 |_,[],_=>[]
 |i,y::l,x=>if y=x then (i:Int)::placesW (i+1) l x else placesW (i+1) l x
theorem placesW_at {l:List Nm} {x:Nm} {i k:Nat} (hk:k<l.length):placesW i (l.drop k) x=if l[k]=x then (i:Int)::placesW (i+1) (l.drop (k+1)) x else placesW (i+1) (l.drop (k+1)) x:=by
 rw [List.drop_eq_getElem_cons hk,placesW]
def placesD (l:List Fd) (t:Tm):List Int:=placesW 0 (wordsD l t.1) t.2
theorem placesW_length (x:Nm):∀ (l:List Nm) (i:Nat),(placesW i l x).length≤l.length
 |[],_=>Nat.le_refl _
 |y::l,i=>by
  have :=placesW_length x l (i+1)
  rw [placesW]
  split<;>simp <;>omega
def keyT (t:Tm):Nm:=keyL t.1 t.2
def atT (l:List Tm) (k:Nat):Tm:=l.getD k ([],[])
def backT (l:List Tm) (t:Tm):Nat→Nat
 |0=>0
 |k+1=>if keyT t<keyT (atT l k) then backT l t k else k+1
theorem backT_le (l:List Tm) (t:Tm):∀ k,backT l t k≤k
 |0=>Nat.le_refl _
 |k+1=>by
  have :=backT_le l t k
  rw [backT]
  split<;>omega
theorem backT_stop {l:List Tm} {t:Tm}:∀ {k:Nat},0<backT l t k→¬ keyT t<keyT (atT l (backT l t k-1))
 |0,h=>by simp [backT] at h
 |k+1,h=>by
  by_cases hk:keyT t<keyT (atT l k)
  ·have e:backT l t (k+1)=backT l t k:=by rw [backT,if_pos hk]
   rw [e] at h ⊢
   exact backT_stop h
  ·have e:backT l t (k+1)=k+1:=by rw [backT,if_neg hk]
   rw [e]
   exact hk
theorem backT_above {l:List Tm} {t:Tm}:∀ {k j:Nat},backT l t k≤j→j<k→keyT t<keyT (atT l j)
 |0,j,_,h=>by omega
 |k+1,j,h1,h2=>by
  by_cases hk:keyT t<keyT (atT l k)
  ·have e:backT l t (k+1)=backT l t k:=by rw [backT,if_pos hk]
   rw [e] at h1
   by_cases e:j=k
   ·subst e;exact hk
   ·exact backT_above h1 (by omega)
  ·have e:backT l t (k+1)=k+1:=by rw [backT,if_neg hk]
   omega
def hereT (l:List Tm) (t:Tm) (k:Nat):Bool:=decide (0<k)&&decide (atT l (k-1)=t)
def putT (l:List Tm) (t:Tm):List Tm:=if hereT l t (backT l t l.length)=true then l else l.take (backT l t l.length)++t::l.drop (backT l t l.length)
def termsD (l:List Fd):List Tm:=l.foldl (fun a f=>(wordsD l f.1).foldl (fun b x=>putT b (f.1,x)) a) []
def RiseT (l:List Tm):Prop:=Rise (l.map keyT)
theorem atT_lt {l:List Tm} {k:Nat} (hk:k<l.length):atT l k=l[k]:=by rw [atT,List.getD_eq_getElem?_getD,List.getElem?_eq_getElem hk];rfl
theorem keyT_inj {s t:Tm} (h:keyT s=keyT t) (h0:(0:UInt8)∉s.1) (h1:(0:UInt8)∉t.1):s=t:=by
 obtain ⟨e1,e2⟩:=keyL_inj h h0 h1
 exact Prod.ext e1 e2
theorem mem_putT {l:List Tm} {s t:Tm}:s∈putT l t↔s∈l∨s=t:=by
 unfold putT
 split
 ·rename_i h
  rw [hereT,Bool.and_eq_true,decide_eq_true_iff,decide_eq_true_iff] at h
  have :=backT_le l t l.length
  have hk:backT l t l.length-1<l.length:=by omega
  rw [atT_lt hk] at h
  constructor
  ·exact .inl
  ·rintro (h1|rfl)
   ·exact h1
   ·rw [← h.2];exact List.getElem_mem hk
 ·rw [List.mem_append,List.mem_cons]
  conv=>rhs;rw [← List.take_append_drop (backT l t l.length) l,List.mem_append]
  constructor
  ·rintro (h|h|h)
   ·exact .inl (.inl h)
   ·exact .inr h
   ·exact .inl (.inr h)
  ·rintro ((h|h)|h)
   ·exact .inl h
   ·exact .inr (.inr h)
   ·exact .inr (.inl h)
theorem riseT_at {l:List Tm} (h:RiseT l) {i j:Nat} (hj:j<l.length) (hij:i<j):keyT (atT l i)<keyT (atT l j):=by
 have :=rise_at h (i:=i) (j:=j) (by simpa using hj) hij
 rwa [atT_lt hj,atT_lt (by omega),← List.getElem_map keyT,← List.getElem_map keyT]
 all_goals simp <;>omega
theorem riseT_put {l:List Tm} {t:Tm} (h:RiseT l) (h0:∀ s∈l,(0:UInt8)∉s.1) (h1:(0:UInt8)∉t.1):RiseT (putT l t):=by
 unfold putT
 split
 ·exact h
 ·rename_i hh
  obtain ⟨k,hk⟩:∃ k,k=backT l t l.length:=⟨_,rfl⟩
  have hle:=backT_le l t l.length
  have habove:∀ j,k≤j→j<l.length→keyT t<keyT (atT l j):=fun j a b=>backT_above (k:=l.length) (by omega) b
  have hstop:0<k→¬ keyT t<keyT (atT l (k-1)):=fun a=>by rw [hk];exact backT_stop (by omega)
  rw [← hk] at hh hle
  rw [← hk]
  have hlow:0<k→keyT (atT l (k-1))<keyT t:=fun a=>by
   rcases nm_tri (keyT (atT l (k-1))) (keyT t) with e|e|e
   ·exact e
   ·refine absurd ?_ hh
    rw [hereT,Bool.and_eq_true,decide_eq_true_iff,decide_eq_true_iff]
    have hk1:k-1<l.length:=by omega
    exact ⟨a,keyT_inj e (by rw [atT_lt hk1];exact h0 _ (List.getElem_mem hk1)) h1⟩
   ·exact absurd e (hstop a)
  unfold RiseT Rise
  rw [List.map_append,List.map_cons]
  have hp:List.Pairwise (· <·) (l.map keyT):=h
  refine List.pairwise_append.2 ⟨?_,List.pairwise_cons.2 ⟨?_,?_⟩,?_⟩
  ·exact hp.sublist ((List.take_sublist k l).map keyT)
  ·intro x hx
   obtain ⟨s,hs,rfl⟩:=List.mem_map.1 hx
   obtain ⟨j,hj,rfl⟩:=List.getElem_of_mem hs
   rw [List.length_drop] at hj
   have :=habove (k+j) (by omega) (by omega)
   rw [atT_lt (by omega)] at this
   rwa [List.getElem_drop]
  ·exact hp.sublist ((List.drop_sublist k l).map keyT)
  ·intro x hx y hy
   obtain ⟨s,hs,rfl⟩:=List.mem_map.1 hx
   obtain ⟨i,hi,rfl⟩:=List.getElem_of_mem hs
   rw [List.length_take] at hi
   have hx:keyT (atT l i)<keyT t:=by
    by_cases e:i=k-1
    ·subst e;exact hlow (by omega)
    ·exact nm_trans (riseT_at h (i:=i) (j:=k-1) (by omega) (by omega)) (hlow (by omega))
   rw [atT_lt (by omega)] at hx
   rw [List.getElem_take]
   rcases List.mem_cons.1 hy with rfl|hy
   ·exact hx
   ·obtain ⟨s,hs,rfl⟩:=List.mem_map.1 hy
    obtain ⟨j,hj,rfl⟩:=List.getElem_of_mem hs
    rw [List.length_drop] at hj
    have :=habove (k+j) (by omega) (by omega)
    rw [atT_lt (by omega)] at this
    rw [List.getElem_drop]
    exact nm_trans hx this
def weightD (l:List Fd):Nat:=(l.map fun f=>(wordsD l f.1).length).sum
def poolN (i:Nat):Nm:=[116+UInt8.ofNat i]
def goodF (i:Nat) (f:Fd):Fd:=(if nameB f.1=true then f.1 else poolN i,f.2.take 40)
def goodUp (l:List Fd):Nat→List Fd
 |0=>[]
 |k+1=>if mayD (goodUp l k++[goodF k (l.getD k ([],[]))])=0 then goodUp l k++[goodF k (l.getD k ([],[]))] else goodUp l k
def goodD (l:List Fd):List Fd:=goodUp l (min l.length 4)
theorem goodUp_may (l:List Fd):∀ k,mayD (goodUp l k)=0
 |0=>rfl
 |k+1=>by
  rw [goodUp]
  split
  ·rename_i h;exact h
  ·exact goodUp_may l k
theorem goodD_may (l:List Fd):mayD (goodD l)=0:=goodUp_may _ _
theorem goodUp_length (l:List Fd):∀ k,(goodUp l k).length≤k
 |0=>Nat.le_refl _
 |k+1=>by
  have :=goodUp_length l k
  rw [goodUp]
  split
  ·simp;omega
  ·omega
theorem goodF_text (i:Nat) (f:Fd):(goodF i f).2.length≤40:=by simp [goodF];omega
theorem goodUp_text (l:List Fd):∀ k,∀ f∈goodUp l k,f.2.length≤40
 |0,f,h=>by cases h
 |k+1,f,h=>by
  rw [goodUp] at h
  split at h
  ·rcases List.mem_append.1 h with h|h
   ·exact goodUp_text l k f h
   ·rw [List.mem_singleton.1 h];exact goodF_text _ _
  ·exact goodUp_text l k f h
end Go.Proofs.YtmoomnpbiifedaaGreat
set_option linter.unusedVariables false
namespace Go.Proofs.YtmoomnpbiifedaaGreat
open Go
def tellF (s:Nm):Nat→List Nm→List (Tm × Int)
 |_,[]=>[]
 |i,x::l=>((s,x),(i:Int))::tellF s (i+1) l
theorem tellF_append (s:Nm):∀ (l:List Nm) (i:Nat) (x:Nm),tellF s i (l++[x])=tellF s i l++[((s,x),((i+l.length:Nat):Int))]
 |[],i,x=>rfl
 |y::l,i,x=>by
  rw [List.cons_append,tellF,tellF,tellF_append s l (i+1) x,List.cons_append,List.length_cons,Nat.add_assoc,Nat.add_comm 1]
theorem tellF_succ (s:Nm) {l:List Nm} {k:Nat} (hk:k<l.length):tellF s 0 (l.take (k+1))=tellF s 0 (l.take k)++[((s,l[k]),(k:Int))]:=by
 rw [List.take_succ_eq_append_getElem hk,tellF_append,List.length_take,Nat.zero_add,Nat.min_eq_left (by omega)]
theorem tellF_length (s:Nm):∀ (l:List Nm) (i:Nat),(tellF s i l).length=l.length
 |[],_=>rfl
 |x::l,i=>by rw [tellF,List.length_cons,tellF_length s l,List.length_cons]
def tellD:List Fd→List (Tm × Int)
 |[]=>[]
 |f::l=>tellF f.1 0 (words f.2)++tellD l
theorem tellD_append:∀ (l:List Fd) (f:Fd),tellD (l++[f])=tellD l++tellF f.1 0 (words f.2)
 |[],f=>by simp [tellD]
 |g::l,f=>by rw [List.cons_append,tellD,tellD,tellD_append l f,List.append_assoc]
theorem tellD_succ {l:List Fd} {k:Nat} (hk:k<l.length):tellD (l.take (k+1))=tellD (l.take k)++tellF l[k].1 0 (words l[k].2):=by
 rw [List.take_succ_eq_append_getElem hk,tellD_append]
abbrev Gr:=Tm × List Int
def addG:List Gr→Tm→Int→List Gr
 |[],t,a=>[(t,[a])]
 |p::g,t,a=>if p.1=t then (p.1,p.2++[a])::g else p::addG g t a
def groupsT (s:List (Tm × Int)):List Gr:=s.foldl (fun g p=>addG g p.1 p.2) []
theorem groupsT_snoc (s:List (Tm × Int)) (t:Tm) (a:Int):groupsT (s++[(t,a)])=addG (groupsT s) t a:=by
 unfold groupsT
 rw [List.foldl_append]
 rfl
def getG:List Gr→Tm→List Int
 |[],_=>[]
 |p::g,t=>if p.1=t then p.2 else getG g t
theorem getG_add (t u:Tm) (a:Int):∀ g:List Gr,getG (addG g t a) u=if t=u then getG g u++[a] else getG g u
 |[]=>by by_cases h:t=u<;>simp [addG,getG,h]
 |p::g=>by
  rw [addG]
  by_cases h1:p.1=t
  ·rw [if_pos h1,getG,getG]
   by_cases h2:t=u
   ·rw [if_pos h2,if_pos (h1.trans h2),if_pos (h1.trans h2)]
   ·rw [if_neg h2,if_neg (fun e=>h2 (h1.symm.trans e)),if_neg (fun e=>h2 (h1.symm.trans e))]
  ·rw [if_neg h1,getG,getG,getG_add t u a g]
   by_cases h2:p.1=u
   ·rw [if_pos h2,if_pos h2,if_neg (fun e=>h1 (h2.trans e.symm))]
   ·rw [if_neg h2,if_neg h2]
def placesS (s:List (Tm × Int)) (t:Tm):List Int:=(s.filter fun p=>decide (p.1=t)).map (·.2)
theorem getG_fold (t:Tm):∀ (s:List (Tm × Int)) (g:List Gr),getG (s.foldl (fun g p=>addG g p.1 p.2) g) t=getG g t++placesS s t
 |[],g=>by simp [placesS]
 |p::s,g=>by
  rw [List.foldl_cons,getG_fold t s,getG_add]
  unfold placesS
  by_cases h:p.1=t<;>simp [h]
theorem getG_groups (s:List (Tm × Int)) (t:Tm):getG (groupsT s) t=placesS s t:=by
 rw [groupsT,getG_fold]
 rfl
theorem keys_add (t:Tm) (a:Int):∀ g:List Gr,(addG g t a).map (·.1)=if t∈g.map (·.1) then g.map (·.1) else g.map (·.1)++[t]
 |[]=>rfl
 |p::g=>by
  have ih:=keys_add t a g
  rw [addG]
  by_cases h:p.1=t
  ·rw [if_pos h,if_pos (by simp [h])]
   rfl
  ·rw [if_neg h,List.map_cons,ih,List.map_cons]
   by_cases h2:t∈g.map (·.1)
   ·rw [if_pos h2,if_pos (List.mem_cons_of_mem _ h2)]
   ·rw [if_neg h2,if_neg]
    ·rfl
    ·intro h3
     rcases List.mem_cons.1 h3 with h3|h3
     ·exact h h3.symm
     ·exact h2 h3
theorem keys_nodup_add {g:List Gr} (h:(g.map (·.1)).Nodup) (t:Tm) (a:Int):((addG g t a).map (·.1)).Nodup:=by
 rw [keys_add]
 split
 ·exact h
 ·rename_i hn
  rw [List.nodup_append]
  exact ⟨h,by simp,fun x hx y hy e=>hn (by rw [List.mem_singleton] at hy;rw [← hy,← e];exact hx)⟩
theorem keys_fold:∀ (s:List (Tm × Int)) (g:List Gr),(g.map (·.1)).Nodup→((s.foldl (fun g p=>addG g p.1 p.2) g).map (·.1)).Nodup∧∀ t,t∈(s.foldl (fun g p=>addG g p.1 p.2) g).map (·.1)↔t∈g.map (·.1)∨t∈s.map (·.1)
 |[],g,h=>⟨h,by simp⟩
 |p::s,g,h=>by
  obtain ⟨h1,h2⟩:=keys_fold s (addG g p.1 p.2) (keys_nodup_add h _ _)
  refine ⟨h1,fun t=> ?_⟩
  rw [List.foldl_cons,h2,keys_add,List.map_cons,List.mem_cons]
  split
  ·rename_i hp
   constructor
   ·rintro (h|h)
    ·exact .inl h
    ·exact .inr (.inr h)
   ·rintro (h|rfl|h)
    ·exact .inl h
    ·exact .inl hp
    ·exact .inr h
  ·rw [List.mem_append,List.mem_singleton,or_assoc]
theorem groups_nodup (s:List (Tm × Int)):((groupsT s).map (·.1)).Nodup:=(keys_fold s [] (by simp)).1
theorem groups_mem (s:List (Tm × Int)) (t:Tm):t∈(groupsT s).map (·.1)↔t∈s.map (·.1):=by
 rw [groupsT,(keys_fold s [] (by simp)).2]
 simp
def ApartF (l:List Fd):Prop:=l.Pairwise fun f g=>f.1≠g.1
theorem wordsD_of {l:List Fd} (h:ApartF l) {f:Fd} (hf:f∈l):wordsD l f.1=words f.2:=by
 induction l with
 |nil=>cases hf
 |cons g l ih=>
  rw [ApartF,List.pairwise_cons] at h
  rw [wordsD]
  rcases List.mem_cons.1 hf with rfl|hf
  ·exact if_pos rfl
  ·rw [if_neg (h.1 f hf)]
   exact ih h.2 hf
theorem wordsD_other {l:List Fd} {s:Nm} (h:∀ f∈l,f.1≠s):wordsD l s=[]:=by
 induction l with
 |nil=>rfl
 |cons g l ih=>
  rw [wordsD,if_neg (h g (List.mem_cons_self ..))]
  exact ih fun f hf=>h f (List.mem_cons_of_mem _ hf)
theorem placesS_append (a b:List (Tm × Int)) (t:Tm):placesS (a++b) t=placesS a t++placesS b t:=by simp [placesS]
theorem placesS_F (s:Nm) (t:Tm):∀ (l:List Nm) (i:Nat),placesS (tellF s i l) t=if s=t.1 then placesW i l t.2 else []
 |[],i=>by simp [tellF,placesS,placesW]
 |x::l,i=>by
  have ih:=placesS_F s t l (i+1)
  rw [tellF]
  unfold placesS at ih ⊢
  rw [List.filter_cons]
  obtain ⟨t1,t2⟩:=t
  simp only [Prod.mk.injEq] at ih ⊢
  by_cases h1:s=t1
  ·rw [if_pos h1] at ih ⊢
   rw [placesW]
   by_cases h2:x=t2
   ·rw [if_pos h2,if_pos (by simp [h1,h2]),List.map_cons,ih]
   ·rw [if_neg h2,if_neg (by simp [h2]),ih]
  ·rw [if_neg h1] at ih ⊢
   rw [if_neg (by simp [h1]),ih]
theorem placesS_D {l:List Fd} (h:ApartF l) (t:Tm):placesS (tellD l) t=placesD l t:=by
 induction l with
 |nil=>rfl
 |cons f l ih=>
  rw [ApartF,List.pairwise_cons] at h
  rw [tellD,placesS_append,placesS_F,ih h.2]
  unfold placesD
  rw [wordsD]
  by_cases h1:f.1=t.1
  ·rw [if_pos h1,if_pos h1,wordsD_other (fun g hg e=>h.1 g hg (h1.trans e.symm)),placesW,List.append_nil]
  ·rw [if_neg h1,if_neg h1,List.nil_append]
theorem tellF_mem (s:Nm) (t:Tm):∀ (l:List Nm) (i:Nat),t∈(tellF s i l).map (·.1)↔t.1=s∧t.2∈l
 |[],i=>by simp [tellF]
 |x::l,i=>by
  rw [tellF,List.map_cons,List.mem_cons,tellF_mem s t l,List.mem_cons]
  obtain ⟨t1,t2⟩:=t
  simp only [Prod.mk.injEq]
  constructor
  ·rintro (⟨h1,h2⟩|⟨h1,h2⟩)
   ·exact ⟨h1,.inl h2⟩
   ·exact ⟨h1,.inr h2⟩
  ·rintro ⟨h1,h2|h2⟩
   ·exact .inl ⟨h1,h2⟩
   ·exact .inr ⟨h1,h2⟩
theorem tellD_mem (t:Tm):∀ l:List Fd,t∈(tellD l).map (·.1)↔∃ f∈l,t.1=f.1∧t.2∈words f.2
 |[]=>by simp [tellD]
 |f::l=>by rw [tellD,List.map_append,List.mem_append,tellF_mem,tellD_mem t l];simp
theorem putAll_mem (s:Nm) (t:Tm):∀ (ws:List Nm) (a:List Tm),t∈ws.foldl (fun b x=>putT b (s,x)) a↔t∈a∨(t.1=s∧t.2∈ws)
 |[],a=>by simp
 |x::ws,a=>by
  rw [List.foldl_cons,putAll_mem s t ws,mem_putT,List.mem_cons]
  obtain ⟨t1,t2⟩:=t
  simp only [Prod.mk.injEq]
  constructor
  ·rintro ((h|⟨h1,h2⟩)|⟨h1,h2⟩)
   ·exact .inl h
   ·exact .inr ⟨h1,.inl h2⟩
   ·exact .inr ⟨h1,.inr h2⟩
  ·rintro (h|⟨h1,h2|h2⟩)
   ·exact .inl (.inl h)
   ·exact .inl (.inr ⟨h1,h2⟩)
   ·exact .inr ⟨h1,h2⟩
theorem termsFold_mem (l:List Fd) (t:Tm):∀ (m:List Fd) (a:List Tm),t∈m.foldl (fun a f=>(wordsD l f.1).foldl (fun b x=>putT b (f.1,x)) a) a↔t∈a∨∃ f∈m,t.1=f.1∧t.2∈wordsD l f.1
 |[],a=>by simp
 |f::m,a=>by
  rw [List.foldl_cons,termsFold_mem l t m,putAll_mem]
  simp [or_assoc]
theorem termsD_mem {l:List Fd} (h:ApartF l) (t:Tm):t∈termsD l↔t∈(tellD l).map (·.1):=by
 rw [termsD,termsFold_mem,tellD_mem]
 simp only [List.not_mem_nil,false_or]
 constructor
 ·rintro ⟨f,hf,h1,h2⟩;exact ⟨f,hf,h1,by rwa [wordsD_of h hf] at h2⟩
 ·rintro ⟨f,hf,h1,h2⟩;exact ⟨f,hf,h1,by rwa [wordsD_of h hf]⟩
def NoZero (l:List Fd):Prop:=∀ f∈l,(0:UInt8)∉f.1
theorem putAll_rise {s:Nm} (h0:(0:UInt8)∉s):∀ (ws:List Nm) (a:List Tm),RiseT a→(∀ t∈a,(0:UInt8)∉t.1)→RiseT (ws.foldl (fun b x=>putT b (s,x)) a)
 |[],a,h,_=>h
 |x::ws,a,h,hz=>putAll_rise h0 ws _ (riseT_put h hz h0) fun t ht=>by
  rcases mem_putT.1 ht with ht|rfl
  ·exact hz t ht
  ·exact h0
theorem termsFold_rise (l:List Fd):∀ (m:List Fd) (a:List Tm),NoZero m→RiseT a→(∀ t∈a,(0:UInt8)∉t.1)→RiseT (m.foldl (fun a f=>(wordsD l f.1).foldl (fun b x=>putT b (f.1,x)) a) a)
 |[],a,_,h,_=>h
 |f::m,a,hm,h,hz=>termsFold_rise l m _ (fun g hg=>hm g (List.mem_cons_of_mem _ hg)) (putAll_rise (hm f (List.mem_cons_self ..)) _ _ h hz) fun t ht=>by
  rcases (putAll_mem f.1 t _ _).1 ht with ht|⟨ht,_⟩
  ·exact hz t ht
  ·rw [ht];exact hm f (List.mem_cons_self ..)
theorem termsD_rise {l:List Fd} (h:NoZero l):RiseT (termsD l):=termsFold_rise l l [] h (by simp [RiseT,Rise]) (by simp)
theorem termsD_zero {l:List Fd} (ha:ApartF l) (h:NoZero l) {t:Tm} (ht:t∈termsD l):(0:UInt8)∉t.1:=by
 obtain ⟨f,hf,h1,_⟩:=(tellD_mem t l).1 ((termsD_mem ha t).1 ht)
 rw [h1]
 exact h f hf
theorem terms_sorted {l:List Fd} (ha:ApartF l) (h0:NoZero l) {ts:List Tm} (hp:ts.Perm ((groupsT (tellD l)).map (·.1))) (hs:ts.Pairwise fun s t=>¬ keyT t<keyT s):ts=termsD l:=by
 have hmem:∀ t,t∈ts↔t∈termsD l:=fun t=>by rw [hp.mem_iff,groups_mem,termsD_mem ha]
 have hz:∀ t∈ts,(0:UInt8)∉t.1:=fun t ht=>termsD_zero ha h0 ((hmem t).1 ht)
 have hnd:ts.Nodup:=hp.nodup_iff.2 (groups_nodup _)
 have hr:RiseT ts:=by
  unfold RiseT Rise
  rw [List.pairwise_map]
  have h1:ts.Pairwise fun s t=>s∈ts∧t∈ts∧s≠t:=by
   rw [List.pairwise_iff_getElem]
   intro i j hi hj hij
   exact ⟨List.getElem_mem hi,List.getElem_mem hj,fun e=>by have :=(List.getElem_inj hnd).1 e;omega⟩
  refine (hs.and h1).imp fun {s t} h=> ?_
  obtain ⟨h2,h3,h4,h5⟩:=h
  rcases nm_tri (keyT s) (keyT t) with e|e|e
  ·exact e
  ·exact absurd (keyT_inj e (hz s h3) (hz t h4)) h5
  ·exact absurd e h2
 have h2:ts.map keyT=(termsD l).map keyT:=rise_ext hr (termsD_rise h0) fun k=>by
  simp only [List.mem_map]
  constructor
  ·rintro ⟨t,ht,rfl⟩;exact ⟨t,(hmem t).1 ht,rfl⟩
  ·rintro ⟨t,ht,rfl⟩;exact ⟨t,(hmem t).2 ht,rfl⟩
 have hlen:ts.length=(termsD l).length:=by simpa using congrArg List.length h2
 refine List.ext_getElem hlen fun i h3 h4=> ?_
 refine keyT_inj ?_ (hz _ (List.getElem_mem h3)) (termsD_zero ha h0 (List.getElem_mem h4))
 have h5:=List.getElem_of_eq h2 (i:=i) (by simpa using h3)
 simpa using h5
theorem tellD_weight {l:List Fd} (h:ApartF l):(tellD l).length=weightD l:=by
 have h1:∀ m:List Fd,(∀ f∈m,f∈l)→(tellD m).length=(m.map fun f=>(wordsD l f.1).length).sum:=by
  intro m
  induction m with
  |nil=>intro _;rfl
  |cons f m ih=>
   intro hm
   rw [tellD,List.length_append,tellF_length,ih fun g hg=>hm g (List.mem_cons_of_mem _ hg),List.map_cons,List.sum_cons,wordsD_of h (hm f (List.mem_cons_self ..))]
 exact h1 l fun f hf=>hf
theorem mayF_of:∀ {l:List Fd} {seen:List Nm} {n:Nat},mayF seen n l=0→(∀ f∈l,nameB f.1=true∧f.1∉seen)∧ApartF l∧n+(l.map fun f=>(words f.2).length).sum≤500
 |[],seen,n,h=>by
  rw [mayF] at h
  split at h
  ·cases h
  ·exact ⟨by simp,List.Pairwise.nil,by simp;omega⟩
 |f::l,seen,n,h=>by
  rw [mayF] at h
  split at h
  ·cases h
  ·rename_i h1
   split at h
   ·cases h
   ·rename_i h2
    split at h
    ·rename_i h3;exact absurd h h3
    ·obtain ⟨g1,g2,g3⟩:=mayF_of h
     refine ⟨fun g hg=> ?_,List.pairwise_cons.2 ⟨fun g hg e=>(g1 g hg).2 (by rw [← e];simp),g2⟩,by rw [List.map_cons,List.sum_cons];omega⟩
     rcases List.mem_cons.1 hg with rfl|hg
     ·exact ⟨by simpa using h1,h2⟩
     ·exact ⟨(g1 g hg).1,fun e=>(g1 g hg).2 (List.mem_append_left _ e)⟩
theorem mayD_of {l:List Fd} (h:mayD l=0):l.length≤8∧(∀ f∈l,nameB f.1=true)∧ApartF l∧NoZero l∧weightD l≤500:=by
 unfold mayD at h
 split at h
 ·cases h
 ·rename_i h8
  obtain ⟨g1,g2,g3⟩:=mayF_of h
  refine ⟨by omega,fun f hf=>(g1 f hf).1,g2,fun f hf=>nameB_zero (g1 f hf).1,?_⟩
  rw [← tellD_weight g2]
  have :∀ m:List Fd,(tellD m).length=(m.map fun f=>(words f.2).length).sum:=by
   intro m
   induction m with
   |nil=>rfl
   |cons f m ih=>rw [tellD,List.length_append,tellF_length,ih,List.map_cons,List.sum_cons]
  rw [this]
  omega
theorem placesW_ge (x:Nm):∀ (l:List Nm) (i:Nat),∀ a∈placesW i l x,(i:Int)≤a
 |[],i,a,h=>by cases h
 |y::l,i,a,h=>by
  rw [placesW] at h
  split at h
  ·rcases List.mem_cons.1 h with rfl|h
   ·exact Int.le_refl _
   ·have :=placesW_ge x l (i+1) a h;omega
  ·have :=placesW_ge x l (i+1) a h;omega
theorem placesW_rise (x:Nm):∀ (l:List Nm) (i:Nat),(placesW i l x).Pairwise (· <·)
 |[],i=>List.Pairwise.nil
 |y::l,i=>by
  rw [placesW]
  split
  ·exact List.pairwise_cons.2 ⟨fun a ha=>by have :=placesW_ge x l (i+1) a ha;omega,placesW_rise x l (i+1)⟩
  ·exact placesW_rise x l (i+1)
theorem placesW_mem (x:Nm) (a:Int):∀ (l:List Nm) (i:Nat),a∈placesW i l x↔∃ k:Nat,a=((i+k:Nat):Int)∧l[k]?=some x
 |[],i=>by simp [placesW]
 |y::l,i=>by
  rw [placesW]
  have ih:=placesW_mem x a l (i+1)
  constructor
  ·intro h
   split at h
   ·rename_i hy
    rcases List.mem_cons.1 h with rfl|h
    ·exact ⟨0,by simp,by simp [hy]⟩
    ·obtain ⟨k,h1,h2⟩:=ih.1 h
     exact ⟨k+1,by rw [h1];congr 1;omega,by simpa using h2⟩
   ·obtain ⟨k,h1,h2⟩:=ih.1 h
    exact ⟨k+1,by rw [h1];congr 1;omega,by simpa using h2⟩
  ·rintro ⟨k,h1,h2⟩
   cases k with
   |zero=>
    have :y=x:=by simpa using h2
    rw [if_pos this]
    exact List.mem_cons.2 (.inl (by simpa using h1))
   |succ k=>
    have :=ih.2 ⟨k,by rw [h1];congr 1;omega,by simpa using h2⟩
    split
    ·exact List.mem_cons_of_mem _ this
    ·exact this
end Go.Proofs.YtmoomnpbiifedaaGreat
set_option linter.unusedVariables false
namespace Go.Proofs.YtmoomnpbiifedaaGreat
open Go
structure GoodF (l:List Fd):Prop where
 len:l.length≤8
 names:∀ f∈l,f.1.length≤12
 texts:∀ f∈l,f.2.length≤1024
 apart:ApartF l
 zero:NoZero l
 wordsF:∀ f∈l,(words f.2).length≤500
 wordsS:∀ s,(wordsD l s).length≤500
 weight:weightD l≤500
theorem le_sum:∀ {l:List Nat} {a:Nat},a∈l→a≤l.sum
 |x::l,a,h=>by
  rw [List.sum_cons]
  rcases List.mem_cons.1 h with rfl|h
  ·omega
  ·have :=le_sum h;omega
theorem wordsD_le {l:List Fd} (ha:ApartF l) (s:Nm):(wordsD l s).length≤weightD l:=by
 by_cases h:∃ f∈l,f.1=s
 ·obtain ⟨f,hf,rfl⟩:=h
  unfold weightD
  exact le_sum (List.mem_map.2 ⟨f,hf,rfl⟩)
 ·rw [wordsD_other fun f hf e=>h ⟨f,hf,e⟩]
  exact Nat.zero_le _
theorem goodF_of {l:List Fd} (hm:mayD l=0) (ht:∀ f∈l,f.2.length≤1024):GoodF l:=by
 obtain ⟨g1,g2,g3,g4,g5⟩:=mayD_of hm
 refine ⟨g1,fun f hf=> ?_,ht,g3,g4,fun f hf=> ?_,fun s=>Nat.le_trans (wordsD_le g3 s) g5,g5⟩
 ·have :=g2 f hf
  rw [nameB,Bool.and_eq_true,Bool.and_eq_true,decide_eq_true_iff,decide_eq_true_iff] at this
  exact this.2.2
 ·rw [← wordsD_of g3 hf]
  exact Nat.le_trans (wordsD_le g3 _) g5
end Go.Proofs.YtmoomnpbiifedaaGreat
