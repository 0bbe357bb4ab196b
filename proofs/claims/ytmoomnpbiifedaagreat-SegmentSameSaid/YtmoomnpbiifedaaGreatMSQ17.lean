import Derived.Test.YtmoomnpbiifedaaGreatMSQ16
import Derived.Test.YtmoomnpbiifedaaGreatMSQ15
import Derived.Test.YtmoomnpbiifedaaGreatMSQ05
import Derived.Test.YtmoomnpbiifedaaGreatMSQ14
import Derived.Test.YtmoomnpbiifedaaGreatMSQ10
import Derived.Test.YtmoomnpbiifedaaGreatMSQ04
import Derived.Test.YtmoomnpbiifedaaGreatMSQ06
import Derived.Test.YtmoomnpbiifedaaGreatMSQ07
import Derived.Lib.SliceRun
import Derived.Test.YtmoomnpbiifedaaGreatMSQ12
import Derived.Test.YtmoomnpbiifedaaGreatMSQ09
import Derived.Test.YtmoomnpbiifedaaGreatMSQ13
import Derived.Test.YtmoomnpbiifedaaGreatMSQ01
import Derived.Test.YtmoomnpbiifedaaGreatMSQ02
import Derived.Shelf.SlSortCmp.WholeK
import Derived.Deep.RegionHeld3
import Derived.Shelf.SlSortCmp.NoneTotal
import Derived.Test.YtmoomnpbiifedaaGreatProg
namespace Go.Proofs.YtmoomnpbiifedaaGreat
open Go Go.RowKit
set_option linter.unusedVariables false
def putAll (a:List Tm) (s:Nm) (ws:List Nm):List Tm:=ws.foldl (fun b x=>putT b (s,x)) a
def termsUp (l:List Fd) (k:Nat):List Tm:=(l.take k).foldl (fun a f=>putAll a f.1 (wordsD l f.1)) []
theorem termsUp_succ {l:List Fd} {k:Nat} (hk:k<l.length):termsUp l (k+1)=putAll (termsUp l k) l[k].1 (wordsD l l[k].1):=by
 unfold termsUp
 rw [List.take_succ_eq_append_getElem hk,List.foldl_append]
 rfl
theorem termsUp_all (l:List Fd):termsUp l l.length=termsD l:=by rw [termsUp,List.take_length];rfl
theorem putAll_succ {a:List Tm} {s:Nm} {ws:List Nm} {m:Nat} (hm:m<ws.length):putAll a s (ws.take (m+1))=putT (putAll a s (ws.take m)) (s,ws[m]):=by
 unfold putAll
 rw [List.take_succ_eq_append_getElem hm,List.foldl_append]
 rfl
theorem putT_length (l:List Tm) (t:Tm):(putT l t).length≤l.length+1:=by
 have :=backT_le l t l.length
 unfold putT
 split
 ·omega
 ·simp only [List.length_append,List.length_take,List.length_cons,List.length_drop]
  omega
theorem putAll_length (s:Nm):∀ (ws:List Nm) (a:List Tm),(putAll a s ws).length≤a.length+ws.length
 |[],a=>Nat.le_refl _
 |x::ws,a=>by
  have h1:=putT_length a (s,x)
  have h2:=putAll_length s ws (putT a (s,x))
  simp only [List.length_cons]
  show (putAll (putT a (s,x)) s ws).length≤_
  omega
theorem termsUp_length {l:List Fd} {M:Nat} (hw:∀ s,(wordsD l s).length≤M):∀ k,k≤l.length→(termsUp l k).length≤k*M
 |0,_=>by simp [termsUp]
 |k+1,hk=>by
  have h1:=termsUp_length hw k (by omega)
  have h2:=putAll_length (l[k]'(by omega)).1 (wordsD l (l[k]'(by omega)).1) (termsUp l k)
  have h3:=hw (l[k]'(by omega)).1
  rw [termsUp_succ (by omega),Nat.succ_mul]
  omega
theorem FitsT.put {l:List Tm} {t:Tm} (h:FitsT l) (h1:t.1.length≤536870912) (h2:t.2.length≤536870912):FitsT (putT l t):=fun s hs=>by
 rcases mem_putT.1 hs with hs|rfl
 ·exact h s hs
 ·exact ⟨h1,h2⟩
theorem FitsT.all {s:Nm} (h1:s.length≤536870912):∀ {ws:List Nm} {a:List Tm},FitsT a→(∀ x∈ws,x.length≤536870912)→FitsT (putAll a s ws)
 |[],a,h,_=>h
 |x::ws,a,h,h2=>FitsT.all h1 (ws:=ws) (h.put h1 (h2 x (List.mem_cons_self ..))) fun y hy=>h2 y (List.mem_cons_of_mem _ hy)
theorem wordsD_short {l:List Fd} (ht:∀ f∈l,f.2.length≤134217728) (s:Nm):∀ x∈wordsD l s,x.length≤536870912:=by
 induction l with
 |nil=>intro x hx;cases hx
 |cons f fs ih=>
  intro x hx
  rw [wordsD] at hx
  split at hx
  ·have :=words_size hx
   have :=ht f (List.mem_cons_self ..)
   omega
  ·exact ih (fun g hg=>ht g (List.mem_cons_of_mem _ hg)) x hx
theorem termsUp_fits {l:List Fd} (ht:∀ f∈l,f.1.length≤536870912∧f.2.length≤134217728):∀ k,k≤l.length→FitsT (termsUp l k)
 |0,_=>fun t h=>by simp [termsUp] at h
 |k+1,hk=>by
  rw [termsUp_succ (by omega)]
  exact (termsUp_fits ht k (by omega)).all (ht _ (List.getElem_mem _)).1 (wordsD_short (fun f hf=>(ht f hf).2) _)
def TermsRel (l:List Fd) (w1:World) (o i:Value) (wr:World):Prop:=∃ k:Nat,k≤l.length∧i= .int .i64 (k:Int)∧OwnTm w1.heap.size wr o (termsUp l k)∧Below w1.heap.size w1 wr
def PutAllRel (a:List Tm) (s:Nm) (ws:List Nm) (base:Nat) (w2:World) (o i:Value) (wr:World):Prop:=∃ (m:Nat) (vo:Value),vo=o∧m≤ws.length∧i= .int .i64 (m:Int)∧OwnTm base wr o (putAll a s (ws.take m))∧Below w2.heap.size w2 wr
def GaveTms (l:List Tm) (w:World) (e:Ending) (w':World):Prop:=∃ v,e= .returned v∧OwnTm w.heap.size w' v l∧Below w.heap.size w w'
set_option maxHeartbeats 4000000 in
set_option maxRecDepth 100000 in
theorem ref08_Terms (id:Int) (A:Option Addr) (n c:Nat) (l:List Fd) (w:World) (hl:l.length=n) (hr:FRow w w.heap.size A l) (hn:n≤100) (ht:∀ f∈l,f.1.length≤536870912∧f.2.length≤134217728) (hw:∀ s,(wordsD l s).length≤1000):
    Calls Tryz.prog 80 #[docV id A n c] w (GaveTms (termsD l) w):=by
  have HC:Hid (∀ w' (x:ByteArray),Below w.heap.size w w'→Calls Tryz.prog 109 #[docV id A n c,.string x] w' (GaveStrs (wordsD l x.data.toList) w')):=Lib.hid fun w' x h=>ref08_Words id A n c l x w' hl (hr.later h) (by omega) (fun f hf=>by have :=(ht f hf).2;omega)
  subst hl
  have HR:=Lib.hid hr
  have HW:=Lib.hid hw
  have HT:=Lib.hid ht
  clear hr ht hw
  obtain ⟨N,hN⟩:∃ N,N=termsD l:=⟨_,rfl⟩
  rw [← hN]
  have HN:=Lib.hid hN
  clear hN
  go_enter Tryz.func80,Tryz.ntmps80
  go_wp2
  obtain ⟨w1,hw1⟩:∃ w1,w1=boxD w id A l.length c:=⟨_,rfl⟩
  have hb1:∀ wr,Below w1.heap.size w1 wr→Below w.heap.size w wr∧wr.cell? ⟨w.heap.size,0,none⟩=some (.int .i64 id)∧wr.cell? ⟨w.heap.size,1,none⟩=some (.slice A l.length c):=fun wr h=>by
    subst hw1
    exact ⟨boxD_out h,boxD_cells h⟩
  have HB1:=Lib.hid hb1
  clear hb1
  rw [show w.alloc _=w1 from hw1.symm]
  clear hw1
  go_loopw [3,4,5,6] (fun o i x y wr=>TermsRel l w1 o i wr) (fun _ i _ _ _=>l.length-(intOf i).toNat)
  case atStart=>exact ⟨0,by omega,rfl,OwnTm.nil,Below.refl _ _⟩
  case round=>
    obtain ⟨k,hk,rfl,hown,hbw⟩:=hrel
    obtain ⟨hb0,hc0,hc1⟩:=HB1.out _ hbw
    by_cases hlt:k<l.length
    · obtain ⟨b1,o1,e1,hb1,hf1,_⟩:=(HR.out.below hb0).at_ hlt
      subst e1
      obtain ⟨x,hx,hx2⟩:=as_text l[k].1
      rw [← hx] at hf1
      have C1:=Lib.hid fun w' h=>HC.out w' x h
      have i0:(0:Int)≤k:=by omega
      have i1:(k:Int)<l.length:=by omega
      have HSS:Hid (∀ w',Below w1.heap.size wr w'→w'.cell? ⟨w.heap.size,0,none⟩=some (.int .i64 id)∧w'.cell? ⟨w.heap.size,1,none⟩=some (.slice (some ⟨b1,o1,none⟩) l.length c)∧w'.cell? ⟨b1,o1+k*2,none⟩=some (.string x)):=Lib.hid fun w' h=>by
        have h2:=HB1.out _ (hbw.trans h)
        refine ⟨h2.2.1,h2.2.2,?_⟩
        have h3:=(h.mono (by have :=(HB1.out _ (Below.refl _ _)).1.size;omega:w.heap.size≤w1.heap.size)).cell (p:=⟨b1,o1+k*2,none⟩) hb1
        exact h3.trans hf1
      have hsx:x.size≤536870912:=by rw [hx,size_nm];exact (HT.out _ (List.getElem_mem hlt)).1
      have hsu:=termsUp_succ hlt
      have hfit:=termsUp_fits HT.out k (by omega)
      have hlen:=termsUp_length HW.out k (by omega)
      have hwl:=HW.out l[k].1
      have hwf:=wordsD_short (fun f hf=>(HT.out f hf).2) l[k].1
      rw [← hx2] at hsu hwl hwf
      obtain ⟨ws,hws⟩:∃ ws,ws=wordsD l x.data.toList:=⟨_,rfl⟩
      obtain ⟨a,ha⟩:∃ a,a=termsUp l k:=⟨_,rfl⟩
      rw [← hws] at C1 hsu hwl hwf
      rw [← ha] at hsu hfit hlen hown
      have hlen2:a.length≤100000:=Nat.le_trans hlen (Nat.le_trans (Nat.mul_le_mul_right _ (by omega:k≤100)) (by omega))
      have HSU:=Lib.hid hsu
      have HFIT:=Lib.hid hfit
      have HWF:=Lib.hid hwf
      have HB0:=Lib.hid hb0
      have HOWN:=Lib.hid hown
      have HBW:=Lib.hid hbw
      have hsz:=hbw.size
      clear hx hx2 hws ha hsu hfit hlen hwf hb0 hown hbw
      go_wp2
      go_region_held3 (fun w'=>w'.cell? ⟨w.heap.size,0,none⟩=some (.int .i64 id)∧w'.cell? ⟨w.heap.size,1,none⟩=some (.slice (some ⟨b1,o1,none⟩) l.length c)∧w'.cell? ⟨b1,o1+k*2,none⟩=some (.string x))
        (first|exact HSS.out _ (Below.refl _ _).drew|exact HSS.out _ HB4.out)
        (first
          | (go_at_call 109; (with_reducible refine (C1.out _ (HB0.out.trans ((Below.refl _ wr).drew.mono (HB0.out.size)))).mono ?_); rintro e w4 ⟨v4, rfl, ho4, hb4⟩
             obtain ⟨A4,c4,rfl,hlc4,hrow4⟩:=owned_row ho4
             have HR4:=Lib.hid hrow4
             have HB5:Hid (Below wr.heap.size wr w4):=Lib.hid ((Below.refl _ wr).drew.trans hb4)
             have HB4:Hid (Below w1.heap.size wr w4):=Lib.hid (((Below.refl _ wr).drew.trans hb4).mono hsz)
             clear ho4 hb4 hrow4))
      all_goals
        go_wp2
        go_loopw [3,6] (fun o i wr=>PutAllRel a x.data.toList ws w1.heap.size w4 o i wr) (fun _ i _=>ws.length-(intOf i).toNat)
        case atStart=>exact ⟨0,_,rfl,by omega,rfl,HOWN.out.below HB5.out,Below.refl _ _⟩
        case round=>
          obtain ⟨m,vo,rfl,hm,rfl,hown2,hbi⟩:=hrel
          by_cases hmt:m<ws.length
          · obtain ⟨b2,o2,e2,hb2,hg1⟩:=row_nm (HR4.out.below hbi) hmt
            subst e2
            have hfy:=HWF.out _ (List.getElem_mem hmt)
            have hsu2:=putAll_succ (a:=a) (s:=x.data.toList) hmt
            obtain ⟨y,hy,hy2⟩:=as_text ws[m]
            rw [← hy] at hg1
            rw [← hy2] at hsu2
            have hsy:y.size≤536870912:=by rw [hy,size_nm];exact hfy
            have hfit2:FitsT (putAll a x.data.toList (ws.take m)):=HFIT.out.all (by rw [show x.data.toList.length=x.size from Array.length_toList];exact hsx) fun z hz=>HWF.out z (List.mem_of_mem_take hz)
            have hlen3:(putAll a x.data.toList (ws.take m)).length≤1048576:=by
              have :=putAll_length x.data.toList (ws.take m) a
              rw [List.length_take] at this
              omega
            obtain ⟨a',ha'⟩:∃ a',a'=putAll a x.data.toList (ws.take m):=⟨_,rfl⟩
            rw [← ha'] at hsu2 hfit2 hlen3 hown2
            have PT:Hid (∀ w',Below wr.heap.size wr w'→Calls Tryz.prog 110 #[vo,.agg #[.string x,.string y]] w' (PutGotT w1.heap.size (putT a' (x.data.toList,y.data.toList)) w')):=Lib.hid fun w' h=>
              ref08_PutTerm _ _ _ _ _ _ (hown2.below h) (by have :=h.size;have :=hbi.size;have :=HB4.out.size;omega) hlen3 hfit2 hsx hsy
            have j0:(0:Int)≤m:=by omega
            have j1:(m:Int)<ws.length:=by omega
            have hs4:=hbi.size
            have HS9:Hid (∀ w',Below wr.heap.size wr w'→w'.cell? ⟨w.heap.size,0,none⟩=some (.int .i64 id)∧w'.cell? ⟨w.heap.size,1,none⟩=some (.slice (some ⟨b1,o1,none⟩) l.length c)∧w'.cell? ⟨b1,o1+k*2,none⟩=some (.string x)∧w'.cell? ⟨b2,o2+m,none⟩=some (.string y)):=Lib.hid fun w' h=>by
              have h2:=HSS.out w' (HB4.out.trans ((hbi.trans (h.mono hs4)).mono (by have :=HB4.out.size;omega)))
              exact ⟨h2.1,h2.2.1,h2.2.2,(h.cell (p:=⟨b2,o2+m,none⟩) (by show b2<wr.heap.size;omega)).trans hg1⟩
            obtain ⟨q0,q1,q2,q3⟩:=HS9.out _ (Below.refl _ _)
            have HSU2:=Lib.hid hsu2
            have HBI:=Lib.hid hbi
            clear hy hy2 ha' hsu2 hfit2 hlen3 hown2 hfy hsy hbi hc0 hc1 hf1
            go_wp2
            go_region_held3 (fun w'=>w'.cell? ⟨w.heap.size,0,none⟩=some (.int .i64 id)∧w'.cell? ⟨w.heap.size,1,none⟩=some (.slice (some ⟨b1,o1,none⟩) l.length c)∧w'.cell? ⟨b1,o1+k*2,none⟩=some (.string x)∧w'.cell? ⟨b2,o2+m,none⟩=some (.string y))
              (first|exact HS9.out _ (Below.refl _ _).drew|exact HS9.out _ HB6.out)
              (first
                | (go_at_call 110; (with_reducible refine (PT.out _ (Below.refl _ wr).drew).mono ?_); rintro e w6 ⟨v6, rfl, ho6, hb6⟩
                   have HO6:=Lib.hid ho6
                   have HB6:Hid (Below wr.heap.size wr w6):=Lib.hid ((Below.refl _ wr).drew.trans hb6)
                   clear ho6 hb6))
            all_goals
              go_wp2
              exact ⟨⟨m+1,_,rfl,by omega,by go_num,by rw [HSU2.out];exact HO6.out,HBI.out.trans (HB6.out.mono hs4)⟩,by simp [intOf];omega⟩
          · have hmk:m=ws.length:=by omega
            subst hmk
            rw [List.take_length,← HSU.out] at hown2
            go_wp2
            exact ⟨⟨k+1,by omega,by go_num,hown2,HBW.out.trans (HB4.out.trans (hbi.mono (by have :=HB4.out.size;omega)))⟩,by simp [intOf];omega⟩
    · have hkl:k=l.length:=by omega
      subst hkl
      rw [termsUp_all,← HN.out] at hown
      have HB0:=Lib.hid hb0
      have HS1:=Lib.hid (HB1.out _ (Below.refl _ _)).1.size
      clear hb0
      go_wp2
      go_ret
      exact ⟨_,rfl,hown.low HS1.out,HB0.out⟩
end Go.Proofs.YtmoomnpbiifedaaGreat
set_option linter.unusedVariables false
namespace Go.Proofs.YtmoomnpbiifedaaGreat
open Go Go.RowKit
section
variable {S:Nat→Prop} {w:World} {B:Nat} {l:List En} {up:Int}
theorem keysE_bound {l:List En} (hg:GoodE l) (hn:l.length≤1000):(keysE l).length≤4000000:=by
 have h1:=keysE_length (l:=l) (a:=[]) (M:=4000) fun q hq=>by
  have h:=hg q hq
  have h1:=termsUp_length (l:=q.2.1) (M:=500) h.wordsS q.2.1.length (Nat.le_refl _)
  rw [termsUp_all] at h1
  exact Nat.le_trans h1 (Nat.le_trans (Nat.mul_le_mul_right _ h.len) (by omega))
 have h2:l.length*4000≤1000*4000:=Nat.mul_le_mul_right _ hn
 have h3:(keysE l).length≤l.length*4000+([]:List Nm).length:=h1
 simp only [List.length_nil] at h3
 omega
theorem buf_Keys (h:BufAt S w B l up) (hn:l.length≤1000):Calls Tryz.prog 51 #[.pointer (some ⟨B,0,none⟩)] w (GaveNm (keysE l) w):=by
  obtain ⟨v,M,c,g,h⟩:=h
  obtain ⟨c0,c1,c2,c3,_⟩:=four_cells h.cells
  obtain ⟨m,hm,hk,hl⟩:=h.map.keys
  have hp:(m.map (·.1)).Perm (keysE l):=by rw [hk];exact h.stand.perm
  have hlen:m.length≤134217727:=by rw [hl,h.stand.length];have :=keysE_bound h.good hn;omega
  have HM:=Lib.hid hm
  have HP:=Lib.hid hp
  clear h hm hk hl hp
  go_enter Tryz.func51,Tryz.ntmps51
  go_wp2_with (first
    | (go_at_call 90; (with_reducible refine (maps_KeysP M w).mono ?_); rintro e w1 ⟨rfl, hw1⟩
       have hb1:Below w.heap.size w w1:=by rw [hw1];exact (Below.refl _ _).alloc (Nat.le_refl _) _
       have hc1:w1.cell? ⟨w.heap.size,0,none⟩=some (.map (some M)):=by rw [hw1];simp
       have hm1:MapK w1 M c m:=(hb1.block M (Array.getElem?_eq_some_iff.1 HM.out).1).trans HM.out
       have HS:=Lib.hid (keys_sortedS w.heap.size M c m l w1 hm1 hc1 hlen HP.out)
       have HB1:=Lib.hid hb1
       clear hw1 hb1 hc1 hm1)
    |(go_at_call 89;(with_reducible refine HS.out.mono ?_);rintro e w2 ⟨v2,rfl,ho2,hb2⟩))
  go_ret
  exact ⟨_,rfl,ho2.low HB1.out.size,HB1.out.trans (hb2.mono HB1.out.size)⟩
end
end Go.Proofs.YtmoomnpbiifedaaGreat
set_option linter.unusedVariables false
namespace Go.Proofs.YtmoomnpbiifedaaGreat
open Go Go.RowKit
section
variable {id:Int} {A:Option Addr} {n c:Nat} {l:List Fd} {w:World}
theorem good_words (hg:GoodF l) (hl:l.length=n) (hr:FRow w w.heap.size A l) (s:ByteArray):Calls Tryz.prog 109 #[docV id A n c,.string s] w (GaveStrs (wordsD l s.data.toList) w):=
 ref08_Words id A n c l s w hl hr (by have :=hg.len;omega) (fun f hf=>by have :=hg.texts f hf;omega)
theorem good_terms (hg:GoodF l) (hl:l.length=n) (hr:FRow w w.heap.size A l):Calls Tryz.prog 80 #[docV id A n c] w (GaveTms (termsD l) w):=
 ref08_Terms id A n c l w hl hr (by have :=hg.len;omega) (fun f hf=>by have :=hg.names f hf;have :=hg.texts f hf;omega) (fun s=>by have :=hg.wordsS s;omega)
theorem good_rplaces (hg:GoodF l) (hl:l.length=n) (hr:FRow w w.heap.size A l) (f x:ByteArray):Calls Tryz.prog 82 #[docV id A n c,.agg #[.string f,.string x]] w (GaveInts (placesD l (f.data.toList,x.data.toList)) w):=
 ref08_Places id A n c l f x w hl hr (by have :=hg.len;omega) (fun f hf=>by have :=hg.texts f hf;omega) (fun s=>by have :=hg.wordsS s;omega)
end
end Go.Proofs.YtmoomnpbiifedaaGreat
namespace Go.Proofs.YtmoomnpbiifedaaGreat
open Go Go.RowKit
set_option linter.unusedVariables false
theorem terms_len9 {d:List Fd} (h:GoodF d):(termsD d).length≤4000:=by
 have h1:=termsUp_length (l:=d) (M:=500) h.wordsS d.length (Nat.le_refl _)
 rw [termsUp_all] at h1
 exact Nat.le_trans h1 (Nat.le_trans (Nat.mul_le_mul_right _ h.len) (by omega))
theorem term_fits9 {d:List Fd} (h:GoodF d) {t:Tm} (ht:t∈termsD d):t.1.length≤12∧t.2.length≤4096:=by
 obtain ⟨f,hf,h1,h2⟩:=(tellD_mem t d).1 ((termsD_mem h.apart t).1 ht)
 have :=h.names f hf
 have :=h.texts f hf
 have :=words_size h2
 rw [h1]
 omega
def KeysRel09 (l:List En) (w:World) (o i:Value) (wr:World):Prop:=∃ (k:Nat) (vo:Value),vo=o∧k≤l.length∧i= .int .i64 (k:Int)∧OwnNm w.heap.size wr vo (keysE (l.take k))∧Below w.heap.size w wr
def KeysRel9 (a:List Nm) (ts:List Tm) (b:Nat) (w2:World) (o i:Value) (wi:World):Prop:=∃ (j:Nat) (vo:Value),vo=o∧j≤ts.length∧i= .int .i64 (j:Int)∧OwnNm b wi vo (keysIn a (ts.take j))∧Below w2.heap.size w2 wi
set_option maxHeartbeats 2000000 in
set_option maxRecDepth 100000 in
theorem ref09_Keys (A:Option Addr) (n c:Nat) (l:List En) (w:World) (hl:l.length=n) (hr:Nest enS w w.heap.size A l) (hg:GoodE l) (hn:n≤100):
    Calls Tryz.prog 46 #[.slice A n c] w (GaveNm (keysE l) w):=by
  have HR:=Lib.hid hr
  have HG:=Lib.hid hg
  have HL:=Lib.hid hl
  clear hr hg hl
  go_enter Tryz.func46,Tryz.ntmps46
  go_wp2
  go_loopw [3,4,5,6] (fun o i t j wr=>KeysRel09 l w o i wr) (fun _ i _ _ _=>n-(intOf i).toNat)
  case atStart=>exact ⟨0,_,rfl,Nat.zero_le _,rfl,OwnNm.nil,Below.refl _ _⟩
  case round=>
    obtain ⟨k,vo,rfl,hk,rfl,hown,hbw⟩:=hrel
    by_cases hlt:k<n
    · have hkl:k<l.length:=by rw [HL.out];exact hlt
      have hnr:=Nest.later HR.out hbw
      obtain ⟨b,off,A',c',e1,_,g1,g2,_,_,_,hfr⟩:=enS_at hnr hkl
      subst e1
      have hkt:=keysE_take hkl
      have hgk:=HG.out _ (List.getElem_mem hkl)
      have HC:=Lib.hid (good_terms (id:=l[k].1) (c:=c') hgk rfl hfr)
      have hbnd:(keysE (l.take k)).length≤400000:=by
        have h1:=keysE_length (l:=l.take k) (a:=[]) (M:=4000) fun q hq=>terms_len9 (HG.out q (List.mem_of_mem_take hq))
        rw [List.length_take] at h1
        have h2:min k l.length*4000≤100*4000:=Nat.mul_le_mul_right _ (by omega)
        have h3:(keysE (l.take k)).length≤min k l.length*4000+([]:List Nm).length:=h1
        simp only [List.length_nil] at h3
        omega
      obtain ⟨m,hm⟩:∃ m,m=l[k].2.1.length:=⟨_,rfl⟩
      obtain ⟨q,hq⟩:∃ q,q=l[k].1:=⟨_,rfl⟩
      have hfits:∀ t∈termsD l[k].2.1,t.1.length≤12∧t.2.length≤4096:=fun t ht=>term_fits9 hgk ht
      have htl:=terms_len9 hgk
      obtain ⟨ts,hts⟩:∃ ts,ts=termsD l[k].2.1:=⟨_,rfl⟩
      obtain ⟨a,ha⟩:∃ a,a=keysE (l.take k):=⟨_,rfl⟩
      rw [← hm,← hq,← hts] at HC
      rw [← hm] at g2
      rw [← hq] at g1
      rw [← ha] at hown hbnd
      rw [← ha,← hts] at hkt
      rw [← hts] at hfits htl
      have HFT:=Lib.hid hfits
      have HKT:=Lib.hid hkt
      have HOW:=Lib.hid hown
      have i0:(0:Int)≤k:=by omega
      have i1:(k:Int)<n:=by omega
      clear hnr hfr hm hts ha hq hkt hfits hown hgk
      go_wp2_with (go_at_call 80;(with_reducible refine HC.out.mono ?_);rintro e w2 ⟨v2,rfl,ho2,hb2⟩)
      obtain ⟨A2,c2,rfl,_,hr2⟩:=ho2.row
      obtain ⟨N,hN⟩:∃ N,N=ts.length:=⟨_,rfl⟩
      rw [← hN] at htl ⊢
      have HN:=Lib.hid hN
      have HR2:=Lib.hid hr2
      have HB2:=Lib.hid (hbw.trans (hb2.mono hbw.size))
      have HOW2:=Lib.hid (HOW.out.below hb2)
      clear ho2 hr2 hb2 hN
      go_wp2
      go_loopw [3,6] (fun o i wi=>KeysRel9 a ts w.heap.size w2 o i wi) (fun _ i _=>N-(intOf i).toNat)
      case atStart=>exact ⟨0,_,rfl,Nat.zero_le _,rfl,HOW2.out,Below.refl _ _⟩
      case round=>
        obtain ⟨j,vi,rfl,hj,rfl,howi,hbi⟩:=hrel
        by_cases hjt:j<N
        · have hjl:j<ts.length:=by rw [← HN.out];exact hjt
          obtain ⟨b4,o4,e4,_,hx4,hy4⟩:=(FRow.later HR2.out hbi).at_ hjl
          subst e4
          obtain ⟨x,hx,hx2⟩:=as_text ts[j].1
          obtain ⟨y,hy,hy2⟩:=as_text ts[j].2
          rw [← hx] at hx4
          rw [← hy] at hy4
          have hf:=HFT.out _ (List.getElem_mem hjl)
          have hkj:=keysIn_take (a:=a) hjl
          have hlen:=keysIn_length a (ts.take j)
          rw [List.length_take] at hlen
          have CK:=Lib.hid (fun w'=>ref_Key x y w' (by rw [hx,size_nm];omega) (by rw [hy,size_nm];omega))
          have hkey:(keyB x y).data.toList=keyT ts[j]:=by rw [keyB_list,hx2,hy2];rfl
          obtain ⟨z,hz⟩:∃ z,z=keyB x y:=⟨_,rfl⟩
          rw [← hz] at CK hkey
          have hsi:=Nat.le_trans HB2.out.size hbi.size
          have HOI:=Lib.hid howi
          have HKJ:=Lib.hid hkj
          have HKY:=Lib.hid hkey
          have j0:(0:Int)≤j:=by omega
          have j1:(j:Int)<N:=by omega
          clear hx hx2 hy hy2 hf hkj hkey hz howi
          go_wp2_with (first
            | (go_at_call 41; (with_reducible refine (CK.out _).mono ?_); rintro e w3 ⟨rfl, hb3⟩
               have HB3:=Lib.hid hb3
               have HO3:=Lib.hid (HOI.out.below hb3)
               clear hb3)
            | (go_at_call 81; (with_reducible refine (ref_Put07 w.heap.size vi (keysIn a (ts.take j)) z w3 HO3.out (Nat.le_trans hsi HB3.out.size) (by omega)).mono ?_); rintro e w4 ⟨v4, rfl, ho4, hb4⟩
               rw [HKY.out,← HKJ.out] at ho4
               have HB4:=Lib.hid (hbi.trans ((HB3.out.trans (hb4.mono HB3.out.size)).mono hbi.size))
               have HO4:=Lib.hid ho4
               clear ho4 hb4))
          exact ⟨⟨j+1,_,rfl,hjl,by go_num,HO4.out,HB4.out⟩,by simp [intOf];omega⟩
        · have hjt2:j=ts.length:=by have :=HN.out;omega
          subst hjt2
          rw [List.take_length,← HKT.out] at howi
          have HOI:=Lib.hid howi
          have HBI:=Lib.hid (HB2.out.trans (hbi.mono HB2.out.size))
          clear howi
          go_wp2
          exact ⟨⟨k+1,_,rfl,hkl,by go_num,HOI.out,HBI.out⟩,by simp [intOf];omega⟩
    · have hkn:k=l.length:=by have :=HL.out;omega
      subst hkn
      rw [List.take_length] at hown
      go_wp2
      go_ret
      exact ⟨_,rfl,hown,hbw⟩
end Go.Proofs.YtmoomnpbiifedaaGreat
set_option linter.unusedVariables false
namespace Go.Proofs.YtmoomnpbiifedaaGreat
open Go Go.RowKit
structure AddOk (G:List En):Prop where
 may:∀ q∈G,mayD q.2.1=0∧∀ f∈q.2.1,f.1.length≤1024∧f.2.length≤1024
 rise:risesZ (-1) (G.map (·.2.2))=true
 few:G.length≤100
theorem AddOk.good {G:List En} (h:AddOk G):GoodE G:=fun q hq=>goodF_of (h.may q hq).1 fun f hf=>((h.may q hq).2 f hf).2
theorem posts_doc {key:Nm} {p:Pn}:∀ {l:List En} {i:Nat},p∈postsE i l key→(i:Int)≤p.1∧p.1<(i+l.length:Nat)
 |[],i,h=>by simp [postsE] at h
 |q::l,i,h=>by
  rw [postsE] at h
  rcases List.mem_append.1 h with h|h
  ·unfold postIn at h
   obtain ⟨t,_,rfl⟩:=List.mem_map.1 h
   simp only [List.length_cons]
   omega
  ·have :=posts_doc h
   simp only [List.length_cons]
   omega
theorem keys_posts {l:List En} {key:Nm} (h:key∈keysE l):0<(postsE 0 l key).length:=by
 obtain ⟨q,hq,t,ht,e⟩:=mem_keysE.1 h
 exact posts_there ⟨q,hq,t,ht,e⟩
theorem build_may {G:List En} (h:AddOk G):mayPs (buildP G)=true:=by
 refine mayPs_iff.2 ⟨by simp [buildP],by simp [buildP],h.rise,risesN_iff.2 (rise_keysE G),fun l hl=> ?_⟩
 obtain ⟨key,hk,rfl⟩:=List.mem_map.1 hl
 have hn:(buildP G).ids.length=G.length:=by simp [buildP]
 have hp:=keys_posts hk
 have hm:=posts_may (key:=key) (i:=0) (last:= -1) h.good (by omega) (by have :=h.few;omega)
 unfold mayL
 rw [hm,hn,Bool.true_and,Bool.and_eq_true,decide_eq_true_iff,decide_eq_true_iff]
 refine ⟨by omega,fun p hp'=> ?_⟩
 have :=(posts_doc (List.mem_of_getLast? hp')).2
 simpa using this
theorem build_keys {G:List En} (h:AddOk G):(keysE G).length≤400000:=by
 have h1:=keysE_length (l:=G) (a:=[]) (M:=4000) fun q hq=>terms_len9 (h.good q hq)
 have h2:(keysE G).length≤G.length*4000+([]:List Nm).length:=h1
 have :=h.few
 simp only [List.length_nil] at h2
 omega
theorem build_small {G:List En} (h:AddOk G):PSmall (buildP G):=by
 refine ⟨by have :=h.few;simp [buildP];omega,by have :=build_keys h;simp only [buildP];omega,fun l hl=> ?_⟩
 obtain ⟨key,hk,rfl⟩:=List.mem_map.1 hl
 have h1:=posts_len h.good (key:=key) G 0 (fun q hq=>hq)
 have h2:=totalP_le (l:=postsE 0 G key) (n:=500) fun p hp=>(posts_good h.good p hp).2
 have :=h.few
 exact ⟨by omega,by omega⟩
theorem build_few {G:List En} (h:AddOk G):PFew (buildP G):=by
 have hs:=build_small h
 have hk:=hs.keys
 have hi:=hs.ids
 refine ⟨by omega,by simp [buildP] at hi ⊢;omega,by omega,by simp [buildP] at hk ⊢;omega,fun l hl=>⟨by have :=(hs.lists l hl).1;omega,fun p hp=> ?_⟩⟩
 obtain ⟨key,hk,rfl⟩:=List.mem_map.1 hl
 have :=(posts_good h.good p hp).2
 omega
end Go.Proofs.YtmoomnpbiifedaaGreat
set_option linter.unusedVariables false
namespace Go.Proofs.YtmoomnpbiifedaaGreat
open Go Go.RowKit
end Go.Proofs.YtmoomnpbiifedaaGreat
set_option linter.unusedVariables false
namespace Go.Proofs.YtmoomnpbiifedaaGreat
open Go Go.RowKit
attribute [local go_sem] Oper.semAt_some
end Go.Proofs.YtmoomnpbiifedaaGreat
set_option linter.unusedVariables false
namespace Go.Proofs.YtmoomnpbiifedaaGreat
open Go Go.RowKit
end Go.Proofs.YtmoomnpbiifedaaGreat
set_option linter.unusedVariables false
namespace Go.Proofs.YtmoomnpbiifedaaGreat
open Go Go.RowKit
set_option maxHeartbeats 1000000 in
set_option maxRecDepth 100000 in
theorem seg_Same_nil (w:World):Calls Tryz.prog 18 #[.pointer none,.pointer none] w fun e w'=>e= .returned (.bool true)∧Below w.heap.size w w':=by
 go_enter Tryz.func18,Tryz.ntmps18
 go_wp2
 go_ret
 exact ⟨rfl,Below.refl _ _⟩
set_option maxHeartbeats 1000000 in
set_option maxRecDepth 100000 in
theorem seg_Same_left (S:Nat) (w:World):Calls Tryz.prog 18 #[.pointer (some ⟨S,0,none⟩),.pointer none] w fun e w'=>e= .returned (.bool false)∧Below w.heap.size w w':=by
 go_enter Tryz.func18,Tryz.ntmps18
 go_wp2
 go_ret
 exact ⟨rfl,Below.refl _ _⟩
theorem run_eql_none (S:Nat) (w:World):(binOp .eql 30 (.pointer none) (.pointer (some ⟨S,0,none⟩))).run Tryz.prog w= .ok (.bool false) w:=by
 have h:∀ d:Nat,(Op.equalIn (d+1) 30 (.pointer none) (.pointer (some ⟨S,0,none⟩))).run Tryz.prog w= .ok false w:=fun d=>by
  simp [Op.equalIn,run_underlying Tryz.underlying30]
 simp only [binOp]
 simp [Op.equal,Op.maxDepth,h 9999]
set_option maxHeartbeats 1000000 in
set_option maxRecDepth 100000 in
theorem seg_Same_right (S:Nat) (w:World):Calls Tryz.prog 18 #[.pointer none,.pointer (some ⟨S,0,none⟩)] w fun e w'=>e= .returned (.bool false)∧Below w.heap.size w w':=by
 go_enter Tryz.func18,Tryz.ntmps18
 have he:=run_eql_none S w
 go_wp2
 go_ret
 exact ⟨rfl,Below.refl _ _⟩
def GotPartsN (n1 n2 n3 n4:Nat) (x:PartsP) (w:World) (e:Ending) (w':World):Prop:=∃ A1 c1 A2 c2 A3 c3 A4 c4,e= .returned (.agg #[.slice A1 n1 c1,.slice A2 n2 c2,.slice A3 n3 c3,.slice A4 n4 c4])∧PAt w' w'.heap.size A1 A2 A3 A4 x∧Below w.heap.size w w'
set_option maxHeartbeats 8000000 in
set_option maxRecDepth 100000 in
theorem seg_Same {S T:Nat} {x y:PartsP} {w:World} (hS:SegAt w S x) (hT:SegAt w T y) (fx:PFew x) (fy:PFew y):Calls Tryz.prog 18 #[.pointer (some ⟨S,0,none⟩),.pointer (some ⟨T,0,none⟩)] w fun e w'=>e= .returned (.bool (decide (x=y)))∧Below w.heap.size w w':=by
  obtain ⟨z,hz⟩:∃ z,z=decide (x=y):=⟨_,rfl⟩
  rw [← hz]
  obtain ⟨z1,hz1⟩:∃ z,z=decide (x.ids=y.ids):=⟨_,rfl⟩
  obtain ⟨z2,hz2⟩:∃ z,z=decide (x.seqs=y.seqs):=⟨_,rfl⟩
  obtain ⟨z3,hz3⟩:∃ z,z=decide (x.keys=y.keys):=⟨_,rfl⟩
  obtain ⟨z4,hz4⟩:∃ z,z=decide (x.lists=y.lists):=⟨_,rfl⟩
  have hzz:z=(z1&&(z2&&(z3&&z4))):=by
    rw [hz,hz1,hz2,hz3,hz4,Bool.eq_iff_iff]
    simp only [Bool.and_eq_true,decide_eq_true_eq]
    exact ⟨fun e=>by subst e;exact ⟨rfl,rfl,rfl,rfl⟩,fun ⟨a,b,c,d⟩=>parts_ext a b c d⟩
  obtain ⟨n1,hn1⟩:∃ n,n=x.ids.length:=⟨_,rfl⟩
  obtain ⟨n2,hn2⟩:∃ n,n=x.seqs.length:=⟨_,rfl⟩
  obtain ⟨n3,hn3⟩:∃ n,n=x.keys.length:=⟨_,rfl⟩
  obtain ⟨n4,hn4⟩:∃ n,n=x.lists.length:=⟨_,rfl⟩
  obtain ⟨m1,hm1⟩:∃ n,n=y.ids.length:=⟨_,rfl⟩
  obtain ⟨m2,hm2⟩:∃ n,n=y.seqs.length:=⟨_,rfl⟩
  obtain ⟨m3,hm3⟩:∃ n,n=y.keys.length:=⟨_,rfl⟩
  obtain ⟨m4,hm4⟩:∃ n,n=y.lists.length:=⟨_,rfl⟩
  have HPX:Hid (Calls Tryz.prog 17 #[.pointer (some ⟨S,0,none⟩)] w (GotPartsN n1 n2 n3 n4 x w)):=Lib.hid (by subst hn1 hn2 hn3 hn4;exact seg_Parts hS)
  have HPY:Hid (∀ w',Below w.heap.size w w'→Calls Tryz.prog 17 #[.pointer (some ⟨T,0,none⟩)] w' (GotPartsN m1 m2 m3 m4 y w')):=Lib.hid fun w' h=>by subst hm1 hm2 hm3 hm4;exact seg_Parts (hT.below h)
  have HE1:Hid (∀ (A C:Option Addr) (c d:Nat) w',Row w' w'.heap.size A (ints x.ids)→Row w' w'.heap.size C (ints y.ids)→Calls Tryz.prog 55 #[.slice A n1 c,.slice C m1 d] w' fun e w''=>e= .returned (.bool z1)∧Below w'.heap.size w' w''):=Lib.hid fun A C c d w' h1 h2=>by
    rw [hz1];exact equal_ints A C n1 m1 c d _ _ w' hn1.symm hm1.symm h1 h2 (hn1▸fx.1) (hm1▸fy.1)
  have HE2:Hid (∀ (A C:Option Addr) (c d:Nat) w',Row w' w'.heap.size A (ints x.seqs)→Row w' w'.heap.size C (ints y.seqs)→Calls Tryz.prog 55 #[.slice A n2 c,.slice C m2 d] w' fun e w''=>e= .returned (.bool z2)∧Below w'.heap.size w' w''):=Lib.hid fun A C c d w' h1 h2=>by
    rw [hz2];exact equal_ints A C n2 m2 c d _ _ w' hn2.symm hm2.symm h1 h2 (hn2▸fx.2.1) (hm2▸fy.2.1)
  have HE3:Hid (∀ (A C:Option Addr) (c d:Nat) w',Row w' w'.heap.size A (strs x.keys)→Row w' w'.heap.size C (strs y.keys)→Calls Tryz.prog 56 #[.slice A n3 c,.slice C m3 d] w' fun e w''=>e= .returned (.bool z3)∧Below w'.heap.size w' w''):=Lib.hid fun A C c d w' h1 h2=>by
    rw [hz3];exact equal_texts A C n3 m3 c d _ _ w' hn3.symm hm3.symm h1 h2 (hn3▸fx.2.2.1) (hm3▸fy.2.2.1)
  have HE4:Hid (∀ (A C:Option Addr) (c d:Nat) w',LPosts w' w'.heap.size A x.lists→LPosts w' w'.heap.size C y.lists→Calls Tryz.prog 57 #[.slice A n4 c,.slice C m4 d,.func (.func 58) #[] #[]] w' fun e w''=>e= .returned (.bool z4)∧Below w'.heap.size w' w''):=Lib.hid fun A C c d w' h1 h2=>by
    rw [hz4];exact equal_lists A C n4 c m4 d _ _ w' hn4.symm hm4.symm h1 h2 (hn4▸fx.2.2.2.1) (hm4▸fy.2.2.2.1) fx.2.2.2.2 fy.2.2.2.2
  have HZZ:=Lib.hid hzz
  clear hS hT fx fy hz hz1 hz2 hz3 hz4 hzz hn1 hn2 hn3 hn4 hm1 hm2 hm3 hm4
  go_enter Tryz.func18,Tryz.ntmps18
  go_upto_region 4 with (first
    | (go_at_call 17; (with_reducible refine HPX.out.mono ?_); rintro e w2 ⟨A1, c1, A2, c2, A3, c3, A4, c4, rfl, hp2, hb2⟩
       have HP2:=Lib.hid hp2
       have HB2:=Lib.hid hb2
       clear hp2 hb2)
    | (go_at_call 17; (with_reducible refine (HPY.out w2 HB2.out).mono ?_); rintro e w3 ⟨B1, d1, B2, d2, B3, d3, B4, d4, rfl, hp3, hb3⟩
       have HP3:=Lib.hid hp3
       have HQ3:=Lib.hid (HP2.out.later hb3)
       have HB3:=Lib.hid (HB2.out.trans (hb3.mono HB2.out.size))
       clear hp3 hb3))
  obtain ⟨w4,hw4⟩:∃ w4,w4=(w3.alloc (.cells #[.slice A1 n1 c1,.slice A2 n2 c2,.slice A3 n3 c3,.slice A4 n4 c4] 34)).alloc (.cells #[.slice B1 m1 d1,.slice B2 m2 d2,.slice B3 m3 d3,.slice B4 m4 d4] 34):=⟨_,rfl⟩
  have hb4:Below w3.heap.size w3 w4:=by rw [hw4];exact ((Below.refl _ w3).alloc (Nat.le_refl _) _).alloc (by simp) _
  have hP1:w4.heap[w3.heap.size]?=some (.cells #[.slice A1 n1 c1,.slice A2 n2 c2,.slice A3 n3 c3,.slice A4 n4 c4] 34 (0,0)):=by rw [hw4,Below.heap_alloc _ _ _ (by simp)];exact heap_alloc_new w3 _
  have hP2:w4.heap[w3.heap.size+1]?=some (.cells #[.slice B1 m1 d1,.slice B2 m2 d2,.slice B3 m3 d3,.slice B4 m4 d4] 34 (0,0)):=by rw [hw4];simpa using heap_alloc_new (w3.alloc (.cells #[.slice A1 n1 c1,.slice A2 n2 c2,.slice A3 n3 c3,.slice A4 n4 c4] 34)) (.cells #[.slice B1 m1 d1,.slice B2 m2 d2,.slice B3 m3 d3,.slice B4 m4 d4] 34)
  have HRC:Hid (∀ w',Below w4.heap.size w4 w'→((w'.cell? ⟨w3.heap.size,0,none⟩=some (.slice A1 n1 c1)∧w'.cell? ⟨w3.heap.size,1,none⟩=some (.slice A2 n2 c2)∧w'.cell? ⟨w3.heap.size,2,none⟩=some (.slice A3 n3 c3)∧w'.cell? ⟨w3.heap.size,3,none⟩=some (.slice A4 n4 c4))∧
      w'.cell? ⟨w3.heap.size+1,0,none⟩=some (.slice B1 m1 d1)∧w'.cell? ⟨w3.heap.size+1,1,none⟩=some (.slice B2 m2 d2)∧w'.cell? ⟨w3.heap.size+1,2,none⟩=some (.slice B3 m3 d3)∧w'.cell? ⟨w3.heap.size+1,3,none⟩=some (.slice B4 m4 d4))):=Lib.hid fun w' h=>
    ⟨cells4 ((h.block _ (lt_of_block hP1)).trans hP1),cells4 ((h.block _ (lt_of_block hP2)).trans hP2)⟩
  have HPXX:Hid (∀ w',Below w4.heap.size w4 w'→PAt w' w'.heap.size A1 A2 A3 A4 x):=Lib.hid fun w' h=>(HQ3.out.later hb4).later h
  have HPYY:Hid (∀ w',Below w4.heap.size w4 w'→PAt w' w'.heap.size B1 B2 B3 B4 y):=Lib.hid fun w' h=>(HP3.out.later hb4).later h
  have HB0:Hid (Below w4.heap.size w4 w4):=Lib.hid (Below.refl _ _)
  have HB4:=Lib.hid (HB3.out.trans (hb4.mono HB3.out.size))
  have HW4:=Lib.hid hw4
  clear hw4 hb4 hP1 hP2
  have hzr:=HZZ.out
  cases z1 with
  |false=>
    obtain rfl:z=false:=by rw [hzr];rfl
    clear hzr
    obtain ⟨⟨q0,q1,q2,q3⟩,r0,r1,r2,r3⟩:=HRC.out _ HB0.out
    rw [HW4.out] at q0 q1 q2 q3 r0 r1 r2 r3
    go_wp2_with (first
      | (go_at_call 55; rw [show (w3.alloc _).alloc _ = w4 from HW4.out.symm]; (with_reducible refine (HE1.out _ _ _ _ _ (HPXX.out _ HB0.out).ids (HPYY.out _ HB0.out).ids).mono ?_); rintro e v1 ⟨rfl, hb⟩
         have HC1:Hid (Below w4.heap.size w4 v1):=Lib.hid (hb)
         clear hb q0 q1 q2 q3 r0 r1 r2 r3
         obtain ⟨⟨q0,q1,q2,q3⟩,r0,r1,r2,r3⟩:=HRC.out _ HC1.out))
    go_ret
    exact ⟨rfl,HB4.out.trans (HC1.out.mono HB4.out.size)⟩
  |true=>
    cases z2 with
    |false=>
      obtain rfl:z=false:=by rw [hzr];rfl
      clear hzr
      obtain ⟨⟨q0,q1,q2,q3⟩,r0,r1,r2,r3⟩:=HRC.out _ HB0.out
      rw [HW4.out] at q0 q1 q2 q3 r0 r1 r2 r3
      go_wp2_with (first
        | (go_at_call 55; rw [show (w3.alloc _).alloc _ = w4 from HW4.out.symm]; (with_reducible refine (HE1.out _ _ _ _ _ (HPXX.out _ HB0.out).ids (HPYY.out _ HB0.out).ids).mono ?_); rintro e v1 ⟨rfl, hb⟩
           have HC1:Hid (Below w4.heap.size w4 v1):=Lib.hid (hb)
           clear hb q0 q1 q2 q3 r0 r1 r2 r3
           obtain ⟨⟨q0,q1,q2,q3⟩,r0,r1,r2,r3⟩:=HRC.out _ HC1.out)
        | (go_at_call 55; (with_reducible refine (HE2.out _ _ _ _ _ (HPXX.out _ HC1.out).seqs (HPYY.out _ HC1.out).seqs).mono ?_); rintro e v2 ⟨rfl, hb⟩
           have HC2:Hid (Below w4.heap.size w4 v2):=Lib.hid (HC1.out.trans (hb.mono HC1.out.size))
           clear hb q0 q1 q2 q3 r0 r1 r2 r3
           obtain ⟨⟨q0,q1,q2,q3⟩,r0,r1,r2,r3⟩:=HRC.out _ HC2.out))
      go_ret
      exact ⟨rfl,HB4.out.trans (HC2.out.mono HB4.out.size)⟩
    |true=>
      cases z3 with
      |false=>
        obtain rfl:z=false:=by rw [hzr];rfl
        clear hzr
        obtain ⟨⟨q0,q1,q2,q3⟩,r0,r1,r2,r3⟩:=HRC.out _ HB0.out
        rw [HW4.out] at q0 q1 q2 q3 r0 r1 r2 r3
        go_wp2_with (first
          | (go_at_call 55; rw [show (w3.alloc _).alloc _ = w4 from HW4.out.symm]; (with_reducible refine (HE1.out _ _ _ _ _ (HPXX.out _ HB0.out).ids (HPYY.out _ HB0.out).ids).mono ?_); rintro e v1 ⟨rfl, hb⟩
             have HC1:Hid (Below w4.heap.size w4 v1):=Lib.hid (hb)
             clear hb q0 q1 q2 q3 r0 r1 r2 r3
             obtain ⟨⟨q0,q1,q2,q3⟩,r0,r1,r2,r3⟩:=HRC.out _ HC1.out)
          | (go_at_call 55; (with_reducible refine (HE2.out _ _ _ _ _ (HPXX.out _ HC1.out).seqs (HPYY.out _ HC1.out).seqs).mono ?_); rintro e v2 ⟨rfl, hb⟩
             have HC2:Hid (Below w4.heap.size w4 v2):=Lib.hid (HC1.out.trans (hb.mono HC1.out.size))
             clear hb q0 q1 q2 q3 r0 r1 r2 r3
             obtain ⟨⟨q0,q1,q2,q3⟩,r0,r1,r2,r3⟩:=HRC.out _ HC2.out)
          | (go_at_call 56; (with_reducible refine (HE3.out _ _ _ _ _ (HPXX.out _ HC2.out).keys (HPYY.out _ HC2.out).keys).mono ?_); rintro e v3 ⟨rfl, hb⟩
             have HC3:Hid (Below w4.heap.size w4 v3):=Lib.hid (HC2.out.trans (hb.mono HC2.out.size))
             clear hb q0 q1 q2 q3 r0 r1 r2 r3
             obtain ⟨⟨q0,q1,q2,q3⟩,r0,r1,r2,r3⟩:=HRC.out _ HC3.out))
        go_ret
        exact ⟨rfl,HB4.out.trans (HC3.out.mono HB4.out.size)⟩
      |true=>
        obtain rfl:z=z4:=by rw [hzr];rfl
        clear hzr
        obtain ⟨⟨q0,q1,q2,q3⟩,r0,r1,r2,r3⟩:=HRC.out _ HB0.out
        rw [HW4.out] at q0 q1 q2 q3 r0 r1 r2 r3
        go_wp2_with (first
          | (go_at_call 55; rw [show (w3.alloc _).alloc _ = w4 from HW4.out.symm]; (with_reducible refine (HE1.out _ _ _ _ _ (HPXX.out _ HB0.out).ids (HPYY.out _ HB0.out).ids).mono ?_); rintro e v1 ⟨rfl, hb⟩
             have HC1:Hid (Below w4.heap.size w4 v1):=Lib.hid (hb)
             clear hb q0 q1 q2 q3 r0 r1 r2 r3
             obtain ⟨⟨q0,q1,q2,q3⟩,r0,r1,r2,r3⟩:=HRC.out _ HC1.out)
          | (go_at_call 55; (with_reducible refine (HE2.out _ _ _ _ _ (HPXX.out _ HC1.out).seqs (HPYY.out _ HC1.out).seqs).mono ?_); rintro e v2 ⟨rfl, hb⟩
             have HC2:Hid (Below w4.heap.size w4 v2):=Lib.hid (HC1.out.trans (hb.mono HC1.out.size))
             clear hb q0 q1 q2 q3 r0 r1 r2 r3
             obtain ⟨⟨q0,q1,q2,q3⟩,r0,r1,r2,r3⟩:=HRC.out _ HC2.out)
          | (go_at_call 56; (with_reducible refine (HE3.out _ _ _ _ _ (HPXX.out _ HC2.out).keys (HPYY.out _ HC2.out).keys).mono ?_); rintro e v3 ⟨rfl, hb⟩
             have HC3:Hid (Below w4.heap.size w4 v3):=Lib.hid (HC2.out.trans (hb.mono HC2.out.size))
             clear hb q0 q1 q2 q3 r0 r1 r2 r3
             obtain ⟨⟨q0,q1,q2,q3⟩,r0,r1,r2,r3⟩:=HRC.out _ HC3.out)
          | (go_at_call 57; (with_reducible refine (HE4.out _ _ _ _ _ (HPXX.out _ HC3.out).lists (HPYY.out _ HC3.out).lists).mono ?_); rintro e v4 ⟨rfl, hb⟩
             have HC4:Hid (Below w4.heap.size w4 v4):=Lib.hid (HC3.out.trans (hb.mono HC3.out.size))
             clear hb q0 q1 q2 q3 r0 r1 r2 r3
             obtain ⟨⟨q0,q1,q2,q3⟩,r0,r1,r2,r3⟩:=HRC.out _ HC4.out))
        go_ret
        exact ⟨by cases z<;>rfl,HB4.out.trans (HC4.out.mono HB4.out.size)⟩
end Go.Proofs.YtmoomnpbiifedaaGreat
set_option linter.unusedVariables false
namespace Go.Proofs.YtmoomnpbiifedaaGreat
open Go Go.RowKit
theorem gtr_str (t:TypeId) (a b:ByteArray):binOp .gtr t (.string a) (.string b)=pure (.bool !(Op.bytesLess a.toList b.toList || a.toList==b.toList)):=by simp [binOp,Op.stringOp]
attribute [local go_sem] gtr_str
theorem is_nan8 (s:ByteArray) (w:World):Calls Tryz.prog 157 #[.string s] w fun e w'=>e= .returned (.bool false)∧w=w':=by
 go_enter Tryz.func157,Tryz.ntmps157
 go_wp2
 go_ret
 exact ⟨by simp,rfl⟩
set_option maxHeartbeats 1000000 in
theorem cmp_compare8 (x y:ByteArray) (w:World):Calls Tryz.prog 139 #[.string x,.string y] w fun e w'=>e= .returned (.int .i64 (cmpN x.data.toList y.data.toList))∧w=w':=by
 have e1:Op.bytesLess x.toList y.toList=decide (x.data.toList<y.data.toList):=by rw [Lib.toList_data,Lib.toList_data,less_of]
 have e2:(x.toList==y.toList)=decide (x.data.toList=y.data.toList):=by rw [Lib.toList_data,Lib.toList_data,Bool.eq_iff_iff];simp
 by_cases h1:x.data.toList<y.data.toList
 ·have hc:cmpN x.data.toList y.data.toList= -1:=by simp [cmpN,h1]
  rw [decide_eq_true h1] at e1
  rw [hc]
  clear e2 hc h1
  go_enter Tryz.func139,Tryz.ntmps139
  go_wp2_with (go_at_call 157;refine (is_nan8 _ _).mono ?_;rintro e w' ⟨rfl,rfl⟩)
  go_ret
  exact ⟨rfl,rfl⟩
 ·rw [decide_eq_false h1] at e1
  by_cases h2:x.data.toList=y.data.toList
  ·have hc:cmpN x.data.toList y.data.toList=0:=by simp [cmpN,h2]
   rw [decide_eq_true h2] at e2
   rw [hc]
   clear hc h1 h2
   go_enter Tryz.func139,Tryz.ntmps139
   go_wp2_with (go_at_call 157;refine (is_nan8 _ _).mono ?_;rintro e w' ⟨rfl,rfl⟩)
   go_ret
   exact ⟨rfl,rfl⟩
  ·have hc:cmpN x.data.toList y.data.toList=1:=by simp [cmpN,h1,h2]
   rw [decide_eq_false h2] at e2
   rw [hc]
   clear hc h1 h2
   go_enter Tryz.func139,Tryz.ntmps139
   go_wp2_with (go_at_call 157;refine (is_nan8 _ _).mono ?_;rintro e w' ⟨rfl,rfl⟩)
   go_ret
   exact ⟨rfl,rfl⟩
open Go.Sort
def Grew (w w':World):Prop:=∃ q os,w'=grow (w.drewN q) os
theorem Grew.alloc {w w':World} (h:Grew w w') (o:Obj):Grew w (w'.alloc o):=by
 obtain ⟨q,os,rfl⟩:=h
 exact ⟨q,os++#[o],by rw [alloc_eq_grow,grow_grow]⟩
theorem Grew.refl (w:World):Grew w w:=⟨0,#[],by rw [grow_empty];rfl⟩
theorem Grew.trans {w w1 w2:World} (h:Grew w w1) (k:Grew w1 w2):Grew w w2:=by
 obtain ⟨q,os,rfl⟩:=h
 obtain ⟨q2,os2,rfl⟩:=k
 refine ⟨q+q2,os++os2,?_⟩
 rw [← grow_grow]
 congr 1
 show grow ((w.drewN q).drewN q2) os=_
 congr 1
 exact World.drewN_drewN w q q2
theorem Grew.drew {w w':World} (h:Grew w w'):Grew w w'.drew:=h.trans ⟨1,#[],by rw [grow_empty];rfl⟩
theorem Grew.below {w w':World} (h:Grew w w'):Below w.heap.size w w':=by
 obtain ⟨q,os,rfl⟩:=h
 exact ⟨rfl,rfl,rfl,by simp [grow],fun k hk=>heap_grow_old _ _ hk⟩
set_option maxHeartbeats 1000000 in
theorem word_Key_at (f g:ByteArray) (w:World) (hf:f.size≤140737488355328) (hg:g.size≤140737488355328):
  Calls Tryz.prog 75 #[.agg #[.string f,.string g]] w fun e w'=>e= .returned (.string (keyB f g))∧Grew w w':=by
 go_enter Tryz.func75,Tryz.ntmps75
 go_wp2
 go_ret
 exact ⟨rfl,(Grew.refl w).alloc _⟩
set_option maxHeartbeats 4000000 in
set_option maxRecDepth 100000 in
theorem invert_cmp (a b c d:ByteArray) (w:World) (ha:a.size≤1073741824) (hb:b.size≤1073741824) (hc:c.size≤1073741824) (hd:d.size≤1073741824):
    Calls Tryz.prog 138 #[.agg #[.string a,.string b],.agg #[.string c,.string d]] w fun e w'=>e= .returned (.int .i64 (cmpN (keyL a.data.toList b.data.toList) (keyL c.data.toList d.data.toList)))∧Grew w w':=by
  obtain ⟨w1,hw1⟩:∃ w1,w1=(w.alloc (.cells #[.string a,.string b] 39)).alloc (.cells #[.string c,.string d] 39):=⟨_,rfl⟩
  have hg1:Grew w w1:=by rw [hw1];exact ((Grew.refl w).alloc _).alloc _
  have hcell:∀ w',Below w1.heap.size w1 w'→w'.cell? ⟨w.heap.size,0,none⟩=some (.string a)∧w'.cell? ⟨w.heap.size,1,none⟩=some (.string b)∧w'.cell? ⟨w.heap.size+1,0,none⟩=some (.string c)∧w'.cell? ⟨w.heap.size+1,1,none⟩=some (.string d):=fun w' h=>by
    have hs1:w1.heap.size=w.heap.size+2:=by rw [hw1];simp
    have h0:w1.heap[w.heap.size]?=some (.cells #[.string a,.string b] 39 (0,0)):=by rw [hw1,Below.heap_alloc _ _ _ (by simp)];exact heap_alloc_new _ _
    have h1:w1.heap[w.heap.size+1]?=some (.cells #[.string c,.string d] 39 (0,0)):=by
      rw [hw1]
      have :=heap_alloc_new (w.alloc (.cells #[.string a,.string b] 39)) (.cells #[.string c,.string d] 39)
      rwa [World.size_alloc] at this
    have h0':=(h.block _ (by omega)).trans h0
    have h1':=(h.block _ (by omega)).trans h1
    exact ⟨by simp [World.cell?,h0'],by simp [World.cell?,h0'],by simp [World.cell?,h1'],by simp [World.cell?,h1']⟩
  have hk1:=fun w'=>word_Key_at a b w' (by omega) (by omega)
  have hk2:=fun w'=>word_Key_at c d w' (by omega) (by omega)
  have hcmp:=fun w'=>cmp_compare8 (keyB a b) (keyB c d) w'
  rw [keyB_list,keyB_list] at hcmp
  obtain ⟨K1,hK1⟩:∃ K1,K1=keyB a b:=⟨_,rfl⟩
  obtain ⟨K2,hK2⟩:∃ K2,K2=keyB c d:=⟨_,rfl⟩
  obtain ⟨R,hR⟩:∃ R,R=cmpN (keyL a.data.toList b.data.toList) (keyL c.data.toList d.data.toList):=⟨_,rfl⟩
  rw [← hK1] at hk1 hcmp
  rw [← hK2] at hk2 hcmp
  rw [← hR] at hcmp ⊢
  have HG1:=Lib.hid hg1
  have HC:=Lib.hid hcell
  have HK1:=Lib.hid hk1
  have HK2:=Lib.hid hk2
  have HCM:=Lib.hid hcmp
  have HW1:=Lib.hid hw1
  clear hw1 hg1 hcell hk1 hk2 hcmp hK1 hK2 hR
  go_enter Tryz.func138,Tryz.ntmps138
  go_wp2
  rw [show (w.alloc _).alloc _=w1 from HW1.out.symm]
  have hst:Grew w1 w1.drew:=(Grew.refl w1).drew
  have HST:Hid (Grew w1 w1.drew):=Lib.hid hst
  clear hst
  go_region_held3 (fun w'=>(w'.cell? ⟨w.heap.size,0,none⟩=some (.string a)∧w'.cell? ⟨w.heap.size,1,none⟩=some (.string b)∧w'.cell? ⟨w.heap.size+1,0,none⟩=some (.string c)∧w'.cell? ⟨w.heap.size+1,1,none⟩=some (.string d))∧Grew w1 w')
    (first|exact ⟨HC.out _ HST.out.below,HST.out⟩|exact ⟨HC.out _ HG4.out.below,HG4.out⟩|exact ⟨HC.out _ HG5.out.below,HG5.out⟩)
    (first
      | (go_at_call 75; (with_reducible refine (HK1.out _).mono ?_); rintro e w4 ⟨rfl, hg4⟩
         have HG4:Hid (Grew w1 w4):=Lib.hid (HST.out.trans hg4))
      | (go_at_call 75; (with_reducible refine (HK2.out _).mono ?_); rintro e w5 ⟨rfl, hg5⟩
         have HG5:Hid (Grew w1 w5):=Lib.hid (HG4.out.trans hg5))
      |(go_at_call 139;(with_reducible refine (HCM.out _).mono ?_);rintro e w6 ⟨rfl,rfl⟩))
  all_goals
    go_wp2
    go_ret
    exact ⟨rfl,HG1.out.trans HG5.out⟩
end Go.Proofs.YtmoomnpbiifedaaGreat
set_option linter.unusedVariables false
namespace Go.Proofs.YtmoomnpbiifedaaGreat
open Go.Shelf Go.RowKit
def laySortTm_ren:Go.Shelf.Ren:=⟨fun |6=>155|14=>177|15=>144|20=>189|21=>190|22=>191|23=>192|24=>193|25=>194|26=>195|27=>196|28=>170|29=>171|46=>205|47=>184|48=>185|49=>206|50=>207|57=>210|n=>n,fun |0=>0|3=>3|4=>4|5=>5|9=>9|22=>136|24=>39|25=>199|39=>157|45=>216|46=>217|50=>109|53=>224|55=>226|66=>236|70=>240|76=>258|77=>231|n=>n,fun |n=>n⟩
theorem laySortTm:SlLaysF0.n6 Tryz.prog laySortTm_ren:={
 mixed:=by kernel_rfl
 f6:=⟨Tryz.f155.name,by kernel_rfl,Tryz.func155.trans (congrArg some (by kernel_rfl))⟩
 f14:=⟨Tryz.f177.name,by kernel_rfl,Tryz.func177.trans (congrArg some (by kernel_rfl))⟩
 f15:=Tryz.func144.trans (congrArg some (by kernel_rfl))
 f20:=⟨Tryz.f189.name,by kernel_rfl,Tryz.func189.trans (congrArg some (by kernel_rfl))⟩
 f21:=⟨Tryz.f190.name,by kernel_rfl,Tryz.func190.trans (congrArg some (by kernel_rfl))⟩
 f22:=⟨Tryz.f191.name,by kernel_rfl,Tryz.func191.trans (congrArg some (by kernel_rfl))⟩
 f23:=⟨Tryz.f192.name,by kernel_rfl,Tryz.func192.trans (congrArg some (by kernel_rfl))⟩
 f24:=⟨Tryz.f193.name,by kernel_rfl,Tryz.func193.trans (congrArg some (by kernel_rfl))⟩
 f25:=⟨Tryz.f194.name,by kernel_rfl,Tryz.func194.trans (congrArg some (by kernel_rfl))⟩
 f26:=⟨Tryz.f195.name,by kernel_rfl,Tryz.func195.trans (congrArg some (by kernel_rfl))⟩
 f27:=⟨Tryz.f196.name,by kernel_rfl,Tryz.func196.trans (congrArg some (by kernel_rfl))⟩
 f28:=Tryz.func170.trans (congrArg some (by kernel_rfl))
 f29:=Tryz.func171.trans (congrArg some (by kernel_rfl))
 f46:=⟨Tryz.f205.name,by kernel_rfl,Tryz.func205.trans (congrArg some (by kernel_rfl))⟩
 f47:=Tryz.func184.trans (congrArg some (by kernel_rfl))
 f48:=Tryz.func185.trans (congrArg some (by kernel_rfl))
 f49:=⟨Tryz.f206.name,by kernel_rfl,Tryz.func206.trans (congrArg some (by kernel_rfl))⟩
 f50:=⟨Tryz.f207.name,by kernel_rfl,Tryz.func207.trans (congrArg some (by kernel_rfl))⟩
 f57:=⟨Tryz.f210.name,by kernel_rfl,Tryz.func210.trans (congrArg some (by kernel_rfl))⟩
 t0:=Tryz.underlying0
 a0:=Tryz.isAgg0
 z0:=Tryz.sizeOf0
 v0:=Tryz.zeroValue0
 t3:=Tryz.underlying3
 a3:=Tryz.isAgg3
 z3:=Tryz.sizeOf3
 v3:=Tryz.zeroValue3
 t4:=Tryz.underlying4
 a4:=Tryz.isAgg4
 z4:=Tryz.sizeOf4
 v4:=Tryz.zeroValue4
 t5:=Tryz.underlying5
 a5:=Tryz.isAgg5
 z5:=Tryz.sizeOf5
 v5:=Tryz.zeroValue5
 t9:=Tryz.underlying9
 a9:=Tryz.isAgg9
 z9:=Tryz.sizeOf9
 v9:=Tryz.zeroValue9
 t22:=Tryz.underlying136
 a22:=Tryz.isAgg136
 z22:=Tryz.sizeOf136
 v22:=Tryz.zeroValue136
 t25:=Tryz.underlying199
 a25:=Tryz.isAgg199
 z25:=Tryz.sizeOf199
 v25:=Tryz.zeroValue199
 t39:=Tryz.underlying157
 a39:=Tryz.isAgg157
 z39:=Tryz.sizeOf157
 v39:=Tryz.zeroValue157
 t45:=Tryz.underlying216
 a45:=Tryz.isAgg216
 z45:=Tryz.sizeOf216
 v45:=Tryz.zeroValue216
 t46:=Tryz.underlying217
 a46:=Tryz.isAgg217
 z46:=Tryz.sizeOf217
 v46:=Tryz.zeroValue217
 t50:=Tryz.underlying109
 a50:=Tryz.isAgg109
 z50:=Tryz.sizeOf109
 v50:=Tryz.zeroValue109
 t53:=Tryz.underlying224
 a53:=Tryz.isAgg224
 z53:=Tryz.sizeOf224
 v53:=Tryz.zeroValue224
 t55:=Tryz.underlying226
 a55:=Tryz.isAgg226
 z55:=Tryz.sizeOf226
 v55:=Tryz.zeroValue226
 t66:=Tryz.underlying236
 a66:=Tryz.isAgg236
 z66:=Tryz.sizeOf236
 v66:=Tryz.zeroValue236
 t70:=Tryz.underlying240
 a70:=Tryz.isAgg240
 z70:=Tryz.sizeOf240
 v70:=Tryz.zeroValue240
 t76:=Tryz.underlying258
 a76:=Tryz.isAgg258
 z76:=Tryz.sizeOf258
 v76:=Tryz.zeroValue258
 t77:=Tryz.underlying231
 a77:=Tryz.isAgg231
 z77:=Tryz.sizeOf231
 v77:=Tryz.zeroValue231}
end Go.Proofs.YtmoomnpbiifedaaGreat
