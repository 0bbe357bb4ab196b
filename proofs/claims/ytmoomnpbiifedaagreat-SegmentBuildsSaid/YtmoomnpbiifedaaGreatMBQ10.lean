import Derived.Test.YtmoomnpbiifedaaGreatMBQ09
import Derived.Deep.RegionHeld3
import Derived.Deep.AppendLies
import Derived.Test.YtmoomnpbiifedaaGreatMBQ07
import Derived.Test.YtmoomnpbiifedaaGreatMBQ03
import Derived.Test.YtmoomnpbiifedaaGreatMBQ04
import Derived.Test.YtmoomnpbiifedaaGreatMBQ05
import Derived.Test.YtmoomnpbiifedaaGreatMBQ06
import Derived.Shelf.SlSorted.Search
import Derived.BigCall
import Derived.BigQuiet
import Derived.Deep.QuietTactic
import Derived.Test.YtmoomnpbiifedaaGreatMBQ01
import Derived.Deep.RegionLaw
namespace Go.Proofs.YtmoomnpbiifedaaGreat
open Go Go.RowKit
set_option linter.unusedVariables false
def PutGot07 (base:Nat) (l:List Nm) (w:World) (e:Ending) (w':World):Prop:=∃ v,e= .returned v∧OwnNm base w' v l∧Below w.heap.size w w'
theorem strs_one (base:Nat) (s:ByteArray):∀ u∈[Value.string s],u.oneCell'=true:=by intro u hu;simp at hu;subst hu;rfl
theorem wpList_append_nm {ops:Array Oper} {rest:List Oper} {o:Oper} {a:Act} {Q:Exit→Act→World→Prop} (w:World) (hgd:o.guard=none) (s x:Operand)
  (ho:o.op= .call {callee:= .builtin .append,args:=#[s,x],argTypes:=#[23,23]})
  (base:Nat) (v:Value) (l:List Nm) (hs:a.eval s=v) (hown:OwnNm base w v l) (A:Option Addr) (m c:Nat) (news:List Nm) (hx:a.eval x= .slice A m c) (hl:news.length=m) (hr:Row w w.heap.size A (strs news))
  (hlen:l.length+m≤1073741824) (hbase:base≤w.heap.size)
  (h:∀ v' w',OwnNm base w' v' (l++news)→Below base w w'→wpList Tryz.prog ops Q rest (a.put o.dst v') w'):wpList Tryz.prog ops Q (o::rest) a w:=by
 obtain ⟨i0,hi0,hz0,hz1,hz2⟩:=info_parts info_string
 refine wpList_append_row w hgd s x 23 ho base 9 i0 _ 1 16 Tryz.underlying23 hi0 hz0 hz1 hz2 rfl (by decide) v l.length (strs l) hs hown w.heap.size A m c (strs news) hx (by rw [strs_length];omega) hr (strs_oneCell _) (by unfold maxLen;omega) (by omega) hbase fun v' w' h1 h2=>h v' w' ?_ ?_
 ·unfold OwnNm
  rw [List.length_append,hl,strs_append]
  exact h1
 ·exact (Below.refl base w).grown h2 hbase fun k hk=>(hown.lt k hk).1
theorem row_new (w:World) (x:Nm):Row (w.alloc (.cells #[.string ⟨x.toArray⟩] 9)) (w.alloc (.cells #[.string ⟨x.toArray⟩] 9)).heap.size (some ⟨w.heap.size,0,none⟩) (strs [x]):=by
 refine .inr ⟨w.heap.size,0,rfl,by simp,fun j u hu=> ?_⟩
 have :=news_at w (strs [x]) 9 j u hu
 rw [Addr.add_lit] at this
 exact this
set_option maxHeartbeats 2000000 in
set_option maxRecDepth 100000 in
theorem ref_Put07 (base:Nat) (v:Value) (l:List Nm) (s:ByteArray) (w:World) (ho:OwnNm base w v l) (hb:base≤w.heap.size) (hl:l.length≤1048576):
    Calls Tryz.prog 81 #[v,.string s] w (PutGot07 base (putN l s.data.toList) w):=by
  obtain ⟨A,c,rfl,hnc,hrow⟩:=ho.row
  have HO:=Lib.hid ho
  have HR:=Lib.hid hrow
  obtain ⟨n,hn⟩:∃ n,n=l.length:=⟨_,rfl⟩
  have c1:=ref_Place07 A l.length c l s w hrow rfl (by omega)
  have hple:=placeN_le l s.data.toList
  have hpn:=putN_not (l:=l) (s:=s.data.toList)
  have hpi:=putN_is (l:=l) (s:=s.data.toList)
  obtain ⟨p,hp⟩:∃ p,p=placeN l s.data.toList:=⟨_,rfl⟩
  obtain ⟨z,hz⟩:∃ z,z=isN l s.data.toList:=⟨_,rfl⟩
  rw [← hp,← hz,← hn] at c1
  rw [← hp,← hz] at hpn
  rw [← hp] at hple
  rw [← hz] at hpi
  rw [← hn] at hnc
  rw [← hn]
  have hlc:c≤maxLen:=by
    rcases ho.2 with ⟨h0,_⟩|⟨g,cap,cur,hv,_,_,_,h5,_⟩
    · injection h0 with _ _ h0;omega
    · injection hv with _ _ hv;omega
  unfold maxLen at hlc
  cases z with
  |true=>
    rw [hpi rfl]
    have C1:=Lib.hid c1
    have HN:=Lib.hid hn
    clear hpn hpi hp hz c1 hn hrow ho
    go_enter Tryz.func81,Tryz.ntmps81
    go_wp2_with (go_at_call 111;refine (C1.out).mono ?_;rintro e w1 ⟨rfl,hb1⟩)
    go_ret
    refine ⟨_,rfl,?_,hb1⟩
    rw [HN.out]
    exact HO.out.below hb1
  |false=>
    obtain ⟨x,hx⟩:∃ x:Nm,x=s.data.toList:=⟨_,rfl⟩
    have hs:s=⟨x.toArray⟩:=by rw [hx]
    rw [← hx] at hpn
    rw [← hx]
    have e1:=hpn rfl
    have HE:=Lib.hid e1
    have hpl:p≤n:=by omega
    have HNL:=Lib.hid hn
    have C1:=Lib.hid c1
    clear hpn hpi hp hz c1 hn hrow e1 ho hple
    have hE:=HNL.out
    have HTL:Hid ((l.take p).length=p):=Lib.hid (by rw [List.length_take];omega)
    have HDL:Hid ((l.drop p).length=n-p):=Lib.hid (by rw [List.length_drop];omega)
    have HLE2:Hid (([]++l.take p).length+1≤1073741824):=Lib.hid (by simp;omega)
    have HLE3:Hid (([]++l.take p++[x]).length+(n-p)≤1073741824):=Lib.hid (by simp;omega)
    have hn2:n≤1048576:=by omega
    subst hs
    clear hE hx hl
    rcases HO.out.2 with ⟨h0,_⟩|⟨g,cap,cur,hv,_⟩
    · injection h0 with hA h0 hc
      subst hA hc
      have hn0:n=0:=by omega
      have hp0:p=0:=by omega
      subst hn0 hp0
      go_enter Tryz.func81,Tryz.ntmps81
      go_wp2_with (first
        |(go_at_call 111;refine (C1.out).mono ?_;rintro e w1 ⟨rfl,hb1⟩;have HB1:=Lib.hid hb1;clear hb1)
        | (at_builtin; refine wpList_append_nm _ rfl (.tmp 16) (.tmp 19) rfl w.heap.size _ [] rfl OwnNm.nil none 0 0 (l.take 0) rfl HTL.out ((show Row w w.heap.size none (strs (l.take 0)) from .inl (by simp [strs])).later HB1.out) (by simp <;> omega) HB1.out.size ?_
           intro v1 w2 ho2 hb2
           have HO2:=Lib.hid ho2
           have HB2:=Lib.hid (HB1.out.trans hb2)
           clear ho2 hb2)
        | (at_builtin; refine wpList_append_nm _ rfl (.tmp 21) (.tmp 23) rfl w.heap.size _ ([] ++ l.take 0) rfl (HO2.out.below ((Below.refl _ _).alloc (Nat.le_refl _) _)) _ 1 1 [x] rfl rfl (row_new _ x) HLE2.out (by have := HB2.out.size; simp; omega) ?_
           intro v2 w3 ho3 hb3
           have HO3:=Lib.hid ho3
           have HB3:=Lib.hid (HB2.out.trans (((Below.refl _ _).alloc (Nat.le_refl _) _).mono HB2.out.size |>.trans hb3))
           clear ho3 hb3)
        | (at_builtin; refine wpList_append_nm _ rfl (.tmp 25) (.tmp 28) rfl w.heap.size _ ([] ++ l.take 0 ++ [x]) rfl HO3.out none 0 0 (l.drop 0) rfl (by have := HDL.out; omega) ((show Row w w.heap.size none (strs (l.drop 0)) from .inl (by rw [List.eq_nil_of_length_eq_zero HNL.out.symm]; rfl)).later HB3.out) (by have := HLE3.out; omega) HB3.out.size ?_
           intro v3 w4 ho4 hb4
           have HO4:=Lib.hid ho4
           have HB4:=Lib.hid (HB3.out.trans hb4)
           clear ho4 hb4))
      go_ret
      refine ⟨_,rfl,?_,HB4.out⟩
      rw [HE.out]
      exact (by simpa using HO4.out:OwnNm w.heap.size w4 v3 _).low hb
    · injection hv with hA h0 hc
      subst hA
      clear h0 hc
      have HRT:Hid (Row w w.heap.size (some ⟨g,0,none⟩) (strs (l.take p))):=Lib.hid (by have :=HR.out.cut p;rwa [show (strs l).take p=strs (l.take p) by simp [strs,List.map_take]] at this)
      by_cases hcp:c=p
      · have HRD:Hid (Row w w.heap.size (some ⟨g,0,none⟩) (strs (l.drop p))):=Lib.hid (.inl (by rw [List.drop_of_length_le (by have :=HNL.out;omega)];rfl))
        have hcp':=hcp.symm
        clear hcp
        subst hcp'
        go_enter Tryz.func81,Tryz.ntmps81
        go_wp2_with (first
          |(go_at_call 111;refine (C1.out).mono ?_;rintro e w1 ⟨rfl,hb1⟩;have HB1:=Lib.hid hb1;clear hb1)
          | (at_builtin; refine wpList_append_nm _ rfl (.tmp 16) (.tmp 19) rfl w.heap.size _ [] rfl OwnNm.nil (some ⟨g, 0, none⟩) p _ (l.take p) rfl HTL.out ((HRT.out).later HB1.out) (by simp <;> omega) HB1.out.size ?_
             intro v1 w2 ho2 hb2
             have HO2:=Lib.hid ho2
             have HB2:=Lib.hid (HB1.out.trans hb2)
             clear ho2 hb2)
          | (at_builtin; refine wpList_append_nm _ rfl (.tmp 21) (.tmp 23) rfl w.heap.size _ ([] ++ l.take p) rfl (HO2.out.below ((Below.refl _ _).alloc (Nat.le_refl _) _)) _ 1 1 [x] rfl rfl (row_new _ x) HLE2.out (by have := HB2.out.size; simp; omega) ?_
             intro v2 w3 ho3 hb3
             have HO3:=Lib.hid ho3
             have HB3:=Lib.hid (HB2.out.trans (((Below.refl _ _).alloc (Nat.le_refl _) _).mono HB2.out.size |>.trans hb3))
             clear ho3 hb3)
          | (at_builtin; refine wpList_append_nm _ rfl (.tmp 25) (.tmp 28) rfl w.heap.size _ ([] ++ l.take p ++ [x]) rfl HO3.out _ _ _ (l.drop p) rfl (by have := HDL.out; omega) ((HRD.out).later HB3.out) (by have := HLE3.out; omega) HB3.out.size ?_
             intro v3 w4 ho4 hb4
             have HO4:=Lib.hid ho4
             have HB4:=Lib.hid (HB3.out.trans hb4)
             clear ho4 hb4))
        go_ret
        refine ⟨_,rfl,?_,HB4.out⟩
        rw [HE.out]
        exact (by simpa using HO4.out:OwnNm w.heap.size w4 v3 _).low hb
      · have HRD:Hid (Row w w.heap.size (some ⟨g,p,none⟩) (strs (l.drop p))):=Lib.hid (by have :=HR.out.dropped p;rwa [Nat.zero_add] at this)
        have hcp1:p<c:=by omega
        go_enter Tryz.func81,Tryz.ntmps81
        go_wp2_with (first
          |(go_at_call 111;refine (C1.out).mono ?_;rintro e w1 ⟨rfl,hb1⟩;have HB1:=Lib.hid hb1;clear hb1)
          | (at_builtin; refine wpList_append_nm _ rfl (.tmp 16) (.tmp 19) rfl w.heap.size _ [] rfl OwnNm.nil (some ⟨g, 0, none⟩) p _ (l.take p) rfl HTL.out ((HRT.out).later HB1.out) (by simp <;> omega) HB1.out.size ?_
             intro v1 w2 ho2 hb2
             have HO2:=Lib.hid ho2
             have HB2:=Lib.hid (HB1.out.trans hb2)
             clear ho2 hb2)
          | (at_builtin; refine wpList_append_nm _ rfl (.tmp 21) (.tmp 23) rfl w.heap.size _ ([] ++ l.take p) rfl (HO2.out.below ((Below.refl _ _).alloc (Nat.le_refl _) _)) _ 1 1 [x] rfl rfl (row_new _ x) HLE2.out (by have := HB2.out.size; simp; omega) ?_
             intro v2 w3 ho3 hb3
             have HO3:=Lib.hid ho3
             have HB3:=Lib.hid (HB2.out.trans (((Below.refl _ _).alloc (Nat.le_refl _) _).mono HB2.out.size |>.trans hb3))
             clear ho3 hb3)
          | (at_builtin; refine wpList_append_nm _ rfl (.tmp 25) (.tmp 28) rfl w.heap.size _ ([] ++ l.take p ++ [x]) rfl HO3.out _ _ _ (l.drop p) rfl (by have := HDL.out; omega) ((HRD.out).later HB3.out) (by have := HLE3.out; omega) HB3.out.size ?_
             intro v3 w4 ho4 hb4
             have HO4:=Lib.hid ho4
             have HB4:=Lib.hid (HB3.out.trans hb4)
             clear ho4 hb4))
        go_ret
        refine ⟨_,rfl,?_,HB4.out⟩
        rw [HE.out]
        exact (by simpa using HO4.out:OwnNm w.heap.size w4 v3 _).low hb
end Go.Proofs.YtmoomnpbiifedaaGreat
namespace Go.Proofs.YtmoomnpbiifedaaGreat
open Go Go.RowKit
set_option linter.unusedVariables false
theorem terms_len9 {d:List Fd} (h:GoodF d):(termsD d).length≤4000:=by
 have h1:=termsUp_length (l:=d) (M:=500) h.wordsS d.length (Nat.le_refl _)
 rw [termsUp_all] at h1
 exact Nat.le_trans h1 (Nat.le_trans (Nat.mul_le_mul_right _ h.len) (by omega))
theorem term_fits9 {d:List Fd} (h:GoodF d) {t:Tm} (ht:t∈termsD d):t.1.length≤12∧t.2.length≤4096:=by
 obtain ⟨f,hf,h1,h2⟩:=(tellD_mem t d).1 ((termsD_mem h.apart t).1 ht)
 have :=h.names f hf
 have :=h.texts f hf
 have :=words_size h2
 rw [h1]
 omega
def KeysRel09 (l:List En) (w:World) (o i:Value) (wr:World):Prop:=∃ (k:Nat) (vo:Value),vo=o∧k≤l.length∧i= .int .i64 (k:Int)∧OwnNm w.heap.size wr vo (keysE (l.take k))∧Below w.heap.size w wr
def KeysRel9 (a:List Nm) (ts:List Tm) (b:Nat) (w2:World) (o i:Value) (wi:World):Prop:=∃ (j:Nat) (vo:Value),vo=o∧j≤ts.length∧i= .int .i64 (j:Int)∧OwnNm b wi vo (keysIn a (ts.take j))∧Below w2.heap.size w2 wi
set_option maxHeartbeats 2000000 in
set_option maxRecDepth 100000 in
theorem ref09_Keys (A:Option Addr) (n c:Nat) (l:List En) (w:World) (hl:l.length=n) (hr:Nest enS w w.heap.size A l) (hg:GoodE l) (hn:n≤100):
    Calls Tryz.prog 46 #[.slice A n c] w (GaveNm (keysE l) w):=by
  have HR:=Lib.hid hr
  have HG:=Lib.hid hg
  have HL:=Lib.hid hl
  clear hr hg hl
  go_enter Tryz.func46,Tryz.ntmps46
  go_wp2
  go_loopw [3,4,5,6] (fun o i t j wr=>KeysRel09 l w o i wr) (fun _ i _ _ _=>n-(intOf i).toNat)
  case atStart=>exact ⟨0,_,rfl,Nat.zero_le _,rfl,OwnNm.nil,Below.refl _ _⟩
  case round=>
    obtain ⟨k,vo,rfl,hk,rfl,hown,hbw⟩:=hrel
    by_cases hlt:k<n
    · have hkl:k<l.length:=by rw [HL.out];exact hlt
      have hnr:=Nest.later HR.out hbw
      obtain ⟨b,off,A',c',e1,_,g1,g2,_,_,_,hfr⟩:=enS_at hnr hkl
      subst e1
      have hkt:=keysE_take hkl
      have hgk:=HG.out _ (List.getElem_mem hkl)
      have HC:=Lib.hid (good_terms (id:=l[k].1) (c:=c') hgk rfl hfr)
      have hbnd:(keysE (l.take k)).length≤400000:=by
        have h1:=keysE_length (l:=l.take k) (a:=[]) (M:=4000) fun q hq=>terms_len9 (HG.out q (List.mem_of_mem_take hq))
        rw [List.length_take] at h1
        have h2:min k l.length*4000≤100*4000:=Nat.mul_le_mul_right _ (by omega)
        have h3:(keysE (l.take k)).length≤min k l.length*4000+([]:List Nm).length:=h1
        simp only [List.length_nil] at h3
        omega
      obtain ⟨m,hm⟩:∃ m,m=l[k].2.1.length:=⟨_,rfl⟩
      obtain ⟨q,hq⟩:∃ q,q=l[k].1:=⟨_,rfl⟩
      have hfits:∀ t∈termsD l[k].2.1,t.1.length≤12∧t.2.length≤4096:=fun t ht=>term_fits9 hgk ht
      have htl:=terms_len9 hgk
      obtain ⟨ts,hts⟩:∃ ts,ts=termsD l[k].2.1:=⟨_,rfl⟩
      obtain ⟨a,ha⟩:∃ a,a=keysE (l.take k):=⟨_,rfl⟩
      rw [← hm,← hq,← hts] at HC
      rw [← hm] at g2
      rw [← hq] at g1
      rw [← ha] at hown hbnd
      rw [← ha,← hts] at hkt
      rw [← hts] at hfits htl
      have HFT:=Lib.hid hfits
      have HKT:=Lib.hid hkt
      have HOW:=Lib.hid hown
      have i0:(0:Int)≤k:=by omega
      have i1:(k:Int)<n:=by omega
      clear hnr hfr hm hts ha hq hkt hfits hown hgk
      go_wp2_with (go_at_call 80;(with_reducible refine HC.out.mono ?_);rintro e w2 ⟨v2,rfl,ho2,hb2⟩)
      obtain ⟨A2,c2,rfl,_,hr2⟩:=ho2.row
      obtain ⟨N,hN⟩:∃ N,N=ts.length:=⟨_,rfl⟩
      rw [← hN] at htl ⊢
      have HN:=Lib.hid hN
      have HR2:=Lib.hid hr2
      have HB2:=Lib.hid (hbw.trans (hb2.mono hbw.size))
      have HOW2:=Lib.hid (HOW.out.below hb2)
      clear ho2 hr2 hb2 hN
      go_wp2
      go_loopw [3,6] (fun o i wi=>KeysRel9 a ts w.heap.size w2 o i wi) (fun _ i _=>N-(intOf i).toNat)
      case atStart=>exact ⟨0,_,rfl,Nat.zero_le _,rfl,HOW2.out,Below.refl _ _⟩
      case round=>
        obtain ⟨j,vi,rfl,hj,rfl,howi,hbi⟩:=hrel
        by_cases hjt:j<N
        · have hjl:j<ts.length:=by rw [← HN.out];exact hjt
          obtain ⟨b4,o4,e4,_,hx4,hy4⟩:=(FRow.later HR2.out hbi).at_ hjl
          subst e4
          obtain ⟨x,hx,hx2⟩:=as_text ts[j].1
          obtain ⟨y,hy,hy2⟩:=as_text ts[j].2
          rw [← hx] at hx4
          rw [← hy] at hy4
          have hf:=HFT.out _ (List.getElem_mem hjl)
          have hkj:=keysIn_take (a:=a) hjl
          have hlen:=keysIn_length a (ts.take j)
          rw [List.length_take] at hlen
          have CK:=Lib.hid (fun w'=>ref_Key x y w' (by rw [hx,size_nm];omega) (by rw [hy,size_nm];omega))
          have hkey:(keyB x y).data.toList=keyT ts[j]:=by rw [keyB_list,hx2,hy2];rfl
          obtain ⟨z,hz⟩:∃ z,z=keyB x y:=⟨_,rfl⟩
          rw [← hz] at CK hkey
          have hsi:=Nat.le_trans HB2.out.size hbi.size
          have HOI:=Lib.hid howi
          have HKJ:=Lib.hid hkj
          have HKY:=Lib.hid hkey
          have j0:(0:Int)≤j:=by omega
          have j1:(j:Int)<N:=by omega
          clear hx hx2 hy hy2 hf hkj hkey hz howi
          go_wp2_with (first
            | (go_at_call 41; (with_reducible refine (CK.out _).mono ?_); rintro e w3 ⟨rfl, hb3⟩
               have HB3:=Lib.hid hb3
               have HO3:=Lib.hid (HOI.out.below hb3)
               clear hb3)
            | (go_at_call 81; (with_reducible refine (ref_Put07 w.heap.size vi (keysIn a (ts.take j)) z w3 HO3.out (Nat.le_trans hsi HB3.out.size) (by omega)).mono ?_); rintro e w4 ⟨v4, rfl, ho4, hb4⟩
               rw [HKY.out,← HKJ.out] at ho4
               have HB4:=Lib.hid (hbi.trans ((HB3.out.trans (hb4.mono HB3.out.size)).mono hbi.size))
               have HO4:=Lib.hid ho4
               clear ho4 hb4))
          exact ⟨⟨j+1,_,rfl,hjl,by go_num,HO4.out,HB4.out⟩,by simp [intOf];omega⟩
        · have hjt2:j=ts.length:=by have :=HN.out;omega
          subst hjt2
          rw [List.take_length,← HKT.out] at howi
          have HOI:=Lib.hid howi
          have HBI:=Lib.hid (HB2.out.trans (hbi.mono HB2.out.size))
          clear howi
          go_wp2
          exact ⟨⟨k+1,_,rfl,hkl,by go_num,HOI.out,HBI.out⟩,by simp [intOf];omega⟩
    · have hkn:k=l.length:=by have :=HL.out;omega
      subst hkn
      rw [List.take_length] at hown
      go_wp2
      go_ret
      exact ⟨_,rfl,hown,hbw⟩
end Go.Proofs.YtmoomnpbiifedaaGreat
set_option linter.unusedVariables false
namespace Go.Proofs.YtmoomnpbiifedaaGreat
open Go Go.RowKit
structure AddOk (G:List En):Prop where
 may:∀ q∈G,mayD q.2.1=0∧∀ f∈q.2.1,f.1.length≤1024∧f.2.length≤1024
 rise:risesZ (-1) (G.map (·.2.2))=true
 few:G.length≤100
theorem AddOk.good {G:List En} (h:AddOk G):GoodE G:=fun q hq=>goodF_of (h.may q hq).1 fun f hf=>((h.may q hq).2 f hf).2
theorem posts_doc {key:Nm} {p:Pn}:∀ {l:List En} {i:Nat},p∈postsE i l key→(i:Int)≤p.1∧p.1<(i+l.length:Nat)
 |[],i,h=>by simp [postsE] at h
 |q::l,i,h=>by
  rw [postsE] at h
  rcases List.mem_append.1 h with h|h
  ·unfold postIn at h
   obtain ⟨t,_,rfl⟩:=List.mem_map.1 h
   simp only [List.length_cons]
   omega
  ·have :=posts_doc h
   simp only [List.length_cons]
   omega
theorem keys_posts {l:List En} {key:Nm} (h:key∈keysE l):0<(postsE 0 l key).length:=by
 obtain ⟨q,hq,t,ht,e⟩:=mem_keysE.1 h
 exact posts_there ⟨q,hq,t,ht,e⟩
theorem build_may {G:List En} (h:AddOk G):mayPs (buildP G)=true:=by
 refine mayPs_iff.2 ⟨by simp [buildP],by simp [buildP],h.rise,risesN_iff.2 (rise_keysE G),fun l hl=> ?_⟩
 obtain ⟨key,hk,rfl⟩:=List.mem_map.1 hl
 have hn:(buildP G).ids.length=G.length:=by simp [buildP]
 have hp:=keys_posts hk
 have hm:=posts_may (key:=key) (i:=0) (last:= -1) h.good (by omega) (by have :=h.few;omega)
 unfold mayL
 rw [hm,hn,Bool.true_and,Bool.and_eq_true,decide_eq_true_iff,decide_eq_true_iff]
 refine ⟨by omega,fun p hp'=> ?_⟩
 have :=(posts_doc (List.mem_of_getLast? hp')).2
 simpa using this
theorem build_keys {G:List En} (h:AddOk G):(keysE G).length≤400000:=by
 have h1:=keysE_length (l:=G) (a:=[]) (M:=4000) fun q hq=>terms_len9 (h.good q hq)
 have h2:(keysE G).length≤G.length*4000+([]:List Nm).length:=h1
 have :=h.few
 simp only [List.length_nil] at h2
 omega
theorem build_small {G:List En} (h:AddOk G):PSmall (buildP G):=by
 refine ⟨by have :=h.few;simp [buildP];omega,by have :=build_keys h;simp only [buildP];omega,fun l hl=> ?_⟩
 obtain ⟨key,hk,rfl⟩:=List.mem_map.1 hl
 have h1:=posts_len h.good (key:=key) G 0 (fun q hq=>hq)
 have h2:=totalP_le (l:=postsE 0 G key) (n:=500) fun p hp=>(posts_good h.good p hp).2
 have :=h.few
 exact ⟨by omega,by omega⟩
theorem build_few {G:List En} (h:AddOk G):PFew (buildP G):=by
 have hs:=build_small h
 have hk:=hs.keys
 have hi:=hs.ids
 refine ⟨by omega,by simp [buildP] at hi ⊢;omega,by omega,by simp [buildP] at hk ⊢;omega,fun l hl=>⟨by have :=(hs.lists l hl).1;omega,fun p hp=> ?_⟩⟩
 obtain ⟨key,hk,rfl⟩:=List.mem_map.1 hl
 have :=(posts_good h.good p hp).2
 omega
end Go.Proofs.YtmoomnpbiifedaaGreat
namespace Go.Proofs.YtmoomnpbiifedaaGreat
open Go Go.RowKit
set_option linter.unusedVariables false
def RiseRel10 (l:List Nm) (w:World) (r i:Value) (wr:World):Prop:=r= .bool false∧∃ k:Nat,1≤k∧i= .int .i64 (k:Int)∧Below w.heap.size w wr∧∀ j (hj:j<l.length),0<j→j<k→l[j-1]<l[j]
end Go.Proofs.YtmoomnpbiifedaaGreat
namespace Go.Proofs.YtmoomnpbiifedaaGreat
open Go Go.RowKit
set_option linter.unusedVariables false
set_option maxHeartbeats 1000000 in
set_option maxRecDepth 100000 in
theorem dict_rise (A:Option Addr) (m c:Nat) (l:List Nm) (w:World) (hr:Row w w.heap.size A (strs l)) (hm:l.length=m) (hl:m≤1073741824):
  Calls Tryz.prog 66 #[.slice A m c] w fun e w'=>e= .returned (.bool (risesN l))∧Below w.heap.size w w':=by
 have HR:=Lib.hid hr
 clear hr
 subst hm
 obtain ⟨ans,hans⟩:∃ ans,ans=risesN l:=⟨_,rfl⟩
 rw [← hans]
 have HA:=Lib.hid hans
 clear hans
 go_enter Tryz.func66,Tryz.ntmps66
 go_wp2
 go_loopw [2,3] (fun r i wr=>RiseRel10 l w r i wr) (fun _ i _=>l.length-(intOf i).toNat)
 case atStart=>exact ⟨rfl,1,by omega,rfl,Below.refl _ _,fun j _ _ _=>by omega⟩
 case round=>
  obtain ⟨rfl,k,hk,rfl,hbw,hall⟩:=hrel
  by_cases hlt:k<l.length
  ·obtain ⟨b1,o1,e1,_,hc1⟩:=row_nm (HR.out.below hbw) hlt
   subst e1
   have hc0:wr.cell? ⟨b1,o1+(k-1),none⟩=some (.string ⟨l[k-1].toArray⟩):=by
    obtain ⟨b2,o2,e2,_,hc2⟩:=row_nm (HR.out.below hbw) (k:=k-1) (by omega)
    injection e2 with e2
    injection e2 with e3 e4
    subst e3 e4
    exact hc2
   obtain ⟨x,hx,hx2⟩:=as_text l[k]
   obtain ⟨y,hy,hy2⟩:=as_text l[k-1]
   rw [← hx] at hc1
   rw [← hy] at hc0
   obtain ⟨j,hj⟩:∃ j,j=k-1:=⟨_,rfl⟩
   have hw:IntKind.i64.wrap ((k:Int)-1)=(j:Int):=by rw [IntWalk.i64_in _ (by omega)];omega
   have hjl:j<l.length:=by omega
   rw [← hj] at hc0
   by_cases hxy:l[k-1]<l[k]
   ·have t1:=less_true (s:=y) (t:=x) (by rw [hx2,hy2];exact hxy)
    have HN:Hid (∀ j (hj:j<l.length),0<j→j<k+1→l[j-1]<l[j]):=Lib.hid fun j hj h0 hjk=>by
     by_cases e:j=k
     ·subst e;exact hxy
     ·exact hall j hj h0 (by omega)
    clear hx hx2 hy hy2 hj hall hxy
    go_wp2
    go_quiet (fail)
    go_wp2
    go_roundw
    case rel=>exact ⟨rfl,k+1,by omega,by go_num,hbw.trans ⟨rfl,rfl,rfl,Nat.le_refl _,fun _ _=>rfl⟩,HN.out⟩
    case measure=>simp [intOf];omega
   ·have hbad:ans=false:=by rw [HA.out];exact rise_bad hlt (by omega) hxy
    subst hbad
    have t1:=less_false (s:=y) (t:=x) (by rw [hx2,hy2];exact hxy)
    clear hx hx2 hy hy2 hj hall hxy
    go_wp2
    go_quiet (fail)
    go_wp2
    go_ret
    exact ⟨rfl,hbw.trans ⟨rfl,rfl,rfl,Nat.le_refl _,fun _ _=>rfl⟩⟩
  ·have hgood:ans=true:=by rw [HA.out];exact rise_good fun i hi h0=>hall i hi h0 (by omega)
   subst hgood
   clear hall
   go_wp2
   go_ret
   exact ⟨rfl,hbw⟩
end Go.Proofs.YtmoomnpbiifedaaGreat
set_option linter.unusedVariables false
namespace Go.Proofs.YtmoomnpbiifedaaGreat
open Go Go.RowKit
abbrev Sl:=Option Addr × Nat × Nat
def entQ:List Nm→List Sl→List Value
 |x::l,v::vs=> .string ⟨x.toArray⟩:: .slice v.1 v.2.1 v.2.2::entQ l vs
 |_,_=>[]
theorem entQ_nil (vs:List Sl):entQ [] vs=[]:=by cases vs<;>rfl
theorem entQ_snoc:∀ {l:List Nm} {vs:List Sl} {x:Nm} {v:Sl},vs.length=l.length→entQ (l++[x]) (vs++[v])=entQ l vs++[.string ⟨x.toArray⟩,.slice v.1 v.2.1 v.2.2]
 |[],[],x,v,_=>rfl
 |[],_::_,_,_,h=>by simp at h
 |_::_,[],_,_,h=>by simp at h
 |y::l,u::vs,x,v,h=>by
  have :=entQ_snoc (l:=l) (vs:=vs) (x:=x) (v:=v) (by simpa using h)
  simp only [List.cons_append,entQ,this]
theorem info_entryQ:(Tryz.prog.info? 128).map (fun i=>(i.zero,i.size,i.bytes))=some (some (.agg #[.string ByteArray.empty,.slice none 0 0]),2,40):=by kernel_rfl
def sls (vs:List Sl):List Value:=vs.map fun v=> .slice v.1 v.2.1 v.2.2
theorem row_sl {w:World} {B:Nat} {A:Option Addr} {l:List Sl} {k:Nat} (h:Row w B A (sls l)) (hk:k<l.length):∃ b off,A=some ⟨b,off,none⟩∧b<B∧w.cell? ⟨b,off+k,none⟩=some (.slice l[k].1 l[k].2.1 l[k].2.2):=by
 obtain ⟨b,off,rfl,hb,hc⟩:=Row.at_ h (by simp [sls];omega)
 exact ⟨b,off,rfl,hb,hc _ _ (by simp [sls,hk])⟩
def DictAtQ (w:World) (base B:Nat) (l:List Nm) (vs:List Sl):Prop:=
 base≤B∧vs.length=l.length∧∃ v,w.heap[B]?=some (.cells #[v] 126 (0,0))∧w.ownsRow base 128 2 v l.length (entQ l vs)
def MadeDQ (l:List Nm) (vs:List Sl) (w:World) (e:Ending) (w':World):Prop:=∃ B,e= .returned (.tuple #[.pointer (some ⟨B,0,none⟩),.int .i64 0])∧DictAtQ w' w.heap.size B l vs∧Below w.heap.size w w'
def NoneDQ (w:World) (e:Ending) (w':World):Prop:=e= .returned (.tuple #[.pointer none,.int .i64 1])∧Below w.heap.size w w'
set_option maxHeartbeats 1000000 in
set_option maxRecDepth 100000 in
theorem dictQ_Make_no (A A2:Option Addr) (n c m c2:Nat) (l:List Nm) (w:World) (hr:Row w w.heap.size A (strs l)) (hn:l.length=n) (hl:n≤1073741824) (hno:n≠m∨risesN l=false):
  Calls Tryz.prog 28 #[.slice A n c,.slice A2 m c2] w (NoneDQ w):=by
 by_cases hnm:n=m
 ·have hf:risesN l=false:=hno.resolve_left (fun h=>h hnm)
  have c1:=dict_rise A n c l w hr hn hl
  rw [hf] at c1
  have C1:=Lib.hid c1
  subst hnm
  clear c1 hno hf hr hn
  go_enter Tryz.func28,Tryz.ntmps28
  go_wp2_with (go_at_call 66;refine (C1.out).mono ?_;rintro e w1 ⟨rfl,hb⟩)
  go_ret2
  exact ⟨rfl,hb⟩
 ·have e1:((n:Int) != (m:Int))=true:=by simp;omega
  have e2:((n:Int)==(m:Int))=false:=by rw [beq_eq_false_iff_ne];omega
  clear hr hn hno hnm
  go_enter Tryz.func28,Tryz.ntmps28
  go_wp2
  go_ret2
  exact ⟨rfl,Below.refl _ _⟩
def MakeRelQ (B:Nat) (l:List Nm) (vs:List Sl) (w:World) (i:Value) (wr:World):Prop:=
 ∃ (k:Nat) (v:Value),k≤l.length∧i= .int .i64 (k:Int)∧wr.heap[B]?=some (.cells #[v] 126 (0,0))∧wr.ownsRow w.heap.size 128 2 v k (entQ (l.take k) (vs.take k))∧Below w.heap.size w wr
theorem owned_setQ {w:World} {base B:Nat} {e:TypeId} {size:Nat} {v:Value} {n:Nat} {xs:List Value} {cs:Array Value} {t:TypeId} {fr:Nat × Nat} (h:w.ownsRow base e size v n xs) (hB:w.heap[B]?=some (.cells cs t fr)) (ht:t≠e) (o:Nat) (u:Value):(w.setCell ⟨B,o,none⟩ u).ownsRow base e size v n xs:=
 owned_keep h fun g hg=>Below.heap_setCell _ _ _ _ (fun e1=>owned_apart h hB ht (by rw [hg,e1]))
theorem enteredQ {w0 w1:World} {base B n:Nat} {v v':Value} {xs ys:List Value} (hv:w0.heap[B]?=some (.cells #[v] 126 (0,0))) (hown:w0.ownsRow base 128 2 v n xs) (hg:w0.grownBy w1 v.ownBlock) (hown1:w1.ownsRow base 128 2 v' (n+1) ys) (hbase:base≤w0.heap.size) (hB:base≤B):
  w1.heap[B]?=some (.cells #[v] 126 (0,0))∧(w1.setCell ⟨B,0,none⟩ v').heap[B]?=some (.cells #[v'] 126 (0,0))∧(w1.setCell ⟨B,0,none⟩ v').ownsRow base 128 2 v' (n+1) ys∧Below base w0 (w1.setCell ⟨B,0,none⟩ v'):=by
 have h1:w1.heap[B]?=some (.cells #[v] 126 (0,0)):=(hg.block B (lt_of_block hv) (fun e=>owned_apart hown hv (by decide) e.symm)).trans hv
 refine ⟨h1,by simpa using one_setCell h1,owned_setQ hown1 h1 (by decide) _ _,?_⟩
 exact (((Below.refl base w0).grown hg hbase fun k hk=>(hown.lt k hk).1)).setCell hB _
set_option maxHeartbeats 4000000 in
set_option maxRecDepth 100000 in
theorem dictQ_Make (A A2:Option Addr) (n c c2:Nat) (l:List Nm) (vs:List Sl) (w:World) (hr:Row w w.heap.size A (strs l)) (hn:l.length=n) (hl:n≤1048576) (hv:Row w w.heap.size A2 (sls vs)) (hvn:vs.length=n) (hg:risesN l=true):
    Calls Tryz.prog 28 #[.slice A n c,.slice A2 n c2] w (MadeDQ l vs w):=by
  obtain ⟨i0,hi0,hz0,hz1,hz2⟩:=info_parts info_entryQ
  have c1:=dict_rise A n c l w hr hn (by omega)
  rw [hg] at c1
  have C1:=Lib.hid c1
  have HR:=Lib.hid hr
  have HV:=Lib.hid hv
  have HN:=Lib.hid hn
  have HVN:=Lib.hid hvn
  clear c1 hr hv hn hvn hg
  go_enter Tryz.func28,Tryz.ntmps28
  go_wp2_with (go_at_call 66;refine (C1.out).mono ?_)
  rintro e w1 ⟨rfl,hb1⟩
  obtain ⟨w2,hrun,hown2,hgrow2⟩:=run_make_own (P:=Tryz.prog) w1 w.heap.size 124 128 i0 _ 2 Tryz.underlying124 hi0 hz0 hz1 .i64 .i64 n (by rw [hz2];omega) (by unfold maxLen;omega) hb1.size
  have hb2:Below w.heap.size w w2:=hb1.grown hgrow2 hb1.size (fun k hk=>by cases hk)
  obtain ⟨B,hB⟩:∃ B,B=w2.heap.size:=⟨_,rfl⟩
  obtain ⟨w3,hw3⟩:∃ w3,w3=w2.alloc (.cells #[.slice (some ⟨w1.heap.size,0,none⟩) 0 n] 126):=⟨_,rfl⟩
  have hrel:MakeRelQ B l vs w (.int .i64 ((0:Nat):Int)) w3:=by
    refine ⟨0,.slice (some ⟨w1.heap.size,0,none⟩) 0 n,Nat.zero_le _,rfl,?_,?_,?_⟩
    · rw [hw3,hB];exact heap_alloc_new w2 _
    · rw [hw3];simpa [entQ_nil] using hown2.alloc _
    · rw [hw3];exact hb2.alloc hb2.size _
  have HREL:=Lib.hid hrel
  have HW3:=Lib.hid hw3
  have HB:=Lib.hid hB
  have HBW:Hid (w.heap.size≤B):=Lib.hid (by rw [hB];exact hb2.size)
  clear hrel hown2 hgrow2 hb2 hb1 hw3 hB
  go_wp2
  rw [← HW3.out,← HB.out]
  clear hrun
  go_loopw [26] (MakeRelQ B l vs w) (fun i _=>n-(intOf i).toNat)
  case atStart=>exact HREL.out
  case round=>
    obtain ⟨k,v,hk,rfl,hblk,hown,hbw⟩:=hrel
    rw [HN.out] at hk
    have hsz:=hbw.size
    by_cases hlt:k<n
    · have hkl:k<l.length:=by rw [HN.out];exact hlt
      have hkv:k<vs.length:=by rw [HVN.out];exact hlt
      obtain ⟨b1,o1,e1,hb1,hc1⟩:=row_nm (HR.out.below hbw) hkl
      obtain ⟨b2,o2,e2,hb2,hc2⟩:=row_sl (HV.out.below hbw) hkv
      subst e1 e2
      obtain ⟨x,hx⟩:∃ x:ByteArray,x=⟨l[k].toArray⟩:=⟨_,rfl⟩
      obtain ⟨y,hy⟩:∃ y,y=vs[k]:=⟨_,rfl⟩
      rw [← hx] at hc1
      rw [← hy] at hc2
      have hsn:entQ (l.take (k+1)) (vs.take (k+1))=entQ (l.take k) (vs.take k)++[.string x,.slice y.1 y.2.1 y.2.2]:=by
        rw [List.take_succ_eq_append_getElem hkl,List.take_succ_eq_append_getElem hkv,entQ_snoc (by simp only [List.length_take];rw [HN.out,HVN.out]),← hx,← hy]
      obtain ⟨cs,hcs⟩:∃ cs,cs=entQ (l.take k) (vs.take k):=⟨_,rfl⟩
      rw [← hcs] at hown hsn
      have cB:=cell_of_one hblk
      have fB:=free_of_one hblk
      have k2:(0:Int)≤(k:Int):=by omega
      have k3:(k:Int)<(n:Int):=by omega
      have hBlt:=lt_of_block hblk
      have hal:∀ o,((wr.alloc o).drew).cell? ⟨B,0,none⟩=some v:=fun o=>(((Below.refl _ wr).alloc (Nat.le_refl _) o).cell (p:=⟨B,0,none⟩) hBlt).trans cB
      have HOWN:=Lib.hid hown
      have HBLK:=Lib.hid hblk
      have HSN:=Lib.hid hsn
      clear hx hy hcs hown hblk hsn hkl hkv
      go_wp2
      go_region_law (first
        | (refine step_append_lies _ (by rfl) _ _ _ (by rfl) w.heap.size 128 i0 _ 2 40 Tryz.underlying124 hi0 hz0 hz1 hz2 rfl (by omega) v k cs (by rfl) ((HOWN.out.alloc _).drew)
            ⟨wr.heap.size,0,none⟩ 1 1 [.string x,.slice y.1 y.2.1 y.2.2] (by rfl) (by rfl) (World.news_of_block (cs:=#[.string x,.slice y.1 y.2.1 y.2.2]) (t:=128) (fr:=(0,0)) (heap_alloc_new wr.drew _)) (by intro u hu;simp at hu;rcases hu with hu|hu<;>(subst hu;rfl))
            (by omega) (by unfold maxLen;omega) (by omega) (by simp;omega) (wr.heap.size+1) (by simp) ?_
           intro gg cap w5 hown5 hg5 hat hlt5
           obtain ⟨hB5,hB6,hown6,hb6⟩:=enteredQ (((Below.refl _ wr).alloc (Nat.le_refl _) _).drew.block B hBlt |>.trans HBLK.out) ((HOWN.out.alloc _).drew) hg5 hown5 (by simp;omega) HBW.out
           have cB5:=cell_of_one hB5
           have fB5:=free_of_one hB5))
      all_goals
        have hrel:MakeRelQ B l vs w (.int .i64 ((k:Int)+1)) (w5.setCell ⟨B,0,none⟩ (.slice (some ⟨gg,0,none⟩) (k+1) cap)):=by
          refine ⟨k+1,_,by rw [HN.out];omega,by go_num,hB6,?_,?_⟩
          · rw [HSN.out];exact hown6
          · exact hbw.trans ((((Below.refl _ wr).alloc hsz _).drew).trans hb6)
        have HREL:=Lib.hid hrel
        clear hrel hB6 hown6 hb6 hB5
        go_wp2
        go_roundw
        case rel=>exact HREL.out
        case measure=>simp [intOf];omega
    · have hkn:k=n:=by omega
      have HFIN:Hid (MadeDQ l vs w (.returned (.tuple #[.pointer (some ⟨B,0,none⟩),.int .i64 0])) wr):=Lib.hid ⟨B,rfl,⟨HBW.out,by rw [HN.out,HVN.out],v,hblk,by
        rw [hkn,List.take_of_length_le (by rw [HN.out];omega),List.take_of_length_le (by rw [HVN.out];omega)] at hown
        rw [HN.out]
        exact hown⟩,hbw⟩
      clear hown hblk hbw
      go_wp2
      go_ret2
      exact HFIN.out
end Go.Proofs.YtmoomnpbiifedaaGreat
set_option linter.unusedVariables false
namespace Go.Proofs.YtmoomnpbiifedaaGreat
open Go Go.RowKit
theorem set_two {w:World} {B:Nat} {a b x y:Value} {t:TypeId} (h:w.heap[B]?=some (.cells #[a,b] t (0,0))):((w.setCell ⟨B,0,none⟩ x).setCell ⟨B,1,none⟩ y).heap[B]?=some (.cells #[x,y] t (0,0)):=
 heap_setCell_same _ B 1 #[x,b] t y (heap_setCell_same w B 0 #[a,b] t x h)
theorem cells_two {w:World} {B:Nat} {x y:Value} {t:TypeId} (h:w.heap[B]?=some (.cells #[x,y] t (0,0))):w.cell? ⟨B,0,none⟩=some x∧w.cell? ⟨B,1,none⟩=some y∧w.frozen? ⟨B,0,none⟩=false∧w.frozen? ⟨B,1,none⟩=false:=by
 simp [World.cell?,World.frozen?,h]
theorem take_blocks (l:List Po):l.take (8*blocksP l.length)=l:=List.take_of_length_le (by unfold blocksP;omega)
theorem list_last (base B:Nat) (bs:List UInt8) (l:List Po) (w:World) (h:LAt w base B bs l) (hl:l.length≤1073741824):
  Calls Tryz.prog 64 #[.pointer (some ⟨B,0,none⟩)] w fun e w'=>e= .returned (.agg #[.int .i64 (docOf (-1) l),.int .i64 ((bytesP (-1) l).length:Int)])∧Below w.heap.size w w':=by
 have hal:=(Below.refl w.heap.size w).alloc (Nat.le_refl _) (.cells #[.int .i64 0,.int .i64 0] 119)
 have h1:=h.below hal
 have hb:=list_Blocks base B bs l _ h1
 have ha:=list_ahead base B bs l _ h1 (blocksP l.length) (Nat.le_refl _) hl
 rw [take_blocks] at ha
 have HAL:=Lib.hid hal
 have HB:=Lib.hid hb
 have HA:=Lib.hid ha
 obtain ⟨n,hn⟩:∃ n,n=blocksP l.length:=⟨_,rfl⟩
 rw [← hn] at HA HB
 obtain ⟨x,hx⟩:∃ x,x=docOf (-1) l:=⟨_,rfl⟩
 obtain ⟨y,hy⟩:∃ y,y=(bytesP (-1) l).length:=⟨_,rfl⟩
 rw [← hx,← hy] at HA ⊢
 clear h h1 hal hb ha hn hx hy
 go_enter Tryz.func64,Tryz.ntmps64
 go_wp2_with (first
  |(go_at_call 104;refine HB.out.mono ?_;rintro e w' ⟨rfl,rfl⟩)
  |(go_at_call 103;refine HA.out.mono ?_))
 rintro e w3 ⟨rfl,hb3⟩
 have hres:w3.heap[w.heap.size]?=some (.cells #[.int .i64 0,.int .i64 0] 119 (0,0)):=(hb3.block w.heap.size (by simp)).trans (heap_alloc_new w _)
 obtain ⟨c0,c1,f0,f1⟩:=cells_two hres
 have hb4:=HAL.out.trans (hb3.mono (by simp))
 have HR:=Lib.hid hres
 have HB4:=Lib.hid hb4
 clear hres hb4 hb3
 go_wp2
 refine bodyPost_ret (results_cell_row (P:=Tryz.prog) rfl _ _ w.heap.size 119 _ (0,0) _ rfl (set_two HR.out) Tryz.underlying119 rfl (by kernel_rfl)) rfl ?_
 exact ⟨rfl,(HB4.out.setCell (Nat.le_refl _) _).setCell (Nat.le_refl _) _⟩
end Go.Proofs.YtmoomnpbiifedaaGreat
namespace Go.Proofs.YtmoomnpbiifedaaGreat
open Go Go.RowKit
set_option linter.unusedVariables false
def PlacesRel10 (l:List Int) (r last i:Value):Prop:=r= .bool false∧∃ (k:Nat) (x:Int),k≤l.length∧i= .int .i64 (k:Int)∧last= .int .i64 x∧placesOn x (l.drop k)=placesOn (-1) l
set_option maxHeartbeats 1000000 in
set_option maxRecDepth 100000 in
theorem may_places_any (A:Option Addr) (m c:Nat) (l:List Int) (w:World) (hr:Row w w.heap.size A (ints l)) (hm:l.length=m) (hl:m≤9223372036854775807):
  Calls Tryz.prog 99 #[.slice A m c] w fun e w'=>e= .returned (.bool (placesB l))∧w=w':=by
 have HR:=Lib.hid hr
 clear hr
 subst hm
 rw [placesB_on]
 obtain ⟨ans,hans⟩:∃ ans,ans=placesOn (-1) l:=⟨_,rfl⟩
 rw [← hans]
 have HA:=Lib.hid hans
 clear hans
 go_enter Tryz.func99,Tryz.ntmps99
 go_wp2
 go_loop [2,3,8] (fun r last i=>PlacesRel10 l r last i) (fun _ _ i=>l.length-(intOf i).toNat)
 case atStart=>exact ⟨rfl,0, -1,by omega,rfl,rfl,rfl⟩
 case round=>
  obtain ⟨rfl,k,x,hk,rfl,rfl,hx⟩:=hrel
  by_cases hlt:k<l.length
  ·obtain ⟨b1,o1,e1,_,hc1⟩:=row_int' HR.out hlt
   subst e1
   rw [placesOn_cut hlt] at hx
   obtain ⟨y,hy⟩:∃ y,y=l.getD k 0:=⟨_,rfl⟩
   rw [← hy] at hc1 hx
   clear hy
   by_cases hxy:y≤x
   ·rw [decide_eq_false (by omega),Bool.false_and,Bool.false_and,← HA.out] at hx
    subst hx
    have hd:decide (y≤x)=true:=decide_eq_true hxy
    go_wp2
    go_ret
    exact ⟨rfl,rfl⟩
   ·have hd:decide (y≤x)=false:=decide_eq_false hxy
    by_cases hyb:2147483648≤y
    ·rw [decide_eq_false (p:=y<2147483648) (by omega),Bool.and_false,Bool.false_and,← HA.out] at hx
     subst hx
     have hd2:decide (2147483648≤y)=true:=decide_eq_true hyb
     go_wp2
     go_ret
     exact ⟨rfl,rfl⟩
    ·rw [decide_eq_true (p:=x<y) (by omega),decide_eq_true (p:=y<2147483648) (by omega),Bool.true_and,Bool.true_and] at hx
     have hd2:decide (2147483648≤y)=false:=decide_eq_false hyb
     have HX:=Lib.hid hx
     clear hx
     go_wp2
     go_round
     case rel=>exact ⟨rfl,k+1,y,by omega,by go_num,rfl,HX.out⟩
     case measure=>simp [intOf];omega
  ·have hx2:placesOn x (l.drop k)=true:=by rw [List.drop_eq_nil_of_le (by omega)];rfl
   rw [hx2,← HA.out] at hx
   subst hx
   clear hx2
   go_wp2
   go_ret
   exact ⟨rfl,rfl⟩
end Go.Proofs.YtmoomnpbiifedaaGreat
namespace Go.Proofs.YtmoomnpbiifedaaGreat
open Go Go.RowKit
set_option linter.unusedVariables false
def RisesRel10 (l:List Int) (r last i:Value):Prop:=r= .bool false∧∃ (k:Nat) (x:Int),k≤l.length∧i= .int .i64 (k:Int)∧last= .int .i64 x∧risesZ x (l.drop k)=risesZ (-1) l
set_option maxHeartbeats 1000000 in
set_option maxRecDepth 100000 in
theorem vint_rises_any (A:Option Addr) (m c:Nat) (l:List Int) (w:World) (hr:Row w w.heap.size A (ints l)) (hm:l.length=m) (hl:m≤9223372036854775807):
  Calls Tryz.prog 124 #[.slice A m c] w fun e w'=>e= .returned (.bool (risesZ (-1) l))∧w=w':=by
 have HR:=Lib.hid hr
 clear hr
 subst hm
 obtain ⟨ans,hans⟩:∃ ans,ans=risesZ (-1) l:=⟨_,rfl⟩
 rw [← hans]
 have HA:=Lib.hid hans
 clear hans
 go_enter Tryz.func124,Tryz.ntmps124
 go_wp2
 go_loop [2,3,8] (fun r last i=>RisesRel10 l r last i) (fun _ _ i=>l.length-(intOf i).toNat)
 case atStart=>exact ⟨rfl,0, -1,by omega,rfl,rfl,rfl⟩
 case round=>
  obtain ⟨rfl,k,x,hk,rfl,rfl,hx⟩:=hrel
  by_cases hlt:k<l.length
  ·obtain ⟨b1,o1,e1,_,hc1⟩:=row_int' HR.out hlt
   subst e1
   rw [risesZ_drop hlt] at hx
   obtain ⟨y,hy⟩:∃ y,y=l.getD k 0:=⟨_,rfl⟩
   rw [← hy] at hc1 hx
   clear hy
   by_cases hxy:y≤x
   ·rw [decide_eq_false (by omega),Bool.false_and,← HA.out] at hx
    subst hx
    go_wp2
    go_ret
    exact ⟨rfl,rfl⟩
   ·rw [decide_eq_true (by omega),Bool.true_and] at hx
    have HX:=Lib.hid hx
    clear hx
    go_wp2
    go_round
    case rel=>exact ⟨rfl,k+1,y,by omega,by go_num,rfl,HX.out⟩
    case measure=>simp [intOf];omega
  ·rw [risesZ_end (by omega),← HA.out] at hx
   subst hx
   go_wp2
   go_ret
   exact ⟨rfl,rfl⟩
end Go.Proofs.YtmoomnpbiifedaaGreat
namespace Go.Proofs.YtmoomnpbiifedaaGreat
open Go Go.RowKit
set_option linter.unusedVariables false
def GaveOwn (base:Nat) (bs:List UInt8) (w:World) (e:Ending) (w':World):Prop:=∃ v,e= .returned v∧Own base w' v bs∧Below base w w'
def AddRel (base:Nat) (all:List UInt8) (n:Nat) (w:World) (v i:Value) (wr:World):Prop:=
 ∃ (cur:List UInt8) (x:Nat),i= .int .i64 (x:Int)∧x≤n∧cur.length≤all.length∧cur++putB x=all∧Buf base wr v cur∧Below base w wr
set_option maxHeartbeats 1000000 in
set_option maxRecDepth 100000 in
theorem vint_add (v:Value) (bs:List UInt8) (n:Nat) (base:Nat) (w:World) (hb:Buf base w v bs) (hbase:base≤w.heap.size) (hn:n<9223372036854775808) (hl:bs.length≤1073741824):
  Calls Tryz.prog 125 #[v,.int .i64 (n:Int)] w (GaveOwn base (bs++putB n) w):=by
 obtain ⟨i0,hi0,hz0,hz1,hz2⟩:=info_parts info_byte
 have h9:=putB_nine hn
 obtain ⟨all,hall⟩:∃ all,all=bs++putB n:=⟨_,rfl⟩
 have hal:all.length≤1073741833:=by rw [hall,List.length_append];omega
 rw [← hall]
 have HALL:=Lib.hid hall
 have HB:=Lib.hid hb
 clear hall hb
 go_enter Tryz.func125,Tryz.ntmps125
 go_wp2
 go_loopw [0,1] (fun v i wr=>AddRel base all n w v i wr) (fun _ i _=>(intOf i).toNat)
 case atStart=>exact ⟨bs,n,rfl,Nat.le_refl _,by rw [HALL.out];simp,HALL.out.symm,HB.out,Below.refl _ _⟩
 case round=>
  obtain ⟨cur,x,rfl,hx,hcl,hcat,hbuf,hbw⟩:=hrel
  have hsz:=hbw.size
  have HBUF:=Lib.hid hbuf
  have HCAT:=Lib.hid hcat
  clear hbuf hcat
  by_cases h:128≤x
  ·obtain ⟨c,hc⟩:∃ c,c=UInt8.ofNat (128+x%128):=⟨_,rfl⟩
   have hcn:Hid (c.toNat=128+x%128):=Lib.hid (by rw [hc,byte_nat (by omega)])
   have hcat2:(cur++[c])++putB (x/128)=all:=by
    rw [← HCAT.out,putB_big h,List.append_assoc,hc];rfl
   have hcl2:(cur++[c]).length≤all.length:=by rw [← hcat2,List.length_append (bs:=putB (x/128))];omega
   clear hc
   have HC2:=Lib.hid hcat2
   have HL2:=Lib.hid hcl2
   clear hcat2 hcl2
   go_wp2_with (at_builtin;refine wpList_append_buf _ rfl (.tmp 9) (.tmp 14) 86 rfl base i0 _ Tryz.underlying86 hi0 hz0 hz1 hz2 rfl _ cur rfl (HBUF.out.alloc (by omega) _) (by simp;omega) ⟨wr.heap.size,0,none⟩ 1 _ rfl (news_at wr [.int .u8 _] 5) c (by rw [hcn.out];omega) (by omega) ?_)
   intro v' w3 hown3 hb3
   go_wp2
   go_roundw
   case rel=>exact ⟨_,x/128,by go_num,by omega,HL2.out,HC2.out,hown3.buf,(hbw.alloc (by omega) _).trans hb3⟩
   case measure=>simp [intOf];omega
  ·obtain ⟨c,hc⟩:∃ c,c=UInt8.ofNat x:=⟨_,rfl⟩
   have hcn:Hid (c.toNat=x):=Lib.hid (by rw [hc,byte_nat (by omega)])
   have hcat2:cur++[c]=all:=by rw [← HCAT.out,putB_small (by omega),hc]
   clear hc
   have HC2:=Lib.hid hcat2
   clear hcat2
   go_wp2_with (at_builtin;refine wpList_append_buf _ rfl (.tmp 16) (.tmp 19) 86 rfl base i0 _ Tryz.underlying86 hi0 hz0 hz1 hz2 rfl _ cur rfl (HBUF.out.alloc (by omega) _) (by simp;omega) ⟨wr.heap.size,0,none⟩ 1 _ rfl (news_at wr [.int .u8 _] 5) c (by rw [hcn.out]) (by omega) ?_)
   intro v' w3 hown3 hb3
   go_wp2
   go_ret
   exact ⟨_,rfl,by rw [← HC2.out];exact hown3,(hbw.alloc (by omega) _).trans hb3⟩
end Go.Proofs.YtmoomnpbiifedaaGreat
namespace Go.Proofs.YtmoomnpbiifedaaGreat
open Go Go.RowKit
set_option linter.unusedVariables false
set_option maxHeartbeats 1000000 in
set_option maxRecDepth 100000 in
theorem vint_Put (A:Option Addr) (m c:Nat) (bs:List UInt8) (n:Nat) (w:World) (hm:bs.length=m) (hc:m≤c) (hr:Row w w.heap.size A (Lib.byteCells bs)) (hn:n<9223372036854775808) (hl:bs.length≤1073741824):
  Calls Tryz.prog 102 #[.slice A m c,.int .i64 (n:Int)] w (GaveOwn w.heap.size (bs++putB n) w):=by
 have HR:=Lib.hid hr
 clear hr
 subst hm
 go_enter Tryz.func102,Tryz.ntmps102
 go_wp2_with (go_at_call 125;refine (vint_add _ bs n w.heap.size _ (.inl ⟨A,?_,HR.out⟩) (Nat.le_refl _) hn hl).mono ?_)
 ·rfl
 rintro e w2 ⟨v,rfl,hown,hb⟩
 go_wp2
 go_ret
 exact ⟨_,rfl,hown,hb⟩
end Go.Proofs.YtmoomnpbiifedaaGreat
namespace Go.Proofs.YtmoomnpbiifedaaGreat
open Go Go.RowKit
set_option linter.unusedVariables false
def AddRel10 (base:Nat) (all:List UInt8) (n:Nat) (w:World) (v i:Value) (wr:World):Prop:=
 ∃ (cur:List UInt8) (x:Nat),i= .int .i64 (x:Int)∧x≤n∧cur.length≤all.length∧cur++putB x=all∧Buf base wr v cur∧Below base w wr
set_option maxHeartbeats 1000000 in
set_option maxRecDepth 100000 in
theorem vint_add_any (v:Value) (bs:List UInt8) (n:Nat) (base:Nat) (w:World) (hb:Buf base w v bs) (hbase:base≤w.heap.size) (hn:n<9223372036854775808) (hl:bs.length≤1000000000000):
  Calls Tryz.prog 125 #[v,.int .i64 (n:Int)] w (GaveOwn base (bs++putB n) w):=by
 obtain ⟨i0,hi0,hz0,hz1,hz2⟩:=info_parts info_byte
 have h9:=putB_nine hn
 obtain ⟨all,hall⟩:∃ all,all=bs++putB n:=⟨_,rfl⟩
 have hal:all.length≤1000000000009:=by rw [hall,List.length_append];omega
 rw [← hall]
 have HALL:=Lib.hid hall
 have HB:=Lib.hid hb
 clear hall hb
 go_enter Tryz.func125,Tryz.ntmps125
 go_wp2
 go_loopw [0,1] (fun v i wr=>AddRel10 base all n w v i wr) (fun _ i _=>(intOf i).toNat)
 case atStart=>exact ⟨bs,n,rfl,Nat.le_refl _,by rw [HALL.out];simp,HALL.out.symm,HB.out,Below.refl _ _⟩
 case round=>
  obtain ⟨cur,x,rfl,hx,hcl,hcat,hbuf,hbw⟩:=hrel
  have hsz:=hbw.size
  have HBUF:=Lib.hid hbuf
  have HCAT:=Lib.hid hcat
  clear hbuf hcat
  by_cases h:128≤x
  ·obtain ⟨c,hc⟩:∃ c,c=UInt8.ofNat (128+x%128):=⟨_,rfl⟩
   have hcn:Hid (c.toNat=128+x%128):=Lib.hid (by rw [hc,byte_nat (by omega)])
   have hcat2:(cur++[c])++putB (x/128)=all:=by
    rw [← HCAT.out,putB_big h,List.append_assoc,hc];rfl
   have hcl2:(cur++[c]).length≤all.length:=by rw [← hcat2,List.length_append (bs:=putB (x/128))];omega
   clear hc
   have HC2:=Lib.hid hcat2
   have HL2:=Lib.hid hcl2
   clear hcat2 hcl2
   go_wp2_with (at_builtin;refine wpList_append_buf _ rfl (.tmp 9) (.tmp 14) 86 rfl base i0 _ Tryz.underlying86 hi0 hz0 hz1 hz2 rfl _ cur rfl (HBUF.out.alloc (by omega) _) (by simp;omega) ⟨wr.heap.size,0,none⟩ 1 _ rfl (news_at wr [.int .u8 _] 5) c (by rw [hcn.out];omega) (by omega) ?_)
   intro v' w3 hown3 hb3
   go_wp2
   go_roundw
   case rel=>exact ⟨_,x/128,by go_num,by omega,HL2.out,HC2.out,hown3.buf,(hbw.alloc (by omega) _).trans hb3⟩
   case measure=>simp [intOf];omega
  ·obtain ⟨c,hc⟩:∃ c,c=UInt8.ofNat x:=⟨_,rfl⟩
   have hcn:Hid (c.toNat=x):=Lib.hid (by rw [hc,byte_nat (by omega)])
   have hcat2:cur++[c]=all:=by rw [← HCAT.out,putB_small (by omega),hc]
   clear hc
   have HC2:=Lib.hid hcat2
   clear hcat2
   go_wp2_with (at_builtin;refine wpList_append_buf _ rfl (.tmp 16) (.tmp 19) 86 rfl base i0 _ Tryz.underlying86 hi0 hz0 hz1 hz2 rfl _ cur rfl (HBUF.out.alloc (by omega) _) (by simp;omega) ⟨wr.heap.size,0,none⟩ 1 _ rfl (news_at wr [.int .u8 _] 5) c (by rw [hcn.out]) (by omega) ?_)
   intro v' w3 hown3 hb3
   go_wp2
   go_ret
   exact ⟨_,rfl,by rw [← HC2.out];exact hown3,(hbw.alloc (by omega) _).trans hb3⟩
end Go.Proofs.YtmoomnpbiifedaaGreat
namespace Go.Proofs.YtmoomnpbiifedaaGreat
open Go Go.RowKit
set_option linter.unusedVariables false
def PutRRel10 (base:Nat) (all:List UInt8) (l:List Int) (w:World) (v last i:Value) (wr:World):Prop:=
 ∃ (cur:List UInt8) (k:Nat) (x:Int),k≤l.length∧i= .int .i64 (k:Int)∧last= .int .i64 x∧ -1≤x∧risesZ x (l.drop k)=true∧cur.length≤all.length∧cur++dB x (l.drop k)=all∧Own base wr v cur∧Below base w wr
set_option maxHeartbeats 1000000 in
set_option maxRecDepth 100000 in
theorem vint_PutRising_any (A:Option Addr) (m c:Nat) (bs:List UInt8) (C:Option Addr) (n d:Nat) (l:List Int) (w:World) (hm:bs.length=m) (hc:m≤c) (hr:Row w w.heap.size A (Lib.byteCells bs)) (hl:m≤400000000000)
  (hn:l.length=n) (hn20:n≤2147483648) (hrl:Row w w.heap.size C (ints l)) (hb:∀ x∈l,x≤9223372036854775807) (hri:risesZ (-1) l=true):
  Calls Tryz.prog 101 #[.slice A m c,.slice C n d] w fun e w'=>∃ v,e= .returned (.tuple #[v,.int .i64 0])∧Own w.heap.size w' v (bs++putR l)∧Below w.heap.size w w':=by
 subst hm hn
 have hdl:=dB_length l (-1) (by omega) hri hb
 have h9:=putB_nine (n:=l.length) (by omega)
 obtain ⟨all,hall⟩:∃ all,all=bs++putR l:=⟨_,rfl⟩
 have hal:all.length≤800000000000:=by rw [hall,putR,List.length_append,List.length_append];omega
 rw [← hall]
 have HALL:=Lib.hid hall
 have HR:=Lib.hid hr
 have HRL:=Lib.hid hrl
 have HB:=Lib.hid hb
 have r1:=vint_rises_any C l.length d l w hrl rfl (by omega)
 rw [hri] at r1
 have HRI:=Lib.hid hri
 have R1:=Lib.hid r1
 clear hall hr hrl hb r1 hri hdl
 go_enter Tryz.func101,Tryz.ntmps101
 go_wp2_with (first
  |(go_at_call 124;refine R1.out.mono ?_;rintro e w' ⟨rfl,rfl⟩)
  |(go_at_call 125;refine (vint_add_any _ bs l.length w.heap.size _ (.inl ⟨A,rfl,HR.out⟩) (Nat.le_refl _) (by omega) (by omega)).mono ?_))
 rintro e w2 ⟨v,rfl,hown,hb2⟩
 have HOWN:=Lib.hid hown
 have HB2:=Lib.hid hb2
 clear hown hb2
 go_wp2
 go_loopw [0,6,23] (fun v last i wr=>PutRRel10 w.heap.size all l w v last i wr) (fun _ _ i _=>l.length-(intOf i).toNat)
 case atStart=>exact ⟨bs++putB l.length,0, -1,by omega,rfl,rfl,by omega,HRI.out,by rw [HALL.out,putR,List.length_append,List.length_append,List.length_append];omega,by rw [HALL.out,putR,List.append_assoc];rfl,HOWN.out,HB2.out⟩
 case round=>
  obtain ⟨cur,k,x,hk,rfl,rfl,hx1,hris,hcl,hcat,hown,hbw⟩:=hrel
  have hsz:=hbw.size
  have HOW:=Lib.hid hown
  clear hown
  by_cases hlt:k<l.length
  ·obtain ⟨b1,o1,e1,_,hc1⟩:=row_int' (HRL.out.below hbw) hlt
   subst e1
   rw [risesZ_drop hlt,Bool.and_eq_true,decide_eq_true_iff] at hris
   rw [dB_drop hlt,← List.append_assoc] at hcat
   have hyb:l.getD k 0≤9223372036854775807:=HB.out _ (by rw [List.getD_eq_getElem?_getD,List.getElem?_eq_getElem hlt];simp)
   obtain ⟨y,hy⟩:∃ y,y=l.getD k 0:=⟨_,rfl⟩
   rw [← hy] at hc1 hris hcat hyb
   obtain ⟨hxy,hris⟩:=hris
   obtain ⟨g,hg⟩:∃ g:Nat,y-(x+1)=(g:Int):=⟨(y-(x+1)).toNat,by omega⟩
   rw [hg,Int.toNat_natCast] at hcat
   have hcl2:(cur++putB g).length≤all.length:=by rw [← hcat,List.length_append (bs:=dB y _)];omega
   have HCAT:=Lib.hid hcat
   have HRIS:=Lib.hid hris
   have HCL:=Lib.hid hcl2
   have VA:Hid (Calls Tryz.prog 125 #[u0,.int .i64 (g:Int)] wr (GaveOwn w.heap.size (cur++putB g) wr)):=
    Lib.hid (by exact vint_add_any u0 cur g w.heap.size _ HOW.out.buf (by omega) (by omega) (by omega))
   clear hcat hris hcl2 hy
   go_wp2_with (go_at_call 125;refine VA.out.mono ?_)
   rintro e w3 ⟨v3,rfl,hown3,hb3⟩
   go_wp2
   go_roundw
   case rel=>exact ⟨_,k+1,y,by omega,by go_num,rfl,by omega,HRIS.out,HCL.out,HCAT.out,hown3,hbw.trans hb3⟩
   case measure=>simp [intOf];omega
  ·rw [dB_end (by omega),List.append_nil] at hcat
   subst hcat
   go_wp2
   go_ret2
   exact ⟨_,rfl,HOW.out,hbw⟩
end Go.Proofs.YtmoomnpbiifedaaGreat
