import Derived.Test.YtmoomnpbiifedaaGreatMAQ05
import Derived.Deep.RegionHeld3
import Derived.Deep.AppendLies
import Derived.Test.YtmoomnpbiifedaaGreatMAQ04
import Derived.Test.YtmoomnpbiifedaaGreatMAQ03
import Derived.Below
import Derived.Test.YtmoomnpbiifedaaGreatMAQ01
import Derived.Test.YtmoomnpbiifedaaGreatProg
import Derived.ArgAppend
import Derived.Lib.Hide
import Derived.Laws.BytesArg
import Derived.Test.YtmoomnpbiifedaaGreatMAQ02
namespace Go.Proofs.YtmoomnpbiifedaaGreat
open Go Go.RowKit
set_option linter.unusedVariables false
def PutGot07 (base:Nat) (l:List Nm) (w:World) (e:Ending) (w':World):Prop:=∃ v,e= .returned v∧OwnNm base w' v l∧Below w.heap.size w w'
theorem strs_one (base:Nat) (s:ByteArray):∀ u∈[Value.string s],u.oneCell'=true:=by intro u hu;simp at hu;subst hu;rfl
theorem wpList_append_nm {ops:Array Oper} {rest:List Oper} {o:Oper} {a:Act} {Q:Exit→Act→World→Prop} (w:World) (hgd:o.guard=none) (s x:Operand)
  (ho:o.op= .call {callee:= .builtin .append,args:=#[s,x],argTypes:=#[23,23]})
  (base:Nat) (v:Value) (l:List Nm) (hs:a.eval s=v) (hown:OwnNm base w v l) (A:Option Addr) (m c:Nat) (news:List Nm) (hx:a.eval x= .slice A m c) (hl:news.length=m) (hr:Row w w.heap.size A (strs news))
  (hlen:l.length+m≤1073741824) (hbase:base≤w.heap.size)
  (h:∀ v' w',OwnNm base w' v' (l++news)→Below base w w'→wpList Tryz.prog ops Q rest (a.put o.dst v') w'):wpList Tryz.prog ops Q (o::rest) a w:=by
 obtain ⟨i0,hi0,hz0,hz1,hz2⟩:=info_parts info_string
 refine wpList_append_row w hgd s x 23 ho base 9 i0 _ 1 16 Tryz.underlying23 hi0 hz0 hz1 hz2 rfl (by decide) v l.length (strs l) hs hown w.heap.size A m c (strs news) hx (by rw [strs_length];omega) hr (strs_oneCell _) (by unfold maxLen;omega) (by omega) hbase fun v' w' h1 h2=>h v' w' ?_ ?_
 ·unfold OwnNm
  rw [List.length_append,hl,strs_append]
  exact h1
 ·exact (Below.refl base w).grown h2 hbase fun k hk=>(hown.lt k hk).1
theorem row_new (w:World) (x:Nm):Row (w.alloc (.cells #[.string ⟨x.toArray⟩] 9)) (w.alloc (.cells #[.string ⟨x.toArray⟩] 9)).heap.size (some ⟨w.heap.size,0,none⟩) (strs [x]):=by
 refine .inr ⟨w.heap.size,0,rfl,by simp,fun j u hu=> ?_⟩
 have :=news_at w (strs [x]) 9 j u hu
 rw [Addr.add_lit] at this
 exact this
set_option maxHeartbeats 2000000 in
set_option maxRecDepth 100000 in
theorem ref_Put07 (base:Nat) (v:Value) (l:List Nm) (s:ByteArray) (w:World) (ho:OwnNm base w v l) (hb:base≤w.heap.size) (hl:l.length≤1048576):
    Calls Tryz.prog 81 #[v,.string s] w (PutGot07 base (putN l s.data.toList) w):=by
  obtain ⟨A,c,rfl,hnc,hrow⟩:=ho.row
  have HO:=Lib.hid ho
  have HR:=Lib.hid hrow
  obtain ⟨n,hn⟩:∃ n,n=l.length:=⟨_,rfl⟩
  have c1:=ref_Place07 A l.length c l s w hrow rfl (by omega)
  have hple:=placeN_le l s.data.toList
  have hpn:=putN_not (l:=l) (s:=s.data.toList)
  have hpi:=putN_is (l:=l) (s:=s.data.toList)
  obtain ⟨p,hp⟩:∃ p,p=placeN l s.data.toList:=⟨_,rfl⟩
  obtain ⟨z,hz⟩:∃ z,z=isN l s.data.toList:=⟨_,rfl⟩
  rw [← hp,← hz,← hn] at c1
  rw [← hp,← hz] at hpn
  rw [← hp] at hple
  rw [← hz] at hpi
  rw [← hn] at hnc
  rw [← hn]
  have hlc:c≤maxLen:=by
    rcases ho.2 with ⟨h0,_⟩|⟨g,cap,cur,hv,_,_,_,h5,_⟩
    · injection h0 with _ _ h0;omega
    · injection hv with _ _ hv;omega
  unfold maxLen at hlc
  cases z with
  |true=>
    rw [hpi rfl]
    have C1:=Lib.hid c1
    have HN:=Lib.hid hn
    clear hpn hpi hp hz c1 hn hrow ho
    go_enter Tryz.func81,Tryz.ntmps81
    go_wp2_with (go_at_call 111;refine (C1.out).mono ?_;rintro e w1 ⟨rfl,hb1⟩)
    go_ret
    refine ⟨_,rfl,?_,hb1⟩
    rw [HN.out]
    exact HO.out.below hb1
  |false=>
    obtain ⟨x,hx⟩:∃ x:Nm,x=s.data.toList:=⟨_,rfl⟩
    have hs:s=⟨x.toArray⟩:=by rw [hx]
    rw [← hx] at hpn
    rw [← hx]
    have e1:=hpn rfl
    have HE:=Lib.hid e1
    have hpl:p≤n:=by omega
    have HNL:=Lib.hid hn
    have C1:=Lib.hid c1
    clear hpn hpi hp hz c1 hn hrow e1 ho hple
    have hE:=HNL.out
    have HTL:Hid ((l.take p).length=p):=Lib.hid (by rw [List.length_take];omega)
    have HDL:Hid ((l.drop p).length=n-p):=Lib.hid (by rw [List.length_drop];omega)
    have HLE2:Hid (([]++l.take p).length+1≤1073741824):=Lib.hid (by simp;omega)
    have HLE3:Hid (([]++l.take p++[x]).length+(n-p)≤1073741824):=Lib.hid (by simp;omega)
    have hn2:n≤1048576:=by omega
    subst hs
    clear hE hx hl
    rcases HO.out.2 with ⟨h0,_⟩|⟨g,cap,cur,hv,_⟩
    · injection h0 with hA h0 hc
      subst hA hc
      have hn0:n=0:=by omega
      have hp0:p=0:=by omega
      subst hn0 hp0
      go_enter Tryz.func81,Tryz.ntmps81
      go_wp2_with (first
        |(go_at_call 111;refine (C1.out).mono ?_;rintro e w1 ⟨rfl,hb1⟩;have HB1:=Lib.hid hb1;clear hb1)
        | (at_builtin; refine wpList_append_nm _ rfl (.tmp 16) (.tmp 19) rfl w.heap.size _ [] rfl OwnNm.nil none 0 0 (l.take 0) rfl HTL.out ((show Row w w.heap.size none (strs (l.take 0)) from .inl (by simp [strs])).later HB1.out) (by simp <;> omega) HB1.out.size ?_
           intro v1 w2 ho2 hb2
           have HO2:=Lib.hid ho2
           have HB2:=Lib.hid (HB1.out.trans hb2)
           clear ho2 hb2)
        | (at_builtin; refine wpList_append_nm _ rfl (.tmp 21) (.tmp 23) rfl w.heap.size _ ([] ++ l.take 0) rfl (HO2.out.below ((Below.refl _ _).alloc (Nat.le_refl _) _)) _ 1 1 [x] rfl rfl (row_new _ x) HLE2.out (by have := HB2.out.size; simp; omega) ?_
           intro v2 w3 ho3 hb3
           have HO3:=Lib.hid ho3
           have HB3:=Lib.hid (HB2.out.trans (((Below.refl _ _).alloc (Nat.le_refl _) _).mono HB2.out.size |>.trans hb3))
           clear ho3 hb3)
        | (at_builtin; refine wpList_append_nm _ rfl (.tmp 25) (.tmp 28) rfl w.heap.size _ ([] ++ l.take 0 ++ [x]) rfl HO3.out none 0 0 (l.drop 0) rfl (by have := HDL.out; omega) ((show Row w w.heap.size none (strs (l.drop 0)) from .inl (by rw [List.eq_nil_of_length_eq_zero HNL.out.symm]; rfl)).later HB3.out) (by have := HLE3.out; omega) HB3.out.size ?_
           intro v3 w4 ho4 hb4
           have HO4:=Lib.hid ho4
           have HB4:=Lib.hid (HB3.out.trans hb4)
           clear ho4 hb4))
      go_ret
      refine ⟨_,rfl,?_,HB4.out⟩
      rw [HE.out]
      exact (by simpa using HO4.out:OwnNm w.heap.size w4 v3 _).low hb
    · injection hv with hA h0 hc
      subst hA
      clear h0 hc
      have HRT:Hid (Row w w.heap.size (some ⟨g,0,none⟩) (strs (l.take p))):=Lib.hid (by have :=HR.out.cut p;rwa [show (strs l).take p=strs (l.take p) by simp [strs,List.map_take]] at this)
      by_cases hcp:c=p
      · have HRD:Hid (Row w w.heap.size (some ⟨g,0,none⟩) (strs (l.drop p))):=Lib.hid (.inl (by rw [List.drop_of_length_le (by have :=HNL.out;omega)];rfl))
        have hcp':=hcp.symm
        clear hcp
        subst hcp'
        go_enter Tryz.func81,Tryz.ntmps81
        go_wp2_with (first
          |(go_at_call 111;refine (C1.out).mono ?_;rintro e w1 ⟨rfl,hb1⟩;have HB1:=Lib.hid hb1;clear hb1)
          | (at_builtin; refine wpList_append_nm _ rfl (.tmp 16) (.tmp 19) rfl w.heap.size _ [] rfl OwnNm.nil (some ⟨g, 0, none⟩) p _ (l.take p) rfl HTL.out ((HRT.out).later HB1.out) (by simp <;> omega) HB1.out.size ?_
             intro v1 w2 ho2 hb2
             have HO2:=Lib.hid ho2
             have HB2:=Lib.hid (HB1.out.trans hb2)
             clear ho2 hb2)
          | (at_builtin; refine wpList_append_nm _ rfl (.tmp 21) (.tmp 23) rfl w.heap.size _ ([] ++ l.take p) rfl (HO2.out.below ((Below.refl _ _).alloc (Nat.le_refl _) _)) _ 1 1 [x] rfl rfl (row_new _ x) HLE2.out (by have := HB2.out.size; simp; omega) ?_
             intro v2 w3 ho3 hb3
             have HO3:=Lib.hid ho3
             have HB3:=Lib.hid (HB2.out.trans (((Below.refl _ _).alloc (Nat.le_refl _) _).mono HB2.out.size |>.trans hb3))
             clear ho3 hb3)
          | (at_builtin; refine wpList_append_nm _ rfl (.tmp 25) (.tmp 28) rfl w.heap.size _ ([] ++ l.take p ++ [x]) rfl HO3.out _ _ _ (l.drop p) rfl (by have := HDL.out; omega) ((HRD.out).later HB3.out) (by have := HLE3.out; omega) HB3.out.size ?_
             intro v3 w4 ho4 hb4
             have HO4:=Lib.hid ho4
             have HB4:=Lib.hid (HB3.out.trans hb4)
             clear ho4 hb4))
        go_ret
        refine ⟨_,rfl,?_,HB4.out⟩
        rw [HE.out]
        exact (by simpa using HO4.out:OwnNm w.heap.size w4 v3 _).low hb
      · have HRD:Hid (Row w w.heap.size (some ⟨g,p,none⟩) (strs (l.drop p))):=Lib.hid (by have :=HR.out.dropped p;rwa [Nat.zero_add] at this)
        have hcp1:p<c:=by omega
        go_enter Tryz.func81,Tryz.ntmps81
        go_wp2_with (first
          |(go_at_call 111;refine (C1.out).mono ?_;rintro e w1 ⟨rfl,hb1⟩;have HB1:=Lib.hid hb1;clear hb1)
          | (at_builtin; refine wpList_append_nm _ rfl (.tmp 16) (.tmp 19) rfl w.heap.size _ [] rfl OwnNm.nil (some ⟨g, 0, none⟩) p _ (l.take p) rfl HTL.out ((HRT.out).later HB1.out) (by simp <;> omega) HB1.out.size ?_
             intro v1 w2 ho2 hb2
             have HO2:=Lib.hid ho2
             have HB2:=Lib.hid (HB1.out.trans hb2)
             clear ho2 hb2)
          | (at_builtin; refine wpList_append_nm _ rfl (.tmp 21) (.tmp 23) rfl w.heap.size _ ([] ++ l.take p) rfl (HO2.out.below ((Below.refl _ _).alloc (Nat.le_refl _) _)) _ 1 1 [x] rfl rfl (row_new _ x) HLE2.out (by have := HB2.out.size; simp; omega) ?_
             intro v2 w3 ho3 hb3
             have HO3:=Lib.hid ho3
             have HB3:=Lib.hid (HB2.out.trans (((Below.refl _ _).alloc (Nat.le_refl _) _).mono HB2.out.size |>.trans hb3))
             clear ho3 hb3)
          | (at_builtin; refine wpList_append_nm _ rfl (.tmp 25) (.tmp 28) rfl w.heap.size _ ([] ++ l.take p ++ [x]) rfl HO3.out _ _ _ (l.drop p) rfl (by have := HDL.out; omega) ((HRD.out).later HB3.out) (by have := HLE3.out; omega) HB3.out.size ?_
             intro v3 w4 ho4 hb4
             have HO4:=Lib.hid ho4
             have HB4:=Lib.hid (HB3.out.trans hb4)
             clear ho4 hb4))
        go_ret
        refine ⟨_,rfl,?_,HB4.out⟩
        rw [HE.out]
        exact (by simpa using HO4.out:OwnNm w.heap.size w4 v3 _).low hb
end Go.Proofs.YtmoomnpbiifedaaGreat
namespace Go.Proofs.YtmoomnpbiifedaaGreat
open Go Go.RowKit
set_option linter.unusedVariables false
theorem terms_len9 {d:List Fd} (h:GoodF d):(termsD d).length≤4000:=by
 have h1:=termsUp_length (l:=d) (M:=500) h.wordsS d.length (Nat.le_refl _)
 rw [termsUp_all] at h1
 exact Nat.le_trans h1 (Nat.le_trans (Nat.mul_le_mul_right _ h.len) (by omega))
theorem term_fits9 {d:List Fd} (h:GoodF d) {t:Tm} (ht:t∈termsD d):t.1.length≤12∧t.2.length≤4096:=by
 obtain ⟨f,hf,h1,h2⟩:=(tellD_mem t d).1 ((termsD_mem h.apart t).1 ht)
 have :=h.names f hf
 have :=h.texts f hf
 have :=words_size h2
 rw [h1]
 omega
def KeysRel09 (l:List En) (w:World) (o i:Value) (wr:World):Prop:=∃ (k:Nat) (vo:Value),vo=o∧k≤l.length∧i= .int .i64 (k:Int)∧OwnNm w.heap.size wr vo (keysE (l.take k))∧Below w.heap.size w wr
def KeysRel9 (a:List Nm) (ts:List Tm) (b:Nat) (w2:World) (o i:Value) (wi:World):Prop:=∃ (j:Nat) (vo:Value),vo=o∧j≤ts.length∧i= .int .i64 (j:Int)∧OwnNm b wi vo (keysIn a (ts.take j))∧Below w2.heap.size w2 wi
set_option maxHeartbeats 2000000 in
set_option maxRecDepth 100000 in
theorem ref09_Keys (A:Option Addr) (n c:Nat) (l:List En) (w:World) (hl:l.length=n) (hr:Nest enS w w.heap.size A l) (hg:GoodE l) (hn:n≤100):
    Calls Tryz.prog 46 #[.slice A n c] w (GaveNm (keysE l) w):=by
  have HR:=Lib.hid hr
  have HG:=Lib.hid hg
  have HL:=Lib.hid hl
  clear hr hg hl
  go_enter Tryz.func46,Tryz.ntmps46
  go_wp2
  go_loopw [3,4,5,6] (fun o i t j wr=>KeysRel09 l w o i wr) (fun _ i _ _ _=>n-(intOf i).toNat)
  case atStart=>exact ⟨0,_,rfl,Nat.zero_le _,rfl,OwnNm.nil,Below.refl _ _⟩
  case round=>
    obtain ⟨k,vo,rfl,hk,rfl,hown,hbw⟩:=hrel
    by_cases hlt:k<n
    · have hkl:k<l.length:=by rw [HL.out];exact hlt
      have hnr:=Nest.later HR.out hbw
      obtain ⟨b,off,A',c',e1,_,g1,g2,_,_,_,hfr⟩:=enS_at hnr hkl
      subst e1
      have hkt:=keysE_take hkl
      have hgk:=HG.out _ (List.getElem_mem hkl)
      have HC:=Lib.hid (good_terms (id:=l[k].1) (c:=c') hgk rfl hfr)
      have hbnd:(keysE (l.take k)).length≤400000:=by
        have h1:=keysE_length (l:=l.take k) (a:=[]) (M:=4000) fun q hq=>terms_len9 (HG.out q (List.mem_of_mem_take hq))
        rw [List.length_take] at h1
        have h2:min k l.length*4000≤100*4000:=Nat.mul_le_mul_right _ (by omega)
        have h3:(keysE (l.take k)).length≤min k l.length*4000+([]:List Nm).length:=h1
        simp only [List.length_nil] at h3
        omega
      obtain ⟨m,hm⟩:∃ m,m=l[k].2.1.length:=⟨_,rfl⟩
      obtain ⟨q,hq⟩:∃ q,q=l[k].1:=⟨_,rfl⟩
      have hfits:∀ t∈termsD l[k].2.1,t.1.length≤12∧t.2.length≤4096:=fun t ht=>term_fits9 hgk ht
      have htl:=terms_len9 hgk
      obtain ⟨ts,hts⟩:∃ ts,ts=termsD l[k].2.1:=⟨_,rfl⟩
      obtain ⟨a,ha⟩:∃ a,a=keysE (l.take k):=⟨_,rfl⟩
      rw [← hm,← hq,← hts] at HC
      rw [← hm] at g2
      rw [← hq] at g1
      rw [← ha] at hown hbnd
      rw [← ha,← hts] at hkt
      rw [← hts] at hfits htl
      have HFT:=Lib.hid hfits
      have HKT:=Lib.hid hkt
      have HOW:=Lib.hid hown
      have i0:(0:Int)≤k:=by omega
      have i1:(k:Int)<n:=by omega
      clear hnr hfr hm hts ha hq hkt hfits hown hgk
      go_wp2_with (go_at_call 80;(with_reducible refine HC.out.mono ?_);rintro e w2 ⟨v2,rfl,ho2,hb2⟩)
      obtain ⟨A2,c2,rfl,_,hr2⟩:=ho2.row
      obtain ⟨N,hN⟩:∃ N,N=ts.length:=⟨_,rfl⟩
      rw [← hN] at htl ⊢
      have HN:=Lib.hid hN
      have HR2:=Lib.hid hr2
      have HB2:=Lib.hid (hbw.trans (hb2.mono hbw.size))
      have HOW2:=Lib.hid (HOW.out.below hb2)
      clear ho2 hr2 hb2 hN
      go_wp2
      go_loopw [3,6] (fun o i wi=>KeysRel9 a ts w.heap.size w2 o i wi) (fun _ i _=>N-(intOf i).toNat)
      case atStart=>exact ⟨0,_,rfl,Nat.zero_le _,rfl,HOW2.out,Below.refl _ _⟩
      case round=>
        obtain ⟨j,vi,rfl,hj,rfl,howi,hbi⟩:=hrel
        by_cases hjt:j<N
        · have hjl:j<ts.length:=by rw [← HN.out];exact hjt
          obtain ⟨b4,o4,e4,_,hx4,hy4⟩:=(FRow.later HR2.out hbi).at_ hjl
          subst e4
          obtain ⟨x,hx,hx2⟩:=as_text ts[j].1
          obtain ⟨y,hy,hy2⟩:=as_text ts[j].2
          rw [← hx] at hx4
          rw [← hy] at hy4
          have hf:=HFT.out _ (List.getElem_mem hjl)
          have hkj:=keysIn_take (a:=a) hjl
          have hlen:=keysIn_length a (ts.take j)
          rw [List.length_take] at hlen
          have CK:=Lib.hid (fun w'=>ref_Key x y w' (by rw [hx,size_nm];omega) (by rw [hy,size_nm];omega))
          have hkey:(keyB x y).data.toList=keyT ts[j]:=by rw [keyB_list,hx2,hy2];rfl
          obtain ⟨z,hz⟩:∃ z,z=keyB x y:=⟨_,rfl⟩
          rw [← hz] at CK hkey
          have hsi:=Nat.le_trans HB2.out.size hbi.size
          have HOI:=Lib.hid howi
          have HKJ:=Lib.hid hkj
          have HKY:=Lib.hid hkey
          have j0:(0:Int)≤j:=by omega
          have j1:(j:Int)<N:=by omega
          clear hx hx2 hy hy2 hf hkj hkey hz howi
          go_wp2_with (first
            | (go_at_call 41; (with_reducible refine (CK.out _).mono ?_); rintro e w3 ⟨rfl, hb3⟩
               have HB3:=Lib.hid hb3
               have HO3:=Lib.hid (HOI.out.below hb3)
               clear hb3)
            | (go_at_call 81; (with_reducible refine (ref_Put07 w.heap.size vi (keysIn a (ts.take j)) z w3 HO3.out (Nat.le_trans hsi HB3.out.size) (by omega)).mono ?_); rintro e w4 ⟨v4, rfl, ho4, hb4⟩
               rw [HKY.out,← HKJ.out] at ho4
               have HB4:=Lib.hid (hbi.trans ((HB3.out.trans (hb4.mono HB3.out.size)).mono hbi.size))
               have HO4:=Lib.hid ho4
               clear ho4 hb4))
          exact ⟨⟨j+1,_,rfl,hjl,by go_num,HO4.out,HB4.out⟩,by simp [intOf];omega⟩
        · have hjt2:j=ts.length:=by have :=HN.out;omega
          subst hjt2
          rw [List.take_length,← HKT.out] at howi
          have HOI:=Lib.hid howi
          have HBI:=Lib.hid (HB2.out.trans (hbi.mono HB2.out.size))
          clear howi
          go_wp2
          exact ⟨⟨k+1,_,rfl,hkl,by go_num,HOI.out,HBI.out⟩,by simp [intOf];omega⟩
    · have hkn:k=l.length:=by have :=HL.out;omega
      subst hkn
      rw [List.take_length] at hown
      go_wp2
      go_ret
      exact ⟨_,rfl,hown,hbw⟩
end Go.Proofs.YtmoomnpbiifedaaGreat
set_option linter.unusedVariables false
namespace Go.Proofs.YtmoomnpbiifedaaGreat
def putB (n:Nat):List UInt8:=if n<128 then [UInt8.ofNat n] else UInt8.ofNat (128+n%128)::putB (n/128)
termination_by n
decreasing_by omega
theorem putB_small {n:Nat} (h:n<128):putB n=[UInt8.ofNat n]:=by rw [putB,if_pos h]
theorem putB_big {n:Nat} (h:128≤n):putB n=UInt8.ofNat (128+n%128)::putB (n/128):=by rw [putB,if_neg (by omega)]
theorem byte_nat {n:Nat} (h:n<256):(UInt8.ofNat n).toNat=n:=by simp;omega
theorem putB_pos (n:Nat):0<(putB n).length:=by
 by_cases h:n<128
 ·rw [putB_small h];simp
 ·rw [putB_big (by omega)];simp
theorem putB_le {k:Nat}:∀ {n:Nat},n<128^(k+1)→(putB n).length≤k+1:=by
 induction k with
 |zero=>intro n h;rw [putB_small (by simpa using h)];simp
 |succ k ih=>
  intro n h
  by_cases h1:n<128
  ·rw [putB_small h1];simp
  ·rw [putB_big (by omega),List.length_cons]
   have :=ih (n:=n/128) (by rw [Nat.pow_succ] at h;exact Nat.div_lt_of_lt_mul (by rw [Nat.mul_comm];exact h))
   omega
theorem putB_nine {n:Nat} (h:n<9223372036854775808):(putB n).length≤9:=putB_le (k:=8) (by simpa using h)
theorem putB_mono:∀ {n m:Nat},n≤m→(putB n).length≤(putB m).length:=by
 intro n
 induction n using Nat.strongRecOn with
 |_ n ih=>
  intro m h
  by_cases h1:n<128
  ·rw [putB_small h1]
   exact putB_pos m
  ·rw [putB_big (by omega),putB_big (n:=m) (by omega),List.length_cons,List.length_cons]
   exact Nat.succ_le_succ (ih (n/128) (by omega) (Nat.div_le_div_right h))
def valB:List UInt8→Nat
 |[]=>0
 |c::r=>c.toNat%128+128*valB r
theorem valB_lt:∀ l:List UInt8,valB l<128^l.length
 |[]=>by simp [valB]
 |c::r=>by
  have :=valB_lt r
  rw [valB,List.length_cons,Nat.pow_succ]
  omega
theorem valB_snoc:∀ (l:List UInt8) (c:UInt8),valB (l++[c])=valB l+c.toNat%128*128^l.length
 |[],c=>by simp [valB]
 |d::r,c=>by
  rw [List.cons_append,valB,valB,valB_snoc r c,List.length_cons,Nat.pow_succ,Nat.mul_add]
  have :128*(c.toNat%128*128^r.length)=c.toNat%128*(128^r.length*128):=by
   rw [Nat.mul_comm 128,Nat.mul_assoc]
  omega
theorem valB_take {l:List UInt8} {i:Nat} (h:i<l.length):valB (l.take (i+1))=valB (l.take i)+(l.getD i 0).toNat%128*128^i:=by
 rw [List.take_succ_eq_append_getElem h,valB_snoc,List.length_take,Nat.min_eq_left (by omega),List.getD_eq_getElem?_getD,List.getElem?_eq_getElem h]
 rfl
theorem valB_take_lt (l:List UInt8) (i:Nat):valB (l.take i)<128^i:=by
 have h:=valB_lt (l.take i)
 have h2:(l.take i).length≤i:=List.length_take_le i l
 exact Nat.lt_of_lt_of_le h (Nat.pow_le_pow_right (by omega) h2)
def scan:Nat→List UInt8→Option Nat
 |0,_=>none
 |_+1,[]=>none
 |f+1,c::r=>if c.toNat<128 then some 0 else (scan f r).map (· +1)
def getF (l:List UInt8):Nat × Nat:=
 match scan 9 l with
 |none=>(0,0)
 |some k=>if k≠0∧(l.getD k 0).toNat=0 then (0,0) else (valB (l.take (k+1)),k+1)
theorem scan_none:∀ {f:Nat} {l:List UInt8},(∀ j,j<f→j<l.length→128≤(l.getD j 0).toNat)→scan f l=none
 |0,_,_=>rfl
 |f+1,[],_=>rfl
 |f+1,c::r,h=>by
  have h0:128≤c.toNat:=h 0 (by omega) (by simp)
  have ih:=scan_none (f:=f) (l:=r) fun j hj hr=>h (j+1) (by omega) (by simp;omega)
  simp only [scan,ih]
  rw [if_neg (by omega)]
  rfl
theorem scan_some:∀ {f:Nat} {l:List UInt8} {i:Nat},i<f→i<l.length→(∀ j,j<i→128≤(l.getD j 0).toNat)→(l.getD i 0).toNat<128→scan f l=some i
 |0,_,_,h,_,_,_=>by omega
 |f+1,[],_,_,h,_,_=>by simp at h
 |f+1,c::r,0,_,_,_,h=>by
  have h0:c.toNat<128:=h
  simp [scan,h0]
 |f+1,c::r,i+1,hf,hl,hb,h=>by
  have h0:128≤c.toNat:=hb 0 (by omega)
  have ih:=scan_some (f:=f) (l:=r) (i:=i) (by omega) (by simpa using hl) (fun j hj=>hb (j+1) (by omega)) h
  simp only [scan,ih]
  rw [if_neg (by omega)]
  rfl
def High (l:List UInt8) (i:Nat):Prop:=∀ j,j<i→128≤(l.getD j 0).toNat
theorem High.zero (l:List UInt8):High l 0:=fun j h=>by omega
theorem High.succ {l:List UInt8} {i:Nat} (h:High l i) (hc:128≤(l.getD i 0).toNat):High l (i+1):=fun j hj=>by
 by_cases e:j=i
 ·rw [e];exact hc
 ·exact h j (by omega)
theorem getF_none {l:List UInt8} {i:Nat} (h:High l i) (hi:9≤i∨l.length≤i):getF l=(0,0):=by
 unfold getF
 rw [scan_none fun j h1 h2=>h j (by omega)]
theorem getF_zero {l:List UInt8} {i:Nat} (h:High l i) (hi:i<9) (hl:i<l.length) (h0:0<i) (hc:(l.getD i 0).toNat=0):getF l=(0,0):=by
 unfold getF
 rw [scan_some hi hl h (by omega)]
 simp only
 rw [if_pos ⟨by omega,hc⟩]
theorem getF_some {l:List UInt8} {i:Nat} (h:High l i) (hi:i<9) (hl:i<l.length) (hc:(l.getD i 0).toNat<128) (h0:i=0∨(l.getD i 0).toNat≠0):getF l=(valB (l.take (i+1)),i+1):=by
 unfold getF
 rw [scan_some hi hl h hc]
 simp only
 rw [if_neg (by omega)]
theorem getF_cases (l:List UInt8):getF l=(0,0)∨∃ i,i<9∧i<l.length∧getF l=(valB (l.take (i+1)),i+1):=by
 unfold getF
 have key:∀ (f:Nat) (l:List UInt8) (k:Nat),scan f l=some k→k<f∧k<l.length:=by
  intro f
  induction f with
  |zero=>intro l k h;cases h
  |succ f ih=>
   intro l k h
   cases l with
   |nil=>cases h
   |cons c r=>
    rw [scan] at h
    split at h
    ·simp at h;subst h;simp
    ·rw [Option.map_eq_some_iff] at h
     obtain ⟨j,hj,rfl⟩:=h
     have :=ih r j hj
     simp;omega
 rcases hs:scan 9 l with _|k
 ·exact .inl rfl
 ·have :=key 9 l k hs
  simp only
  split
  ·exact .inl rfl
  ·exact .inr ⟨k,this.1,this.2,rfl⟩
theorem getF_bd (l:List UInt8):(getF l).1<9223372036854775808∧(getF l).2≤l.length∧(getF l).2≤9:=by
 rcases getF_cases l with h|⟨i,h1,h2,h⟩
 ·rw [h];simp
 ·rw [h]
  have :=valB_take_lt l (i+1)
  have h3:(128:Nat)^(i+1)≤128^9:=Nat.pow_le_pow_right (by omega) (by omega)
  have h4:(128:Nat)^9=9223372036854775808:=by decide
  refine ⟨?_,?_,?_⟩<;>simp only<;>omega
theorem pow_bd {i:Nat} (h:i<9):(128:Nat)^i≤72057594037927936:=by
 have h3:(128:Nat)^i≤128^8:=Nat.pow_le_pow_right (by omega) (by omega)
 have h4:(128:Nat)^8=72057594037927936:=by decide
 omega
theorem putB_high:∀ (n:Nat) (j:Nat),j+1<(putB n).length→128≤((putB n).getD j 0).toNat:=by
 intro n
 induction n using Nat.strongRecOn with
 |_ n ih=>
  intro j hj
  by_cases h1:n<128
  ·rw [putB_small h1] at hj;simp at hj
  ·rw [putB_big (by omega)] at hj ⊢
   cases j with
   |zero=>rw [List.getD_cons_zero,byte_nat (by omega)];omega
   |succ j=>simpa using ih (n/128) (by omega) j (by simpa using hj)
theorem putB_last:∀ (n:Nat),((putB n).getD ((putB n).length-1) 0).toNat<128∧(0<n→((putB n).getD ((putB n).length-1) 0).toNat≠0):=by
 intro n
 induction n using Nat.strongRecOn with
 |_ n ih=>
  by_cases h1:n<128
  ·rw [putB_small h1]
   have :=byte_nat (n:=n) (by omega)
   simp only [List.length_singleton,List.getD_cons_zero,Nat.sub_self]
   omega
  ·rw [putB_big (by omega)]
   have hp:=putB_pos (n/128)
   have :=ih (n/128) (by omega)
   rw [List.length_cons,show (putB (n/128)).length+1-1=((putB (n/128)).length-1)+1 by omega,List.getD_cons_succ]
   exact ⟨this.1,fun _=>this.2 (by omega)⟩
theorem putB_long {n:Nat} (h:1<(putB n).length):0<n:=by
 rcases Nat.eq_zero_or_pos n with h0|h0
 ·subst h0
  rw [putB_small (by omega)] at h
  simp at h
 ·exact h0
theorem valB_putB:∀ n:Nat,valB (putB n)=n:=by
 intro n
 induction n using Nat.strongRecOn with
 |_ n ih=>
  by_cases h1:n<128
  ·rw [putB_small h1,valB,valB,byte_nat (by omega)];omega
  ·rw [putB_big (by omega),valB,ih (n/128) (by omega),byte_nat (by omega)];omega
theorem getD_app {a b:List UInt8} {j:Nat} (h:j<a.length):(a++b).getD j 0=a.getD j 0:=by
 rw [List.getD_eq_getElem?_getD,List.getD_eq_getElem?_getD,List.getElem?_append_left h]
theorem getF_putB {n:Nat} (h:n<9223372036854775808) (r:List UInt8):getF (putB n++r)=(n,(putB n).length):=by
 have hp:=putB_pos n
 have h9:=putB_nine h
 have hl:=putB_last n
 rw [getF_some (i:=(putB n).length-1) ?_ (by omega) (by simp;omega) ?_ ?_,show (putB n).length-1+1=(putB n).length by omega,List.take_left,valB_putB]
 ·intro j hj
  rw [getD_app (by omega)]
  exact putB_high n j (by omega)
 ·rw [getD_app (by omega)]
  exact hl.1
 ·by_cases h1:(putB n).length=1
  ·exact .inl (by omega)
  ·refine .inr ?_
   rw [getD_app (by omega)]
   exact hl.2 (putB_long (by omega))
theorem putB_valB:∀ {k:Nat} {l:List UInt8},l.length=k+1→High l k→(l.getD k 0).toNat<128→(k=0∨(l.getD k 0).toNat≠0)→putB (valB l)=l∧((l.getD k 0).toNat≠0→0<valB l)
 |0,[c],_,_,h,_=>by
  have hc:c.toNat<128:=by simpa using h
  have hv:valB [c]=c.toNat:=by simp only [valB];omega
  refine ⟨?_,fun h0=> ?_⟩
  ·rw [hv,putB_small hc]
   congr 1
   exact UInt8.toNat_inj.1 (by rw [byte_nat (by omega)])
  ·rw [hv]
   have :c.toNat≠0:=by simpa using h0
   omega
 |k+1,c::r,hl,hh,h,h0=>by
  have hc0:128≤c.toNat:=hh 0 (by omega)
  have hc1:=c.toNat_lt
  have h0':(r.getD k 0).toNat≠0:=by
   rcases h0 with h0|h0
   ·omega
   ·simpa using h0
  have ih:=putB_valB (k:=k) (l:=r) (by simpa using hl) (fun j hj=>by simpa using hh (j+1) (by omega)) (by simpa using h) (.inr h0')
  have hv:valB (c::r)=c.toNat-128+128*valB r:=by simp only [valB];omega
  have hpos:=ih.2 h0'
  refine ⟨?_,fun _=>by rw [hv];omega⟩
  rw [hv,putB_big (by omega),show (c.toNat-128+128*valB r)/128=valB r by omega,ih.1]
  congr 1
  exact UInt8.toNat_inj.1 (by rw [byte_nat (by omega)];omega)
def getZ (l:List UInt8) (a:Int):Int × Int × Int:=
 if a<0∨(l.length:Int)<a then (0,0,1)
 else if (getF (l.drop a.toNat)).2=0 then (0,0,2) else (((getF (l.drop a.toNat)).1:Int),a+((getF (l.drop a.toNat)).2:Int),0)
theorem getZ_out {l:List UInt8} {a:Int} (h:a<0∨(l.length:Int)<a):getZ l a=(0,0,1):=by unfold getZ;rw [if_pos h]
theorem getZ_form {l:List UInt8} {a:Nat} (h:a≤l.length) (h2:(getF (l.drop a)).2=0):getZ l (a:Int)=(0,0,2):=by
 unfold getZ
 rw [if_neg (by omega),Int.toNat_natCast,if_pos h2]
theorem getZ_ok {l:List UInt8} {a n k:Nat} (h:a≤l.length) (h2:getF (l.drop a)=(n,k+1)):getZ l (a:Int)=((n:Int),(a:Int)+((k+1:Nat):Int),0):=by
 unfold getZ
 rw [if_neg (by omega),Int.toNat_natCast,h2]
 simp
theorem getZ_put {n:Nat} (h:n<9223372036854775808) (b r:List UInt8):getZ (b++(putB n++r)) (b.length:Int)=((n:Int),((b.length+(putB n).length:Nat):Int),0):=by
 have hp:=putB_pos n
 obtain ⟨k,hk⟩:∃ k,(putB n).length=k+1:=⟨(putB n).length-1,by omega⟩
 rw [getZ_ok (n:=n) (k:=k) (by simp) (by rw [List.drop_left,getF_putB h,hk]),hk]
 simp
def risesZ:Int→List Int→Bool
 |_,[]=>true
 |last,n::r=>decide (last<n)&&risesZ n r
def dB:Int→List Int→List UInt8
 |_,[]=>[]
 |last,n::r=>putB (n-(last+1)).toNat++dB n r
def putR (l:List Int):List UInt8:=putB l.length++dB (-1) l
theorem dB_length:∀ (l:List Int) (last:Int), -1≤last→risesZ last l=true→(∀ x∈l,x≤9223372036854775807)→(dB last l).length≤9*l.length
 |[],_,_,_,_=>by simp [dB]
 |n::r,last,h,hr,hb=>by
  rw [risesZ,Bool.and_eq_true,decide_eq_true_iff] at hr
  have hn:=hb n (by simp)
  rw [dB,List.length_append,List.length_cons]
  have h1:=putB_nine (n:=(n-(last+1)).toNat) (by omega)
  have h2:=dB_length r n (by omega) hr.2 fun x hx=>hb x (by simp [hx])
  omega
def takeR (l:List UInt8):Nat→Int→Nat→List Int→Option (List Int × Nat)
 |0,_,a,acc=>some (acc,a)
 |m+1,last,a,acc=>
  if (getF (l.drop a)).2=0∨4611686018427387904-(last+1)<((getF (l.drop a)).1:Int) then none
  else takeR l m (last+(((getF (l.drop a)).1:Int)+1)) (a+(getF (l.drop a)).2) (acc++[last+(((getF (l.drop a)).1:Int)+1)])
def risZ (l:List UInt8) (a:Int):List Int × Int × Int:=
 if (getZ l a).2.2=0 then
  match takeR l (getZ l a).1.toNat (-1) (getZ l a).2.1.toNat [] with
  |none=>([],0,2)
  |some (xs,b)=>(xs,(b:Int),0)
 else ([],0,(getZ l a).2.2)
theorem takeR_dB:∀ (g:List Int) (last:Int) (pre post:List UInt8) (acc:List Int), -1≤last→risesZ last g=true→(∀ x∈g,x≤4611686018427387904)→
  takeR (pre++(dB last g++post)) g.length last pre.length acc=some (acc++g,pre.length+(dB last g).length)
 |[],last,pre,post,acc,_,_,_=>by simp [takeR,dB]
 |n::r,last,pre,post,acc,h,hr,hb=>by
  rw [risesZ,Bool.and_eq_true,decide_eq_true_iff] at hr
  have hn:=hb n (by simp)
  have e:pre++(dB last (n::r)++post)=pre++(putB (n-(last+1)).toNat++(dB n r++post)):=by rw [dB,List.append_assoc]
  have hg:getF ((pre++(dB last (n::r)++post)).drop pre.length)=((n-(last+1)).toNat,(putB (n-(last+1)).toNat).length):=by
   rw [e,List.drop_left,getF_putB (by omega)]
  have hp:=putB_pos (n-(last+1)).toNat
  rw [List.length_cons,takeR,hg]
  simp only
  rw [if_neg (by omega),show last+(((n-(last+1)).toNat:Int)+1)=n by omega,e]
  have e2:pre++(putB (n-(last+1)).toNat++(dB n r++post))=(pre++putB (n-(last+1)).toNat)++(dB n r++post):=by rw [List.append_assoc]
  have ih:=takeR_dB r n (pre++putB (n-(last+1)).toNat) post (acc++[n]) (by omega) hr.2 (fun x hx=>hb x (by simp [hx]))
  rw [e2,← List.length_append,ih,dB]
  simp [Nat.add_assoc]
theorem risZ_put {g:List Int} (hr:risesZ (-1) g=true) (hb:∀ x∈g,x≤4611686018427387904) (hl:g.length<9223372036854775808) (b r:List UInt8):
  risZ (b++(putR g++r)) (b.length:Int)=(g,((b.length+(putR g).length:Nat):Int),0):=by
 have hz:=getZ_put hl b (dB (-1) g++r)
 have e:b++(putR g++r)=b++(putB g.length++(dB (-1) g++r)):=by rw [putR,List.append_assoc]
 have e2:b++(putB g.length++(dB (-1) g++r))=(b++putB g.length)++(dB (-1) g++r):=by rw [List.append_assoc]
 have ht:=takeR_dB g (-1) (b++putB g.length) r [] (by omega) hr hb
 unfold risZ
 rw [e,hz]
 simp only [if_true,Int.toNat_natCast]
 rw [e2,← List.length_append,ht]
 simp [putR,Nat.add_assoc]
end Go.Proofs.YtmoomnpbiifedaaGreat
set_option linter.unusedVariables false
namespace Go.Proofs.YtmoomnpbiifedaaGreat
abbrev Po:=Int × List Int
def placesB (ps:List Int):Bool:=risesZ (-1) ps&&(!ps.isEmpty)&&decide (ps.getLastD 0<2147483648)
def mayB':Int→List Po→Bool
 |_,[]=>true
 |last,p::r=>decide (last<p.1)&&decide (p.1<2147483648)&&placesB p.2&&mayB' p.1 r
theorem placesB_iff {ps:List Int}:placesB ps=true↔risesZ (-1) ps=true∧ps≠[]∧ps.getLastD 0<2147483648:=by
 simp [placesB,and_assoc]
theorem mayB'_cons {last:Int} {p:Po} {r:List Po}:mayB' last (p::r)=true↔last<p.1∧p.1<2147483648∧placesB p.2=true∧mayB' p.1 r=true:=by
 simp [mayB',and_assoc]
theorem rises_le_last:∀ {ps:List Int} {x:Int},risesZ x ps=true→∀ y∈ps,x<y∧y≤ps.getLastD 0
 |[],_,_=>by simp
 |n::r,x,h=>by
  rw [risesZ,Bool.and_eq_true,decide_eq_true_iff] at h
  have ih:=rises_le_last h.2
  intro y hy
  rcases List.mem_cons.1 hy with rfl|hy
  ·refine ⟨h.1,?_⟩
   cases r with
   |nil=>simp
   |cons m r'=>
    have :=ih m (by simp)
    have e:(y::m::r').getLastD 0=(m::r').getLastD 0:=by simp [List.getLastD]
    rw [e]
    omega
  ·have :=ih y hy
   refine ⟨by omega,?_⟩
   cases r with
   |nil=>cases hy
   |cons m r'=>
    have e:(n::m::r').getLastD 0=(m::r').getLastD 0:=by simp [List.getLastD]
    rw [e]
    exact this.2
theorem lastD_mem:∀ {l:List Int},l≠[]→l.getLastD 0∈l
 |[],h=>absurd rfl h
 |[a],_=>by simp
 |a::b::r,_=>by
  have e:(a::b::r).getLastD 0=(b::r).getLastD 0:=by simp [List.getLastD]
  rw [e]
  exact List.mem_cons_of_mem _ (lastD_mem (l:=b::r) (by simp))
theorem places_bd {ps:List Int} (h:placesB ps=true):∀ y∈ps,0≤y∧y<2147483648:=by
 obtain ⟨h1,_,h3⟩:=placesB_iff.1 h
 intro y hy
 have :=rises_le_last h1 y hy
 omega
def bytesP:Int→List Po→List UInt8
 |_,[]=>[]
 |last,p::r=>putB (p.1-(last+1)).toNat++(putR p.2++bytesP p.1 r)
def docOf:Int→List Po→Int
 |last,[]=>last
 |_,p::r=>docOf p.1 r
theorem bytesP_append:∀ (a b:List Po) (last:Int),bytesP last (a++b)=bytesP last a++bytesP (docOf last a) b
 |[],b,last=>rfl
 |p::r,b,last=>by simp [bytesP,docOf,bytesP_append r b p.1,List.append_assoc]
theorem docOf_append:∀ (a b:List Po) (last:Int),docOf last (a++b)=docOf (docOf last a) b
 |[],_,_=>rfl
 |p::r,b,_=>by simp [docOf,docOf_append r b p.1]
theorem mayB'_append:∀ (a b:List Po) (last:Int),mayB' last (a++b)=(mayB' last a&&mayB' (docOf last a) b)
 |[],b,last=>by simp [mayB',docOf]
 |p::r,b,last=>by simp [mayB',docOf,mayB'_append r b p.1,Bool.and_assoc]
theorem docOf_ge:∀ (l:List Po) (last:Int),mayB' last l=true→last≤docOf last l
 |[],_,_=>Int.le_refl _
 |p::r,last,h=>by
  have :=mayB'_cons.1 h
  have ih:=docOf_ge r p.1 this.2.2.2
  rw [docOf];omega
theorem docOf_lt:∀ (l:List Po) (last:Int),mayB' last l=true→last<2147483648→docOf last l<2147483648
 |[],_,_,h=>h
 |p::r,last,h,_=>by
  have :=mayB'_cons.1 h
  exact docOf_lt r p.1 this.2.2.2 this.2.1
def totalP:List Po→Nat
 |[]=>0
 |p::r=>p.2.length+totalP r
theorem putR_length {ps:List Int} (h:placesB ps=true) (hl:ps.length<9223372036854775808):(putR ps).length≤9+9*ps.length:=by
 have hb:=places_bd h
 have h1:=dB_length ps (-1) (by omega) (placesB_iff.1 h).1 fun x hx=>by have :=hb x hx;omega
 have h2:=putB_nine hl
 rw [putR,List.length_append]
 omega
theorem bytesP_length:∀ (l:List Po) (last:Int), -1≤last→mayB' last l=true→(∀ p∈l,p.2.length<9223372036854775808)→(bytesP last l).length≤18*l.length+9*totalP l
 |[],_,_,_,_=>by simp [bytesP]
 |p::r,last,h0,h,hl=>by
  obtain ⟨h1,h2,h3,h4⟩:=mayB'_cons.1 h
  have ih:=bytesP_length r p.1 (by omega) h4 fun q hq=>hl q (by simp [hq])
  have e1:=putB_nine (n:=(p.1-(last+1)).toNat) (by omega)
  have e2:=putR_length h3 (hl p (by simp))
  rw [bytesP,List.length_append,List.length_append,List.length_cons,totalP]
  omega
theorem get_posting {pre post:List UInt8} {last d:Int} {ps:List Int} {r:List Po} (h0: -1≤last) (hd:last<d) (hd2:d<2147483648) (hp:placesB ps=true) (hl:ps.length<9223372036854775808):
  getZ (pre++(bytesP last ((d,ps)::r)++post)) (pre.length:Int)=(d-(last+1),((pre.length+(putB (d-(last+1)).toNat).length:Nat):Int),0)∧
  risZ (pre++(bytesP last ((d,ps)::r)++post)) ((pre.length+(putB (d-(last+1)).toNat).length:Nat):Int)=(ps,((pre.length+((putB (d-(last+1)).toNat).length+(putR ps).length):Nat):Int),0):=by
 have hb:=places_bd hp
 have e1:pre++(bytesP last ((d,ps)::r)++post)=pre++(putB (d-(last+1)).toNat++(putR ps++(bytesP d r++post))):=by simp [bytesP,List.append_assoc]
 have e2:pre++(bytesP last ((d,ps)::r)++post)=(pre++putB (d-(last+1)).toNat)++(putR ps++(bytesP d r++post)):=by simp [bytesP,List.append_assoc]
 refine ⟨?_,?_⟩
 ·rw [e1,getZ_put (by omega)]
  simp only [Prod.mk.injEq,and_true]
  omega
 ·have :=risZ_put (g:=ps) (placesB_iff.1 hp).1 (fun x hx=>by have :=hb x hx;omega) hl (pre++putB (d-(last+1)).toNat) (bytesP d r++post)
  rw [List.length_append] at this
  rw [e2,this]
  simp [Nat.add_assoc]
def blocksP (n:Nat):Nat:=(n+7)/8
def blockP (l:List Po) (k:Int):List Po:=if k<0 then [] else (l.drop (8*k.toNat)).take 8
def lastP (l:List Po) (k:Int):Int:=docOf (-1) (blockP l k)
theorem blockP_neg {l:List Po} {k:Int} (h:k<0):blockP l k=[]:=by unfold blockP;rw [if_pos h]
theorem blockP_nat {l:List Po} (k:Nat):blockP l (k:Int)=(l.drop (8*k)).take 8:=by unfold blockP;rw [if_neg (by omega),Int.toNat_natCast]
theorem blockP_out {l:List Po} {k:Nat} (h:blocksP l.length≤k):blockP l (k:Int)=[]:=by
 rw [blockP_nat,List.drop_eq_nil_of_le (by unfold blocksP at h;omega)]
 rfl
theorem blockP_length {l:List Po} (k:Nat):(blockP l (k:Int)).length=min 8 (l.length-8*k):=by rw [blockP_nat,List.length_take,List.length_drop]
theorem blockP_some {l:List Po} {k:Nat} (h:k<blocksP l.length):0<(blockP l (k:Int)).length:=by
 rw [blockP_length]
 unfold blocksP at h
 omega
theorem blocks_all (l:List Po) (k:Nat):l.take (8*(k+1))=l.take (8*k)++blockP l (k:Int):=by
 rw [blockP_nat,Nat.mul_add,Nat.mul_one,List.take_add]
end Go.Proofs.YtmoomnpbiifedaaGreat
set_option linter.unusedVariables false
namespace Go.Proofs.YtmoomnpbiifedaaGreat
open Go Go.RowKit
theorem info_byte:(Tryz.prog.info? 5).map (fun i=>(i.zero,i.size,i.bytes))=some (some (.int .u8 0),1,1):=by kernel_rfl
theorem row_byte {w:World} {B:Nat} {A:Option Addr} {xs:List UInt8} (h:Row w B A (Lib.byteCells xs)) {k:Nat} (hk:k<xs.length):
  ∃ b off,A=some ⟨b,off,none⟩∧b<B∧w.cell? ⟨b,off+k,none⟩=some (.int .u8 ((xs.getD k 0).toNat:Int)):=by
 obtain ⟨b,off,rfl,hb,hc⟩:=h.at_ (by rw [Lib.byteCells_length];omega)
 refine ⟨b,off,rfl,hb,hc k _ ?_⟩
 simp [Lib.byteCells,hk]
theorem byteCells_oneCell (l:List UInt8):∀ u∈Lib.byteCells l,u.oneCell'=true:=by
 intro u hu
 obtain ⟨b,_,rfl⟩:=List.mem_map.1 hu
 rfl
theorem ints_oneCell' (l:List Int):∀ u∈ints l,u.oneCell'=true:=by
 intro u hu
 obtain ⟨b,_,rfl⟩:=List.mem_map.1 hu
 rfl
def Buf (base:Nat) (w:World) (v:Value) (bs:List UInt8):Prop:=
 (∃ A,v= .slice A bs.length bs.length∧Row w base A (Lib.byteCells bs))∨w.ownsRow base 5 1 v bs.length (Lib.byteCells bs)
def Own (base:Nat) (w:World) (v:Value) (bs:List UInt8):Prop:=w.ownsRow base 5 1 v bs.length (Lib.byteCells bs)
theorem Own.buf {base:Nat} {w:World} {v:Value} {bs:List UInt8} (h:Own base w v bs):Buf base w v bs:= .inr h
theorem Own.below {base:Nat} {w w':World} {v:Value} {bs:List UInt8} (h:Own base w v bs) (hb:Below w.heap.size w w'):Own base w' v bs:=owned_below h hb
theorem Own.row {base:Nat} {w:World} {v:Value} {bs:List UInt8} (h:Own base w v bs):∃ A c,v= .slice A bs.length c∧bs.length≤c∧Row w w.heap.size A (Lib.byteCells bs):=owned_row h
theorem Buf.alloc {base:Nat} {w:World} {v:Value} {bs:List UInt8} (h:Buf base w v bs) (hb:base≤w.heap.size) (o:Obj):Buf base (w.alloc o) v bs:=by
 rcases h with ⟨A,rfl,hr⟩|hown
 ·exact .inl ⟨A,rfl,hr.below ((Below.refl _ _).alloc hb o)⟩
 ·exact .inr (hown.alloc o)
section
variable {P:Program} (w:World)
theorem wpList_append_buf {ops:Array Oper} {rest:List Oper} {o:Oper} {a:Act} {Q:Exit→Act→World→Prop} (hgd:o.guard=none) (s x:Operand) (t:TypeId)
  (ho:o.op= .call {callee:= .builtin .append,args:=#[s,x],argTypes:=#[t,t]})
  (base:Nat) (i:TypeInfo) (z:Value) (ht:P.underlying t=some (.slice 5)) (hi:P.info? 5=some i) (hz:i.zero=some z)
  (hsize:i.size=1) (hby:i.bytes=1) (hzs:z.cells.size=1)
  (v:Value) (bs:List UInt8) (hs:a.eval s=v) (hb:Buf base w v bs) (hbase:base≤w.heap.size)
  (ad:Addr) (c:Nat) (y:Int) (hx:a.eval x= .slice (some ad) 1 c) (hnews:∀ j u,[Value.int .u8 y][j]?=some u→w.cell? (ad.add j)=some u)
  (u:UInt8) (hy:y=(u.toNat:Int)) (hl:bs.length≤1099511627776)
  (h:∀ v' w',Own base w' v' (bs++[u])→Below base w w'→wpList P ops Q rest (a.put o.dst v') w'):wpList P ops Q (o::rest) a w:=by
 have hcells:Lib.byteCells bs++[Value.int .u8 y]=Lib.byteCells (bs++[u]):=by rw [hy,Lib.byteCells_append];rfl
 have hlen:bs.length+1=(bs++[u]).length:=by simp
 have h1:∀ q∈[Value.int .u8 y],q.oneCell'=true:=by intro q hq;simp at hq;subst hq;rfl
 rcases hb with ⟨A,rfl,hr⟩|hown
 ·refine wpList_append_grows w hgd s x t ho 5 i z 1 1 ht hi hz hsize hby hzs (by omega) A bs.length bs.length (Lib.byteCells bs) hs ?_ (by rw [Lib.byteCells_length];omega) ?_ ad 1 c _ hx rfl hnews h1 (by omega) (by unfold maxLen;omega) (by omega) ?_
  ·rintro rfl
   rcases hr with h0|⟨b,off,h0,_⟩
   ·have :=congrArg List.length h0
    rw [Lib.byteCells_length] at this
    simp at this
    simp [this]
   ·cases h0
  ·rintro b rfl j q hq
   rcases hr with h0|⟨b',off,h0,_,hc⟩
   ·rw [h0] at hq;simp at hq
   ·injection h0 with h0
    subst h0
    rw [Addr.add_lit]
    exact hc j q hq
  ·intro v' w' hown hg
   rw [hcells,hlen] at hown
   exact h v' w' (owned_low hown hbase) ((Below.refl _ w).grown hg hbase fun k hk=>by cases hk)
 ·refine wpList_append_own w hgd s x t ho base 5 i z 1 1 ht hi hz hsize hby hzs (by omega) v bs.length (Lib.byteCells bs) hs hown ad 1 c _ hx rfl hnews h1 (by unfold maxLen;omega) (by omega) hbase ?_
  intro v' w' hown' hg _
  rw [hcells,hlen] at hown'
  exact h v' w' hown' ((Below.refl _ w).grown hg hbase fun k hk=>(hown.lt k hk).1)
end
end Go.Proofs.YtmoomnpbiifedaaGreat
set_option linter.unusedVariables false
namespace Go.Proofs.YtmoomnpbiifedaaGreat
open Go Go.RowKit
def PoCells (R:Option Addr→List Value→Prop):List Po→List Value→Prop
 |[],cs=>cs=[]
 |q::r,cs=>∃ A c cs',cs= .int .i64 q.1:: .slice A q.2.length c::cs'∧q.2.length≤c∧c≤maxLen∧R A (ints q.2)∧PoCells R r cs'
section
variable {R R':Option Addr→List Value→Prop}
theorem PoCells.len:∀ {l:List Po} {cs:List Value},PoCells R l cs→cs.length=l.length*2
 |[],cs,h=>by simp only [PoCells] at h;subst h;rfl
 |q::r,cs,h=>by
  obtain ⟨A,c,cs',rfl,_,_,_,h'⟩:=h
  have :=PoCells.len h'
  simp only [List.length_cons,this]
  omega
theorem PoCells.imp:∀ {l:List Po} {cs:List Value},PoCells R l cs→(∀ A xs,R A xs→R' A xs)→PoCells R' l cs
 |[],cs,h,_=>h
 |q::r,cs,h,hi=>by
  obtain ⟨A,c,cs',rfl,h1,h2,h3,h'⟩:=h
  exact ⟨A,c,cs',rfl,h1,h2,hi _ _ h3,PoCells.imp h' hi⟩
theorem PoCells.at_:∀ {l:List Po} {cs:List Value} {k:Nat},PoCells R l cs→k<l.length→
  cs[k*2]?=some (.int .i64 (l.getD k (0,[])).1)∧∃ A c,cs[k*2+1]?=some (.slice A (l.getD k (0,[])).2.length c)∧(l.getD k (0,[])).2.length≤c∧c≤maxLen∧R A (ints (l.getD k (0,[])).2)
 |[],_,k,_,h=>by simp at h
 |q::r,cs,0,h,_=>by
  obtain ⟨A,c,cs',rfl,h1,h2,h3,h'⟩:=h
  exact ⟨rfl,A,c,rfl,h1,h2,h3⟩
 |q::r,cs,k+1,h,hk=>by
  obtain ⟨A,c,cs',rfl,h1,h2,h3,h'⟩:=h
  have :=PoCells.at_ (k:=k) h' (by simpa using hk)
  rw [show (k+1)*2=k*2+1+1 by omega,List.getD_cons_succ]
  simpa using this
theorem PoCells.snoc:∀ {l:List Po} {cs:List Value} {A:Option Addr} {c:Nat} {d:Int} {ps:List Int},PoCells R l cs→ps.length≤c→c≤maxLen→R A (ints ps)→PoCells R (l++[(d,ps)]) (cs++[.int .i64 d,.slice A ps.length c])
 |[],cs,A,c,d,ps,h,h1,h2,h3=>by
  simp only [PoCells] at h
  subst h
  exact ⟨A,c,[],rfl,h1,h2,h3,rfl⟩
 |q::r,cs,A,c,d,ps,h,h1,h2,h3=>by
  obtain ⟨A',c',cs',rfl,g1,g2,g3,h'⟩:=h
  exact ⟨A',c',cs'++[.int .i64 d,.slice A ps.length c],rfl,g1,g2,g3,PoCells.snoc h' h1 h2 h3⟩
theorem PoCells.take:∀ {l:List Po} {cs:List Value} (k:Nat),PoCells R l cs→PoCells R (l.take k) (cs.take (k*2))
 |_,cs,0,_=>by simp [PoCells]
 |[],cs,k+1,h=>by simp only [PoCells] at h;subst h;simp [PoCells]
 |q::r,cs,k+1,h=>by
  obtain ⟨A,c,cs',rfl,h1,h2,h3,h'⟩:=h
  rw [List.take_succ_cons,show (k+1)*2=k*2+1+1 by omega,List.take_succ_cons,List.take_succ_cons]
  exact ⟨A,c,_,rfl,h1,h2,h3,PoCells.take k h'⟩
theorem PoCells.drop:∀ {l:List Po} {cs:List Value} (k:Nat),PoCells R l cs→PoCells R (l.drop k) (cs.drop (k*2))
 |l,cs,0,h=>by simpa using h
 |[],cs,k+1,h=>by simp only [PoCells] at h;subst h;simp [PoCells]
 |q::r,cs,k+1,h=>by
  obtain ⟨A,c,cs',rfl,h1,h2,h3,h'⟩:=h
  rw [List.drop_succ_cons,show (k+1)*2=k*2+1+1 by omega,List.drop_succ_cons,List.drop_succ_cons]
  exact PoCells.drop k h'
end
def Posts (w:World) (B:Nat) (A:Option Addr) (l:List Po):Prop:=∃ cs,PoCells (Row w B) l cs∧Row w B A cs
theorem Posts.nil {w:World} {B:Nat} {A:Option Addr}:Posts w B A []:=⟨[],rfl,Row.nil⟩
theorem Posts.below {w w':World} {B:Nat} {A:Option Addr} {l:List Po} (h:Posts w B A l) (hb:Below B w w'):Posts w' B A l:=by
 obtain ⟨cs,h1,h2⟩:=h
 exact ⟨cs,h1.imp fun _ _ h=>h.below hb,h2.below hb⟩
theorem Posts.more {w:World} {B B':Nat} {A:Option Addr} {l:List Po} (h:Posts w B A l) (hB:B≤B'):Posts w B' A l:=by
 obtain ⟨cs,h1,h2⟩:=h
 exact ⟨cs,h1.imp fun _ _ h=>h.more hB,h2.more hB⟩
theorem Posts.later {w w':World} {A:Option Addr} {l:List Po} (h:Posts w w.heap.size A l) (hb:Below w.heap.size w w'):Posts w' w'.heap.size A l:=(h.below hb).more hb.size
theorem Posts.cut {w:World} {B:Nat} {A:Option Addr} {l:List Po} (h:Posts w B A l) (k:Nat):Posts w B A (l.take k):=by
 obtain ⟨cs,h1,h2⟩:=h
 exact ⟨_,h1.take k,h2.cut (k*2)⟩
theorem Posts.at_ {w:World} {B:Nat} {A:Option Addr} {l:List Po} (h:Posts w B A l) {k:Nat} (hk:k<l.length):
  ∃ b off,A=some ⟨b,off,none⟩∧b<B∧w.cell? ⟨b,off+k*2,none⟩=some (.int .i64 (l.getD k (0,[])).1)∧
   ∃ A' c',w.cell? ⟨b,off+k*2+1,none⟩=some (.slice A' (l.getD k (0,[])).2.length c')∧(l.getD k (0,[])).2.length≤c'∧c'≤maxLen∧Row w B A' (ints (l.getD k (0,[])).2):=by
 obtain ⟨cs,h1,h2⟩:=h
 obtain ⟨b,off,rfl,hb,hc⟩:=h2.at_ (by rw [h1.len];omega)
 obtain ⟨g1,A',c',g2,g3,g4,g5⟩:=h1.at_ hk
 exact ⟨b,off,rfl,hb,hc _ _ g1,A',c',by have :=hc _ _ g2;rwa [← Nat.add_assoc] at this,g3,g4,g5⟩
theorem Posts.drop {w:World} {B b off:Nat} {l:List Po} (h:Posts w B (some ⟨b,off,none⟩) l) (k:Nat):Posts w B (some ⟨b,off+k*2,none⟩) (l.drop k):=by
 obtain ⟨cs,h1,h2⟩:=h
 refine ⟨_,h1.drop k,?_⟩
 rcases h2 with rfl|⟨b',o',e,hb,hc⟩
 ·exact .inl (by simp)
 ·injection e with e
  injection e with e1 e2
  subst e1 e2
  refine .inr ⟨b,off+k*2,rfl,hb,fun j u hu=> ?_⟩
  have :=hc (k*2+j) u (by rw [← hu];simp)
  rwa [← Nat.add_assoc] at this
def Safe (base:Nat) (w:World) (b:Nat):Prop:=b<w.heap.size∧(b<base∨∃ cs fr,w.heap[b]?=some (.cells cs 3 fr))
def RowS (base:Nat) (w:World) (A:Option Addr) (xs:List Value):Prop:=xs=[]∨∃ b off,A=some ⟨b,off,none⟩∧Safe base w b∧∀ j u,xs[j]?=some u→w.cell? ⟨b,off+j,none⟩=some u
theorem RowS.row {base:Nat} {w:World} {A:Option Addr} {xs:List Value} (h:RowS base w A xs):Row w w.heap.size A xs:=by
 rcases h with rfl|⟨b,off,rfl,hs,hc⟩
 ·exact .inl rfl
 ·exact .inr ⟨b,off,rfl,hs.1,hc⟩
theorem RowS.of_own {base base':Nat} {w:World} {A:Option Addr} {n c:Nat} {xs:List Value} (h:w.ownsRow base' 3 1 (.slice A n c) n xs):RowS base w A xs:=by
 rcases h.2 with ⟨hv,hn⟩|⟨g,cap,cur,hv,hg,hh,hnc,hcp,hcs,htake⟩
 ·refine .inl (List.eq_nil_of_length_eq_zero ?_)
  rw [h.1,hn]
 ·injection hv with h1 h2 h3
  subst h1
  have hrow:=owned_row_of h
  rcases hrow with rfl|⟨b,off,e,hb,hc⟩
  ·exact .inl rfl
  ·injection e with e
   injection e with e1 e2
   subst e1 e2
   exact .inr ⟨g,0,rfl,⟨(Array.getElem?_eq_some_iff.1 hh).1,.inr ⟨_,_,hh⟩⟩,hc⟩
theorem RowS.grown {base:Nat} {w w':World} {A:Option Addr} {xs ys:List Value} {E:TypeId} {size:Nat} {v:Value} {n:Nat} (h:RowS base w A xs) (hv:w.ownsRow base E size v n ys) (hE:E≠3) (hg:w.grownBy w' v.ownBlock):RowS base w' A xs:=by
 rcases h with rfl|⟨b,off,rfl,⟨hs,hk⟩,hc⟩
 ·exact .inl rfl
 ·have hne:v.ownBlock≠some b:=by
   rcases hk with hk|⟨cs,fr,hk⟩
   ·intro e
    have :=(hv.lt b e).1
    omega
   ·intro e
    rcases hv.2 with ⟨rfl,_⟩|⟨g,cap,cur,rfl,_,hh,_⟩
    ·cases e
    ·simp only [Value.ownBlock,Option.some.injEq] at e
     subst e
     rw [hh] at hk
     simp at hk
     exact hE hk.2.1
  have hblk:w'.heap[b]?=w.heap[b]?:=hg.block b hs fun e=>hne e.symm
  refine .inr ⟨b,off,rfl,⟨Nat.lt_of_lt_of_le hs hg.size,hk.imp id fun ⟨cs,fr,h⟩=>⟨cs,fr,hblk.trans h⟩⟩,fun j u hu=> ?_⟩
  rw [World.cell?_of_block (a:=⟨b,off+j,none⟩) hblk]
  exact hc j u hu
theorem RowS.below {base:Nat} {w w':World} {A:Option Addr} {xs:List Value} (h:RowS base w A xs) (hb:Below w.heap.size w w'):RowS base w' A xs:=by
 rcases h with rfl|⟨b,off,rfl,⟨hs,hk⟩,hc⟩
 ·exact .inl rfl
 ·refine .inr ⟨b,off,rfl,⟨Nat.lt_of_lt_of_le hs hb.size,hk.imp id fun ⟨cs,fr,h⟩=>⟨cs,fr,(hb.block b hs).trans h⟩⟩,fun j u hu=> ?_⟩
  rw [World.cell?_of_block (a:=⟨b,off+j,none⟩) (hb.block b hs)]
  exact hc j u hu
section
variable {E:TypeId} {base:Nat} {w w':World} {v v':Value} {l:List Po}
end
end Go.Proofs.YtmoomnpbiifedaaGreat
namespace Go.Proofs.YtmoomnpbiifedaaGreat
open Go Go.RowKit
set_option linter.unusedVariables false
theorem owned_roomed {w:World} {base:Nat} {e:TypeId} {size:Nat} {v:Value} {n:Nat} {xs:List Value} (h:w.ownsRow base e size v n xs):∃ A c,v= .slice A n c∧(n≤c∧c≤maxLen)∧Row w w.heap.size A xs:=by
 obtain ⟨A,c,rfl,hc,hr⟩:=owned_row h
 refine ⟨A,c,rfl,⟨hc,?_⟩,hr⟩
 rcases h.2 with ⟨hv,_⟩|⟨g,cap,cur,hv,_,_,_,hcp,_⟩
 ·injection hv with _ _ e
  rw [e]
  exact Nat.zero_le _
 ·injection hv with _ _ e
  rw [e]
  exact hcp
theorem info_posting:(Tryz.prog.info? 63).map (fun i=>(i.zero,i.size,i.bytes))=some (some (.agg #[.int .i64 0,.slice none 0 0]),2,32):=by kernel_rfl
def InPosts (w:World) (a:Option Addr) (len cap:Nat) (ps:List Po):Prop:=
 len≤cap∧cap≤maxLen∧ps.length=len∧Posts w w.heap.size a ps∧∀ p∈ps,(Lit.int .i64 p.1).wf=true∧∀ x∈p.2,(Lit.int .i64 x).wf=true
end Go.Proofs.YtmoomnpbiifedaaGreat
