import Derived.Test.YtpehcaidjlemiaaGreatDoorMBZz
import Derived.Test.YtpehcaidjlemiaaGreatDoorMBQ32
import Derived.Test.YtpehcaidjlemiaaGreatDoorMBQ10
import Derived.Test.YtpehcaidjlemiaaGreatDoorMBQ09
set_option maxHeartbeats 4000000
set_option maxRecDepth 100000
set_option linter.unusedVariables false
namespace Go.Proofs.YtpehcaidjlemiaaGreatDoor
open Go Go.RowKit
theorem qzK (x y:Int) (A C:Option Addr) (n c m d:Nat) (xs ys:List Int) (w:World) (hn:xs.length=n) (hm:ys.length=m) (hx:Row w w.heap.size A (qaa xs)) (hy:Row w w.heap.size C (qaa ys)) (hxl:n<=9223372036854775807) (hyl:m<=9223372036854775807):
  Calls Tryz.prog 97 #[.agg #[.int .i64 x,.slice A n c],.agg #[.int .i64 y,.slice C m d]] w fun e w'=>e= .returned (.bool (decide ((x,xs)=(y,ys))))/\Below w.heap.size w w':=by
 obtain ⟨w1,hw1⟩:∃ w1,w1=(w.alloc (.cells #[.int .i64 x,.slice A n c] 74)).alloc (.cells #[.int .i64 y,.slice C m d] 74):=⟨_,rfl⟩;have hb1:Below w.heap.size w w1:=by rw [hw1];exact ((Below.refl _ w).alloc (Nat.le_refl _) _).alloc (by simp) _
 obtain ⟨z2,hz2⟩:∃ z,z=decide (xs=ys):=⟨_,rfl⟩;have HE:=qH (qk0 A C n m c d xs ys w1 hn hm (Row.later hx hb1) (Row.later hy hb1) hxl hyl);rw [<- hz2] at HE;have HB1:=qH hb1;have HW1:=qH hw1;have HZ:=qH hz2;clear hn hm hx hy hb1 hw1 hz2;by_cases hxy:x=y
 ·subst hxy
  have hz:decide ((x,xs)=(x,ys))=z2:=by rw [HZ.out];simp
  rw [hz];clear hz
  go_enter Tryz.func97,Tryz.ntmps97
  go_wp2_with (go_at_call 49;rw [show (w.alloc _).alloc _=w1 from HW1.out.symm];refine HE.out.mono ?_;rintro e w2 ⟨rfl,hb2⟩)
  go_ret;exact ⟨by cases z2<;>rfl,HB1.out.trans (hb2.mono HB1.out.size)⟩
 ·have hz:decide ((x,xs)=(y,ys))=false:=decide_eq_false fun e=>hxy (by injection e)
  have hd:(x==y)=false:=by simpa using hxy
  have hd2:decide (x=y)=false:=decide_eq_false hxy;rw [hz];clear hz hxy
  go_enter Tryz.func97,Tryz.ntmps97
  go_wp2;go_ret;exact ⟨rfl,by rw [<- HW1.out];exact HB1.out⟩
theorem qqk {l:List Pn} {k:Nat} (h:k<l.length):l.getD k (0,[])=l[k]:=by simp [List.getD_eq_getElem?_getD,List.getElem?_eq_getElem h]
def qzL (xs ys:List Pn) (w:World) (i:Value) (wr:World):Prop:=∃ k:Nat,k<=xs.length/\i= .int .i64 (k:Int)/\Below w.heap.size w wr/\∀ j (hj:j<xs.length) (hj':j<ys.length),j<k->xs[j]=ys[j]
theorem qzM (A C:Option Addr) (n m c d:Nat) (xs ys:List Pn) (w:World) (hn:xs.length=n) (hm:ys.length=m) (hx:qaZ w w.heap.size A xs) (hy:qaZ w w.heap.size C ys) (hxl:n<=9223372036854775807) (hyl:m<=9223372036854775807)
    (hxp:∀ p∈xs,p.2.length<=9223372036854775807) (hyp:∀ p∈ys,p.2.length<=9223372036854775807):
    Calls Tryz.prog 96 #[.slice A n c,.slice C m d,.func (.func 97) #[] #[]] w fun e w'=>e= .returned (.bool (decide (xs=ys)))/\Below w.heap.size w w':=by
  subst hn hm;have HX:=qH hx;have HY:=qH hy;have HXP:=qH hxp;have HYP:=qH hyp;obtain ⟨z,hz⟩:∃ z,z=decide (xs=ys):=⟨_,rfl⟩;rw [<- hz];have HZ:=qH hz;clear hx hy hz hxp hyp;by_cases hlen:xs.length=ys.length
  · obtain ⟨N,hN⟩:∃ N,N=xs.length:=⟨_,rfl⟩
    rw [<- hN] at hlen hxl ⊢;rw [<- hlen] at hyl ⊢;have HN1:=qH hN;have HN2:=qH hlen;clear hlen hN hyl
    go_enter Tryz.func96,Tryz.ntmps96
    go_wp2
    go_loopw [17] (fun i wr=>qzL xs ys w i wr) (fun i _=>N-(intOf i).toNat)
    case atStart=>exact ⟨0,Nat.zero_le _,rfl,Below.refl _ _,fun j _ _ hj=>by omega⟩
    case round=>
      obtain ⟨k,hk,rfl,hbw,hall⟩:=hrel;have HALL:=qH hall;have HBW:=qH hbw;rw [<- HN1.out] at hk;by_cases hlt:k<N
      · have h1:k<xs.length:=by rw [<- HN1.out];exact hlt
        have h2:k<ys.length:=by rw [<- HN2.out];exact hlt
        obtain ⟨b1,o1,e1,hb1,hc1,A1,c1,hd1,hl1,_,hr1⟩:=(qaZ.later HX.out hbw).at_ h1;obtain ⟨b2,o2,e2,hb2,hc2,A2,c2,hd2,hl2,_,hr2⟩:=(qaZ.later HY.out hbw).at_ h2;subst e1 e2;rw [qqk h1] at hc1 hd1 hl1 hr1;rw [qqk h2] at hc2 hd2 hl2 hr2;have p1:=HXP.out _ (List.getElem_mem h1);have p2:=HYP.out _ (List.getElem_mem h2);obtain ⟨zk,hzk⟩:∃ z,z=decide (xs[k]=ys[k]):=⟨_,rfl⟩;have HZK:=qH hzk;clear hzk hall;obtain ⟨p,hp⟩:∃ p,p=xs[k]:=⟨_,rfl⟩;obtain ⟨q,hq⟩:∃ q,q=ys[k]:=⟨_,rfl⟩;have hzk2:zk=decide (p=q):=by rw [hp,hq];exact HZK.out
        rw [<- hp] at hc1 hd1 hl1 hr1 p1;rw [<- hq] at hc2 hd2 hl2 hr2 p2;obtain ⟨x,us⟩:=p;obtain ⟨y,vs⟩:=q;simp only at hc1 hd1 hl1 hr1 p1 hc2 hd2 hl2 hr2 p2;obtain ⟨nu,hnu⟩:∃ n,n=us.length:=⟨_,rfl⟩;obtain ⟨nv,hnv⟩:∃ n,n=vs.length:=⟨_,rfl⟩;rw [<- hnu] at hd1 p1;rw [<- hnv] at hd2 p2;have SM:Hid (∀ w1,Below wr.heap.size wr w1->Calls Tryz.prog 97 #[.agg #[.int .i64 x,.slice A1 nu c1],.agg #[.int .i64 y,.slice A2 nv c2]] w1 fun e w'=>e= .returned (.bool zk)/\Below w1.heap.size w1 w'):=qH fun w1 hb=>by
          rw [hzk2];exact qzK x y A1 A2 nu c1 nv c2 us vs w1 hnu.symm hnv.symm (Row.later hr1 hb) (Row.later hr2 hb) p1 p2
        have HAL:Hid (∀ o o',Below wr.heap.size wr ((wr.alloc o).alloc o')):=qH fun o o'=>((Below.refl _ wr).alloc (Nat.le_refl _) _).alloc (by simp) _
        have hi0:(0:Int)<=k:=by omega
        have hi1:(k:Int)<N:=by omega
        have hc2':∀ o,(wr.alloc o).cell? ⟨b2,o2+k*2,none⟩=some (.int .i64 y):=fun o=>by
          have hbo:Below wr.heap.size wr (wr.alloc o):=(Below.refl _ wr).alloc (Nat.le_refl _) _;exact (hbo.cell (p:=⟨b2,_,none⟩) hb2).trans hc2
        have hd2':∀ o,(wr.alloc o).cell? ⟨b2,o2+k*2+1,none⟩=some (.slice A2 nv c2):=fun o=>by
          have hbo:Below wr.heap.size wr (wr.alloc o):=(Below.refl _ wr).alloc (Nat.le_refl _) _;exact (hbo.cell (p:=⟨b2,_,none⟩) hb2).trans hd2
        clear hb1 hl1 hr1 p1 hb2 hl2 hr2 p2 hp hq hzk2 hnu hnv hbw;rcases hzkc:zk with _|_
        · have hzf:z=false:=by
            rw [HZ.out];exact decide_eq_false fun e=>of_decide_eq_false (HZK.out.symm.trans hzkc) (by subst e;rfl)
          subst hzkc hzf
          go_wp2_with (go_at_call 97; refine (SM.out _ (HAL.out _ _)).mono ?_; rintro e w5 ⟨rfl, hb5⟩
                       have HB5:Hid (Below wr.heap.size wr w5):=qH ((HAL.out _ _).trans (hb5.mono (HAL.out _ _).size));clear hb5)
          go_ret;exact ⟨rfl,HBW.out.trans (HB5.out.mono HBW.out.size)⟩
        · have HNX:Hid (∀ j (hj:j<xs.length) (hj':j<ys.length),j<k+1->xs[j]=ys[j]):=qH fun j hj hj' hjk=>by
            by_cases e:j=k
            · subst e
              exact of_decide_eq_true (HZK.out.symm.trans hzkc)
            · exact HALL.out j hj hj' (by omega)
          subst hzkc
          go_wp2_with (go_at_call 97; refine (SM.out _ (HAL.out _ _)).mono ?_; rintro e w5 ⟨rfl, hb5⟩
                       have HB5:Hid (Below wr.heap.size wr w5):=qH ((HAL.out _ _).trans (hb5.mono (HAL.out _ _).size));clear hb5)
          exact ⟨⟨k+1,by rw [<- HN1.out];omega,by go_num,HBW.out.trans (HB5.out.mono HBW.out.size),HNX.out⟩,by simp [intOf];omega⟩
      · have hzt:z=true:=by rw [HZ.out];exact qjU (by rw [<- HN1.out,<- HN2.out]) fun j hj=>HALL.out j hj (by rw [<- HN2.out,HN1.out];exact hj) (by have :=HN1.out;omega)
        subst hzt;clear hall;go_wp2;go_ret;exact ⟨rfl,HBW.out⟩
  · have hzf:z=false:=by rw [HZ.out];exact decide_eq_false fun e=>hlen (by rw [e])
    subst hzf
    go_enter Tryz.func96,Tryz.ntmps96
    go_wp2;go_ret;exact ⟨rfl,Below.refl _ _⟩
theorem qzN (A C:Option Addr) (n c m d:Nat) (xs ys:List Pn) (w:World) (hn:xs.length=n) (hm:ys.length=m) (hx:qaZ w w.heap.size A xs) (hy:qaZ w w.heap.size C ys) (hxl:n<=9223372036854775807) (hyl:m<=9223372036854775807)
  (hxp:∀ p∈xs,p.2.length<=9223372036854775807) (hyp:∀ p∈ys,p.2.length<=9223372036854775807):
  Calls Tryz.prog 52 #[.slice A n c,.slice C m d] w fun e w'=>e= .returned (.bool (decide (xs=ys)))/\Below w.heap.size w w':=by
 have HE:=qH (qzM A C n m c d xs ys w hn hm hx hy hxl hyl hxp hyp);obtain ⟨z,hz⟩:∃ z,z=decide (xs=ys):=⟨_,rfl⟩;rw [<- hz] at HE ⊢;clear hn hm hx hy hxl hyl hxp hyp hz
 go_enter Tryz.func52,Tryz.ntmps52
 go_wp2_with (go_at_call 96;refine HE.out.mono ?_;rintro e w2 ⟨rfl,hb2⟩)
 go_ret;exact ⟨rfl,hb2⟩
def qzO (xs ys:List (List Pn)) (w:World) (i:Value) (wr:World):Prop:=∃ k:Nat,k<=xs.length/\i= .int .i64 (k:Int)/\Below w.heap.size w wr/\∀ j (hj:j<xs.length) (hj':j<ys.length),j<k->xs[j]=ys[j]
theorem qzP (A C:Option Addr) (n c m d:Nat) (xs ys:List (List Pn)) (w:World) (hn:xs.length=n) (hm:ys.length=m) (hx:qbT w w.heap.size A xs) (hy:qbT w w.heap.size C ys) (hxl:n<=9223372036854775807) (hyl:m<=9223372036854775807)
    (hxp:∀ l∈xs,l.length<=9223372036854775807/\∀ p∈l,p.2.length<=9223372036854775807) (hyp:∀ l∈ys,l.length<=9223372036854775807/\∀ p∈l,p.2.length<=9223372036854775807):
    Calls Tryz.prog 51 #[.slice A n c,.slice C m d,.func (.func 52) #[] #[]] w fun e w'=>e= .returned (.bool (decide (xs=ys)))/\Below w.heap.size w w':=by
  subst hn hm;have HX:=qH hx;have HY:=qH hy;have HXP:=qH hxp;have HYP:=qH hyp;obtain ⟨z,hz⟩:∃ z,z=decide (xs=ys):=⟨_,rfl⟩;rw [<- hz];have HZ:=qH hz;clear hx hy hz hxp hyp;by_cases hlen:xs.length=ys.length
  · obtain ⟨N,hN⟩:∃ N,N=xs.length:=⟨_,rfl⟩
    rw [<- hN] at hlen hxl ⊢;rw [<- hlen] at hyl ⊢;have HN1:=qH hN;have HN2:=qH hlen;clear hlen hN hyl
    go_enter Tryz.func51,Tryz.ntmps51
    go_wp2
    go_loopw [17] (fun i wr=>qzO xs ys w i wr) (fun i _=>N-(intOf i).toNat)
    case atStart=>exact ⟨0,Nat.zero_le _,rfl,Below.refl _ _,fun j _ _ hj=>by omega⟩
    case round=>
      obtain ⟨k,hk,rfl,hbw,hall⟩:=hrel;have HALL:=qH hall;have HBW:=qH hbw;rw [<- HN1.out] at hk;by_cases hlt:k<N
      · have h1:k<xs.length:=by rw [<- HN1.out];exact hlt
        have h2:k<ys.length:=by rw [<- HN2.out];exact hlt
        obtain ⟨b1,o1,A1,c1,e1,hb1,hc1,_,hr1⟩:=(HX.out.later hbw).at_ h1;obtain ⟨b2,o2,A2,c2,e2,hb2,hc2,_,hr2⟩:=(HY.out.later hbw).at_ h2;subst e1 e2;have p1:=HXP.out _ (List.getElem_mem h1);have p2:=HYP.out _ (List.getElem_mem h2);obtain ⟨zk,hzk⟩:∃ z,z=decide (xs[k]=ys[k]):=⟨_,rfl⟩;have HZK:=qH hzk;obtain ⟨nu,hnu⟩:∃ n,n=xs[k].length:=⟨_,rfl⟩;obtain ⟨nv,hnv⟩:∃ n,n=ys[k].length:=⟨_,rfl⟩;rw [<- hnu] at hc1;rw [<- hnv] at hc2;have SM:Hid (∀ w1,Below wr.heap.size wr w1->Calls Tryz.prog 52 #[.slice A1 nu c1,.slice A2 nv c2] w1 fun e w'=>e= .returned (.bool zk)/\Below w1.heap.size w1 w'):=qH fun w1 hb=>by
          rw [hzk];exact qzN A1 A2 nu c1 nv c2 _ _ w1 hnu.symm hnv.symm (qaZ.later hr1 hb) (qaZ.later hr2 hb) (hnu▸p1.1) (hnv▸p2.1) p1.2 p2.2
        have HRE:Hid (Below wr.heap.size wr wr):=qH (Below.refl _ wr);have hi0:(0:Int)<=k:=by omega
        have hi1:(k:Int)<N:=by omega
        clear hb1 hr1 p1 hb2 hr2 p2 hnu hnv hbw hzk hall;rcases hzkc:zk with _|_
        · have hzf:z=false:=by
            rw [HZ.out];exact decide_eq_false fun e=>of_decide_eq_false (HZK.out.symm.trans hzkc) (by subst e;rfl)
          subst hzkc hzf
          go_wp2_with (go_at_call 52; refine (SM.out _ HRE.out).mono ?_; rintro e w5 ⟨rfl, hb5⟩
                       have HB5:Hid (Below wr.heap.size wr w5):=qH (HRE.out.trans (hb5.mono HRE.out.size));clear hb5)
          go_ret;exact ⟨rfl,HBW.out.trans (HB5.out.mono HBW.out.size)⟩
        · have HNX:Hid (∀ j (hj:j<xs.length) (hj':j<ys.length),j<k+1->xs[j]=ys[j]):=qH fun j hj hj' hjk=>by
            by_cases e:j=k
            · subst e
              exact of_decide_eq_true (HZK.out.symm.trans hzkc)
            · exact HALL.out j hj hj' (by omega)
          subst hzkc
          go_wp2_with (go_at_call 52; refine (SM.out _ HRE.out).mono ?_; rintro e w5 ⟨rfl, hb5⟩
                       have HB5:Hid (Below wr.heap.size wr w5):=qH (HRE.out.trans (hb5.mono HRE.out.size));clear hb5)
          exact ⟨⟨k+1,by rw [<- HN1.out];omega,by go_num,HBW.out.trans (HB5.out.mono HBW.out.size),HNX.out⟩,by simp [intOf];omega⟩
      · have hzt:z=true:=by rw [HZ.out];exact qjU (by rw [<- HN1.out,<- HN2.out]) fun j hj=>HALL.out j hj (by rw [<- HN2.out,HN1.out];exact hj) (by have :=HN1.out;omega)
        subst hzt;clear hall;go_wp2;go_ret;exact ⟨rfl,HBW.out⟩
  · have hzf:z=false:=by rw [HZ.out];exact decide_eq_false fun e=>hlen (by rw [e])
    subst hzf
    go_enter Tryz.func51,Tryz.ntmps51
    go_wp2;go_ret;exact ⟨rfl,Below.refl _ _⟩
end Go.Proofs.YtpehcaidjlemiaaGreatDoor
