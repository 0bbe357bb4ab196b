import Derived.Test.YtpehcaidjlemiaaGreatDoorMCZz
import Derived.Test.YtpehcaidjlemiaaGreatDoorMCQ04
import Derived.Test.YtpehcaidjlemiaaGreatDoorMCQ26
import Derived.Deep.DeepCutAuto
import Derived.Test.YtpehcaidjlemiaaGreatDoorMCQ11
import Derived.Test.YtpehcaidjlemiaaGreatDoorMCQ09
import Derived.Deep.AppendLies
import Derived.Deep.RegionHeld3
import Derived.Test.YtpehcaidjlemiaaGreatDoorMCQ05
import Derived.Test.YtpehcaidjlemiaaGreatDoorMCQ12
import Derived.Test.YtpehcaidjlemiaaGreatDoorMCQ25
set_option maxHeartbeats 4000000
set_option maxRecDepth 100000
set_option linter.unusedVariables false
namespace Go.Proofs.YtpehcaidjlemiaaGreatDoor
open Go Go.RowKit
def qc8 (w:World) (id:Int) (A:Option Addr) (n c:Nat) (v:Value) (wr:World):Prop:=
 Below w.heap.size w wr/\w.heap.size+4<=wr.heap.size/\wr.heap[w.heap.size]?=some (.cells #[.int .i64 id,.slice A n c] 59 (0,0))/\wr.heap[w.heap.size+1]?=some (.cells #[.int .i64 0,.slice none 0 0] 59 (0,0))/\
  wr.heap[w.heap.size+1+1]?=some (.cells #[.int .i64 id,v] 59 (0,0))/\wr.heap[w.heap.size+1+1+1]?=some (.cells #[.string ⟨#[116]⟩,.string ⟨#[117]⟩,.string ⟨#[118]⟩,.string ⟨#[119]⟩] 9 (0,0))
theorem qc8.below {w wr w':World} {id:Int} {A:Option Addr} {n c:Nat} {v:Value} (h:qc8 w id A n c v wr) (hb:Below wr.heap.size wr w'):qc8 w id A n c v w':=by
 obtain ⟨h0,h1,h2,h3,h4,h5⟩:=h;exact ⟨h0.trans (hb.mono (by omega)),by have :=hb.size;omega,(hb.block _ (by omega)).trans h2,(hb.block _ (by omega)).trans h3,(hb.block _ (by omega)).trans h4,(hb.block _ (by omega)).trans h5⟩
theorem qc8.cells {w wr:World} {id:Int} {A:Option Addr} {n c:Nat} {v:Value} (h:qc8 w id A n c v wr):
  wr.cell? ⟨w.heap.size,0,none⟩=some (.int .i64 id)/\wr.cell? ⟨w.heap.size,1,none⟩=some (.slice A n c)/\wr.cell? ⟨w.heap.size+1+1,0,none⟩=some (.int .i64 id)/\wr.cell? ⟨w.heap.size+1+1,1,none⟩=some v:=by
 obtain ⟨_,_,h2,_,h4,_⟩:=h;exact ⟨by simp [World.cell?,h2],by simp [World.cell?,h2],by simp [World.cell?,h4],by simp [World.cell?,h4]⟩
theorem qc8.pool {w wr:World} {id:Int} {A:Option Addr} {n c:Nat} {v:Value} (h:qc8 w id A n c v wr) {k:Nat} (hk:k<4):wr.cell? ⟨w.heap.size+1+1+1,k,none⟩=some (.string ⟨(qgn k).toArray⟩):=by
 obtain ⟨_,_,_,_,_,h5⟩:=h;have :k=0∨k=1∨k=2∨k=3:=by omega
 rcases this with rfl|rfl|rfl|rfl<;>simp [World.cell?,h5,qgn]
theorem qyq (w:World) (id:Int) (A:Option Addr) (n c:Nat):qc8 w id A n c (.slice none 0 0) ((((w.alloc (.cells #[.int .i64 id,.slice A n c] 59)).alloc (.cells #[.int .i64 0,.slice none 0 0] 59)).alloc (.cells #[.int .i64 id,.slice none 0 0] 59)).alloc (.cells #[.string ⟨#[116]⟩,.string ⟨#[117]⟩,.string ⟨#[118]⟩,.string ⟨#[119]⟩] 9)):=by
 refine ⟨((((Below.refl _ w).alloc (Nat.le_refl _) _).alloc (by simp) _).alloc (by simp;try omega) _).alloc (by simp;try omega) _,by simp,?_,?_,?_,?_⟩
 ·rw [Below.heap_alloc _ _ _ (by simp;try omega),Below.heap_alloc _ _ _ (by simp;try omega),Below.heap_alloc _ _ _ (by simp)]
  exact heap_alloc_new w _
 ·rw [Below.heap_alloc _ _ _ (by simp;try omega),Below.heap_alloc _ _ _ (by simp)]
  simpa using heap_alloc_new (w.alloc (.cells #[.int .i64 id,.slice A n c] 59)) (.cells #[.int .i64 0,.slice none 0 0] 59)
 ·rw [Below.heap_alloc _ _ _ (by simp)]
  simpa using heap_alloc_new ((w.alloc (.cells #[.int .i64 id,.slice A n c] 59)).alloc (.cells #[.int .i64 0,.slice none 0 0] 59)) (.cells #[.int .i64 id,.slice none 0 0] 59)
 ·simpa using heap_alloc_new (((w.alloc (.cells #[.int .i64 id,.slice A n c] 59)).alloc (.cells #[.int .i64 0,.slice none 0 0] 59)).alloc (.cells #[.int .i64 id,.slice none 0 0] 59)) (.cells #[.string ⟨#[116]⟩,.string ⟨#[117]⟩,.string ⟨#[118]⟩,.string ⟨#[119]⟩] 9)
theorem qcW {w:World} {b k:Nat} {cs:Array Value} {t:TypeId} {v:Value} (h:w.heap[b]?=some (.cells cs t (0,0))):(w.setCell ⟨b,k,none⟩ v).heap[b]?=some (.cells (cs.setIfInBounds k v) t (0,0)):=by
 have hlt:=lt_of_block h;have h':w.heap[b]= .cells cs t (0,0):=by simpa [Array.getElem?_eq_getElem hlt] using h
 show (w.heap.modify b _)[b]?=_;rw [Array.getElem?_eq_getElem (by simpa using hlt),Array.getElem_modify_self,h'];rfl
theorem qcD {w:World} {b:Nat} {x y:Value} {t:TypeId} (h:w.heap[b]?=some (.cells #[x,y] t (0,0))):
  w.cell? ⟨b,0,none⟩=some x/\w.cell? ⟨b,1,none⟩=some y/\w.frozen? ⟨b,0,none⟩=false/\w.frozen? ⟨b,1,none⟩=false:=by
 simp [World.cell?,World.frozen?,h]
theorem qyr (y:ByteArray):y.extract 0 (min (y.size:Int) 40).toNat=⟨(y.data.toList.take 40).toArray⟩:=by
 have e2:y.data.toList.length=y.size:=Array.length_toList;have e:(y.extract 0 (min (y.size:Int) 40).toNat).data=y.data.extract 0 (min (y.size:Int) 40).toNat:=ByteArray.data_extract;apply ByteArray.ext;apply Array.ext';rw [e,Array.toList_extract,List.extract_eq_take_drop,List.drop_zero,Nat.sub_zero];show List.take _ _=List.take 40 _;by_cases h:y.size<=40
 ·rw [List.take_of_length_le (by omega),List.take_of_length_le (by omega)]
 ·rw [show (min (y.size:Int) 40).toNat=40 by omega]
theorem qdJ {w:World} {b k d:Nat} {v:Value} (h:b≠d):(w.setCell ⟨b,k,none⟩ v).heap[d]?=w.heap[d]?:=by
 show (w.heap.modify b _)[d]?=_;rw [Array.getElem?_modify];simp [h]
theorem qc8.put {w wr:World} {id:Int} {A:Option Addr} {n c:Nat} {v:Value} (h:qc8 w id A n c v wr) (v':Value):qc8 w id A n c v' ((wr.setCell ⟨w.heap.size+1+1,0,none⟩ (.int .i64 id)).setCell ⟨w.heap.size+1+1,1,none⟩ v'):=by
 obtain ⟨h0,h1,h2,h3,h4,h5⟩:=h;refine ⟨(h0.setCell (by simp;omega) _).setCell (by simp;omega) _,by simpa using h1,?_,?_,?_,?_⟩
 ·rw [qdJ (by omega),qdJ (by omega)];exact h2
 ·rw [qdJ (by omega),qdJ (by omega)];exact h3
 ·rw [qcW (qcW h4)];rfl
 ·rw [qdJ (by omega),qdJ (by omega)];exact h5
theorem qpJ (i:Nat) (f:Fd):(qeS i f).1.length<=12:=by
 unfold qeS;by_cases h:qbl f.1=true
 ·rw [if_pos h]
  rw [qbl,Bool.and_eq_true,Bool.and_eq_true,decide_eq_true_iff,decide_eq_true_iff] at h;exact h.2.2
 ·rw [if_neg h];simp [qgn]
theorem qh8 (l:List Fd):∀ k,∀ f∈qcE l k,f.1.length<=12
 |0,f,h=>by cases h
 |k+1,f,h=>by
  rw [qcE] at h;split at h
  ·rcases List.mem_append.1 h with h|h
   ·exact qh8 l k f h
   ·rw [List.mem_singleton.1 h];exact qpJ _ _
  ·exact qh8 l k f h
def qys (l:List Fd) (w:World) (id:Int) (A:Option Addr) (n c:Nat) (i:Value) (wr:World):Prop:=
 ∃ (k:Nat) (v:Value),k<=n/\k<=4/\i= .int .i64 (k:Int)/\qc8 w id A n c v wr/\qaG (w.heap.size+4) wr v (qcE l k)
theorem qyt (id:Int) (A:Option Addr) (n c:Nat) (l:List Fd) (w:World) (hl:l.length=n) (hr:qaA w w.heap.size A l) (hn:n<=9223372036854775807) (ht:∀ f∈l,f.1.length<=9223372036854775807/\f.2.length<=9223372036854775807):
    Calls Tryz.prog 28 #[qc0 id A n c] w fun e w'=>∃ v,e= .returned (.agg #[.int .i64 id,v])/\qaG w.heap.size w' v (qeT l)/\Below w.heap.size w w':=by
  have HR:=qH hr;have HT:=qH ht;have HL:=qH hl;clear hr ht hl
  go_enter Tryz.func28,Tryz.ntmps28
  go_wp2;obtain ⟨w1,hw1⟩:∃ w1,w1=((((w.alloc (.cells #[.int .i64 id,.slice A n c] 59)).alloc (.cells #[.int .i64 0,.slice none 0 0] 59)).alloc (.cells #[.int .i64 id,.slice none 0 0] 59)).alloc (.cells #[.string ⟨#[116]⟩,.string ⟨#[117]⟩,.string ⟨#[118]⟩,.string ⟨#[119]⟩] 9)):=⟨_,rfl⟩;have HG:Hid (qc8 w id A n c (.slice none 0 0) w1):=qH (by rw [hw1];exact qyq w id A n c);rw [<- hw1];clear hw1
  go_loopw [5,6,7,8] (fun i a b d wr=>qys l w id A n c i wr) (fun i _ _ _ _=>n-(intOf i).toNat)
  case atStart=>exact ⟨0,_,by omega,by omega,rfl,HG.out,qaG.nil⟩
  case round=>
    obtain ⟨k,v,hk,hk4,rfl,hgw,hown⟩:=hrel;obtain ⟨Av,cv,rfl,hlv,hrv⟩:=hown.row;have hgl:=qiG l k;obtain ⟨up,hup⟩:∃ up,up=qcE l k:=⟨_,rfl⟩;rw [<- hup] at hown hlv hrv hgw hgl;have HUP:=qH hup;have HRV:=qH hrv;clear hup hrv;obtain ⟨m,hm⟩:∃ m,m=up.length:=⟨_,rfl⟩;rw [<- hm] at hlv hgw hgl hown;have HM:=qH hm;clear hm;obtain ⟨q0,q1,q2,q3⟩:=hgw.cells;by_cases hlt:k<n/\k<4
    · obtain ⟨hkn,hk5⟩:=hlt
      have hkl:k<l.length:=by rw [HL.out];exact hkn
      have hp:=hgw.pool hk5;obtain ⟨b1,o1,e1,hb1,hc1,hc2⟩:=(HR.out.below hgw.1).at_ hkl;subst e1;have ht8:=HT.out _ (List.getElem_mem hkl);obtain ⟨x,hx,hx2⟩:=qbW l[k].1;obtain ⟨y,hy,hy2⟩:=qbW l[k].2;rw [<- hx] at hc1;rw [<- hy] at hc2;have i0:(0:Int)<=k:=by omega
      have i1:(k:Int)<n:=by omega
      have i2:(k:Int)<4:=by omega
      have N1:=fun w'=>qpF x w' (by rw [hx,qeV];exact ht8.1)
      rw [hx2] at N1;have HN1:Hid (∀ w',Calls Tryz.prog 60 #[.string x] w' fun e w''=>e= .returned (.bool (qbl l[k].1))/\Below w'.heap.size w' w''):=qH N1;have HGW:=qH hgw;have HXY:=qH (And.intro hx2 hy2);have HOWN:=qH hown;obtain ⟨z,hz⟩:∃ z,z=qbl l[k].1:=⟨_,rfl⟩;rw [<- hz] at HN1;obtain ⟨g,hg⟩:∃ g,g=qeS k l[k]:=⟨_,rfl⟩;have HGF:Hid (g=(if z=true then x.data.toList else qgn k,y.data.toList.take 40)):=qH (by rw [hg,qeS,hz,hx2,hy2])
      have HG:=qH hg;clear N1 hgw hx hx2 hy hy2 hown hz ht8 hg
      go_upto_if 33 with (first
        | (go_at_call 60; (with_reducible refine (HN1.out _).mono ?_); rintro e w2 ⟨rfl, hb2⟩
           have hg2:qc8 w id (some ⟨b1,o1,none⟩) n c (.slice Av m cv) w2:=HGW.out.below (((Below.refl _ wr).alloc (Nat.le_refl _) _).trans (hb2.mono (by simp)));have hF:w2.heap[wr.heap.size]?=some (.cells #[.string x,.string y] 121 (0,0)):=(hb2.block wr.heap.size (by simp)).trans (heap_alloc_new wr _);have HOW2:Hid (qaG (w.heap.size+4) w2 (.slice Av m cv) up):=qH (HOWN.out.below (((Below.refl _ wr).alloc (Nat.le_refl _) _).trans (hb2.mono (by simp))));have HBW2:Hid (Below wr.heap.size wr w2):=qH (((Below.refl _ wr).alloc (Nat.le_refl _) _).trans (hb2.mono (by simp)));have hp:=hg2.pool hk5;have hz:=qcD hF;have z0:=hz.1;have z1:=hz.2.1;have f0:=hz.2.2.1;have f1:=hz.2.2.2;have HG2:=qH hg2;have HF:=qH hF;clear hg2 hF hb2 hz))
      have HBX2:Hid (Below wr.heap.size wr w2):=qH HBW2.out
      go_cut [] from 32 to 38 (fun wx=>Below wr.heap.size wr wx/\wx.heap[wr.heap.size]?=some (.cells #[.string ⟨g.1.toArray⟩,.string y] 121 (0,0)))
      case first=>
        cases z with
        |true=>
          go_wp2_with fail
          go_meet;exact ⟨HBX2.out,by rw [HGF.out];exact HF.out⟩
        |false=>
          go_wp2_with fail
          go_meet;refine ⟨HBX2.out.setCell (Nat.le_refl _) _,?_⟩;rw [qcW HF.out,HGF.out];rfl
      case rest=>
        obtain ⟨hbx,hfx⟩:=hcut;have hz:=qcD hfx;have z0:=hz.1;have z1:=hz.2.1;have f0:=hz.2.2.1;have f1:=hz.2.2.2;have HBX:=qH hbx;have HFX:=qH hfx;clear hbx hfx hz
        go_upto_region 10 with fail
        go_cut [] from 39 to 46 (fun wx=>Below wr.heap.size wr wx/\wx.heap[wr.heap.size]?=some (.cells #[.string ⟨g.1.toArray⟩,.string ⟨g.2.toArray⟩] 121 (0,0)))
        case first=>
          go_wp2_with fail
          go_meet;refine ⟨HBX.out.setCell (Nat.le_refl _) _,?_⟩;rw [qcW HFX.out,HGF.out,qyr];rfl
        case rest=>
          obtain ⟨hby,hfy⟩:=hcut;obtain ⟨wy,rfl⟩:∃ wy,wy=wc:=⟨_,rfl⟩;have hg3:=HGW.out.below hby;have hq:=hg3.cells;have q0:=hq.1;have q1:=hq.2.1;have q2:=hq.2.2.1;have q3:=hq.2.2.2;have hz:=qcD hfy;have z0:=hz.1;have z1:=hz.2.1;have HBY:=qH hby;have HFY:=qH hfy;have HG3:=qH hg3;clear hby hfy hg3 hq hz;have HFLT:Hid (wr.heap.size<wy.heap.size):=qH (lt_of_block HFY.out);have HM2:Hid (qaG (w.heap.size+4) wy (.slice Av m cv) up):=qH (HOWN.out.below HBY.out);have HRY:Hid (qaA wy wy.heap.size Av up):=qH (HRV.out.later HBY.out)
          go_upto_region 12 with fail
          go_cut [] from 50 to 55 (fun wx=>∃ v',Below wy.heap.size wy wx/\wx.heap[wy.heap.size]?=some (.cells #[.int .i64 id,v'] 59 (0,0))/\qaG (wy.heap.size+1) wx v' up)
          case first=>
            have HN4:Hid ((wy.alloc (.cells #[.int .i64 id,.slice none 0 0] 59)).heap[wy.heap.size]?=some (.cells #[.int .i64 id,.slice none 0 0] 59 (0,0))):=qH (heap_alloc_new wy _);have hq4:=(HG3.out.below ((Below.refl _ wy).alloc (Nat.le_refl _) (.cells #[.int .i64 id,.slice none 0 0] 59))).cells;have q34:=hq4.2.2.2;clear hq4
            go_wp2_with (first
              | (at_builtin; refine ql4 _ rfl (.tmp 51) (.tmp 53) rfl (wy.heap.size + 1) _ [] rfl qaG.nil Av m cv up rfl HM.out.symm ((HRY.out).later ((Below.refl _ wy).alloc (Nat.le_refl _) _)) (by simp; omega) (by simp) ?_
                 intro v5 w5 ho5 hb5 _;obtain ⟨A5,c5,rfl,_,_⟩:=ho5.row;have HB5:=qH (((Below.refl _ wy).alloc (Nat.le_refl _) (.cells #[.int .i64 id,.slice none 0 0] 59)).trans (hb5.mono (by omega)));have HN5:Hid (w5.heap[wy.heap.size]?=some (.cells #[.int .i64 id,.slice none 0 0] 59 (0,0))):=qH ((hb5.block wy.heap.size (by omega)).trans HN4.out);have HO5:Hid (qaG (wy.heap.size+1) w5 _ up):=qH ho5;have hz:=qcD HN5.out;have n0:=hz.1;have n1:=hz.2.1;have m0:=hz.2.2.1;have m1:=hz.2.2.2;clear ho5 hb5 hz))
            go_meet;refine ⟨_,HB5.out.setCell (Nat.le_refl _) _,by rw [qcW HN5.out];rfl,?_⟩;exact ownsRow_setCell_below HO5.out (a:=⟨wy.heap.size,1,none⟩) (by simp) _
          case rest=>
            obtain ⟨wz,rfl⟩:∃ wz,wz=wc:=⟨_,rfl⟩;obtain ⟨v6,hb6,hn6,ho6⟩:=hcut;obtain ⟨A6,c6,rfl,_,_⟩:=ho6.row;have hf6:wz.heap[wr.heap.size]?=some (.cells #[.string ⟨g.1.toArray⟩,.string ⟨g.2.toArray⟩] 121 (0,0)):=(hb6.block _ (by have :=HFLT.out;omega)).trans HFY.out;have HB6:=qH hb6;have HN6:=qH hn6;have HO6:=qH ho6;have hz:=qcD hf6;have z0:=hz.1;have z1:=hz.2.1;have hz:=qcD hn6;have n0:=hz.1;have n1:=hz.2.1;have hnlt:=lt_of_block hn6;have HF6:=qH hf6;clear hb6 hn6 ho6 hf6 hz
            go_upto_region 13 with fail
            go_cut [] from 56 to 61 (fun wx=>∃ v',Below wy.heap.size wy wx/\wx.heap[wy.heap.size]?=some (.cells #[.int .i64 id,v'] 59 (0,0))/\qaG (wy.heap.size+1) wx v' (up++[g]))
            case first=>
              go_wp2_with (first
                | (at_builtin; refine ql4 _ rfl (.tmp 57) (.tmp 59) rfl (wy.heap.size + 1) _ up rfl (HO6.out.below ((Below.refl _ _).alloc (Nat.le_refl _) _)) _ 1 1 [g] rfl rfl (qsB _ g 121) (by have := HM.out; omega) (by simp; omega) ?_
                   intro v7 w7 ho7 hb7 _;obtain ⟨A7,c7,rfl,_,_⟩:=ho7.row;have HB7:Hid (Below wy.heap.size wy w7):=qH (HB6.out.trans ((((Below.refl _ wz).alloc (Nat.le_refl _) _).mono (by omega)).trans (hb7.mono (by omega))));have HN7:Hid (w7.heap[wy.heap.size]?=some (.cells #[.int .i64 id,.slice A6 up.length c6] 59 (0,0))):=qH ((hb7.block wy.heap.size (by omega)).trans ((((Below.refl wz.heap.size wz).alloc (Nat.le_refl _) _).block wy.heap.size hnlt).trans HN6.out));have HO7:Hid (qaG (wy.heap.size+1) w7 _ (up++[g])):=qH ho7;have hz:=qcD HN7.out;have n0:=hz.1;have n1:=hz.2.1;have m0:=hz.2.2.1;have m1:=hz.2.2.2;clear ho7 hb7 hz))
              go_meet;refine ⟨_,HB7.out.setCell (Nat.le_refl _) _,by rw [qcW HN7.out];rfl,?_⟩;rw [show up.length+1=(up++[g]).length by simp];exact ownsRow_setCell_below HO7.out (a:=⟨wy.heap.size,1,none⟩) (by simp) _
            case rest=>
              obtain ⟨wu,rfl⟩:∃ wu,wu=wc:=⟨_,rfl⟩;obtain ⟨v8,hb8,hn8,ho8⟩:=hcut;obtain ⟨A8,c8,rfl,_,hr8⟩:=ho8.row;obtain ⟨M8,hM8⟩:∃ M8,M8=(up++[g]).length:=⟨_,rfl⟩;rw [<- hM8] at hn8 ho8;have HMAY:Hid (∀ w',Below wu.heap.size wu w'->Calls Tryz.prog 61 #[qc0 id A8 M8 c8] w' fun e w''=>e= .returned (.int .i64 (qa9 (up++[g])))/\Below w'.heap.size w' w''):=qH fun w' h=>
                qyp id A8 _ c8 (up++[g]) w' hM8.symm (hr8.later h) (by rw [hM8];simp;have :=HM.out;omega) fun f hf=>by
                  rcases List.mem_append.1 hf with hf|hf
                  · have a1:=qh8 l k f (by rw [<- HUP.out];exact hf)
                    have a2:=qg9 l k f (by rw [<- HUP.out];exact hf);omega
                  · rw [List.mem_singleton.1 hf,HG.out]
                    have a1:=qpJ k l[k];have a2:=qlZ k l[k];omega
              have hz:=qcD hn8;have n0:=hz.1;have n1:=hz.2.1;have HGS:Hid (qcE l (k+1)=if qa9 (up++[g])=0 then up++[g] else up):=qH (by
                rw [qcE,<- HUP.out,HG.out,List.getD_eq_getElem?_getD,List.getElem?_eq_getElem hkl];rfl)
              have HB8:=qH hb8;have HO8:=qH ho8;have hnlt8:=lt_of_block hn8;have HN8:=qH hn8;obtain ⟨e8,he8⟩:∃ e8,e8=qa9 (up++[g]):=⟨_,rfl⟩;rw [<- he8] at HMAY HGS;clear hb8 hn8 ho8 hr8 hz he8 hM8;have hny:=HG3.out.2.1;by_cases h8:e8=0
              · subst h8
                have HGT:Hid (qcE l (k+1)=up++[g]):=qH (by rw [HGS.out,if_pos rfl])
                go_wp2_with (first
                | (go_at_call 61; (with_reducible refine (HMAY.out _ (Below.refl _ _)).mono ?_); rintro e w9 ⟨rfl, hb9⟩
                   have hg9:qc8 w id (some ⟨b1,o1,none⟩) n c (.slice Av m cv) w9:=HG3.out.below (HB8.out.trans (hb9.mono HB8.out.size));have hn9:w9.heap[wy.heap.size]?=some (.cells #[.int .i64 id,.slice A8 M8 c8] 59 (0,0)):=(hb9.block _ hnlt8).trans HN8.out;have HO9:Hid (qaG (wy.heap.size+1) w9 (.slice A8 M8 c8) (up++[g])):=qH (HO8.out.below hb9);have HU9:Hid (qaG (w.heap.size+4) w9 (.slice Av m cv) up):=qH (HM2.out.below (HB8.out.trans (hb9.mono HB8.out.size)));have hz:=qcD hn9;have n0:=hz.1;have n1:=hz.2.1;have hz:=qcD hg9.2.2.2.2.1;have s0:=hz.1;have s1:=hz.2.1;have s2:=hz.2.2.1;have s3:=hz.2.2.2;have HG9:=qH hg9;clear hg9 hn9 hb9 hz))
                refine ⟨⟨k+1,_,by omega,by omega,by go_num,HG9.out.put _,?_⟩,by simp [intOf];omega⟩;rw [HGT.out];exact (show qaG (wy.heap.size+1) _ _ _ from ownsRow_setCell_below (ownsRow_setCell_below HO9.out (a:=⟨w.heap.size+1+1,0,none⟩) (by simp;omega) _) (a:=⟨w.heap.size+1+1,1,none⟩) (by simp;omega) _).low (by omega)
              · have HGT:Hid (qcE l (k+1)=up):=qH (by rw [HGS.out,if_neg h8])
                go_wp2_with (first
                | (go_at_call 61; (with_reducible refine (HMAY.out _ (Below.refl _ _)).mono ?_); rintro e w9 ⟨rfl, hb9⟩
                   have hg9:qc8 w id (some ⟨b1,o1,none⟩) n c (.slice Av m cv) w9:=HG3.out.below (HB8.out.trans (hb9.mono HB8.out.size));have hn9:w9.heap[wy.heap.size]?=some (.cells #[.int .i64 id,.slice A8 M8 c8] 59 (0,0)):=(hb9.block _ hnlt8).trans HN8.out;have HO9:Hid (qaG (wy.heap.size+1) w9 (.slice A8 M8 c8) (up++[g])):=qH (HO8.out.below hb9);have HU9:Hid (qaG (w.heap.size+4) w9 (.slice Av m cv) up):=qH (HM2.out.below (HB8.out.trans (hb9.mono HB8.out.size)));have hz:=qcD hn9;have n0:=hz.1;have n1:=hz.2.1;have hz:=qcD hg9.2.2.2.2.1;have s0:=hz.1;have s1:=hz.2.1;have s2:=hz.2.2.1;have s3:=hz.2.2.2;have HG9:=qH hg9;clear hg9 hn9 hb9 hz))
                refine ⟨⟨k+1,_,by omega,by omega,by go_num,HG9.out,?_⟩,by simp [intOf];omega⟩;rw [HGT.out];exact HU9.out
    · have hend:min l.length 4=k:=by rw [HL.out];omega
      have hup:qeT l=up:=by rw [qeT,hend,HUP.out]
      have HEND:=qH hup;have hz:=qcD hgw.2.2.2.2.1;have s0:=hz.1;have s1:=hz.2.1;have hz:=qcD hgw.2.2.2.1;have r0:=hz.1;have r1:=hz.2.1;have r2:=hz.2.2.1;have r3:=hz.2.2.2;have h1:(n:Int)<=k∨(k:Int)<n/\(4:Int)<=k:=by omega
      clear hlt hz hend hup;rcases h1 with h1|⟨h1,h2⟩
      all_goals
        go_wp2;obtain ⟨we,hwe⟩:∃ we,we=(wr.setCell ⟨w.heap.size+1,0,none⟩ (.int .i64 id)).setCell ⟨w.heap.size+1,1,none⟩ (.slice Av m cv):=⟨_,rfl⟩;have h3:we.heap[w.heap.size+1]?=some (.cells #[.int .i64 id,.slice Av m cv] 59 (0,0)):=by rw [hwe,qcW (qcW hgw.2.2.2.1)];rfl
        have hbe:Below w.heap.size w we:=by rw [hwe];exact (hgw.1.setCell (by simp) _).setCell (by simp) _
        have hoe:qaG w.heap.size we (.slice Av m cv) up:=by
          rw [hwe];exact (show qaG (w.heap.size+4) _ _ _ from ownsRow_setCell_below (ownsRow_setCell_below hown (a:=⟨w.heap.size+1,0,none⟩) (by simp) _) (a:=⟨w.heap.size+1,1,none⟩) (by simp) _).low (by omega)
        rw [<- hwe];obtain ⟨d0,d1,_,_⟩:=qcD h3;exact bodyPost_ret (v:= .agg #[.int .i64 id,.slice Av m cv]) (by simp [results,Tryz.results28,go_sem,d0,d1]) rfl ⟨_,rfl,by rw [HEND.out];exact hoe,hbe⟩
theorem qyu {w:World} {b:Nat} {e:TypeId} {size:Nat} {v:Value} {n:Nat} {xs:List Value} (h:w.ownsRow 0 e size v n xs) (hv:∀ k,v.ownBlock=some k->b<=k):w.ownsRow b e size v n xs:=by
 refine ⟨h.1,?_⟩;rcases h.2 with h1|⟨g,cap,cur,h1,h2,h3⟩
 ·exact .inl h1
 ·exact .inr ⟨g,cap,cur,h1,hv g (by rw [h1];rfl),h3⟩
def qpK (l:List En) (w:World) (e:Ending) (w':World):Prop:=∃ v,e= .returned v/\qaP (fun k=>w.heap.size<=k) w' v l/\Below w.heap.size w w'
def qyv (l:List Dc) (start step:Int) (w:World) (o i:Value) (wr:World):Prop:=∃ (k:Nat) (vo:Value),vo=o/\k<=l.length/\i= .int .i64 (k:Int)/\qaP (fun k=>w.heap.size<=k) wr vo (qcl l k start step)/\Below w.heap.size w wr
theorem qyw (A:Option Addr) (n c:Nat) (l:List Dc) (most:Nat) (start step:Int) (w:World) (hl:l.length=n) (hr:qc1 qhg w w.heap.size A l) (hn:n<=9223372036854775807) (hm:most<=100) (hst:0<=start/\start<=1000) (hsp:0<=step/\step<=1000)
    (hf:∀ q∈l,∀ f∈q.2,f.1.length<=9223372036854775807/\f.2.length<=9223372036854775807):
    Calls Tryz.prog 10 #[.slice A n c,.int .i64 (most:Int),.int .i64 start,.int .i64 step] w (qpK (qcl l most start step) w):=by
  obtain ⟨t0,hi0,hz0,hz1,hz2⟩:=info_parts qiQ;have HR:=qH hr;have HF:=qH hf;have HL:=qH hl;obtain ⟨q1,q2⟩:=hst;obtain ⟨q3,q4⟩:=hsp;clear hr hf hl
  go_enter Tryz.func10,Tryz.ntmps10
  go_wp2
  go_loopw [9,10] (fun o i wr=>(qyv l start step w o i wr/\(intOf i)<=most)) (fun _ i _=>n-(intOf i).toNat)
  case atStart=>exact ⟨⟨0,_,rfl,Nat.zero_le _,rfl,qaP.nil,Below.refl _ _⟩,by simp [intOf]⟩
  case round=>
    obtain ⟨⟨k,vo,rfl,hk,rfl,hown,hbw⟩,hkm⟩:=hrel;obtain ⟨wo,rfl⟩:∃ wo,wo=wr:=⟨_,rfl⟩;have hkm':k<=most:=by simpa [intOf] using hkm
    clear hkm;by_cases hlt:k<n/\k<most
    · obtain ⟨hkn,hkm2⟩:=hlt
      have hkl:k<l.length:=by rw [HL.out];exact hkn
      obtain ⟨b,off,A',c',e1,hb,g1,g2,hc1,hc2,hfr⟩:=qsU (qc1.later HR.out hbw) hkl;subst e1;have hq:=HF.out _ (List.getElem_mem hkl);have hsn:=qsR (start:=start) (step:=step) hkl;have HC:=qH (qyt l[k].1 A' l[k].2.length c' l[k].2 wo rfl hfr (by unfold maxLen at hc2;omega) hq);obtain ⟨N,hN⟩:∃ N,N=l[k].2.length:=⟨_,rfl⟩;obtain ⟨q,hq1⟩:∃ q,q=l[k].1:=⟨_,rfl⟩;obtain ⟨g,hg⟩:∃ g,g=qeT l[k].2:=⟨_,rfl⟩;have hgl:g.length<=4:=by rw [hg];exact Nat.le_trans (qiG _ _) (by omega)
      rw [<- hN,<- hq1,<- hg] at HC;rw [<- hN] at g2;rw [<- hq1] at g1;rw [<- hq1,<- hg] at hsn;have hnum:step*(k:Int)<=100000/\0<=step*(k:Int):=by
        refine ⟨?_,Int.mul_nonneg q3 (by omega)⟩;have h1:step*(k:Int)<=1000*(k:Int):=Int.mul_le_mul_of_nonneg_right q4 (by omega);omega
      obtain ⟨z,hz⟩:∃ z,z=step*(k:Int):=⟨_,rfl⟩;rw [<- hz] at hnum hsn;obtain ⟨z0,z1⟩:=hnum;obtain ⟨S,hS⟩:∃ S,S=start+z:=⟨_,rfl⟩;rw [<- hS] at hsn;have hww:IntKind.i64.wrap (start+z)=S:=by rw [hS];exact IntWalk.i64_in _ (by omega)
      have hwz:IntKind.i64.wrap (step*(k:Int))=z:=by rw [<- hz];exact IntWalk.i64_in _ (by omega)
      have hlen:=qiP l k start step;rw [Nat.min_eq_left hk] at hlen;obtain ⟨cs,hcs0,hcsS,hcs2⟩:=hown;have hcs1:=qyu hcs0 hcsS;clear hcs0 hcsS;obtain ⟨G,hG⟩:∃ G,G=qcl l k start step:=⟨_,rfl⟩;rw [<- hG] at hcs1 hcs2 hsn hlen;have HSN:=qH hsn;have HC1:=qH hcs1;have HC2:=qH hcs2;have HBW:=qH hbw;have HLN:=qH hlen;have p0:(0:Int)<=k:=by omega
      have p1:(k:Int)<n:=by omega
      have p2:(k:Int)<most:=by omega
      have hsz:=hbw.size;clear hfr hq hN hq1 hg hz hS hsn hcs1 hcs2 hG hlen hc1 hc2 hbw hb
      go_wp2_with (first
        | (go_at_call 28; (with_reducible refine HC.out.mono ?_); rintro e w3 ⟨v3, rfl, ho3, hb3⟩
           obtain ⟨A3,c3,rfl,hr3⟩:=qeC ho3;have HO3:=qH ho3;have HB3:=qH hb3;have HR3:=qH hr3;have hs3:w.heap.size<=w3.heap.size:=Nat.le_trans hsz hb3.size;clear ho3 hb3 hr3)
        | (at_builtin; refine wpList_append_own _ rfl (.tmp 22) (.tmp 34) 27 rfl w.heap.size 61 t0 _ 3 40 Tryz.underlying27 hi0 hz0 hz1 hz2 rfl (by omega) vo G.length cs rfl ((qan HC1.out HB3.out).alloc _) ⟨_, 0, none⟩ 1 1 [.int .i64 q, .slice A3 g.length c3, .int .i64 S] rfl rfl (qaQ _ [.int .i64 q, .slice A3 g.length c3, .int .i64 S] 61) (by intro u hu; simp at hu; rcases hu with rfl | rfl | rfl <;> rfl) (by have := HLN.out; unfold maxLen; omega) (by have := HLN.out; omega) (by simp; omega) ?_
           intro v5 w5 hown5 hg5 _))
      have hal:Below w3.heap.size w3 (w3.alloc (.cells #[.int .i64 q,.slice A3 g.length c3,.int .i64 S] 61)):=(Below.refl _ _).alloc (Nat.le_refl _) _;have hb5:Below w.heap.size (w3.alloc (.cells #[.int .i64 q,.slice A3 g.length c3,.int .i64 S] 61)) w5:=(Below.refl _ _).grown hg5 (by simp;omega) fun j hj=>(HC1.out.lt j hj).1
      have HB5:=qH (HBW.out.trans ((HB3.out.mono hsz).trans ((hal.mono hs3).trans hb5)));have hpush:=qaP.push (S:=fun k=>w.heap.size<=k) (l:=G) (q:=(q,g,S)) (c:=c3) (A:=A3) (cs:=cs) (qbc ((qan HC1.out HB3.out).alloc _) (Nat.zero_le _)) (HC2.out.imp fun _ _ h=>h.keepO fun k hk=>(HB3.out.trans (hal.mono HB3.out.size)).block k hk.lt) HR3.out.1.1 HR3.out.1.2 ((qcd.of_own HO3.out fun k h1 _=>Nat.le_trans hsz h1).keepO fun k hk=>hal.block k hk.lt) (qbc hown5 (Nat.zero_le _)) hg5 fun k hk=>(hown5.lt k hk).1
      rw [<- HSN.out] at hpush;have HPU:=qH hpush;clear hal hb5 hpush hown5 hg5;go_wp2;refine ⟨⟨⟨k+1,_,rfl,hkl,by go_num,HPU.out,HB5.out⟩,?_⟩,by simp [intOf];omega⟩;simp [intOf];omega
    · have hfin:qcl l k start step=qcl l most start step:=by
        unfold qcl;by_cases h:k=most
        · rw [h]
        · have :=HL.out
          rw [List.take_of_length_le (by omega),List.take_of_length_le (by omega)]
      rw [hfin] at hown;have HO:=qH hown;have HBW:=qH hbw;have h1:(n:Int)<=k∨(k:Int)<n/\(most:Int)<=k:=by omega
      clear hlt hfin hown hbw;rcases h1 with h1|⟨h1,h2⟩
      all_goals
        go_wp2;go_ret;exact ⟨_,rfl,HO.out,HBW.out⟩
theorem qeK {w:World} {b:Nat} {x y z:Value} {t:TypeId} (h:w.heap[b]?=some (.cells #[x,y,z] t (0,0))):w.cell? ⟨b,0,none⟩=some x/\w.cell? ⟨b,1,none⟩=some y/\w.cell? ⟨b,2,none⟩=some z:=by
 simp [World.cell?,h]
structure qbr (S:Nat->Prop) (B M c:Nat) (q:En) (A:Option Addr) (cp:Nat) (v:Value) (L:List En) (x2 x3:Int) (g:List GP) (w wr:World):Prop where
 cells:wr.heap[B]?=some (.cells #[v,.map (some M),.int .i64 x2,.int .i64 x3] 126 (0,0))
 own:qaP (fun k=>S k∨qby w.heap.size wr k) wr v L
 map:qbq (fun k=>S k∨qby w.heap.size wr k) wr M c g
 only:qbK S w wr
 ent:wr.heap[w.heap.size]?=some (.cells #[.int .i64 q.1,.slice A q.2.1.length cp,.int .i64 q.2.2] 61 (0,0))
 mine:S B
 flds:qaA wr w.heap.size A q.2.1
 vE:v.ownBlock≠some w.heap.size
section
variable {S:Nat->Prop} {B M c cp:Nat} {q:En} {A:Option Addr} {v:Value} {L:List En} {x2 x3:Int} {g:List GP} {w wr w':World}
theorem qby.later {a k:Nat} (h:qby a wr k) (hb:wr.heap.size<=w'.heap.size):qby a w' k:=⟨h.1,Nat.lt_of_lt_of_le h.2 hb⟩
theorem qbr.below (h:qbr S B M c q A cp v L x2 x3 g w wr) (hb:Below wr.heap.size wr w'):qbr S B M c q A cp v L x2 x3 g w w':=
  ⟨(hb.block _ (lt_of_block h.cells)).trans h.cells, (h.own.keeps fun k _ hk => hb.block k hk).imp fun k hk => hk.imp id fun hk => hk.later hb.size, (h.map.keep fun k _ hk => hb.block k hk).imp fun k hk => hk.imp id fun hk => hk.later hb.size,
    h.only.trans (qbK.of_below hb),(hb.block _ (lt_of_block h.ent)).trans h.ent,h.mine,h.flds.below (hb.mono h.only.size),h.vE⟩
theorem qbr.row (h:qbr S B M c q A cp v L x2 x3 g w wr):qaA wr wr.heap.size A q.2.1:=h.flds.more h.only.size
theorem qbr.kept (h:qbr S B M c q A cp v L x2 x3 g w wr) (hf:qaN (fun k=>k<w.heap.size/\¬ S k) w A (Go.Proofs.YtpehcaidjlemiaaGreatDoor.flds q.2.1))
  (hs:wr.heap.size<=w'.heap.size) (ho:w'.os=wr.os) (ht:w'.tape=wr.tape) (hou:w'.output=wr.output) {R:Nat->Prop} (hR:∀ k,R k->S k∨qby w.heap.size wr k) (hRE:¬ R w.heap.size) (hk:∀ k,k<wr.heap.size->¬ R k->w'.heap[k]?=wr.heap[k]?):
  qbK S w w'/\w'.heap[w.heap.size]?=some (.cells #[.int .i64 q.1,.slice A q.2.1.length cp,.int .i64 q.2.2] 61 (0,0))/\qaA w' w.heap.size A q.2.1:=by
 have hsz:=h.only.size;have honly:qbK S w w':=⟨ho.trans h.only.os,ht.trans h.only.tape,hou.trans h.only.output,Nat.le_trans h.only.size hs,fun k h1 h2=>(hk k (by omega) fun hr=>(hR k hr).elim h2 fun hr=>by have :=hr.1;omega).trans (h.only.block k h1 h2)⟩;exact ⟨honly,(hk _ (lt_of_block h.ent) hRE).trans h.ent,(hf.keep fun k hk=>honly.block k hk.1 hk.2).imp fun k hk=>hk.1⟩
theorem qbq.keepT {S:Nat->Prop} {w w':World} {M c:Nat} {g:List GP} (h:qbq S w M c g) (hM:w'.heap[M]?=w.heap[M]?) (hk:∀ (k:Nat) (cs:Array Value) (t:TypeId) (fr:Nat × Nat),w.heap[k]?=some (.cells cs t fr)->(t=74∨t=3)->w'.heap[k]?=w.heap[k]?):qbq S w' M c g:=by
 obtain ⟨m,h1,h2,h3,h4,h5⟩:=h;refine ⟨m,hM.trans h1,h2,h3,fun i e p he hp=> ?_,h5⟩;obtain ⟨r1,r2⟩:=h4 i e p he hp;refine ⟨r1,r2.keep (fun k hv=> ?_) fun k hs=> ?_⟩
 ·obtain ⟨cs,q1,_⟩:=r2
  obtain ⟨cs',fr,hh⟩:=qeE q1 hv;exact hk k _ _ _ hh (.inl rfl)
 ·obtain ⟨_,cs',fr,hh,_⟩:=hs
  exact hk k _ _ _ hh (.inr rfl)
theorem qbr.mapB (h:qbr S B M c q A cp v L x2 x3 g w wr) {k:Nat} {cs:Array Value} {t:TypeId} {fr:Nat × Nat} {T:Nat->Prop} (hk:wr.heap[k]?=some (.cells cs t fr)) (ht:t≠74):¬ qfv T wr M k:=fun e=>by
 rcases e with e|⟨_,cs',fr',hh,_⟩
 ·obtain ⟨es,ec,hes⟩:=h.map.map
  rw [<- e,hk] at hes;cases hes
 ·rw [hk] at hh
  injection hh with hh
  injection hh with _ h2 _
  exact ht h2
theorem qbr.turned (h:qbr S B M c q A cp v L x2 x3 g w wr) (hf:qaN (fun k=>k<w.heap.size/\¬ S k) w A (Go.Proofs.YtpehcaidjlemiaaGreatDoor.flds q.2.1)) {w4:World} {g':List GP}
  (hm:qbq (fun k=>(S k∨qby w.heap.size wr k)∨qby wr.heap.size w4 k) w4 M c g') (ho:qbK (qfv (fun k=>S k∨qby w.heap.size wr k) wr M) wr w4):qbr S B M c q A cp v L x2 x3 g' w w4:=by
 have hsz:=h.only.size;have hSM:(S M∨qby w.heap.size wr M):=by obtain ⟨m,_,h2,_⟩:=h.map;exact h2
 obtain ⟨k1,k2,k3⟩:=h.kept hf ho.size ho.os ho.tape ho.output (R:=qfv (fun k=>S k∨qby w.heap.size wr k) wr M) (fun k hk=>hk.elim (fun hk=>hk▸hSM) fun hk=>hk.1) (h.mapB h.ent (by decide)) ho.block;have hkt:∀ (k:Nat) (cs:Array Value) (t:TypeId) (fr:Nat × Nat),wr.heap[k]?=some (.cells cs t fr)->t≠74->w4.heap[k]?=wr.heap[k]?:=fun k cs t fr hk ht=>ho.block k (Array.getElem?_eq_some_iff.1 hk).1 (h.mapB hk ht)
 refine ⟨(hkt _ _ _ _ h.cells (by decide)).trans h.cells,(h.own.keep (fun k hk=> ?_) fun k hk=> ?_).imp fun k hk=>hk.imp id fun hk=>hk.later ho.size,hm.imp fun k hk=> ?_,k1,k2,h.mine,k3,h.vE⟩
 ·obtain ⟨cs,r1,_⟩:=h.own
  obtain ⟨cs',fr,hh⟩:=qeE r1 hk;exact hkt _ _ _ _ hh (by decide)
 ·obtain ⟨_,cs',fr,hh,_⟩:=hk
  exact hkt _ _ _ _ hh (by decide)
 ·rcases hk with (hk|hk)|hk
  ·exact .inl hk
  ·exact .inr (hk.later ho.size)
  ·exact .inr ⟨by have :=hk.1;omega,hk.2⟩
theorem qbr.stored (h:qbr S B M c q A cp v L x2 x3 g w wr) (hf:qaN (fun k=>k<w.heap.size/\¬ S k) w A (Go.Proofs.YtpehcaidjlemiaaGreatDoor.flds q.2.1)) (hB:B<w.heap.size) (y2 y3:Int) (hw:w'.heap[B]?=some (.cells #[v,.map (some M),.int .i64 y2,.int .i64 y3] 126 (0,0)))
  (hk:∀ k,k≠B->w'.heap[k]?=wr.heap[k]?) (hs:w'.heap.size=wr.heap.size) (ho:w'.os=wr.os) (ht:w'.tape=wr.tape) (hou:w'.output=wr.output):qbr S B M c q A cp v L y2 y3 g w w':=by
 have hne:∀ {k:Nat} {cs:Array Value} {t:TypeId} {fr:Nat × Nat},wr.heap[k]?=some (.cells cs t fr)->t≠126->k≠B:=fun hk ht e=>by
  rw [e,h.cells] at hk;injection hk with hk
  injection hk with _ h2 _
  exact ht h2.symm
 obtain ⟨k1,k2,k3⟩:=h.kept hf (by omega) ho ht hou (R:=fun k=>k=B) (fun k hk=> .inl (hk▸h.mine)) (by omega) (fun k _ h1=>hk k h1);refine ⟨hw,(h.own.keep (fun k hk'=> ?_) fun k hk'=> ?_).imp fun k hk=>hk.imp id fun hk=>hk.later (by omega),(h.map.keepT (hk M fun e=> ?_) fun k cs t fr h1 h2=>hk k (hne h1 (by rcases h2 with rfl|rfl<;>decide))).imp fun k hk=>hk.imp id fun hk=>hk.later (by omega),k1,k2,h.mine,k3,h.vE⟩
 ·obtain ⟨cs,r1,_⟩:=h.own
  obtain ⟨cs',fr,hh⟩:=qeE r1 hk';exact hk k (hne hh (by decide))
 ·obtain ⟨_,cs',fr,hh,_⟩:=hk'
  exact hk k (hne hh (by decide))
 ·obtain ⟨es,ec,hes⟩:=h.map.map
  rw [e,h.cells] at hes;cases hes
theorem qbr.push (h:qbr S B M c q A cp v L x2 x3 g w wr) (hf:qaN (fun k=>k<w.heap.size/\¬ S k) w A (Go.Proofs.YtpehcaidjlemiaaGreatDoor.flds q.2.1)) (hB:B<w.heap.size) {A5:Option Addr} {c5:Nat} (ho5:qaG w.heap.size wr (.slice A5 q.2.1.length c5) q.2.1) (hc5:q.2.1.length<=c5/\c5<=maxLen):
  ∃ cs,wr.ownsRow 0 61 3 v L.length cs/\∀ (gg cap:Nat) (w7:World),w7.ownsRow 0 61 3 (.slice (some ⟨gg,0,none⟩) (L.length+1) cap) (L.length+1) (cs++[.int .i64 q.1,.slice A5 q.2.1.length c5,.int .i64 q.2.2])->
   (wr.alloc (.cells #[.int .i64 q.1,.slice A5 q.2.1.length c5,.int .i64 q.2.2] 61)).grownBy w7 v.ownBlock->(v.ownBlock=some gg∨gg=wr.heap.size+1)->gg<w7.heap.size->
   w7.heap[B]?=some (.cells #[v,.map (some M),.int .i64 x2,.int .i64 x3] 126 (0,0))/\w7.heap[w.heap.size]?=some (.cells #[.int .i64 q.1,.slice A q.2.1.length cp,.int .i64 q.2.2] 61 (0,0))/\
    qbr S B M c q A cp (.slice (some ⟨gg,0,none⟩) (L.length+1) cap) (L++[q]) x2 x3 g w (w7.setCell ⟨B,0,none⟩ (.slice (some ⟨gg,0,none⟩) (L.length+1) cap)):=by
 have hsz:=h.only.size;obtain ⟨cs,r1,r2,r3⟩:=h.own;refine ⟨cs,r1,fun gg cap w7 hown hg hat hlt=> ?_⟩;have hal:Below wr.heap.size wr (wr.alloc (.cells #[.int .i64 q.1,.slice A5 q.2.1.length c5,.int .i64 q.2.2] 61)):=(Below.refl _ _).alloc (Nat.le_refl _) _;have hs6:=hal.size;have hs7:=hg.size;have hk7:∀ k,k<wr.heap.size->v.ownBlock≠some k->w7.heap[k]?=wr.heap[k]?:=fun k hk hne=>(hg.block k (by omega) (fun e=>hne e.symm)).trans (hal.block k hk)
 have hkt:∀ (k:Nat) (cs':Array Value) (t:TypeId) (fr:Nat × Nat),wr.heap[k]?=some (.cells cs' t fr)->t≠61->w7.heap[k]?=wr.heap[k]?:=fun k cs' t fr hk ht=>hk7 k (Array.getElem?_eq_some_iff.1 hk).1 (qap r1 hk ht)
 have hB7:=(hkt _ _ _ _ h.cells (by decide)).trans h.cells;have hE7:w7.heap[w.heap.size]?=some (.cells #[.int .i64 q.1,.slice A q.2.1.length cp,.int .i64 q.2.2] 61 (0,0)):=(hk7 _ (lt_of_block h.ent) h.vE).trans h.ent;refine ⟨hB7,hE7,?_⟩;obtain ⟨w8,hw8⟩:∃ w8,w8=w7.setCell ⟨B,0,none⟩ (.slice (some ⟨gg,0,none⟩) (L.length+1) cap):=⟨_,rfl⟩;rw [<- hw8];have hB8:w8.heap[B]?=some (.cells #[.slice (some ⟨gg,0,none⟩) (L.length+1) cap,.map (some M),.int .i64 x2,.int .i64 x3] 126 (0,0)):=by rw [hw8,qcW hB7];rfl
 have ho8:∀ k,k≠B->w8.heap[k]?=w7.heap[k]?:=fun k hk=>by rw [hw8,qdJ (Ne.symm hk)]
 have hs8:w8.heap.size=w7.heap.size:=by rw [hw8];simp
 have h8:w8.os=w7.os/\w8.tape=w7.tape/\w8.output=w7.output:=by rw [hw8];exact ⟨rfl,rfl,rfl⟩
 have hkB:∀ k,v.ownBlock=some k->(S k∨qby w.heap.size wr k):=fun k hk=>r2 k hk
 obtain ⟨k1,k2,k3⟩:=h.kept (w':=w8) hf (by omega) (h8.1.trans (hg.os.trans hal.os)) (h8.2.1.trans (hg.tape.trans hal.tape)) (h8.2.2.trans (hg.output.trans hal.output)) (R:=fun k=>k=B∨v.ownBlock=some k) (fun k hk=>hk.elim (fun hk=> .inl (hk▸h.mine)) fun hk=>hkB k hk) (fun e=>e.elim (fun e=>by omega) h.vE)
  (fun k h1 h2=>(ho8 k fun e=>h2 (.inl e)).trans (hk7 k h1 fun e=>h2 (.inr e)))
 have hne:∀ {k:Nat} {cs:Array Value} {t:TypeId} {fr:Nat × Nat},w7.heap[k]?=some (.cells cs t fr)->t≠126->k≠B:=fun hk ht e=>by
  rw [e,hB7] at hk;injection hk with hk
  injection hk with _ h2 _
  exact ht h2.symm
 have hup:∀ {A:Option Addr} {xs:List Value},qcd (fun k=>S k∨qby w.heap.size wr k) wr A xs->qcd (fun k=>S k∨qby w.heap.size w8 k) (wr.alloc (.cells #[.int .i64 q.1,.slice A5 q.2.1.length c5,.int .i64 q.2.2] 61)) A xs:=fun h=>(h.keepO fun k hk=>hal.block k hk.lt).impS fun k hk=>hk.imp id fun hk=>hk.later (by omega)
 have hpush:=qaP.push (S:=fun k=>S k∨qby w.heap.size w8 k) (q:=q) (qan r1 hal) (r3.imp fun _ _ h=>hup h) hc5.1 hc5.2 (hup (qcd.of_own ho5 fun k a b=> .inr ⟨a,b⟩)) hown hg fun k hk=>by
  simp only [Value.ownBlock,Option.some.injEq] at hk;subst hk;rcases hat with e|e
  ·exact (hkB _ e).imp id fun hk=>hk.later (by omega)
  ·exact .inr ⟨by omega,by omega⟩
 refine ⟨hB8,hpush.keep (fun k hk=> ?_) (fun k hk=> ?_),(h.map.keepT ?_ fun k cs t fr h1 h2=> ?_).imp fun k hk=>hk.imp id fun hk=>hk.later (by omega),k1,k2,h.mine,k3,fun e=> ?_⟩
 ·obtain ⟨cs',fr,hh⟩:=qeE hown hk
  exact ho8 k (hne hh (by decide))
 ·obtain ⟨_,cs',fr,hh,_⟩:=hk
  exact ho8 k (hne hh (by decide))
 ·obtain ⟨es,ec,hes⟩:=h.map.map
  have hM7:w7.heap[M]?=wr.heap[M]?:=hk7 M (Array.getElem?_eq_some_iff.1 hes).1 fun e=>by
   obtain ⟨cs',fr,hh⟩:=qeE r1 e;rw [hes] at hh;cases hh
  have hMB:M≠B:=fun e=>by
   rw [<- hM7,e,hB7] at hes;cases hes
  rw [ho8 M hMB,hM7]
 ·have h7:=hkt _ _ _ _ h1 (by rcases h2 with rfl|rfl<;>decide)
  rw [ho8 k (hne (h7.trans h1) (by rcases h2 with rfl|rfl<;>decide)),h7]
 ·simp only [Value.ownBlock,Option.some.injEq] at e
  rcases hat with e2|e2
  ·exact h.vE (by rw [e2,e])
  ·omega
theorem qbr.done (h:qbr S B M c q A cp v (L++[q]) (qdd (L++[q]):Int) q.2.2 (qbY L.length q.2.1 g (qas q.2.1)) w wr) (hS:∀ k,S k->k<w.heap.size) (hst:qdR g L) (hgd:qcQ L) (hq:qdy q.2.1) (hs:0<=q.2.2):qcJ (fun k=>S k∨qby w.heap.size wr k) wr B (L++[q]) q.2.2:=
 ⟨v,M,c,_,h.cells,.inl h.mine,h.own,h.map,hst.turned q,hgd.snoc hq,by omega,fun _=>(qmr L q).symm,fun k hk=>hk.elim (fun hk=>Nat.lt_of_lt_of_le (hS k hk) h.only.size) fun hk=>hk.2⟩
end
section
variable {id:Int} {A:Option Addr} {n c:Nat} {l:List Fd} {w:World}
theorem qyx (hg:qdy l) (hl:l.length=n) (hr:qaA w w.heap.size A l):Calls Tryz.prog 104 #[qc0 id A n c] w (qpA (qas l) ((qas l).map (qaX l)) w):=
 qyk id A n c l w hl hr (by have :=hg.len;omega) (fun f hf=>by have :=hg.names f hf;have :=hg.texts f hf;omega) (fun f hf=>by have :=hg.wordsF f hf;omega) hg.apart hg.zero
theorem qyy (hg:qdy l) (hl:l.length=n) (hr:qaA w w.heap.size A l):Calls Tryz.prog 65 #[qc0 id A n c] w fun e w'=>e= .returned (.int .i64 (qew l:Int))/\Below w.heap.size w w':=by
 rw [<- qmk hg.apart];exact qye id A n c l w hl hr (by have :=hg.len;omega) (fun f hf=>by have :=hg.texts f hf;omega) (fun f hf=>by have :=hg.wordsF f hf;omega)
end
theorem qyz {z:ByteArray} {t:Nm} (h:z.data.toList=t):kV t= .string z:=by
 subst h;unfold kV;simp
def qkE (S:Nat->Prop) (M c i:Nat) (d:List Fd) (g:List GP) (w:World) (e:Ending) (w':World):Prop:=
 e= .returned (.tuple #[])/\qbq (fun k=>S k∨qby w.heap.size w' k) w' M c (qbY i d g (qas d))/\qbK (qfv S w M) w w'
def qyA (S:Nat->Prop) (M c i:Nat) (d:List Fd) (g:List GP) (ts:List Tm) (V1 V2:Value) (w:World) (x:Value) (wr:World):Prop:=
 ∃ j:Nat,j<=ts.length/\x= .int .i64 (j:Int)/\qd8 S M c i d g ts V1 V2 w j wr
theorem qyB (S:Nat->Prop) (B M c:Nat) (g:List GP) (v0 x2 x3:Value) (id:Int) (A:Option Addr) (n cp:Nat) (d:List Fd) (i:Nat) (w:World)
    (hB:w.heap[B]?=some (.cells #[v0,.map (some M),x2,x3] 126 (0,0))) (hm:qbq S w M c g) (hg:qdy d) (hl:d.length=n) (hr:qaA w w.heap.size A d) (hi:i<=1000) (hbd:∀ key,(qbB g key).length<=8000000):
    Calls Tryz.prog 63 #[.pointer (some ⟨B,0,none⟩),qc0 id A n cp,.int .i64 (i:Int)] w (qkE S M c i d g w):=by
  obtain ⟨t0,hi0,hz0,hz1,hz2⟩:=info_parts qfX;have hM:=hm.lt;have hlB:=lt_of_block hB;have hBM:B≠M:=fun e=>by
    obtain ⟨es,ec,hes⟩:=hm.map;rw [<- e,hB] at hes;cases hes
  have HBK:Hid (∀ w',qbK (qfv S w M) w w'->w'.heap[B]?=some (.cells #[v0,.map (some M),x2,x3] 126 (0,0))):=qH fun w' h=>(h.block B hlB fun e=>by
    rcases e with e|⟨_,cs,fr,hh,_⟩
    · exact hBM e
    · rw [hB] at hh
      injection hh with hh
      injection hh with _ h2 _
      exact absurd h2 (by decide)).trans hB
  have hb1:=qf3 w id A n cp;have HINV:=qH (qyx (id:=id) (c:=cp) hg hl (hr.later hb1));have htl:(qas d).length<=4000:=by
    have h1:=qhN (l:=d) (M:=500) hg.wordsS d.length (Nat.le_refl _);rw [qjT] at h1;exact Nat.le_trans h1 (Nat.le_trans (Nat.mul_le_mul_right _ hg.len) (by omega))
  have hfit:∀ t∈qas d,t.1.length<=12/\t.2.length<=4096:=fun t ht=>by
    obtain ⟨f,hf,h1,h2⟩:=(qgq t d).1 ((qhc hg.apart t).1 ht);have :=hg.names f hf;have :=hg.texts f hf;have :=qlu h2;rw [h1];omega
  have hpl:∀ t,(qaX d t).length<=500:=fun t=>Nat.le_trans (qiD _ _ _) (hg.wordsS _)
  obtain ⟨ts,hts⟩:∃ ts,ts=qas d:=⟨_,rfl⟩;have hnb:∀ j key,(qbB (qbY i d g (ts.take j)) key).length<=8004000:=fun j key=>by
    rw [qiY,List.length_append];have h1:=hbd key;have h2:(qbe i d (ts.take j) key).length<=(ts.take j).length:=by
      unfold qbe;rw [List.length_map];exact List.length_filter_le _ _
    have h3:ts.length<=4000:=by rw [hts];exact htl
    rw [List.length_take] at h2;omega
  have HG:Hid (∀ e w',qkE S M c i d g w e w'↔(e= .returned (.tuple #[])/\qbq (fun k=>S k∨qby w.heap.size w' k) w' M c (qbY i d g ts)/\qbK (qfv S w M) w w')):=qH fun e w'=>by rw [hts];rfl
  rw [<- hts] at HINV htl hfit;have HFIT:=qH hfit;have HPL:=qH hpl;have HNB:=qH hnb;have HMP:=qH hm;have HB1:=qH hb1;clear hm hg hr hbd hfit hpl hnb hts hBM hB hb1
  go_enter Tryz.func63,Tryz.ntmps63
  obtain ⟨w1,hw1⟩:∃ w1,w1=qbD w id A n cp:=⟨_,rfl⟩;rw [<- hw1] at HINV HB1
  go_wp2_with (first
    | (go_at_call 104; rw [show w.alloc _ = w1 from hw1.symm]; (with_reducible refine HINV.out.mono ?_); rintro e w2 ⟨V1, V2, rfl, ho1, ho2, hb2⟩
       obtain ⟨A1,c1,rfl,hc1,hu1⟩:=ho1.row;obtain ⟨A2,c2,rfl,hc2,hu2⟩:=ho2.rows;clear hu1 hu2;rw [List.length_map] at hc2 ⊢;obtain ⟨N,hN⟩:∃ N,N=ts.length:=⟨_,rfl⟩;have hstart:qd8 S M c i d g ts (.slice A1 ts.length c1) (.slice A2 ts.length c2) w 0 w2:=by
         have hbw:=HB1.out.trans (hb2.mono HB1.out.size);have hs1:=HB1.out.size;rw [List.length_map] at ho2;exact ⟨(HMP.out.keep fun k _ hk=>hbw.block k hk).imp fun k hk=> .inl hk,qbK.of_below hbw,ho1.low hs1,ho2.low hs1 hs1⟩
       have HST:=qH hstart;have HHN:=qH hN;rw [<- hN] at HST htl hc1 hc2 ⊢;have HHW:=qH hw1;clear ho1 ho2 hb2 hstart hN hw1))
  go_loopw [18] (fun x wr=>qyA S M c i d g ts (.slice A1 N c1) (.slice A2 N c2) w x wr) (fun x _=>N-(intOf x).toNat)
  case atStart=>exact ⟨0,Nat.zero_le _,rfl,HST.out⟩
  case round=>
    obtain ⟨j,hj,rfl,hat⟩:=hrel;by_cases hlt:j<N
    · have hjl:j<ts.length:=by rw [<- HHN.out];exact hlt
      obtain ⟨A3,c3,e3,hu3,hr3⟩:=qbJ.row hat.terms;clear hu3;rw [HHN.out] at hat;have hA3:A3=A1:=by injection e3 with e _ _;exact e.symm
      clear e3;subst hA3;obtain ⟨b1,o1,rfl,hb1,hx4,hy4⟩:=hr3.at_ hjl;obtain ⟨x,hx,hx2⟩:=qbW ts[j].1;obtain ⟨y,hy,hy2⟩:=qbW ts[j].2;rw [<- hx] at hx4;rw [<- hy] at hy4;have hf:=HFIT.out _ (List.getElem_mem hjl);have CK:=qH (fun w'=>qkx x y w' (by rw [hx,qeV];omega) (by rw [hy,qeV];omega));have qaF:(qcP x y).data.toList=qae ts[j]:=by rw [qgh,hx2,hy2];rfl
      obtain ⟨z,hz⟩:∃ z,z=qcP x y:=⟨_,rfl⟩;rw [<- hz] at CK qaF;have hkv:=qyz qaF;have j0:(0:Int)<=j:=by omega
      have j1:(j:Int)<N:=by omega
      have HAT:=qH hat;have HKV:=qH hkv;clear hat hr3 hx hx2 hy hy2 hf qaF hz hkv
      go_upto_region 6 with (first
        | (go_at_call 58; (with_reducible refine (CK.out _).mono ?_); rintro e w3 ⟨rfl, hg3⟩
           have HB3:=qH hg3.below;clear hg3))
      have hb3:Below wr.heap.size wr w3:=((Below.refl _ wr).alloc (Nat.le_refl _) _).trans (HB3.out.mono (by simp));have hat3:=HAT.out.below hb3;have hBK:=HBK.out w3 hat3.only;obtain ⟨bq,oq,A',c',⟨c9,e9⟩,⟨csq,frq,hhq⟩,hcq,hpc,hpx,hrow⟩:=hat3.places hjl;have hA2:A2=some ⟨bq,oq,none⟩:=by injection e9
      clear e9;subst hA2;obtain ⟨v,nn,cs,m,hmk,hv,hnn,hown,hput⟩:=hat3.put hjl hM;have hput2:=hput A' c' hrow hpc hpx;have hnb:=HNB.out j (qae ts[j]);rw [<- hnn] at hnb;have hp5:=HPL.out ts[j];obtain ⟨pl,hpl⟩:∃ pl,pl=qaX d ts[j]:=⟨_,rfl⟩;rw [<- hpl] at hput2 hp5 hcq hpc;have hlook:∀ w',qa2 w' M c m->(Instr.lookup 124 (.map (some M)) (.string z) false).run Tryz.prog w'= .ok v w':=fun w' h=>by
        rw [<- HKV.out,hv];exact qn3 h _
      have hl0:=hlook w3.drew hmk;have hl1:∀ o,_:=fun o=>hlook (w3.drew.alloc o) ((((Below.refl _ w3).drew.alloc (Nat.le_refl _) o).block M (Array.getElem?_eq_some_iff.1 hmk).1).trans hmk)
      have hl2:∀ o,_:=fun o=>hlook ((w3.alloc o).drew) ((((Below.refl _ w3).alloc (Nat.le_refl _) o).block M (Array.getElem?_eq_some_iff.1 hmk).1).trans hmk)
      have HS:Hid (∀ w',Below w3.heap.size w3 w'->w'.cell? ⟨B,1,none⟩=some (.map (some M))/\w'.cell? ⟨bq,oq+j,none⟩=some (.slice A' pl.length c')):=qH fun w' h=>
        ⟨(qcc ((h.block _ (lt_of_block hBK)).trans hBK)).2.1,(h.cell (p:=⟨bq,_,none⟩) (lt_of_block hhq)).trans hcq⟩
      have HAPP:Hid (∀ (gg cap:Nat) (w5:World),w5.ownsRow 0 74 2 (.slice (some ⟨gg,0,none⟩) (nn+1) cap) (nn+1) (cs++[.int .i64 i,.slice A' pl.length c'])->
          (w3.drew.alloc (.cells #[.int .i64 i,.slice A' pl.length c'] 74)).grownBy w5 v.ownBlock->(v.ownBlock=some gg∨gg=w3.heap.size+1)->gg<w5.heap.size->
          ∃ w6,(Instr.mapUpdate 124 (.map (some M)) (.string z) (.slice (some ⟨gg,0,none⟩) (nn+1) cap)).run Tryz.prog w5= .ok () w6/\
            (w5.cell? ⟨B,1,none⟩=some (.map (some M))/\w5.cell? ⟨bq,oq+j,none⟩=some (.slice A' pl.length c'))/\
            (w6.cell? ⟨B,1,none⟩=some (.map (some M))/\w6.cell? ⟨bq,oq+j,none⟩=some (.slice A' pl.length c'))/\qd8 S M c i d g ts (.slice (some ⟨b1,o1,none⟩) N c1) (.slice (some ⟨bq,oq,none⟩) N c2) w (j+1) w6):=qH fun gg cap w5 h1 h2 h3 h4=>by
        obtain ⟨hM5,hk5,hnM,hfin⟩:=hput2 gg cap w5 h1 h2 h3 h4;obtain ⟨w6,hrun,hM6,hg6⟩:=quW hM5 (qae ts[j]) (.slice (some ⟨gg,0,none⟩) (nn+1) cap);rw [HKV.out] at hrun;have hkB:=(hk5 B (lt_of_block hBK) (qap hown hBK (by decide))).trans hBK;have hkq:=hk5 bq (lt_of_block hhq) (qap hown hhq (by decide));have hM':∀ {k:Nat} {cs:Array Value} {t:TypeId} {fr:Nat × Nat},w5.heap[k]?=some (.cells cs t fr)->w6.heap[k]?=w5.heap[k]?:=fun {k cs t fr} h=>hg6.block k (Array.getElem?_eq_some_iff.1 h).1 fun e=>by
          cases e;unfold qa2 at hM5;rw [hM5] at h;cases h
        have hq5:w5.cell? ⟨bq,oq+j,none⟩=some (.slice A' pl.length c'):=(World.cell?_of_block (a:=⟨bq,_,none⟩) hkq).trans hcq;exact ⟨w6,hrun,⟨(qcc hkB).2.1,hq5⟩,⟨(qcc ((hM' hkB).trans hkB)).2.1,(World.cell?_of_block (a:=⟨bq,_,none⟩) (hM' (hkq.trans hhq))).trans hq5⟩,by rw [HHN.out];exact hfin w6 hM6 hg6⟩
      have HOW:=qH hown;clear hb3 hat3 hBK hhq hcq hrow hmk hv hnn hown hput hput2 hpl hlook hpx hx4 hy4
      go_region_held3 (fun w'=>w'.cell? ⟨B,1,none⟩=some (.map (some M))/\w'.cell? ⟨bq,oq+j,none⟩=some (.slice A' pl.length c'))
        (first|exact HS.out _ (Below.refl _ _).drew|exact HS.out _ ((Below.refl _ _).drew.alloc (Nat.le_refl _) _)|exact HS5.out|exact HS6.out)
        (first
          | (refine step_append_lies _ (by rfl) _ _ _ (by rfl) 0 74 t0 _ 2 32 Tryz.underlying71 hi0 hz0 hz1 hz2 rfl (by omega) v nn cs (by rfl) ((qan HOW.out ((Below.refl _ w3).drew)).alloc _)
              ⟨w3.heap.size,0,none⟩ 1 1 [.int .i64 i,.slice A' pl.length c'] (by rfl) (by rfl) (World.news_of_block (cs:=#[.int .i64 i,.slice A' pl.length c']) (t:=74) (fr:=(0,0)) (heap_alloc_new w3.drew _)) (by intro u hu;simp at hu;rcases hu with hu|hu<;>(subst hu;rfl))
              (by omega) (by unfold maxLen;omega) (by omega) (by simp) (w3.heap.size+1) (by simp) ?_
             intro gg cap w5 hown5 hg5 hat5 hlt5;obtain ⟨w6,hrun6,hs5,hs6,hfin⟩:=HAPP.out gg cap w5 hown5 hg5 hat5 hlt5;have HS5:=qH hs5;have HS6:=qH hs6;have HFIN:=qH hfin;clear hs5 hs6 hfin hown5 hg5 hat5))
      all_goals
        go_wp2;exact ⟨⟨j+1,hjl,by go_num,HFIN.out⟩,by simp [intOf];omega⟩
    · have hjt:j=ts.length:=by have :=HHN.out;omega
      subst hjt;have h1:=hat.map;have h2:=hat.only;rw [List.take_length] at h1;clear hat;go_wp2
      go_end0
      exact (HG.out _ _).2 ⟨rfl,h1,h2⟩
end Go.Proofs.YtpehcaidjlemiaaGreatDoor
