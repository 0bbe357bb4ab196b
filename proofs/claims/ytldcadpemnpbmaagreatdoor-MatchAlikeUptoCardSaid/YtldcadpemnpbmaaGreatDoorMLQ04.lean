import Derived.Test.YtldcadpemnpbmaaGreatDoorMLZz
import Derived.Sort.OwnSorted
import Derived.Test.YtldcadpemnpbmaaGreatDoorMLQ02
import Derived.Test.YtldcadpemnpbmaaGreatDoorMLQ03
import Derived.Deep.AppendLies
import Derived.Test.YtldcadpemnpbmaaGreatDoorMLQ01
import Derived.Deep.SlicePairs
import Derived.ProofKit
import Derived.OpenShut
set_option linter.unusedVariables false
namespace Go.Proofs.YtldcadpemnpbmaaGreatDoor
open Go Go.RowKit Go.Sort
def OwnNm (base:Nat) (w:World) (v:Value) (l:List Nm):Prop:=w.ownsRow base 9 1 v l.length (strs l)
theorem OwnNm.below {base:Nat} {w w':World} {v:Value} {l:List Nm} (h:OwnNm base w v l) (hb:Below w.heap.size w w'):OwnNm base w' v l:=owned_below h hb
theorem OwnNm.low {base b:Nat} {w:World} {v:Value} {l:List Nm} (h:OwnNm base w v l) (hb:b≤base):OwnNm b w v l:=owned_low h hb
theorem OwnNm.row {base:Nat} {w:World} {v:Value} {l:List Nm} (h:OwnNm base w v l):∃ A c,v= .slice A l.length c∧l.length≤c∧Row w w.heap.size A (strs l):=owned_row h
theorem OwnNm.nil {base:Nat} {w:World}:OwnNm base w (.slice none 0 0) []:=World.ownsRow_nil _ _ _ _
def GaveNm (l:List Nm) (w:World) (e:Ending) (w':World):Prop:=∃ v,e= .returned v∧OwnNm w.heap.size w' v l∧Below w.heap.size w w'
theorem less_of {x y:Nm}:Op.bytesLess x y=decide (x<y):=bytesLess_eq x y
theorem row_nm {w:World} {B:Nat} {A:Option Addr} {xs:List Nm} (h:Row w B A (strs xs)) {k:Nat} (hk:k<xs.length):
  ∃ b off,A=some ⟨b,off,none⟩∧b<B∧w.cell? ⟨b,off+k,none⟩=some (.string ⟨xs[k].toArray⟩):=row_str h hk
theorem as_text (x:Nm):∃ t:ByteArray,t=⟨x.toArray⟩∧t.data.toList=x:=⟨_,rfl,rfl⟩
theorem size_nm (x:Nm):(⟨x.toArray⟩:ByteArray).size=x.length:=List.size_toArray
theorem less_true {s t:ByteArray} (h:s.data.toList<t.data.toList):Op.bytesLess s.toList t.toList=true:=by rw [Lib.toList_data,Lib.toList_data,less_of];exact decide_eq_true h
theorem less_false {s t:ByteArray} (h:¬ s.data.toList<t.data.toList):Op.bytesLess s.toList t.toList=false:=by rw [Lib.toList_data,Lib.toList_data,less_of];exact decide_eq_false h
theorem same_true {s t:ByteArray} (h:s.data.toList=t.data.toList):(s.toList==t.toList)=true:=by rw [Lib.toList_data,Lib.toList_data,h];exact beq_self_eq_true _
theorem same_false {s t:ByteArray} (h:s.data.toList≠t.data.toList):(s.toList==t.toList)=false:=by rw [Lib.toList_data,Lib.toList_data];simpa using h
theorem strs_append (a b:List Nm):strs (a++b)=strs a++strs b:=by simp [strs]
theorem Row.later {w w':World} {A:Option Addr} {xs:List Value} (h:Row w w.heap.size A xs) (hb:Below w.heap.size w w'):Row w' w'.heap.size A xs:=(h.below hb).more hb.size
end Go.Proofs.YtldcadpemnpbmaaGreatDoor
set_option linter.unusedVariables false
namespace Go.Proofs.YtldcadpemnpbmaaGreatDoor
open Go Go.RowKit
def flds:List Fd→List Value
 |[]=>[]
 |f::l=> .string ⟨f.1.toArray⟩:: .string ⟨f.2.toArray⟩::flds l
theorem flds_length:∀ l:List Fd,(flds l).length=l.length*2
 |[]=>rfl
 |f::l=>by simp only [flds,List.length_cons,flds_length l];omega
theorem flds_append:∀ a b:List Fd,flds (a++b)=flds a++flds b
 |[],_=>rfl
 |f::a,b=>by simp [flds,flds_append a b]
theorem flds_at:∀ {l:List Fd} {k:Nat} (hk:k<l.length),(flds l)[k*2]?=some (.string ⟨l[k].1.toArray⟩)∧(flds l)[k*2+1]?=some (.string ⟨l[k].2.toArray⟩)
 |[],_,h=>by simp at h
 |f::l,0,_=>⟨rfl,rfl⟩
 |f::l,k+1,h=>by
  have :=flds_at (l:=l) (k:=k) (by simpa using h)
  rw [show (k+1)*2=k*2+1+1 by omega]
  simpa [flds] using this
theorem flds_take:∀ (l:List Fd) (k:Nat),flds (l.take k)=(flds l).take (k*2)
 |l,0=>by simp [flds]
 |[],k+1=>by simp [flds]
 |f::l,k+1=>by rw [show (k+1)*2=k*2+1+1 by omega];simp [flds,flds_take l k]
theorem flds_oneCell:∀ (l:List Fd),∀ u∈flds l,u.oneCell'=true
 |[],u,h=>by cases h
 |f::l,u,h=>by
  simp only [flds,List.mem_cons] at h
  rcases h with rfl|rfl|h
  ·rfl
  ·rfl
  ·exact flds_oneCell l u h
def FRow (w:World) (B:Nat) (A:Option Addr) (l:List Fd):Prop:=Row w B A (flds l)
theorem FRow.below {w w':World} {B:Nat} {A:Option Addr} {l:List Fd} (h:FRow w B A l) (hb:Below B w w'):FRow w' B A l:=Row.below h hb
theorem FRow.more {w:World} {B B':Nat} {A:Option Addr} {l:List Fd} (h:FRow w B A l) (hB:B≤B'):FRow w B' A l:=Row.more h hB
theorem FRow.nil {w:World} {B:Nat} {A:Option Addr}:FRow w B A []:=Row.nil
theorem FRow.later {w w':World} {A:Option Addr} {l:List Fd} (h:FRow w w.heap.size A l) (hb:Below w.heap.size w w'):FRow w' w'.heap.size A l:=(h.below hb).more hb.size
theorem FRow.at_ {w:World} {B:Nat} {A:Option Addr} {l:List Fd} (h:FRow w B A l) {k:Nat} (hk:k<l.length):
  ∃ b off,A=some ⟨b,off,none⟩∧b<B∧w.cell? ⟨b,off+k*2,none⟩=some (.string ⟨l[k].1.toArray⟩)∧w.cell? ⟨b,off+k*2+1,none⟩=some (.string ⟨l[k].2.toArray⟩):=by
 obtain ⟨b,off,rfl,hb,hc⟩:=Row.at_ h (by rw [flds_length];omega)
 obtain ⟨g1,g2⟩:=flds_at hk
 exact ⟨b,off,rfl,hb,hc _ _ g1,by have :=hc _ _ g2;rwa [← Nat.add_assoc] at this⟩
abbrev docV (id:Int) (A:Option Addr) (n c:Nat):Value:= .agg #[.int .i64 id,.slice A n c]
theorem info_field:(Tryz.prog.info? 77).map (fun i=>(i.zero,i.size,i.bytes))=some (some (.agg #[.string ByteArray.empty,.string ByteArray.empty]),2,32):=by kernel_rfl
end Go.Proofs.YtldcadpemnpbmaaGreatDoor
namespace Go.Proofs.YtldcadpemnpbmaaGreatDoor
open Go Go.RowKit
set_option linter.unusedVariables false
def OwnTm (base:Nat) (w:World) (v:Value) (l:List Tm):Prop:=w.ownsRow base 23 2 v l.length (flds l)
def OwnFd (base:Nat) (w:World) (v:Value) (l:List Fd):Prop:=w.ownsRow base 77 2 v l.length (flds l)
theorem OwnTm.below {base:Nat} {w w':World} {v:Value} {l:List Tm} (h:OwnTm base w v l) (hb:Below w.heap.size w w'):OwnTm base w' v l:=owned_below h hb
theorem OwnTm.low {base b:Nat} {w:World} {v:Value} {l:List Tm} (h:OwnTm base w v l) (hb:b≤base):OwnTm b w v l:=owned_low h hb
theorem OwnTm.row {base:Nat} {w:World} {v:Value} {l:List Tm} (h:OwnTm base w v l):∃ A c,v= .slice A l.length c∧l.length≤c∧FRow w w.heap.size A l:=owned_row h
theorem OwnTm.nil {base:Nat} {w:World}:OwnTm base w (.slice none 0 0) []:=World.ownsRow_nil _ _ _ _
theorem OwnFd.below {base:Nat} {w w':World} {v:Value} {l:List Fd} (h:OwnFd base w v l) (hb:Below w.heap.size w w'):OwnFd base w' v l:=owned_below h hb
theorem OwnFd.low {base b:Nat} {w:World} {v:Value} {l:List Fd} (h:OwnFd base w v l) (hb:b≤base):OwnFd b w v l:=owned_low h hb
theorem OwnFd.row {base:Nat} {w:World} {v:Value} {l:List Fd} (h:OwnFd base w v l):∃ A c,v= .slice A l.length c∧l.length≤c∧FRow w w.heap.size A l:=owned_row h
theorem OwnFd.nil {base:Nat} {w:World}:OwnFd base w (.slice none 0 0) []:=World.ownsRow_nil _ _ _ _
theorem FRow.cut {w:World} {B:Nat} {A:Option Addr} {l:List Fd} (h:FRow w B A l) (k:Nat):FRow w B A (l.take k):=by
 have :=Row.cut h (k*2)
 rwa [← flds_take] at this
theorem frow_new (w:World) (x:Fd) (t:TypeId):FRow (w.alloc (.cells #[.string ⟨x.1.toArray⟩,.string ⟨x.2.toArray⟩] t)) (w.alloc (.cells #[.string ⟨x.1.toArray⟩,.string ⟨x.2.toArray⟩] t)).heap.size (some ⟨w.heap.size,0,none⟩) [x]:=by
 refine .inr ⟨w.heap.size,0,rfl,by simp,fun j u hu=> ?_⟩
 have :=news_at w (flds [x]) t j u hu
 rw [Addr.add_lit] at this
 exact this
theorem info_term:(Tryz.prog.info? 23).map (fun i=>(i.zero,i.size,i.bytes))=some (some (.agg #[.string ByteArray.empty,.string ByteArray.empty]),2,32):=by kernel_rfl
theorem wpList_append_fd {ops:Array Oper} {rest:List Oper} {o:Oper} {a:Act} {Q:Exit→Act→World→Prop} (w:World) (hgd:o.guard=none) (s x:Operand)
  (ho:o.op= .call {callee:= .builtin .append,args:=#[s,x],argTypes:=#[78,78]})
  (base:Nat) (v:Value) (l:List Fd) (hs:a.eval s=v) (hown:OwnFd base w v l) (A:Option Addr) (m c:Nat) (news:List Fd) (hx:a.eval x= .slice A m c) (hl:news.length=m) (hr:FRow w w.heap.size A news)
  (hlen:l.length+m≤1073741824) (hbase:base≤w.heap.size)
  (h:∀ v' w',OwnFd base w' v' (l++news)→Below base w w'→w.grownBy w' v.ownBlock→wpList Tryz.prog ops Q rest (a.put o.dst v') w'):wpList Tryz.prog ops Q (o::rest) a w:=by
 obtain ⟨i0,hi0,hz0,hz1,hz2⟩:=info_parts info_field
 refine wpList_append_row w hgd s x 78 ho base 77 i0 _ 2 32 Tryz.underlying78 hi0 hz0 hz1 hz2 rfl (by decide) v l.length (flds l) hs hown w.heap.size A m c (flds news) hx (by rw [flds_length,hl]) hr (flds_oneCell _) (by unfold maxLen;omega) (by omega) hbase fun v' w' h1 h2=>h v' w' ?_ ?_ h2
 ·unfold OwnFd
  rw [List.length_append,hl,flds_append]
  exact h1
 ·exact (Below.refl base w).grown h2 hbase fun k hk=>(hown.lt k hk).1
end Go.Proofs.YtldcadpemnpbmaaGreatDoor
set_option linter.unusedVariables false
namespace Go.Proofs.YtldcadpemnpbmaaGreatDoor
open Go
def tellF (s:Nm):Nat→List Nm→List (Tm × Int)
 |_,[]=>[]
 |i,x::l=>((s,x),(i:Int))::tellF s (i+1) l
theorem tellF_append (s:Nm):∀ (l:List Nm) (i:Nat) (x:Nm),tellF s i (l++[x])=tellF s i l++[((s,x),((i+l.length:Nat):Int))]
 |[],i,x=>rfl
 |y::l,i,x=>by
  rw [List.cons_append,tellF,tellF,tellF_append s l (i+1) x,List.cons_append,List.length_cons,Nat.add_assoc,Nat.add_comm 1]
theorem tellF_succ (s:Nm) {l:List Nm} {k:Nat} (hk:k<l.length):tellF s 0 (l.take (k+1))=tellF s 0 (l.take k)++[((s,l[k]),(k:Int))]:=by
 rw [List.take_succ_eq_append_getElem hk,tellF_append,List.length_take,Nat.zero_add,Nat.min_eq_left (by omega)]
theorem tellF_length (s:Nm):∀ (l:List Nm) (i:Nat),(tellF s i l).length=l.length
 |[],_=>rfl
 |x::l,i=>by rw [tellF,List.length_cons,tellF_length s l,List.length_cons]
def tellD:List Fd→List (Tm × Int)
 |[]=>[]
 |f::l=>tellF f.1 0 (words f.2)++tellD l
theorem tellD_append:∀ (l:List Fd) (f:Fd),tellD (l++[f])=tellD l++tellF f.1 0 (words f.2)
 |[],f=>by simp [tellD]
 |g::l,f=>by rw [List.cons_append,tellD,tellD,tellD_append l f,List.append_assoc]
theorem tellD_succ {l:List Fd} {k:Nat} (hk:k<l.length):tellD (l.take (k+1))=tellD (l.take k)++tellF l[k].1 0 (words l[k].2):=by
 rw [List.take_succ_eq_append_getElem hk,tellD_append]
abbrev Gr:=Tm × List Int
def addG:List Gr→Tm→Int→List Gr
 |[],t,a=>[(t,[a])]
 |p::g,t,a=>if p.1=t then (p.1,p.2++[a])::g else p::addG g t a
def groupsT (s:List (Tm × Int)):List Gr:=s.foldl (fun g p=>addG g p.1 p.2) []
theorem groupsT_snoc (s:List (Tm × Int)) (t:Tm) (a:Int):groupsT (s++[(t,a)])=addG (groupsT s) t a:=by
 unfold groupsT
 rw [List.foldl_append]
 rfl
def getG:List Gr→Tm→List Int
 |[],_=>[]
 |p::g,t=>if p.1=t then p.2 else getG g t
theorem getG_add (t u:Tm) (a:Int):∀ g:List Gr,getG (addG g t a) u=if t=u then getG g u++[a] else getG g u
 |[]=>by by_cases h:t=u<;>simp [addG,getG,h]
 |p::g=>by
  rw [addG]
  by_cases h1:p.1=t
  ·rw [if_pos h1,getG,getG]
   by_cases h2:t=u
   ·rw [if_pos h2,if_pos (h1.trans h2),if_pos (h1.trans h2)]
   ·rw [if_neg h2,if_neg (fun e=>h2 (h1.symm.trans e)),if_neg (fun e=>h2 (h1.symm.trans e))]
  ·rw [if_neg h1,getG,getG,getG_add t u a g]
   by_cases h2:p.1=u
   ·rw [if_pos h2,if_pos h2,if_neg (fun e=>h1 (h2.trans e.symm))]
   ·rw [if_neg h2,if_neg h2]
def placesS (s:List (Tm × Int)) (t:Tm):List Int:=(s.filter fun p=>decide (p.1=t)).map (·.2)
theorem getG_fold (t:Tm):∀ (s:List (Tm × Int)) (g:List Gr),getG (s.foldl (fun g p=>addG g p.1 p.2) g) t=getG g t++placesS s t
 |[],g=>by simp [placesS]
 |p::s,g=>by
  rw [List.foldl_cons,getG_fold t s,getG_add]
  unfold placesS
  by_cases h:p.1=t<;>simp [h]
theorem getG_groups (s:List (Tm × Int)) (t:Tm):getG (groupsT s) t=placesS s t:=by
 rw [groupsT,getG_fold]
 rfl
theorem keys_add (t:Tm) (a:Int):∀ g:List Gr,(addG g t a).map (·.1)=if t∈g.map (·.1) then g.map (·.1) else g.map (·.1)++[t]
 |[]=>rfl
 |p::g=>by
  have ih:=keys_add t a g
  rw [addG]
  by_cases h:p.1=t
  ·rw [if_pos h,if_pos (by simp [h])]
   rfl
  ·rw [if_neg h,List.map_cons,ih,List.map_cons]
   by_cases h2:t∈g.map (·.1)
   ·rw [if_pos h2,if_pos (List.mem_cons_of_mem _ h2)]
   ·rw [if_neg h2,if_neg]
    ·rfl
    ·intro h3
     rcases List.mem_cons.1 h3 with h3|h3
     ·exact h h3.symm
     ·exact h2 h3
theorem keys_nodup_add {g:List Gr} (h:(g.map (·.1)).Nodup) (t:Tm) (a:Int):((addG g t a).map (·.1)).Nodup:=by
 rw [keys_add]
 split
 ·exact h
 ·rename_i hn
  rw [List.nodup_append]
  exact ⟨h,by simp,fun x hx y hy e=>hn (by rw [List.mem_singleton] at hy;rw [← hy,← e];exact hx)⟩
theorem keys_fold:∀ (s:List (Tm × Int)) (g:List Gr),(g.map (·.1)).Nodup→((s.foldl (fun g p=>addG g p.1 p.2) g).map (·.1)).Nodup∧∀ t,t∈(s.foldl (fun g p=>addG g p.1 p.2) g).map (·.1)↔t∈g.map (·.1)∨t∈s.map (·.1)
 |[],g,h=>⟨h,by simp⟩
 |p::s,g,h=>by
  obtain ⟨h1,h2⟩:=keys_fold s (addG g p.1 p.2) (keys_nodup_add h _ _)
  refine ⟨h1,fun t=> ?_⟩
  rw [List.foldl_cons,h2,keys_add,List.map_cons,List.mem_cons]
  split
  ·rename_i hp
   constructor
   ·rintro (h|h)
    ·exact .inl h
    ·exact .inr (.inr h)
   ·rintro (h|rfl|h)
    ·exact .inl h
    ·exact .inl hp
    ·exact .inr h
  ·rw [List.mem_append,List.mem_singleton,or_assoc]
theorem groups_nodup (s:List (Tm × Int)):((groupsT s).map (·.1)).Nodup:=(keys_fold s [] (by simp)).1
theorem groups_mem (s:List (Tm × Int)) (t:Tm):t∈(groupsT s).map (·.1)↔t∈s.map (·.1):=by
 rw [groupsT,(keys_fold s [] (by simp)).2]
 simp
def ApartF (l:List Fd):Prop:=l.Pairwise fun f g=>f.1≠g.1
theorem wordsD_of {l:List Fd} (h:ApartF l) {f:Fd} (hf:f∈l):wordsD l f.1=words f.2:=by
 induction l with
 |nil=>cases hf
 |cons g l ih=>
  rw [ApartF,List.pairwise_cons] at h
  rw [wordsD]
  rcases List.mem_cons.1 hf with rfl|hf
  ·exact if_pos rfl
  ·rw [if_neg (h.1 f hf)]
   exact ih h.2 hf
theorem wordsD_other {l:List Fd} {s:Nm} (h:∀ f∈l,f.1≠s):wordsD l s=[]:=by
 induction l with
 |nil=>rfl
 |cons g l ih=>
  rw [wordsD,if_neg (h g (List.mem_cons_self ..))]
  exact ih fun f hf=>h f (List.mem_cons_of_mem _ hf)
theorem placesS_append (a b:List (Tm × Int)) (t:Tm):placesS (a++b) t=placesS a t++placesS b t:=by simp [placesS]
theorem placesS_F (s:Nm) (t:Tm):∀ (l:List Nm) (i:Nat),placesS (tellF s i l) t=if s=t.1 then placesW i l t.2 else []
 |[],i=>by simp [tellF,placesS,placesW]
 |x::l,i=>by
  have ih:=placesS_F s t l (i+1)
  rw [tellF]
  unfold placesS at ih ⊢
  rw [List.filter_cons]
  obtain ⟨t1,t2⟩:=t
  simp only [Prod.mk.injEq] at ih ⊢
  by_cases h1:s=t1
  ·rw [if_pos h1] at ih ⊢
   rw [placesW]
   by_cases h2:x=t2
   ·rw [if_pos h2,if_pos (by simp [h1,h2]),List.map_cons,ih]
   ·rw [if_neg h2,if_neg (by simp [h2]),ih]
  ·rw [if_neg h1] at ih ⊢
   rw [if_neg (by simp [h1]),ih]
theorem placesS_D {l:List Fd} (h:ApartF l) (t:Tm):placesS (tellD l) t=placesD l t:=by
 induction l with
 |nil=>rfl
 |cons f l ih=>
  rw [ApartF,List.pairwise_cons] at h
  rw [tellD,placesS_append,placesS_F,ih h.2]
  unfold placesD
  rw [wordsD]
  by_cases h1:f.1=t.1
  ·rw [if_pos h1,if_pos h1,wordsD_other (fun g hg e=>h.1 g hg (h1.trans e.symm)),placesW,List.append_nil]
  ·rw [if_neg h1,if_neg h1,List.nil_append]
theorem tellF_mem (s:Nm) (t:Tm):∀ (l:List Nm) (i:Nat),t∈(tellF s i l).map (·.1)↔t.1=s∧t.2∈l
 |[],i=>by simp [tellF]
 |x::l,i=>by
  rw [tellF,List.map_cons,List.mem_cons,tellF_mem s t l,List.mem_cons]
  obtain ⟨t1,t2⟩:=t
  simp only [Prod.mk.injEq]
  constructor
  ·rintro (⟨h1,h2⟩|⟨h1,h2⟩)
   ·exact ⟨h1,.inl h2⟩
   ·exact ⟨h1,.inr h2⟩
  ·rintro ⟨h1,h2|h2⟩
   ·exact .inl ⟨h1,h2⟩
   ·exact .inr ⟨h1,h2⟩
theorem tellD_mem (t:Tm):∀ l:List Fd,t∈(tellD l).map (·.1)↔∃ f∈l,t.1=f.1∧t.2∈words f.2
 |[]=>by simp [tellD]
 |f::l=>by rw [tellD,List.map_append,List.mem_append,tellF_mem,tellD_mem t l];simp
theorem putAll_mem (s:Nm) (t:Tm):∀ (ws:List Nm) (a:List Tm),t∈ws.foldl (fun b x=>putT b (s,x)) a↔t∈a∨(t.1=s∧t.2∈ws)
 |[],a=>by simp
 |x::ws,a=>by
  rw [List.foldl_cons,putAll_mem s t ws,mem_putT,List.mem_cons]
  obtain ⟨t1,t2⟩:=t
  simp only [Prod.mk.injEq]
  constructor
  ·rintro ((h|⟨h1,h2⟩)|⟨h1,h2⟩)
   ·exact .inl h
   ·exact .inr ⟨h1,.inl h2⟩
   ·exact .inr ⟨h1,.inr h2⟩
  ·rintro (h|⟨h1,h2|h2⟩)
   ·exact .inl (.inl h)
   ·exact .inl (.inr ⟨h1,h2⟩)
   ·exact .inr ⟨h1,h2⟩
theorem termsFold_mem (l:List Fd) (t:Tm):∀ (m:List Fd) (a:List Tm),t∈m.foldl (fun a f=>(wordsD l f.1).foldl (fun b x=>putT b (f.1,x)) a) a↔t∈a∨∃ f∈m,t.1=f.1∧t.2∈wordsD l f.1
 |[],a=>by simp
 |f::m,a=>by
  rw [List.foldl_cons,termsFold_mem l t m,putAll_mem]
  simp [or_assoc]
theorem termsD_mem {l:List Fd} (h:ApartF l) (t:Tm):t∈termsD l↔t∈(tellD l).map (·.1):=by
 rw [termsD,termsFold_mem,tellD_mem]
 simp only [List.not_mem_nil,false_or]
 constructor
 ·rintro ⟨f,hf,h1,h2⟩;exact ⟨f,hf,h1,by rwa [wordsD_of h hf] at h2⟩
 ·rintro ⟨f,hf,h1,h2⟩;exact ⟨f,hf,h1,by rwa [wordsD_of h hf]⟩
def NoZero (l:List Fd):Prop:=∀ f∈l,(0:UInt8)∉f.1
theorem putAll_rise {s:Nm} (h0:(0:UInt8)∉s):∀ (ws:List Nm) (a:List Tm),RiseT a→(∀ t∈a,(0:UInt8)∉t.1)→RiseT (ws.foldl (fun b x=>putT b (s,x)) a)
 |[],a,h,_=>h
 |x::ws,a,h,hz=>putAll_rise h0 ws _ (riseT_put h hz h0) fun t ht=>by
  rcases mem_putT.1 ht with ht|rfl
  ·exact hz t ht
  ·exact h0
theorem termsFold_rise (l:List Fd):∀ (m:List Fd) (a:List Tm),NoZero m→RiseT a→(∀ t∈a,(0:UInt8)∉t.1)→RiseT (m.foldl (fun a f=>(wordsD l f.1).foldl (fun b x=>putT b (f.1,x)) a) a)
 |[],a,_,h,_=>h
 |f::m,a,hm,h,hz=>termsFold_rise l m _ (fun g hg=>hm g (List.mem_cons_of_mem _ hg)) (putAll_rise (hm f (List.mem_cons_self ..)) _ _ h hz) fun t ht=>by
  rcases (putAll_mem f.1 t _ _).1 ht with ht|⟨ht,_⟩
  ·exact hz t ht
  ·rw [ht];exact hm f (List.mem_cons_self ..)
theorem termsD_rise {l:List Fd} (h:NoZero l):RiseT (termsD l):=termsFold_rise l l [] h (by simp [RiseT,Rise]) (by simp)
theorem termsD_zero {l:List Fd} (ha:ApartF l) (h:NoZero l) {t:Tm} (ht:t∈termsD l):(0:UInt8)∉t.1:=by
 obtain ⟨f,hf,h1,_⟩:=(tellD_mem t l).1 ((termsD_mem ha t).1 ht)
 rw [h1]
 exact h f hf
theorem terms_sorted {l:List Fd} (ha:ApartF l) (h0:NoZero l) {ts:List Tm} (hp:ts.Perm ((groupsT (tellD l)).map (·.1))) (hs:ts.Pairwise fun s t=>¬ keyT t<keyT s):ts=termsD l:=by
 have hmem:∀ t,t∈ts↔t∈termsD l:=fun t=>by rw [hp.mem_iff,groups_mem,termsD_mem ha]
 have hz:∀ t∈ts,(0:UInt8)∉t.1:=fun t ht=>termsD_zero ha h0 ((hmem t).1 ht)
 have hnd:ts.Nodup:=hp.nodup_iff.2 (groups_nodup _)
 have hr:RiseT ts:=by
  unfold RiseT Rise
  rw [List.pairwise_map]
  have h1:ts.Pairwise fun s t=>s∈ts∧t∈ts∧s≠t:=by
   rw [List.pairwise_iff_getElem]
   intro i j hi hj hij
   exact ⟨List.getElem_mem hi,List.getElem_mem hj,fun e=>by have :=(List.getElem_inj hnd).1 e;omega⟩
  refine (hs.and h1).imp fun {s t} h=> ?_
  obtain ⟨h2,h3,h4,h5⟩:=h
  rcases nm_tri (keyT s) (keyT t) with e|e|e
  ·exact e
  ·exact absurd (keyT_inj e (hz s h3) (hz t h4)) h5
  ·exact absurd e h2
 have h2:ts.map keyT=(termsD l).map keyT:=rise_ext hr (termsD_rise h0) fun k=>by
  simp only [List.mem_map]
  constructor
  ·rintro ⟨t,ht,rfl⟩;exact ⟨t,(hmem t).1 ht,rfl⟩
  ·rintro ⟨t,ht,rfl⟩;exact ⟨t,(hmem t).2 ht,rfl⟩
 have hlen:ts.length=(termsD l).length:=by simpa using congrArg List.length h2
 refine List.ext_getElem hlen fun i h3 h4=> ?_
 refine keyT_inj ?_ (hz _ (List.getElem_mem h3)) (termsD_zero ha h0 (List.getElem_mem h4))
 have h5:=List.getElem_of_eq h2 (i:=i) (by simpa using h3)
 simpa using h5
theorem tellD_weight {l:List Fd} (h:ApartF l):(tellD l).length=weightD l:=by
 have h1:∀ m:List Fd,(∀ f∈m,f∈l)→(tellD m).length=(m.map fun f=>(wordsD l f.1).length).sum:=by
  intro m
  induction m with
  |nil=>intro _;rfl
  |cons f m ih=>
   intro hm
   rw [tellD,List.length_append,tellF_length,ih fun g hg=>hm g (List.mem_cons_of_mem _ hg),List.map_cons,List.sum_cons,wordsD_of h (hm f (List.mem_cons_self ..))]
 exact h1 l fun f hf=>hf
theorem mayF_of:∀ {l:List Fd} {seen:List Nm} {n:Nat},mayF seen n l=0→(∀ f∈l,nameB f.1=true∧f.1∉seen)∧ApartF l∧n+(l.map fun f=>(words f.2).length).sum≤500
 |[],seen,n,h=>by
  rw [mayF] at h
  split at h
  ·cases h
  ·exact ⟨by simp,List.Pairwise.nil,by simp;omega⟩
 |f::l,seen,n,h=>by
  rw [mayF] at h
  split at h
  ·cases h
  ·rename_i h1
   split at h
   ·cases h
   ·rename_i h2
    split at h
    ·rename_i h3;exact absurd h h3
    ·obtain ⟨g1,g2,g3⟩:=mayF_of h
     refine ⟨fun g hg=> ?_,List.pairwise_cons.2 ⟨fun g hg e=>(g1 g hg).2 (by rw [← e];simp),g2⟩,by rw [List.map_cons,List.sum_cons];omega⟩
     rcases List.mem_cons.1 hg with rfl|hg
     ·exact ⟨by simpa using h1,h2⟩
     ·exact ⟨(g1 g hg).1,fun e=>(g1 g hg).2 (List.mem_append_left _ e)⟩
theorem mayD_of {l:List Fd} (h:mayD l=0):l.length≤8∧(∀ f∈l,nameB f.1=true)∧ApartF l∧NoZero l∧weightD l≤500:=by
 unfold mayD at h
 split at h
 ·cases h
 ·rename_i h8
  obtain ⟨g1,g2,g3⟩:=mayF_of h
  refine ⟨by omega,fun f hf=>(g1 f hf).1,g2,fun f hf=>nameB_zero (g1 f hf).1,?_⟩
  rw [← tellD_weight g2]
  have :∀ m:List Fd,(tellD m).length=(m.map fun f=>(words f.2).length).sum:=by
   intro m
   induction m with
   |nil=>rfl
   |cons f m ih=>rw [tellD,List.length_append,tellF_length,ih,List.map_cons,List.sum_cons]
  rw [this]
  omega
theorem placesW_ge (x:Nm):∀ (l:List Nm) (i:Nat),∀ a∈placesW i l x,(i:Int)≤a
 |[],i,a,h=>by cases h
 |y::l,i,a,h=>by
  rw [placesW] at h
  split at h
  ·rcases List.mem_cons.1 h with rfl|h
   ·exact Int.le_refl _
   ·have :=placesW_ge x l (i+1) a h;omega
  ·have :=placesW_ge x l (i+1) a h;omega
theorem placesW_rise (x:Nm):∀ (l:List Nm) (i:Nat),(placesW i l x).Pairwise (· <·)
 |[],i=>List.Pairwise.nil
 |y::l,i=>by
  rw [placesW]
  split
  ·exact List.pairwise_cons.2 ⟨fun a ha=>by have :=placesW_ge x l (i+1) a ha;omega,placesW_rise x l (i+1)⟩
  ·exact placesW_rise x l (i+1)
theorem placesW_mem (x:Nm) (a:Int):∀ (l:List Nm) (i:Nat),a∈placesW i l x↔∃ k:Nat,a=((i+k:Nat):Int)∧l[k]?=some x
 |[],i=>by simp [placesW]
 |y::l,i=>by
  rw [placesW]
  have ih:=placesW_mem x a l (i+1)
  constructor
  ·intro h
   split at h
   ·rename_i hy
    rcases List.mem_cons.1 h with rfl|h
    ·exact ⟨0,by simp,by simp [hy]⟩
    ·obtain ⟨k,h1,h2⟩:=ih.1 h
     exact ⟨k+1,by rw [h1];congr 1;omega,by simpa using h2⟩
   ·obtain ⟨k,h1,h2⟩:=ih.1 h
    exact ⟨k+1,by rw [h1];congr 1;omega,by simpa using h2⟩
  ·rintro ⟨k,h1,h2⟩
   cases k with
   |zero=>
    have :y=x:=by simpa using h2
    rw [if_pos this]
    exact List.mem_cons.2 (.inl (by simpa using h1))
   |succ k=>
    have :=ih.2 ⟨k,by rw [h1];congr 1;omega,by simpa using h2⟩
    split
    ·exact List.mem_cons_of_mem _ this
    ·exact this
end Go.Proofs.YtldcadpemnpbmaaGreatDoor
set_option linter.unusedVariables false
namespace Go.Proofs.YtldcadpemnpbmaaGreatDoor
open Go
structure GoodF (l:List Fd):Prop where
 len:l.length≤8
 names:∀ f∈l,f.1.length≤12
 texts:∀ f∈l,f.2.length≤1024
 apart:ApartF l
 zero:NoZero l
 wordsF:∀ f∈l,(words f.2).length≤500
 wordsS:∀ s,(wordsD l s).length≤500
 weight:weightD l≤500
theorem le_sum:∀ {l:List Nat} {a:Nat},a∈l→a≤l.sum
 |x::l,a,h=>by
  rw [List.sum_cons]
  rcases List.mem_cons.1 h with rfl|h
  ·omega
  ·have :=le_sum h;omega
theorem wordsD_le {l:List Fd} (ha:ApartF l) (s:Nm):(wordsD l s).length≤weightD l:=by
 by_cases h:∃ f∈l,f.1=s
 ·obtain ⟨f,hf,rfl⟩:=h
  unfold weightD
  exact le_sum (List.mem_map.2 ⟨f,hf,rfl⟩)
 ·rw [wordsD_other fun f hf e=>h ⟨f,hf,e⟩]
  exact Nat.zero_le _
theorem goodF_of {l:List Fd} (hm:mayD l=0) (ht:∀ f∈l,f.2.length≤1024):GoodF l:=by
 obtain ⟨g1,g2,g3,g4,g5⟩:=mayD_of hm
 refine ⟨g1,fun f hf=> ?_,ht,g3,g4,fun f hf=> ?_,fun s=>Nat.le_trans (wordsD_le g3 s) g5,g5⟩
 ·have :=g2 f hf
  rw [nameB,Bool.and_eq_true,Bool.and_eq_true,decide_eq_true_iff,decide_eq_true_iff] at this
  exact this.2.2
 ·rw [← wordsD_of g3 hf]
  exact Nat.le_trans (wordsD_le g3 _) g5
end Go.Proofs.YtldcadpemnpbmaaGreatDoor
set_option linter.unusedVariables false
namespace Go.Proofs.YtldcadpemnpbmaaGreatDoor
open Go
abbrev Dc:=Int × List Fd
abbrev En:=Int × List Fd × Int
abbrev Pn:=Int × List Int
def mayE (last:Int) (q:En):Int:=if mayD q.2.1≠0 then mayD q.2.1 else if q.2.2<0∨q.2.2≤last then 12 else 0
def weightE (l:List En):Nat:=(l.map fun q=>weightD q.2.1).sum
def keysIn (a:List Nm) (ts:List Tm):List Nm:=(ts.map keyT).foldl putN a
def keysE (l:List En):List Nm:=l.foldl (fun a q=>keysIn a (termsD q.2.1)) []
def postIn (i:Nat) (d:List Fd) (ts:List Tm) (key:Nm):List Pn:=(ts.filter fun t=>decide (keyT t=key)).map fun t=>((i:Int),placesD d t)
def postsE:Nat→List En→Nm→List Pn
 |_,[],_=>[]
 |i,q::l,key=>postIn i q.2.1 (termsD q.2.1) key++postsE (i+1) l key
def lastE (l:List En):Int:=match l.getLast? with|none=> -1|some q=>q.2.2
def GoodE (l:List En):Prop:=∀ q∈l,GoodF q.2.1
theorem weightE_le {l:List En} (hg:GoodE l):weightE l≤l.length*500:=by
 unfold weightE
 induction l with
 |nil=>simp
 |cons q l ih=>
  have h1:=(hg q (List.mem_cons_self ..)).weight
  have h2:=ih fun x hx=>hg x (List.mem_cons_of_mem _ hx)
  simp only [List.map_cons,List.sum_cons,List.length_cons]
  omega
theorem GoodE.snoc {l:List En} {q:En} (h:GoodE l) (hq:GoodF q.2.1):GoodE (l++[q]):=fun x hx=>by
 rcases List.mem_append.1 hx with hx|hx
 ·exact h x hx
 ·rw [List.mem_singleton.1 hx];exact hq
theorem keysIn_length (a:List Nm) (ts:List Tm):(keysIn a ts).length≤ts.length+a.length:=by
 have :=foldl_putN_length (ts.map keyT) a
 rwa [List.length_map] at this
theorem rise_keysIn {a:List Nm} (h:Rise a) (ts:List Tm):Rise (keysIn a ts):=rise_foldl_putN _ _ h
theorem mem_keysIn {a:List Nm} {ts:List Tm} {x:Nm}:x∈keysIn a ts↔(∃ t∈ts,keyT t=x)∨x∈a:=by
 rw [keysIn,mem_foldl_putN,List.mem_map]
theorem rise_keysE_from:∀ (l:List En) {a:List Nm},Rise a→Rise (l.foldl (fun a q=>keysIn a (termsD q.2.1)) a)
 |[],a,h=>h
 |q::l,a,h=>rise_keysE_from l (rise_keysIn h _)
theorem rise_keysE (l:List En):Rise (keysE l):=rise_keysE_from l List.Pairwise.nil
theorem mem_keysE_from:∀ (l:List En) {a:List Nm} {x:Nm},x∈l.foldl (fun a q=>keysIn a (termsD q.2.1)) a↔(∃ q∈l,∃ t∈termsD q.2.1,keyT t=x)∨x∈a
 |[],a,x=>by simp
 |q::l,a,x=>by
  rw [List.foldl_cons,mem_keysE_from l,mem_keysIn]
  constructor
  ·rintro (⟨q',hq',h⟩|h|h)
   ·exact .inl ⟨q',List.mem_cons_of_mem _ hq',h⟩
   ·exact .inl ⟨q,List.mem_cons_self ..,h⟩
   ·exact .inr h
  ·rintro (⟨q',hq',h⟩|h)
   ·rcases List.mem_cons.1 hq' with rfl|hq'
    ·exact .inr (.inl h)
    ·exact .inl ⟨q',hq',h⟩
   ·exact .inr (.inr h)
theorem mem_keysE {l:List En} {x:Nm}:x∈keysE l↔∃ q∈l,∃ t∈termsD q.2.1,keyT t=x:=by
 have :=mem_keysE_from l (a:=[]) (x:=x)
 simpa [keysE] using this
theorem keysE_length {M:Nat}:∀ {l:List En} {a:List Nm},(∀ q∈l,(termsD q.2.1).length≤M)→(l.foldl (fun a q=>keysIn a (termsD q.2.1)) a).length≤l.length*M+a.length
 |[],a,_=>by simp
 |q::l,a,h=>by
  have h1:=keysE_length (l:=l) (a:=keysIn a (termsD q.2.1)) fun x hx=>h x (List.mem_cons_of_mem _ hx)
  have h2:=keysIn_length a (termsD q.2.1)
  have h3:=h q (List.mem_cons_self ..)
  simp only [List.foldl_cons,List.length_cons,Nat.add_mul,Nat.one_mul]
  omega
theorem postsE_snoc:∀ (l:List En) (i:Nat) (q:En) (key:Nm),postsE i (l++[q]) key=postsE i l key++postIn (i+l.length) q.2.1 (termsD q.2.1) key
 |[],i,q,key=>by simp [postsE]
 |x::l,i,q,key=>by
  rw [List.cons_append,postsE,postsE,postsE_snoc l (i+1) q key,List.append_assoc,List.length_cons,show i+1+l.length=i+(l.length+1) by omega]
theorem lastE_nil:lastE []= -1:=rfl
theorem lastE_snoc (l:List En) (q:En):lastE (l++[q])=q.2.2:=by simp [lastE]
theorem lastE_at {l:List En} (h:0<l.length):lastE l=(l[l.length-1]'(by omega)).2.2:=by
 have h0:l≠[]:=fun e=>by rw [e] at h;simp at h
 rw [lastE,List.getLast?_eq_some_getLast h0,List.getLast_eq_getElem h0]
def goodsE (l:List Dc) (most:Nat) (start step:Int):List En:=(l.take most).zipIdx.map fun p=>(p.1.1,goodD p.1.2,start+step*(p.2:Int))
theorem goodsE_length (l:List Dc) (most:Nat) (start step:Int):(goodsE l most start step).length=min most l.length:=by simp [goodsE]
theorem goodsE_take {l:List Dc} {k:Nat} {start step:Int} (hk:k<l.length):goodsE l (k+1) start step=goodsE l k start step++[(l[k].1,goodD l[k].2,start+step*(k:Int))]:=by
 unfold goodsE
 rw [List.take_succ_eq_append_getElem hk,List.zipIdx_append,List.map_append,List.length_take,Nat.zero_add,Nat.min_eq_left (by omega)]
 rfl
theorem goodsE_good (l:List Dc) (most:Nat) (start step:Int):∀ q∈goodsE l most start step,∃ d,q.2.1=goodD d:=fun q hq=>by
 obtain ⟨p,_,rfl⟩:=List.mem_map.1 hq
 exact ⟨p.1.2,rfl⟩
end Go.Proofs.YtldcadpemnpbmaaGreatDoor
set_option linter.unusedVariables false
namespace Go.Proofs.YtldcadpemnpbmaaGreatDoor
open Go Go.RowKit
structure OnlyIn (S:Nat→Prop) (w w':World):Prop where
 os:w'.os=w.os
 tape:w'.tape=w.tape
 output:w'.output=w.output
 size:w.heap.size≤w'.heap.size
 block:∀ k,k<w.heap.size→¬ S k→w'.heap[k]?=w.heap[k]?
theorem OnlyIn.of_below {S:Nat→Prop} {w w':World} (h:Below w.heap.size w w'):OnlyIn S w w':=⟨h.os,h.tape,h.output,h.size,fun k hk _=>h.block k hk⟩
theorem OnlyIn.trans {S:Nat→Prop} {w w' w'':World} (h:OnlyIn S w w') (k:OnlyIn S w' w''):OnlyIn S w w'':=
 ⟨k.os.trans h.os,k.tape.trans h.tape,k.output.trans h.output,Nat.le_trans h.size k.size,fun i hi hne=>(k.block i (Nat.lt_of_lt_of_le hi h.size) hne).trans (h.block i hi hne)⟩
theorem OnlyIn.below {S:Nat→Prop} {base:Nat} {w w':World} (h:OnlyIn S w w') (hb:∀ k,S k→base≤k) (hw:base≤w.heap.size):Below base w w':=
 ⟨h.os,h.tape,h.output,h.size,fun k hk=>h.block k (by omega) (fun hs=>by have :=hb k hs;omega)⟩
end Go.Proofs.YtldcadpemnpbmaaGreatDoor
set_option linter.unusedVariables false
namespace Go.Proofs.YtldcadpemnpbmaaGreatDoor
open Go Go.RowKit
def RowP (p:Nat→Prop) (w:World) (A:Option Addr) (xs:List Value):Prop:=xs=[]∨∃ b off,A=some ⟨b,off,none⟩∧p b∧∀ j u,xs[j]?=some u→w.cell? ⟨b,off+j,none⟩=some u
section
variable {p q:Nat→Prop} {w w':World} {A:Option Addr} {xs:List Value}
theorem RowP.keep (h:RowP p w A xs) (hb:∀ b,p b→w'.heap[b]?=w.heap[b]?):RowP p w' A xs:=by
 rcases h with h|⟨b,off,e,hp,hc⟩
 ·exact .inl h
 ·refine .inr ⟨b,off,e,hp,fun j u hu=> ?_⟩
  rw [World.cell?_of_block (a:=⟨b,off+j,none⟩) (hb b hp)]
  exact hc j u hu
theorem RowP.imp (h:RowP p w A xs) (hpq:∀ b,p b→q b):RowP q w A xs:=by
 rcases h with h|⟨b,off,e,hp,hc⟩
 ·exact .inl h
 ·exact .inr ⟨b,off,e,hpq b hp,hc⟩
theorem RowP.row {B:Nat} (h:RowP p w A xs) (hB:∀ b,p b→b<B):Row w B A xs:=h.imp hB
end
structure Shape (α:Type) where
 p:Nat
 r:Nat
 pre:α→List Value
 mid:α→List Fd
 post:α→List Value
 hp:∀ q,(pre q).length=p
 hr:∀ q,(post q).length=r
def Shape.size {α:Type} (s:Shape α):Nat:=s.p+1+s.r
section
variable {α:Type} {s:Shape α} {R R':Option Addr→List Value→Prop}
def NestC (s:Shape α) (R:Option Addr→List Value→Prop):List α→List Value→Prop
 |[],cs=>cs=[]
 |q::l,cs=>∃ A c cs',cs=s.pre q++(.slice A (s.mid q).length c::(s.post q++cs'))∧(s.mid q).length≤c∧c≤maxLen∧R A (flds (s.mid q))∧NestC s R l cs'
theorem NestC.imp:∀ {l:List α} {cs:List Value},NestC s R l cs→(∀ A xs,R A xs→R' A xs)→NestC s R' l cs
 |[],cs,h,_=>h
 |q::l,cs,h,hi=>by
  obtain ⟨A,c,cs',rfl,h1,h2,h3,h'⟩:=h
  exact ⟨A,c,cs',rfl,h1,h2,hi _ _ h3,NestC.imp h' hi⟩
theorem nest_skip {q:α} {A:Option Addr} {c:Nat} {cs':List Value} {k:Nat} (i:Nat):(s.pre q++(.slice A (s.mid q).length c::(s.post q++cs')))[(k+1)*s.size+i]?=cs'[k*s.size+i]?:=by
 have hp:=s.hp q
 have hr:=s.hr q
 have e:(k+1)*s.size+i=s.p+(1+(s.r+(k*s.size+i))):=by rw [Nat.add_mul,Nat.one_mul];unfold Shape.size;omega
 rw [e,List.getElem?_append_right (by omega),hp,Nat.add_sub_cancel_left,Nat.add_comm 1,List.getElem?_cons_succ,List.getElem?_append_right (by omega),hr,Nat.add_sub_cancel_left]
theorem NestC.at_:∀ {l:List α} {cs:List Value} {k:Nat},NestC s R l cs→(hk:k<l.length)→
  ∃ A c,cs[k*s.size+s.p]?=some (.slice A (s.mid l[k]).length c)∧(s.mid l[k]).length≤c∧c≤maxLen∧R A (flds (s.mid l[k]))∧
   (∀ i u,(s.pre l[k])[i]?=some u→cs[k*s.size+i]?=some u)∧(∀ i u,(s.post l[k])[i]?=some u→cs[k*s.size+s.p+1+i]?=some u)
 |[],_,k,_,h=>by simp at h
 |q::l,cs,0,h,_=>by
  obtain ⟨A,c,cs',rfl,h1,h2,h3,h'⟩:=h
  have hp:=s.hp q
  refine ⟨A,c,?_,h1,h2,h3,fun i u hu=> ?_,fun i u hu=> ?_⟩
  ·rw [List.getElem?_append_right (by omega)]
   simp [hp]
  ·have :i<(s.pre q).length:=by
    rcases Nat.lt_or_ge i (s.pre q).length with h|h
    ·exact h
    ·simp only [zB] at hu
     rw [List.getElem?_eq_none h] at hu;cases hu
   rw [Nat.zero_mul,Nat.zero_add,List.getElem?_append_left this]
   exact hu
  ·have :i<(s.post q).length:=by
    rcases Nat.lt_or_ge i (s.post q).length with h|h
    ·exact h
    ·simp only [zB] at hu
     rw [List.getElem?_eq_none h] at hu;cases hu
   rw [List.getElem?_append_right (by omega),show 0*s.size+s.p+1+i-(s.pre q).length=i+1 by omega,List.getElem?_cons_succ,List.getElem?_append_left this]
   exact hu
 |q::l,cs,k+1,h,hk=>by
  obtain ⟨A,c,cs',rfl,h1,h2,h3,h'⟩:=h
  have hp:=s.hp q
  have hr:=s.hr q
  have skip:=nest_skip (s:=s) (q:=q) (A:=A) (c:=c) (cs':=cs') (k:=k)
  obtain ⟨A',c',g1,g2,g3,g4,g5,g6⟩:=NestC.at_ (k:=k) h' (by simpa using hk)
  refine ⟨A',c',?_,g2,g3,g4,fun i u hu=> ?_,fun i u hu=> ?_⟩
  ·rw [skip];exact g1
  ·rw [skip];exact g5 i u hu
  ·rw [show (k+1)*s.size+s.p+1+i=(k+1)*s.size+(s.p+1+i) by omega,skip,show k*s.size+(s.p+1+i)=k*s.size+s.p+1+i by omega]
   exact g6 i u hu
theorem NestC.snoc:∀ {l:List α} {cs:List Value} {A:Option Addr} {c:Nat} {q:α},NestC s R l cs→(s.mid q).length≤c→c≤maxLen→R A (flds (s.mid q))→NestC s R (l++[q]) (cs++(s.pre q++(.slice A (s.mid q).length c::s.post q)))
 |[],cs,A,c,q,h,h1,h2,h3=>by
  simp only [NestC] at h
  subst h
  exact ⟨A,c,[],by simp,h1,h2,h3,rfl⟩
 |y::l,cs,A,c,q,h,h1,h2,h3=>by
  obtain ⟨A',c',cs',rfl,g1,g2,g3,h'⟩:=h
  exact ⟨A',c',_,by simp,g1,g2,g3,NestC.snoc h' h1 h2 h3⟩
theorem NestC.take:∀ {l:List α} {cs:List Value} (k:Nat),NestC s R l cs→NestC s R (l.take k) (cs.take (k*s.size))
 |_,cs,0,_=>by simp [NestC]
 |[],cs,k+1,h=>by simp only [NestC] at h;subst h;simp [NestC]
 |q::l,cs,k+1,h=>by
  obtain ⟨A,c,cs',rfl,h1,h2,h3,h'⟩:=h
  have hp:=s.hp q
  have hr:=s.hr q
  refine ⟨A,c,cs'.take (k*s.size),?_,h1,h2,h3,NestC.take k h'⟩
  have e:(k+1)*s.size=s.p+(1+(s.r+k*s.size)):=by rw [Nat.add_mul,Nat.one_mul];unfold Shape.size;omega
  rw [e,List.take_append,List.take_of_length_le (by omega),hp,Nat.add_sub_cancel_left,Nat.add_comm 1,List.take_succ_cons,List.take_append,List.take_of_length_le (by omega),hr,Nat.add_sub_cancel_left]
theorem NestC.drop:∀ {l:List α} {cs:List Value} (k:Nat),NestC s R l cs→NestC s R (l.drop k) (cs.drop (k*s.size))
 |l,cs,0,h=>by simpa using h
 |[],cs,k+1,h=>by simp only [NestC] at h;subst h;simp [NestC]
 |q::l,cs,k+1,h=>by
  obtain ⟨A,c,cs',rfl,h1,h2,h3,h'⟩:=h
  rw [List.drop_succ_cons,show (s.pre q++(.slice A (s.mid q).length c::(s.post q++cs'))).drop ((k+1)*s.size)=cs'.drop (k*s.size) from List.ext_getElem? fun i=>by rw [List.getElem?_drop,List.getElem?_drop,nest_skip]]
  exact NestC.drop k h'
def NestP (s:Shape α) (p:Nat→Prop) (w:World) (A:Option Addr) (l:List α):Prop:=∃ cs,NestC s (RowP p w) l cs∧RowP p w A cs
end
section
variable {α:Type} {s:Shape α} {p q:Nat→Prop} {w w':World} {A:Option Addr} {l:List α}
theorem NestP.nil:NestP s p w A []:=⟨[],rfl,.inl rfl⟩
theorem NestP.keep (h:NestP s p w A l) (hb:∀ b,p b→w'.heap[b]?=w.heap[b]?):NestP s p w' A l:=by
 obtain ⟨cs,h1,h2⟩:=h
 exact ⟨cs,h1.imp fun _ _ h=>h.keep hb,h2.keep hb⟩
theorem NestP.imp (h:NestP s p w A l) (hpq:∀ b,p b→q b):NestP s q w A l:=by
 obtain ⟨cs,h1,h2⟩:=h
 exact ⟨cs,h1.imp fun _ _ h=>h.imp hpq,h2.imp hpq⟩
theorem NestP.at_ (h:NestP s p w A l) {k:Nat} (hk:k<l.length):
  ∃ b off A' c',A=some ⟨b,off,none⟩∧p b∧w.cell? ⟨b,off+k*s.size+s.p,none⟩=some (.slice A' (s.mid l[k]).length c')∧(s.mid l[k]).length≤c'∧c'≤maxLen∧RowP p w A' (flds (s.mid l[k]))∧
   (∀ i u,(s.pre l[k])[i]?=some u→w.cell? ⟨b,off+k*s.size+i,none⟩=some u)∧(∀ i u,(s.post l[k])[i]?=some u→w.cell? ⟨b,off+k*s.size+s.p+1+i,none⟩=some u):=by
 obtain ⟨cs,h1,h2⟩:=h
 obtain ⟨A',c',g1,g2,g3,g4,g5,g6⟩:=h1.at_ hk
 rcases h2 with rfl|⟨b,off,rfl,hb,hc⟩
 ·simp at g1
 ·refine ⟨b,off,A',c',rfl,hb,by have :=hc _ _ g1;rwa [← Nat.add_assoc] at this,g2,g3,g4,fun i u hu=> ?_,fun i u hu=> ?_⟩
  ·have :=hc _ _ (g5 i u hu);rwa [← Nat.add_assoc] at this
  ·have :=hc _ _ (g6 i u hu)
   rwa [show off+(k*s.size+s.p+1+i)=off+k*s.size+s.p+1+i by omega] at this
abbrev Nest (s:Shape α) (w:World) (B:Nat) (A:Option Addr) (l:List α):Prop:=NestP s (fun b=>b<B) w A l
theorem Nest.below {B:Nat} (h:Nest s w B A l) (hb:Below B w w'):Nest s w' B A l:=h.keep fun b hb'=>hb.block b hb'
theorem Nest.more {B B':Nat} (h:Nest s w B A l) (hB:B≤B'):Nest s w B' A l:=h.imp fun b hb=>Nat.lt_of_lt_of_le hb hB
theorem Nest.later (h:Nest s w w.heap.size A l) (hb:Below w.heap.size w w'):Nest s w' w'.heap.size A l:=Nest.more (Nest.below h hb) hb.size
end
def docS:Shape Dc:=⟨1,0,fun q=>[.int .i64 q.1],fun q=>q.2,fun _=>[],fun _=>rfl,fun _=>rfl⟩
def enS:Shape En:=⟨1,1,fun q=>[.int .i64 q.1],fun q=>q.2.1,fun q=>[.int .i64 q.2.2],fun _=>rfl,fun _=>rfl⟩
theorem docS_at {p:Nat→Prop} {w:World} {A:Option Addr} {l:List Dc} (h:NestP docS p w A l) {k:Nat} (hk:k<l.length):
  ∃ b off A' c',A=some ⟨b,off,none⟩∧p b∧w.cell? ⟨b,off+k*2,none⟩=some (.int .i64 l[k].1)∧w.cell? ⟨b,off+k*2+1,none⟩=some (.slice A' l[k].2.length c')∧l[k].2.length≤c'∧c'≤maxLen∧RowP p w A' (flds l[k].2):=by
 obtain ⟨b,off,A',c',e,hb,g1,g2,g3,g4,g5,_⟩:=h.at_ hk
 exact ⟨b,off,A',c',e,hb,g5 0 _ rfl,g1,g2,g3,g4⟩
theorem info_entry:(Tryz.prog.info? 85).map (fun i=>(i.zero,i.size,i.bytes))=some (some (.agg #[.int .i64 0,.slice none 0 0,.int .i64 0]),3,40):=by kernel_rfl
end Go.Proofs.YtldcadpemnpbmaaGreatDoor
namespace Go.Proofs.YtldcadpemnpbmaaGreatDoor
open Go Go.RowKit Go.ChangeShapes Go.WideShapes Go.ChangeAt
set_option linter.unusedVariables false
def InFlds (w:World) (a:Option Addr) (len cap:Nat) (l:List Fd):Prop:=
 len≤cap∧cap≤maxLen∧l.length=len∧FRow w w.heap.size a l∧∀ f∈l,f.1.length≤maxLen∧f.2.length≤maxLen
theorem field_cells:Tryz.prog.cellsOf 77=2:=by kernel_rfl
theorem str_cells:Tryz.prog.cellsOf 9=1:=by kernel_rfl
theorem flds_range {f:Nat→Fd} {V0 V1:Nat→Value} {w:World} {b off n:Nat} (h:∀ i,i<n→V0 i= .string ⟨(f i).1.toArray⟩∧V1 i= .string ⟨(f i).2.toArray⟩)
  (hc:∀ i,i<n→w.cell? ⟨b,off+i*2,none⟩=some (V0 i)∧w.cell? ⟨b,off+(i*2+1),none⟩=some (V1 i)):
  ∀ k,k≤n→∀ j u,(flds ((List.range k).map f))[j]?=some u→w.cell? ⟨b,off+j,none⟩=some u
 |0,_,j,u,hu=>by simp [flds] at hu
 |k+1,hk,j,u,hu=>by
  rw [List.range_succ,List.map_append,flds_append] at hu
  have hl:(flds ((List.range k).map f)).length=k*2:=by rw [flds_length,List.length_map,List.length_range]
  by_cases hj:j<k*2
  ·rw [List.getElem?_append_left (by rw [hl];exact hj)] at hu
   exact flds_range h hc k (by omega) j u hu
  ·rw [List.getElem?_append_right (by rw [hl];omega),hl] at hu
   obtain ⟨h0,h1⟩:=h k (by omega)
   obtain ⟨c0,c1⟩:=hc k (by omega)
   rcases hq:j-k*2 with _|_|q
   ·rw [hq] at hu
    simp [flds] at hu
    rw [show j=k*2 by omega,c0,h0,hu]
   ·rw [hq] at hu
    simp [flds] at hu
    rw [show j=k*2+1 by omega,c1,h1,hu]
   ·rw [hq] at hu
    simp [flds] at hu
theorem in_flds {H:Type} {enc:TypeId × Value→H} {W:World} {fuel:Nat} {a:Option Addr} {len cap:Nat} {x:DataW H × List MemPlace}
  (h:DataW.trod enc Tryz.prog W 0 (fun _=>true) true fuel 78 [Value.slice a len cap]=some x):∃ l,InFlds W a len cap l:=by
 rcases Deep.open_slice_pairs Tryz.underlying78 Tryz.underlying77 field_cells rfl rfl str_cells str_cells h with ⟨hcs,_⟩|⟨ad,l,c,m,n,V0,V1,D0,D1,P0,P1,hcs,_,hl,hm,hmm,_,hx⟩
 ·simp at hcs
  obtain ⟨rfl,rfl,rfl⟩:=hcs
  exact ⟨[],Nat.le_refl _,Nat.zero_le _,rfl,FRow.nil,fun p hp=>by cases hp⟩
 ·simp at hcs
  obtain ⟨rfl,rfl,rfl⟩:=hcs
  simp only [if_true] at hmm
  subst hmm
  have each:∀ i,i<m→∃ q:Fd,(V0 i= .string ⟨q.1.toArray⟩∧V1 i= .string ⟨q.2.toArray⟩)∧q.1.length≤maxLen∧q.2.length≤maxLen:=fun i hi=>by
   obtain ⟨_,_,g0,g1⟩:=hx i hi
   obtain ⟨s0,e0,_,k0⟩:=DataW.trod_string Tryz.underlying9 g0
   obtain ⟨s1,e1,_,k1⟩:=DataW.trod_string Tryz.underlying9 g1
   simp only [List.cons.injEq,and_true] at e0 e1
   refine ⟨(s0.data.toList,s1.data.toList),⟨e0,e1⟩,?_,?_⟩
   ·show s0.data.toList.length≤maxLen
    rw [Array.length_toList]
    exact k0
   ·show s1.data.toList.length≤maxLen
    rw [Array.length_toList]
    exact k1
  obtain ⟨f,hf⟩:=Deep.choose_lt each
  by_cases h0:m=0
  ·have hl0:len=0:=by omega
   subst hl0
   exact ⟨[],hl,hm,rfl,FRow.nil,fun p hp=>by cases hp⟩
  ·obtain ⟨c00,_,_,_⟩:=hx 0 (by omega)
   obtain ⟨b,off,spot⟩:=ad
   have hs:spot=none:=by simpa [Addr.add] using World.cell?_spot c00
   subst hs
   have hblt:b<W.heap.size:=by simpa [Addr.add_lit] using World.block_lt_of_cell? W _ c00
   refine ⟨(List.range len).map f,hl,hm,by simp,.inr ⟨b,off,rfl,hblt,flds_range (n:=m) (fun i hi=>(hf i hi).1) (fun i hi=> ?_) len hl⟩,fun p hp=> ?_⟩
   ·obtain ⟨g0,g1,_,_⟩:=hx i hi
    rw [Addr.add_lit] at g0 g1
    exact ⟨g0,g1⟩
   ·obtain ⟨i,hi,rfl⟩:=List.mem_map.1 hp
    have hil:=List.mem_range.1 hi
    exact (hf i (by omega)).2
theorem in_flds_any {H:Type} {enc:TypeId × Value→H} {W:World} {fuel:Nat} {v:Value} {x:DataW H × List MemPlace}
  (h:DataW.trod enc Tryz.prog W 0 (fun _=>true) true fuel 78 [v]=some x):∃ a len cap l,v= .slice a len cap∧InFlds W a len cap l:=by
 have hv:∃ a len cap,v= .slice a len cap:=by
  rcases Deep.open_slice_pairs Tryz.underlying78 Tryz.underlying77 field_cells rfl rfl str_cells str_cells h with ⟨hcs,_⟩|⟨ad,l,c,m,n,V0,V1,D0,D1,P0,P1,hcs,_⟩
  ·simp only [List.cons.injEq,and_true] at hcs
   exact ⟨_,_,_,hcs⟩
  ·simp only [List.cons.injEq,and_true] at hcs
   exact ⟨_,_,_,hcs⟩
 obtain ⟨a,len,cap,rfl⟩:=hv
 obtain ⟨l,hl⟩:=in_flds h
 exact ⟨a,len,cap,l,rfl,hl⟩
theorem doc_cells:Tryz.prog.cellsOf 80=2:=by kernel_rfl
end Go.Proofs.YtldcadpemnpbmaaGreatDoor
namespace Go.Proofs.YtldcadpemnpbmaaGreatDoor
open Go Go.RowKit Go.ChangeShapes Go.WideShapes Go.ChangeAt
set_option linter.unusedVariables false
def catTo (V:Nat→List Value):Nat→List Value
 |0=>[]
 |k+1=>catTo V k++V k
theorem catTo_length {V:Nat→List Value} {z n:Nat} (hz:∀ i,i<n→(V i).length=z):∀ k,k≤n→(catTo V k).length=k*z
 |0,_=>by simp [catTo]
 |k+1,hk=>by rw [catTo,List.length_append,catTo_length hz k (by omega),hz k (by omega),Nat.add_mul,Nat.one_mul]
theorem catTo_row {w:World} {b off z n:Nat} {V:Nat→List Value} (hz:∀ i,i<n→(V i).length=z) (h:∀ i,i<n→∀ j u,(V i)[j]?=some u→w.cell? ⟨b,off+(i*z+j),none⟩=some u):
  ∀ k,k≤n→∀ j u,(catTo V k)[j]?=some u→w.cell? ⟨b,off+j,none⟩=some u
 |0,_,j,u,hu=>by simp [catTo] at hu
 |k+1,hk,j,u,hu=>by
  rw [catTo] at hu
  have hl:=catTo_length hz k (by omega)
  by_cases hj:j<k*z
  ·rw [List.getElem?_append_left (by rw [hl];exact hj)] at hu
   exact catTo_row hz h k (by omega) j u hu
  ·rw [List.getElem?_append_right (by rw [hl];omega),hl] at hu
   have :=h k (by omega) _ _ hu
   rwa [show k*z+(j-k*z)=j by omega] at this
theorem catTo_nest {α:Type} {s:Shape α} {R:Option Addr→List Value→Prop} {V:Nat→List Value} {f:Nat→α} {n:Nat}
  (h:∀ i,i<n→∃ A c,V i=s.pre (f i)++(.slice A (s.mid (f i)).length c::s.post (f i))∧(s.mid (f i)).length≤c∧c≤maxLen∧R A (flds (s.mid (f i)))):∀ k,k≤n→NestC s R ((List.range k).map f) (catTo V k)
 |0,_=>rfl
 |k+1,hk=>by
  have ih:=catTo_nest h k (by omega)
  obtain ⟨A,c,h1,h2,h3,h4⟩:=h k (by omega)
  rw [List.range_succ,List.map_append,catTo,h1]
  exact ih.snoc h2 h3 h4
def InNest {α:Type} (s:Shape α) (good:α→Prop) (w:World) (a:Option Addr) (len cap:Nat) (l:List α):Prop:=
 len≤cap∧cap≤maxLen∧l.length=len∧Nest s w w.heap.size a l∧∀ q∈l,good q
theorem in_nest {α:Type} [Inhabited α] {H:Type} {enc:TypeId × Value→H} {W:World} (s:Shape α) (good:α→Prop) {t e:TypeId} (ht:Tryz.prog.underlying t=some (.slice e)) (ce:Tryz.prog.cellsOf e=s.size)
  (open1:∀ {fuel:Nat} {cs:List Value} {x:DataW H × List MemPlace},DataW.trod enc Tryz.prog W 0 (fun _=>true) true fuel e cs=some x→
   ∃ (q:α) (A:Option Addr) (c:Nat),cs=s.pre q++(.slice A (s.mid q).length c::s.post q)∧(s.mid q).length≤c∧c≤maxLen∧FRow W W.heap.size A (s.mid q)∧good q)
  {fuel:Nat} {a:Option Addr} {len cap:Nat} {x:DataW H × List MemPlace} (h:DataW.trod enc Tryz.prog W 0 (fun _=>true) true fuel t [Value.slice a len cap]=some x):∃ l,InNest s good W a len cap l:=by
 rcases Deep.open_slice ht h with ⟨hcs,_⟩|⟨ad,l,c,m,n,D,Pl,hcs,_,hl,hm,hmm,_,hx⟩
 ·simp at hcs
  obtain ⟨rfl,rfl,rfl⟩:=hcs
  exact ⟨[],Nat.le_refl _,Nat.zero_le _,rfl,NestP.nil,fun p hp=>by cases hp⟩
 ·simp at hcs
  obtain ⟨rfl,rfl,rfl⟩:=hcs
  simp only [if_true] at hmm
  subst hmm
  have each:∀ i,i<m→∃ q:α × List Value,(∃ A c,q.2=s.pre q.1++(.slice A (s.mid q.1).length c::s.post q.1)∧(s.mid q.1).length≤c∧c≤maxLen∧Row W W.heap.size A (flds (s.mid q.1)))∧good q.1∧q.2.length=s.size∧
    ∀ j u,q.2[j]?=some u→W.cell? (ad.add (i*s.size+j))=some u:=fun i hi=>by
   obtain ⟨cs',h1,h2⟩:=hx i hi
   obtain ⟨_,hlen,hcell⟩:=World.cells?_some h1
   obtain ⟨q,A,c,e1,e2,e3,e4,e5⟩:=open1 h2
   rw [ce] at hlen
   refine ⟨(q,cs'),⟨A,c,e1,e2,e3,e4⟩,e5,hlen,fun j u hu=> ?_⟩
   have hj:j<s.size:=by
    rcases Nat.lt_or_ge j s.size with h|h
    ·exact h
    ·rw [List.getElem?_eq_none (by rw [hlen];exact h)] at hu;cases hu
   have :=hcell j (by rw [ce];exact hj)
   rw [Deep.add_add,ce] at this
   rw [this]
   exact hu
  obtain ⟨f,hf⟩:=Deep.choose_lt each
  by_cases h0:m=0
  ·have hl0:len=0:=by omega
   subst hl0
   exact ⟨[],hl,hm,rfl,NestP.nil,fun p hp=>by cases hp⟩
  ·obtain ⟨_,_,hl0,hc0⟩:=hf 0 (by omega)
   obtain ⟨u0,hu0⟩:∃ u,(f 0).2[0]?=some u:=⟨_,List.getElem?_eq_getElem (by rw [hl0];unfold Shape.size;omega)⟩
   have c00:=hc0 0 u0 hu0
   obtain ⟨b,off,spot⟩:=ad
   have hs:spot=none:=by simpa [Addr.add] using World.cell?_spot c00
   subst hs
   have hblt:b<W.heap.size:=by simpa [Addr.add_lit] using World.block_lt_of_cell? W _ c00
   refine ⟨(List.range len).map fun i=>(f i).1,hl,hm,by simp,⟨catTo (fun i=>(f i).2) len,catTo_nest (n:=m) (fun i hi=>(hf i hi).1) len hl,.inr ⟨b,off,rfl,hblt,catTo_row (n:=m) (z:=s.size) (fun i hi=>(hf i hi).2.2.1) (fun i hi j u hu=> ?_) len hl⟩⟩,fun p hp=> ?_⟩
   ·have :=(hf i hi).2.2.2 j u hu
    rwa [Addr.add_lit] at this
   ·obtain ⟨i,hi,rfl⟩:=List.mem_map.1 hp
    have hil:=List.mem_range.1 hi
    exact (hf i (by omega)).2.1
def InFd (l:List Fd):Prop:=∀ f∈l,f.1.length≤maxLen∧f.2.length≤maxLen
theorem open_doc {H:Type} {enc:TypeId × Value→H} {W:World} {fuel:Nat} {cs:List Value} {x:DataW H × List MemPlace} (h:DataW.trod enc Tryz.prog W 0 (fun _=>true) true fuel 80 cs=some x):
  ∃ (q:Dc) (A:Option Addr) (c:Nat),cs=[.int .i64 q.1,.slice A q.2.length c]∧q.2.length≤c∧c≤maxLen∧FRow W W.heap.size A q.2∧InFd q.2:=by
 obtain ⟨y0,y1,n,_,hl,g0,g1⟩:=trod_struct2 Tryz.underlying80 h
 rw [doc_cells] at hl
 obtain ⟨v0,v1,rfl⟩:∃ v0 v1,cs=[v0,v1]:=by
  rcases cs with _|⟨v0,_|⟨v1,_|⟨v2,cs⟩⟩⟩
  ·cases hl
  ·cases hl
  ·exact ⟨_,_,rfl⟩
  ·simp only [List.length_cons] at hl;omega
 ·have ci:Tryz.prog.cellsOf 3=1:=by kernel_rfl
  have cf:Tryz.prog.cellsOf 78=1:=by kernel_rfl
  simp [ci] at g0
  simp [cf] at g1
  obtain ⟨d,e0,_,_⟩:=DataW.trod_int Tryz.underlying3 g0
  obtain ⟨a,len,cap,l,rfl,h1,h2,h3,h4,h5⟩:=in_flds_any g1
  simp only [List.cons.injEq,and_true] at e0
  subst e0
  exact ⟨(d,l),a,cap,by rw [h3],by rw [h3];exact h1,h2,h4,h5⟩
abbrev InDocs:=InNest docS (fun q=>InFd q.2)
theorem in_docs {H:Type} {enc:TypeId × Value→H} {W:World} {fuel:Nat} {a:Option Addr} {len cap:Nat} {x:DataW H × List MemPlace}
  (h:DataW.trod enc Tryz.prog W 0 (fun _=>true) true fuel 33 (Value.slice a len cap).cells.toList=some x):∃ l,InDocs W a len cap l:=
 in_nest docS (fun q=>InFd q.2) Tryz.underlying33 doc_cells (fun h=>open_doc h) (by simpa [Value.cells] using h)
end Go.Proofs.YtldcadpemnpbmaaGreatDoor
