universe u
namespace Go.Proofs.YtldcadpemnpbmaaGreatDoor
theorem zA {α:Type u} {l:List α} {i:Nat} (h:i<l.toArray.size):l.toArray[i]=l[i]'(by simpa using h):=rfl
theorem zB {α:Type u} {a:α} {l:List α} (h:0<(a::l).length):(a::l)[0]=a:=rfl
theorem zC {α:Type u} {a:α} {l:List α} {i:Nat} (h:i+1<(a::l).length):(a::l)[i+1]=l[i]'(by simpa using h):=rfl
theorem zD {α:Type u} {l:List α} {i:Nat} {a:α}:l.toArray.setIfInBounds i a=(l.set i a).toArray:=List.setIfInBounds_toArray ..
theorem zE {α:Type u} {a b:α} {l:List α}:(a::l).set 0 b=b::l:=rfl
theorem zF {α:Type u} {a b:α} {l:List α} {i:Nat}:(a::l).set (i+1) b=a::l.set i b:=rfl
end Go.Proofs.YtldcadpemnpbmaaGreatDoor
