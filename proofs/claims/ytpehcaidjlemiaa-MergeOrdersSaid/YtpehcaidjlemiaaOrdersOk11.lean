/- Order and Places of package merge give what they are to give. -/
import Derived.Test.YtpehcaidjlemiaaOrder11
import Derived.Test.YtpehcaidjlemiaaPlaces11
namespace Go.Proofs.Ytpehcaidjlemiaa
open Go Go.RowKit

theorem ord_ok : OrdOk where
  order := fun A m c l w hL hm hm2 hl => (merge_Order A m c l w hL hm hm2 hl).mono fun _ _ ⟨err, o, A', c', h1, h2, h3, h4, h5, _⟩ => ⟨err, o, A', c', h1, h2, h3, h4, h5⟩
  places := fun A m c n o i w hr hm hmx ho _ hn => merge_Places A m c n o i w hr hm hmx ho hn
end Go.Proofs.Ytpehcaidjlemiaa
