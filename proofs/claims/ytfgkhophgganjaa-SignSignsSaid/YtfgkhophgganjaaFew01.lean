/- What the statements' own 'few' answers: a text of at most 100 bytes. -/
import Derived.Test.YtfgkhophgganjaaBase
import Derived.Test.YtfgkhophgganjaaProg
namespace Go.Proofs.Ytfgkhophgganjaa
open Go Go.RowKit
set_option linter.unusedVariables false

def GaveFew (w : World) (e : Ending) (w' : World) : Prop := ∃ t : ByteArray, e = .returned (.string t) ∧ t.size ≤ 100 ∧ w = w'
set_option maxHeartbeats 1000000 in
theorem law01_few (s : ByteArray) (w : World) (hs : s.size ≤ maxLen) :
    Calls Try.prog 9 #[.string s] w (GaveFew w) := by
  unfold maxLen at hs
  by_cases h : 100 < s.size
  · go_enter Try.func9, Try.ntmps9
    go_wp2
    go_ret
    exact ⟨_, rfl, by rw [ByteArray.size_extract]; omega, rfl⟩
  · go_enter Try.func9, Try.ntmps9
    go_wp2
    go_ret
    exact ⟨_, rfl, by omega, rfl⟩
end Go.Proofs.Ytfgkhophgganjaa
