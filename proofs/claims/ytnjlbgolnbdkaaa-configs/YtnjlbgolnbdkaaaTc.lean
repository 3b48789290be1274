/- The law: the first Parse of Configs, on lists; the document's example. -/
import Derived.Test.YtnjlbgolnbdkaaaTb
namespace Go.Proofs.Ytnjlbgolnbdkaaa
open Go.RowKit

theorem parse_two : parseOf [72, 0] = (noCf, 1, 3) := by rfl
def raiserBytes : List Int := [72, 1, 1, 0, 0, 1, 1, 1, 1, 1, 4, 1, 1, 1, 0, 1, 8, 0, 1, 0, 0, 1, 0, 179, 39, 139, 174]
theorem raiser_bytes : Bytes raiserBytes := by
  intro z hz
  simp [raiserBytes] at hz
  omega

set_option maxRecDepth 100000 in
set_option maxHeartbeats 2000000 in
theorem raiser_any (w : World) : Calls Try.prog 12 #[] w fun e w' => e = .returned (.slice (some ⟨w.heap.size, 0, none⟩) 27 27) ∧ w' = w.alloc (.cells (vals raiserBytes).toArray 5) := by
  go_enter Try.func12, Try.ntmps12
  go_wp2
  go_ret
  exact ⟨rfl, rfl⟩
end Go.Proofs.Ytnjlbgolnbdkaaa
