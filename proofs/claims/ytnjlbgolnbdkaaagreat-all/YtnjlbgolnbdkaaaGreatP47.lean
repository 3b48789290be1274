/- All, with short names -/
import Derived.Test.YtnjlbgolnbdkaaaGreatP46
set_option maxRecDepth 100000
set_option maxHeartbeats 16000000
namespace Go.Proofs.YtnjlbgolnbdkaaaGreat
open Go Go.RowKit
section
open Go.RowKit
attribute [-go_sem] Instr.build
end
end Go.Proofs.YtnjlbgolnbdkaaaGreat
