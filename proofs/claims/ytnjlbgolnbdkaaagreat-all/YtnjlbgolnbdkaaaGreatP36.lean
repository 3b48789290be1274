/- All, with short names -/
import Derived.Test.YtnjlbgolnbdkaaaGreatP35
set_option maxRecDepth 100000
set_option maxHeartbeats 16000000
namespace Go.Proofs.YtnjlbgolnbdkaaaGreat
open Go Go.RowKit
end Go.Proofs.YtnjlbgolnbdkaaaGreat
