/-
  No cell of these rows narrows 'for every input' (looked for: loops, veiled, ifaces, maps, wideKeys, modest, calm, conditions, laid).
  DERIVED. THE GIVEN ROWS OF THIS SEAT. 8 by the template 'for every input the law returns true; each argument reads behind the call as it read before'; 0 by the template 'total and deterministic' (their statements: YtnjlbgolnbdkaaaGreatTotals.lean).
  GIVEN WITH THE SEED: the statements are not yours to turn. If you find one false, say at which input.
  Laid BY PROGRAM, IN A SANDBOX (cutbox-rows.mjs): the forced cells as the released guide's own fill.sh prints them over the translation 172d60937cefe3be… (all of the seat's roots in one cut). By AI agents, Wed Nov 11 2026. No macro, syntax, notation, axiom, sorry.
-/
import Derived.Test.YtnjlbgolnbdkaaaGreatChecked
import GoSem.Claim
import GoSem.ClaimJoined
import GoSem.ClaimMapViews
import Derived.JoinedTies
import Derived.KernelRfl
namespace Go.Proofs.YtnjlbgolnbdkaaaGreat
/- THE CELL 'sum', in the pinned program and in every row, IS THE sha256 OF THE DUMP (.gsa) THAT YtnjlbgolnbdkaaaGreatProg.lean LOADS. Nothing in Lean hashes anything: it is a label: what it is worth is what the hold of that sum in a sandbox is worth. -/
noncomputable def Tryz.pinned : Pinned := { name := "ytnjlbgolnbdkaaagreat", sum := "172d60937cefe3be26c370447b8d122525f7c49c78acf0a71e039908d9585941", checked := Tryz.checked }
namespace Rows
def none {H : Type} : Left H := { results := [], args := [] }

/-- 'bulwarklaw.Boots': WHATEVER THE INPUT: true; the input reads as it did. -/
def bootsSpec : ChangeSpec := { name := "boots", fn := fun _ => fun
  | [d1, d2] => { results := [.lit (.bool true)], args := [d1, d2] }
  | _ => none }
def bootsRow : OpenClaim := { program := "ytnjlbgolnbdkaaagreat", sum := "172d60937cefe3be26c370447b8d122525f7c49c78acf0a71e039908d9585941", func := "bulwark/bulwarklaw.Boots", spec := "boots", unfollowed := true, recurses := true, apart := false }
def BootsSaid : Prop := bootsRow.holds Tryz.pinned (OpenSpec.ofChange bootsSpec)

/-- ITS FALSE NEIGHBOUR: 'it returns false'. Refute it at one input. -/
def bootsWrong : ChangeSpec := { name := "boots", fn := fun _ => fun
  | [d1, d2] => { results := [.lit (.bool false)], args := [d1, d2] }
  | _ => none }
def BootsWrongFalsely : Prop := bootsRow.holds Tryz.pinned (OpenSpec.ofChange bootsWrong)

/-- 'bulwarklaw.Runs': WHATEVER THE INPUT: true; the input reads as it did. -/
def runsSpec : ChangeSpec := { name := "runs", fn := fun _ => fun
  | [d1, d2, d3] => { results := [.lit (.bool true)], args := [d1, d2, d3] }
  | _ => none }
def runsRow : OpenClaim := { program := "ytnjlbgolnbdkaaagreat", sum := "172d60937cefe3be26c370447b8d122525f7c49c78acf0a71e039908d9585941", func := "bulwark/bulwarklaw.Runs", spec := "runs", unfollowed := true, recurses := true, apart := false }
def RunsSaid : Prop := runsRow.holds Tryz.pinned (OpenSpec.ofChange runsSpec)

/-- ITS FALSE NEIGHBOUR: 'it returns false'. Refute it at one input. -/
def runsWrong : ChangeSpec := { name := "runs", fn := fun _ => fun
  | [d1, d2, d3] => { results := [.lit (.bool false)], args := [d1, d2, d3] }
  | _ => none }
def RunsWrongFalsely : Prop := runsRow.holds Tryz.pinned (OpenSpec.ofChange runsWrong)

/-- 'bulwarkkeep.Clocked': WHATEVER THE INPUT: true; the input reads as it did. -/
def clockedSpec : ChangeSpec := { name := "clocked", fn := fun _ => fun
  | [d1, d2, d3, d4] => { results := [.lit (.bool true)], args := [d1, d2, d3, d4] }
  | _ => none }
def clockedRow : OpenClaim := { program := "ytnjlbgolnbdkaaagreat", sum := "172d60937cefe3be26c370447b8d122525f7c49c78acf0a71e039908d9585941", func := "bulwark/bulwarkkeep.Clocked", spec := "clocked", unfollowed := true, recurses := true, apart := false }
def ClockedSaid : Prop := clockedRow.holds Tryz.pinned (OpenSpec.ofChange clockedSpec)

/-- ITS FALSE NEIGHBOUR: 'it returns false'. Refute it at one input. -/
def clockedWrong : ChangeSpec := { name := "clocked", fn := fun _ => fun
  | [d1, d2, d3, d4] => { results := [.lit (.bool false)], args := [d1, d2, d3, d4] }
  | _ => none }
def ClockedWrongFalsely : Prop := clockedRow.holds Tryz.pinned (OpenSpec.ofChange clockedWrong)

/-- 'bulwarkkeep.Watched': WHATEVER THE INPUT: true; the input reads as it did. -/
def watchedSpec : ChangeSpec := { name := "watched", fn := fun _ => fun
  | [d1, d2] => { results := [.lit (.bool true)], args := [d1, d2] }
  | _ => none }
def watchedRow : OpenClaim := { program := "ytnjlbgolnbdkaaagreat", sum := "172d60937cefe3be26c370447b8d122525f7c49c78acf0a71e039908d9585941", func := "bulwark/bulwarkkeep.Watched", spec := "watched", unfollowed := true, recurses := true, apart := false }
def WatchedSaid : Prop := watchedRow.holds Tryz.pinned (OpenSpec.ofChange watchedSpec)

/-- ITS FALSE NEIGHBOUR: 'it returns false'. Refute it at one input. -/
def watchedWrong : ChangeSpec := { name := "watched", fn := fun _ => fun
  | [d1, d2] => { results := [.lit (.bool false)], args := [d1, d2] }
  | _ => none }
def WatchedWrongFalsely : Prop := watchedRow.holds Tryz.pinned (OpenSpec.ofChange watchedWrong)

/-- 'bulwarkkeep.Apart': WHATEVER THE INPUT: true; the input reads as it did. -/
def apartSpec : ChangeSpec := { name := "apart", fn := fun _ => fun
  | [d1, d2, d3, d4, d5, d6, d7, d8, d9, d10] => { results := [.lit (.bool true)], args := [d1, d2, d3, d4, d5, d6, d7, d8, d9, d10] }
  | _ => none }
def apartRow : OpenClaim := { program := "ytnjlbgolnbdkaaagreat", sum := "172d60937cefe3be26c370447b8d122525f7c49c78acf0a71e039908d9585941", func := "bulwark/bulwarkkeep.Apart", spec := "apart", unfollowed := true, recurses := true, apart := false }
def ApartSaid : Prop := apartRow.holds Tryz.pinned (OpenSpec.ofChange apartSpec)

/-- ITS FALSE NEIGHBOUR: 'it returns false'. Refute it at one input. -/
def apartWrong : ChangeSpec := { name := "apart", fn := fun _ => fun
  | [d1, d2, d3, d4, d5, d6, d7, d8, d9, d10] => { results := [.lit (.bool false)], args := [d1, d2, d3, d4, d5, d6, d7, d8, d9, d10] }
  | _ => none }
def ApartWrongFalsely : Prop := apartRow.holds Tryz.pinned (OpenSpec.ofChange apartWrong)

/-- 'bulwarklaw.All': WHATEVER THE INPUT: true; the input reads as it did. -/
def allSpec : ChangeSpec := { name := "all", fn := fun _ => fun
  | [d1, d2, d3] => { results := [.lit (.bool true)], args := [d1, d2, d3] }
  | _ => none }
def allRow : OpenClaim := { program := "ytnjlbgolnbdkaaagreat", sum := "172d60937cefe3be26c370447b8d122525f7c49c78acf0a71e039908d9585941", func := "bulwark/bulwarklaw.All", spec := "all", unfollowed := true, recurses := true, apart := false }
def AllSaid : Prop := allRow.holds Tryz.pinned (OpenSpec.ofChange allSpec)

/-- ITS FALSE NEIGHBOUR: 'it returns false'. Refute it at one input. -/
def allWrong : ChangeSpec := { name := "all", fn := fun _ => fun
  | [d1, d2, d3] => { results := [.lit (.bool false)], args := [d1, d2, d3] }
  | _ => none }
def AllWrongFalsely : Prop := allRow.holds Tryz.pinned (OpenSpec.ofChange allWrong)

/-- 'bulwarkkeep.Durable': WHATEVER THE INPUT: true; the input reads as it did. -/
def durableSpec : ChangeSpec := { name := "durable", fn := fun _ => fun
  | [d1, d2, d3] => { results := [.lit (.bool true)], args := [d1, d2, d3] }
  | _ => none }
def durableRow : OpenClaim := { program := "ytnjlbgolnbdkaaagreat", sum := "172d60937cefe3be26c370447b8d122525f7c49c78acf0a71e039908d9585941", func := "bulwark/bulwarkkeep.Durable", spec := "durable", unfollowed := true, recurses := true, apart := false }
def DurableSaid : Prop := durableRow.holds Tryz.pinned (OpenSpec.ofChange durableSpec)

/-- ITS FALSE NEIGHBOUR: 'it returns false'. Refute it at one input. -/
def durableWrong : ChangeSpec := { name := "durable", fn := fun _ => fun
  | [d1, d2, d3] => { results := [.lit (.bool false)], args := [d1, d2, d3] }
  | _ => none }
def DurableWrongFalsely : Prop := durableRow.holds Tryz.pinned (OpenSpec.ofChange durableWrong)

/-- 'bulwarkkeep.Counted': WHATEVER THE INPUT: true; the input reads as it did. -/
def countedSpec : ChangeSpec := { name := "counted", fn := fun _ => fun
  | [d1, d2, d3, d4] => { results := [.lit (.bool true)], args := [d1, d2, d3, d4] }
  | _ => none }
def countedRow : OpenClaim := { program := "ytnjlbgolnbdkaaagreat", sum := "172d60937cefe3be26c370447b8d122525f7c49c78acf0a71e039908d9585941", func := "bulwark/bulwarkkeep.Counted", spec := "counted", unfollowed := true, recurses := true, apart := false }
def CountedSaid : Prop := countedRow.holds Tryz.pinned (OpenSpec.ofChange countedSpec)

/-- ITS FALSE NEIGHBOUR: 'it returns false'. Refute it at one input. -/
def countedWrong : ChangeSpec := { name := "counted", fn := fun _ => fun
  | [d1, d2, d3, d4] => { results := [.lit (.bool false)], args := [d1, d2, d3, d4] }
  | _ => none }
def CountedWrongFalsely : Prop := countedRow.holds Tryz.pinned (OpenSpec.ofChange countedWrong)

/- THE SECOND FORM. 'bulk': how many values and letters a reading holds, each counted each time it is reached (what is shared counts as often as it is met; a slice's spare places count too). A statement '..UptoSaid' is the law's where the arguments, and the package variables that the reading takes, are together of bulk at most 1048576: NARROWER than '..Said'. Prove '..Said' where nothing that the law and all that it calls make is longer than what came in: it says more and counts as full. Else prove '..UptoSaid'. A law counts once. -/
mutual
def uptoBulk {H : Type} : DataW H → Nat
  | .lit (.string bytes) => bytes.length + 1
  | .lit _ => 1
  | .nil => 1
  | .ptr d => uptoBulk d + 1
  | .slice elems spare => uptoBulkAll elems + uptoBulkAll spare + 1
  | .agg parts => uptoBulkAll parts + 1
  | .iface _ d => uptoBulk d + 1
  | .map entries => uptoBulkEntries entries + 1
  | .held _ => 1
def uptoBulkAll {H : Type} : List (DataW H) → Nat
  | [] => 0
  | d :: r => uptoBulk d + uptoBulkAll r
def uptoBulkEntries {H : Type} : List (Lit × DataW H) → Nat
  | [] => 0
  | x :: r => uptoBulkEntry x + uptoBulkEntries r
def uptoBulkEntry {H : Type} : Lit × DataW H → Nat
  | (.string bytes, d) => bytes.length + uptoBulk d + 1
  | (_, d) => uptoBulk d + 1
 end
def uptoSmall : (H : Type) → List (DataW H) → Bool := fun _ ds => decide (uptoBulkAll ds ≤ 1048576)
def OpenSpec.upto (s : _root_.Go.ChangeSpec) : _root_.Go.OpenSpec := { _root_.Go.OpenSpec.ofChange s with cond := some uptoSmall }

/-- 'bulwarklaw.Boots', WHERE WHAT IT READS IS OF BULK AT MOST 1048576: true; the input reads as it did. -/
def bootsUptoRow : OpenClaim := { program := "ytnjlbgolnbdkaaagreat", sum := "172d60937cefe3be26c370447b8d122525f7c49c78acf0a71e039908d9585941", func := "bulwark/bulwarklaw.Boots", spec := "boots", unfollowed := true, recurses := true, apart := false, narrowed := true }
def BootsUptoSaid : Prop := bootsUptoRow.holds Tryz.pinned (OpenSpec.upto bootsSpec)

/-- 'bulwarklaw.Runs', WHERE WHAT IT READS IS OF BULK AT MOST 1048576: true; the input reads as it did. -/
def runsUptoRow : OpenClaim := { program := "ytnjlbgolnbdkaaagreat", sum := "172d60937cefe3be26c370447b8d122525f7c49c78acf0a71e039908d9585941", func := "bulwark/bulwarklaw.Runs", spec := "runs", unfollowed := true, recurses := true, apart := false, narrowed := true }
def RunsUptoSaid : Prop := runsUptoRow.holds Tryz.pinned (OpenSpec.upto runsSpec)

/-- 'bulwarkkeep.Clocked', WHERE WHAT IT READS IS OF BULK AT MOST 1048576: true; the input reads as it did. -/
def clockedUptoRow : OpenClaim := { program := "ytnjlbgolnbdkaaagreat", sum := "172d60937cefe3be26c370447b8d122525f7c49c78acf0a71e039908d9585941", func := "bulwark/bulwarkkeep.Clocked", spec := "clocked", unfollowed := true, recurses := true, apart := false, narrowed := true }
def ClockedUptoSaid : Prop := clockedUptoRow.holds Tryz.pinned (OpenSpec.upto clockedSpec)

/-- 'bulwarkkeep.Watched', WHERE WHAT IT READS IS OF BULK AT MOST 1048576: true; the input reads as it did. -/
def watchedUptoRow : OpenClaim := { program := "ytnjlbgolnbdkaaagreat", sum := "172d60937cefe3be26c370447b8d122525f7c49c78acf0a71e039908d9585941", func := "bulwark/bulwarkkeep.Watched", spec := "watched", unfollowed := true, recurses := true, apart := false, narrowed := true }
def WatchedUptoSaid : Prop := watchedUptoRow.holds Tryz.pinned (OpenSpec.upto watchedSpec)

/-- 'bulwarkkeep.Apart', WHERE WHAT IT READS IS OF BULK AT MOST 1048576: true; the input reads as it did. -/
def apartUptoRow : OpenClaim := { program := "ytnjlbgolnbdkaaagreat", sum := "172d60937cefe3be26c370447b8d122525f7c49c78acf0a71e039908d9585941", func := "bulwark/bulwarkkeep.Apart", spec := "apart", unfollowed := true, recurses := true, apart := false, narrowed := true }
def ApartUptoSaid : Prop := apartUptoRow.holds Tryz.pinned (OpenSpec.upto apartSpec)

/-- 'bulwarklaw.All', WHERE WHAT IT READS IS OF BULK AT MOST 1048576: true; the input reads as it did. -/
def allUptoRow : OpenClaim := { program := "ytnjlbgolnbdkaaagreat", sum := "172d60937cefe3be26c370447b8d122525f7c49c78acf0a71e039908d9585941", func := "bulwark/bulwarklaw.All", spec := "all", unfollowed := true, recurses := true, apart := false, narrowed := true }
def AllUptoSaid : Prop := allUptoRow.holds Tryz.pinned (OpenSpec.upto allSpec)

/-- 'bulwarkkeep.Durable', WHERE WHAT IT READS IS OF BULK AT MOST 1048576: true; the input reads as it did. -/
def durableUptoRow : OpenClaim := { program := "ytnjlbgolnbdkaaagreat", sum := "172d60937cefe3be26c370447b8d122525f7c49c78acf0a71e039908d9585941", func := "bulwark/bulwarkkeep.Durable", spec := "durable", unfollowed := true, recurses := true, apart := false, narrowed := true }
def DurableUptoSaid : Prop := durableUptoRow.holds Tryz.pinned (OpenSpec.upto durableSpec)

/-- 'bulwarkkeep.Counted', WHERE WHAT IT READS IS OF BULK AT MOST 1048576: true; the input reads as it did. -/
def countedUptoRow : OpenClaim := { program := "ytnjlbgolnbdkaaagreat", sum := "172d60937cefe3be26c370447b8d122525f7c49c78acf0a71e039908d9585941", func := "bulwark/bulwarkkeep.Counted", spec := "counted", unfollowed := true, recurses := true, apart := false, narrowed := true }
def CountedUptoSaid : Prop := countedUptoRow.holds Tryz.pinned (OpenSpec.upto countedSpec)

end Rows
end Go.Proofs.YtnjlbgolnbdkaaaGreat
