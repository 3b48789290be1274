/- Texts of the proof of Apart, one behind the other. -/
import Derived.Test.YtnjlbgolnbdkaaaGreatM28
namespace Go.Proofs.YtnjlbgolnbdkaaaGreat
open Go.RowKit

theorem partK_len (limit : Int) (acts one two : List Int) : 14 ≤ (partK limit acts one two).length ∧ (partK limit acts one two).length ≤ 94 := by
  have h1 := codeK_len one
  have h2 := codeK_len two
  unfold partK
  rw [List.length_append, List.length_append, actsK_len]
  simp only [List.length_cons, List.length_nil]
  split
  · rw [List.length_append]
    simp only [List.length_cons, List.length_nil]
    omega
  · rw [List.length_append, List.length_append]
    simp only [List.length_cons, List.length_nil]
    omega
end Go.Proofs.YtnjlbgolnbdkaaaGreat
