/- Facts about slots that were laid as a whole, or not: plain lists. -/
import Derived.Test.YtnjlbgolnbdkaaaWd
namespace Go.Proofs.Ytnjlbgolnbdkaaa
open Go.RowKit

theorem slotOf_bytes (kind part code seq arg : Int) : Bytes (slotOf kind part code seq arg) := by
  intro z hz
  simp only [slotOf, List.cons_append, List.mem_cons, List.mem_append] at hz
  rcases hz with hz | hz | hz
  · omega
  · exact slotHead_bytes _ _ _ _ _ z hz
  · exact be4_bytes _ z hz
theorem slotOf_length (kind part code seq arg : Int) : (slotOf kind part code seq arg).length = 16 := rfl
theorem slotOf_kind (kind part code seq arg : Int) : sortKind (slotOf kind part code seq arg) = 3 := by
  have h1 : blankB (slotOf kind part code seq arg) = false := rfl
  have h2 : (slotOf kind part code seq arg).getD 0 0 = 0 := rfl
  have h3 : goodB (slotOf kind part code seq arg) = true := by
    have e1 : ((slotOf kind part code seq arg).drop 12).take 4 = be4 (crcOf (slotHead kind part code seq arg)) := rfl
    have e2 : ((slotOf kind part code seq arg).drop 1).take 11 = slotHead kind part code seq arg := rfl
    unfold goodB
    rw [e1, e2, numFrom_be4 _ (crcOf_lt _)]
    simp
  simp only [sortKind, h1, h2, h3]
  decide
theorem slotOf_rec (kind part code seq arg : Int) (i : Nat) : sortRec (slotOf kind part code seq arg) i = match i with | 0 => kind % 256 | 1 => part % 256 | 2 => code % 256 | 3 => seq % 4294967296 | _ => arg % 4294967296 := by
  unfold sortRec
  rw [if_pos (slotOf_kind kind part code seq arg)]
  have e3 : ((slotOf kind part code seq arg).drop 4).take 4 = be4 (seq % 4294967296).toNat := rfl
  have e4 : ((slotOf kind part code seq arg).drop 8).take 4 = be4 (arg % 4294967296).toNat := rfl
  match i with
  | 0 => rfl
  | 1 => rfl
  | 2 => rfl
  | 3 => show ((numFrom 0 _ : Nat) : Int) = _; rw [e3, numFrom_be4 _ (by omega)]; show ((seq % 4294967296).toNat : Int) = seq % 4294967296; omega
  | n + 4 => show ((numFrom 0 _ : Nat) : Int) = _; rw [e4, numFrom_be4 _ (by omega)]; show ((arg % 4294967296).toNat : Int) = arg % 4294967296; omega
/- a slot whose first byte is not 0 is blank or torn -/
theorem torn_kind (zs : List Int) (h : zs.getD 0 0 = 255) : (sortKind zs = 0 ∨ sortKind zs = 1) ∧ sortRec zs = fun _ => 0 := by
  have hk : sortKind zs = 0 ∨ sortKind zs = 1 := by
    unfold sortKind
    by_cases h1 : blankB zs = true
    · left; rw [if_pos h1]
    · right; rw [if_neg h1, if_pos (by rw [h]; decide)]
  refine ⟨hk, ?_⟩
  funext i
  unfold sortRec
  rw [if_neg (by omega)]
end Go.Proofs.Ytnjlbgolnbdkaaa
