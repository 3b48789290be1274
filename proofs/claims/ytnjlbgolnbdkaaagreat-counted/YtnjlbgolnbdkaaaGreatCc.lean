/- A slot that was cut is not good, or is laid whole. Plain. -/
import Derived.Test.YtnjlbgolnbdkaaaGreatCb
namespace Go.Proofs.YtnjlbgolnbdkaaaGreat
open Go.RowKit

theorem slot_torn {bs bs' : List Int} (hl : bs.length = 256) (hl' : bs'.length = 256) {s i : Nat} (hs : s < 2) (hi : i < 8) {sl : List Int} {res : Int} (hsl : sl.length = 16) (h0 : sl.getD 0 0 = 0) (hr : 0 ≤ res ∧ res ≤ 255)
    (ho : ∀ j, ¬ (128 * s + 16 * i ≤ j ∧ j < 128 * s + 16 * i + 16) → bs'.getD j 0 = bs.getD j 0)
    (hf : bs'.getD (128 * s + 16 * i) 0 = 255 ∨ (bs'.getD (128 * s + 16 * i) 0 = band8 255 (bor8 (sl.getD 0 0) res) ∧ ∀ j, 1 ≤ j → j < 16 → bs'.getD (128 * s + 16 * i + j) 0 = sl.getD j 0)) :
    (∀ s' i', s' < 2 → i' < 8 → ¬ (s' = s ∧ i' = i) → slotB bs' s' i' = slotB bs s' i') ∧ (kindAt bs' s i ≠ 3 ∨ slotB bs' s i = sl) := by
  constructor
  · intro s' i' hs' hi' hne
    rw [slotB_map bs' hl' s' i' hs' hi', slotB_map bs hl s' i' hs' hi']
    apply List.map_congr_left
    intro j hj
    have := List.mem_range.1 hj
    exact ho _ (by omega)
  · rcases hf with hf | ⟨hf, hrest⟩
    · exact .inl (kind_first hl' hs hi (by rw [hf]; decide))
    · rw [h0] at hf
      by_cases e : res = 0
      · right
        rw [e, bor8_zero 0 (by omega), band_full 0 (by omega)] at hf
        rw [slotB_map bs' hl' s i hs hi]
        conv => rhs; rw [← list_map16 sl hsl]
        apply List.map_congr_left
        intro j hj
        have := List.mem_range.1 hj
        by_cases ej : j = 0
        · subst ej
          rw [Nat.add_zero, hf, h0]
        · exact hrest j (by omega) this
      · left
        have hb : bor8 0 res ≠ 0 := bor8_pos 0 res (by omega) (by omega)
        have hbr := bor8_rng 0 res
        refine kind_first hl' hs hi ?_
        rw [hf, band_full _ hbr]
        exact hb
theorem slotOf_first (a b c d e : Int) : (slotOf a b c d e).getD 0 0 = 0 := rfl
end Go.Proofs.YtnjlbgolnbdkaaaGreat
