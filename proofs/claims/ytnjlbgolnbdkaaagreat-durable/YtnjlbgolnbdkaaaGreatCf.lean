/- What befalls the other sector alone counts for nothing. Plain. -/
import Derived.Test.YtnjlbgolnbdkaaaGreatCe
namespace Go.Proofs.YtnjlbgolnbdkaaaGreat
open Go.RowKit

theorem Jg.aside {c : Nat} {bs bs' : List Int} {s k gen : Nat} (h : Jg c bs s k gen) (hc : c < 2147483648) (hl' : bs'.length = 256) (ha : ∀ i, i < 8 → slotB bs' s i = slotB bs s i) (ho : headB bs' (1 - s) = false ∨ (headB bs' (1 - s) = true ∧ genB bs' (1 - s) = (gen : Int) - 1)) :
    Jg c bs' s k gen ∧ ∀ p, restartsOf bs' p = restartsOf bs p := by
  have hkind : ∀ i, i < 8 → kindAt bs' s i = kindAt bs s i := fun i hi => by unfold kindAt; rw [ha i hi]
  have hk8 := h.k8
  have hj : Jg c bs' s k gen := by
    obtain ⟨cnt, hcnt, hh⟩ := h.head
    refine ⟨hl', h.s2, h.k8, h.gens, ⟨cnt, hcnt, (ha 0 (by omega)).trans hh⟩, fun i a b => ?_, fun h2 => ?_, fun i a b => ?_, ho⟩
    · rw [ha i (by omega), hkind i (by omega)]
      exact h.recs i a b
    · rw [hkind (k - 1) (by omega)]
      exact h.last h2
    · rw [ha i b]
      exact h.rest i a b
  refine ⟨hj, fun p => ?_⟩
  obtain ⟨-, -, f3, -, -⟩ := h.facts hc
  obtain ⟨-, -, f3', -, -⟩ := hj.facts hc
  rw [rest_of f3' p, rest_of f3 p, (head_congr (ha 0 (by omega))).2.2, faults_congr 7 (fun i _ b => ha i (by omega))]
theorem head_none {bs : List Int} {s : Nat} (h : kindAt bs s 0 ≠ 3) : headB bs s = false := by
  unfold headB
  simp [h]
end Go.Proofs.YtnjlbgolnbdkaaaGreat
