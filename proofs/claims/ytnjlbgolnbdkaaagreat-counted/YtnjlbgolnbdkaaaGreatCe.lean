/- A fault that is cut in the active sector. Plain. -/
import Derived.Test.YtnjlbgolnbdkaaaGreatCd
namespace Go.Proofs.YtnjlbgolnbdkaaaGreat
open Go.RowKit

theorem kind_none {zs : List Int} (hl : zs.length = 16) (h : sortKind zs = 0) : zs = blank := by
  have hb : blankB zs = true := by
    cases e : blankB zs with
    | true => rfl
    | false =>
      exfalso
      unfold sortKind at h
      rw [e] at h
      simp only [Bool.false_eq_true, if_false] at h
      split at h
      · cases h
      · split at h
        · cases h
        · cases h
  apply List.ext_getElem
  · rw [hl]; rfl
  · intro j h1 h2
    have : ∀ x ∈ zs, x = 255 := by
      intro x hx
      simpa [blankB] using List.all_eq_true.1 hb x hx
    rw [this _ (List.getElem_mem h1)]
    exact (List.getElem_replicate (a := (255 : Int)) (n := 16) h2).symm
theorem slotB_len {bs : List Int} (hl : bs.length = 256) {s i : Nat} (hs : s < 2) (hi : i < 8) : (slotB bs s i).length = 16 := by
  rw [slotB_map bs hl s i hs hi]
  simp
theorem Jg.torn {c : Nat} {bs bs' : List Int} {s k gen : Nat} (h : Jg c bs s k gen) (hc : c < 2147483648) (h8 : k < 8) (hl' : bs'.length = 256) (ho : ∀ s' i', s' < 2 → i' < 8 → ¬ (s' = s ∧ i' = k) → slotB bs' s' i' = slotB bs s' i') (hk : kindAt bs' s k ≠ 3) :
    (∃ k', Jg c bs' s k' gen) ∧ ∀ p, restartsOf bs' p = restartsOf bs p := by
  have hs := h.s2
  have hold : ∀ i, i < 8 → i ≠ k → slotB bs' s i = slotB bs s i := fun i hi hne => ho s i hs hi (by omega)
  have h0 := hold 0 (by omega) (by have := h.k8; omega)
  have hoth : slotB bs' (1 - s) 0 = slotB bs (1 - s) 0 := ho (1 - s) 0 (by omega) (by omega) (by omega)
  obtain ⟨c1, c2, -⟩ := head_congr hoth
  have hkind : ∀ i, i < 8 → i ≠ k → kindAt bs' s i = kindAt bs s i := fun i hi hne => by unfold kindAt; rw [hold i hi hne]
  have hrec : ∀ i, 1 ≤ i → i < k → (∃ p cd q a, slotB bs' s i = slotOf 1 p cd q a) ∨ kindAt bs' s i ≠ 3 := fun i a b => by
    rw [hold i (by omega) (by omega), hkind i (by omega) (by omega)]
    exact h.recs i a b
  have hj : ∃ k', Jg c bs' s k' gen := by
    obtain ⟨cnt, hcnt, hh⟩ := h.head
    by_cases e : kindAt bs' s k = 0
    · refine ⟨k, hl', hs, h.k8, h.gens, ⟨cnt, hcnt, h0.trans hh⟩, hrec, fun h2 => ?_, fun i a b => ?_, by rw [c1, c2]; exact h.other⟩
      · rw [hkind (k - 1) (by omega) (by omega)]
        exact h.last h2
      · by_cases ei : i = k
        · subst ei
          exact kind_none (slotB_len hl' hs b) e
        · rw [hold i b ei]
          exact h.rest i a b
    · refine ⟨k + 1, hl', hs, by have := h.k8; omega, h.gens, ⟨cnt, hcnt, h0.trans hh⟩, fun i a b => ?_, fun _ => by rw [Nat.add_sub_cancel]; exact e, fun i a b => ?_, by rw [c1, c2]; exact h.other⟩
      · by_cases ei : i = k
        · subst ei
          exact .inr hk
        · exact hrec i a (by omega)
      · rw [hold i b (by omega)]
        exact h.rest i (by omega) b
  refine ⟨hj, fun p => ?_⟩
  obtain ⟨k', hj'⟩ := hj
  obtain ⟨-, -, f3, -, -⟩ := h.facts hc
  obtain ⟨-, -, f3', -, -⟩ := hj'.facts hc
  rw [rest_of f3' p, rest_of f3 p, (head_congr h0).2.2]
  have hfl : ∀ n, n ≤ 7 → faultsTo bs' s n = faultsTo bs s n := by
    intro n
    induction n with
    | zero => intro _; rfl
    | succ n ih =>
      intro hn
      show faultsTo bs' s n ++ (if isFault bs' s (n + 1) then [recOf bs' s (n + 1)] else []) = faultsTo bs s n ++ (if isFault bs s (n + 1) then [recOf bs s (n + 1)] else [])
      rw [ih (by omega)]
      by_cases e : n + 1 = k
      · have f1 : isFault bs' s (n + 1) = false := by
          unfold isFault
          rw [e]
          simp [hk]
        have f2 : isFault bs s (n + 1) = false := fault_blank (h.rest (n + 1) (by omega) (by omega))
        rw [f1, f2]
        simp
      · have e2 := hold (n + 1) (by omega) e
        unfold isFault kindAt recOf
        rw [e2]
  rw [hfl 7 (Nat.le_refl _)]
end Go.Proofs.YtnjlbgolnbdkaaaGreat
