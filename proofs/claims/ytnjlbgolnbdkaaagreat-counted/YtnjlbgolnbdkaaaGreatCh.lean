/- An append, with the power as it may be: what becomes of the slots. Plain. -/
import Derived.Test.YtnjlbgolnbdkaaaGreatCg
namespace Go.Proofs.YtnjlbgolnbdkaaaGreat
open Go.RowKit

theorem app_out {F : Fl} {c s k gen : Nat} (hok : FlOk F) (hd : F.dead = false) (hJ : Jg c F.bs s k gen) (hc : c < 2147483648) (part code act : Int) :
    ∃ b F', F.app part code act = (b, F') ∧ FlOk F' ∧ F'.dead = !b ∧
      ((k < 8 ∧ (∀ s' i', s' < 2 → i' < 8 → ¬ (s' = s ∧ i' = k) → slotB F'.bs s' i' = slotB F.bs s' i') ∧ (slotB F'.bs s k = slotOf 1 part code (greatOf (logOf F.bs) + 1) act ∨ (b = false ∧ kindAt F'.bs s k ≠ 3))) ∨
       (k = 8 ∧ (∀ i, i < 8 → slotB F'.bs s i = slotB F.bs s i) ∧ Turned b F.bs F'.bs (1 - s) (slotOf 2 0 0 ((gen + 1 : Nat) : Int) (allRest F.bs)) (slotOf 1 part code (greatOf (logOf F.bs) + 1) act))) := by
  obtain ⟨f1, f2, f3, f4, f5⟩ := hJ.facts hc
  have hk := hJ.k8
  have hs2 := hJ.s2
  unfold Fl.app
  rw [f4]
  simp only
  rw [f5]
  by_cases h8 : k < 8
  · rw [if_pos ⟨f1, h8⟩]
    obtain ⟨b, F', e, k1, d1, a1, c1⟩ := lay_any hok hd hs2 h8 (hJ.rest k (Nat.le_refl _) h8) (slotOf_length 1 part code (greatOf (logOf F.bs) + 1) act) (slotOf_first _ _ _ _ _) (slotOf_bytes _ _ _ _ _)
    exact ⟨b, F', e, k1, d1, .inl ⟨h8, a1, c1⟩⟩
  · rw [if_neg (fun h => h8 h.2)]
    have eh : hdrOf F.bs s 3 = gen := by unfold hdrOf; rw [if_pos f1]; exact f2
    rw [eh]
    obtain ⟨b, F', e, k1, d1, a1, c1⟩ := sector_any hok hd (show 1 - s < 2 by omega) ((gen + 1 : Nat) : Int) (allRest F.bs) part code (greatOf (logOf F.bs) + 1) act
    rw [show 1 - (1 - s) = s by omega] at a1
    exact ⟨b, F', by rw [show ((gen : Int) + 1) = ((gen + 1 : Nat) : Int) by omega]; exact e, k1, d1, .inr ⟨by omega, a1, c1⟩⟩
theorem app_out0 {F : Fl} (hok : FlOk F) (hd : F.dead = false) (b0 : headB F.bs 0 = false) (b1 : headB F.bs 1 = false) (part code act : Int) :
    ∃ b F', F.app part code act = (b, F') ∧ FlOk F' ∧ F'.dead = !b ∧ (∀ i, i < 8 → slotB F'.bs 1 i = slotB F.bs 1 i) ∧ Turned b F.bs F'.bs 0 (slotOf 2 0 0 ((1 : Nat) : Int) (allRest F.bs)) (slotOf 1 part code (greatOf (logOf F.bs) + 1) act) := by
  have ea : actOf F.bs = (1, 0) := by unfold actOf; rw [b0]; rfl
  have eh : hdrOf F.bs 1 3 = 0 := by unfold hdrOf; rw [b1]; rfl
  unfold Fl.app
  rw [ea, if_neg (by rw [b1]; simp), eh]
  exact sector_any hok hd (show 0 < 2 by omega) ((1 : Nat) : Int) (allRest F.bs) part code (greatOf (logOf F.bs) + 1) act
theorem Jg.put {c : Nat} {bs bs' : List Int} {s k gen : Nat} (h : Jg c bs s k gen) (h8 : k < 8) (hl' : bs'.length = 256) (ho : ∀ s' i', s' < 2 → i' < 8 → ¬ (s' = s ∧ i' = k) → slotB bs' s' i' = slotB bs s' i') {part code q act : Int} (hnew : slotB bs' s k = slotOf 1 part code q act) :
    Jg (c + 1) bs' s (k + 1) gen ∧ argB bs' s = argB bs s ∧ faultsTo bs' s 7 = faultsTo bs s 7 ++ [recOf bs' s k] := by
  have hs2 := h.s2
  have hk := h.k8
  have hg := h.gens
  have hold : ∀ i, i < 8 → i ≠ k → slotB bs' s i = slotB bs s i := fun i hi hne => ho s i hs2 hi (by omega)
  have h0 := hold 0 (by omega) (by omega)
  have hoth : slotB bs' (1 - s) 0 = slotB bs (1 - s) 0 := ho (1 - s) 0 (by omega) (by omega) (by omega)
  obtain ⟨c1, c2, -⟩ := head_congr hoth
  have hj : Jg (c + 1) bs' s (k + 1) gen := by
    refine ⟨hl', hs2, by omega, by omega, ?_, fun i a b => ?_, fun _ => by rw [Nat.add_sub_cancel, kind_good hnew]; decide, fun i a b => ?_, by rw [c1, c2]; exact h.other⟩
    · obtain ⟨cnt, hcnt, hh⟩ := h.head
      exact ⟨cnt, hcnt, by rw [h0]; exact hh⟩
    · by_cases e : i = k
      · subst e
        exact .inl ⟨part, code, q, act, hnew⟩
      · rcases h.recs i a (by omega) with hx | hx
        · rw [hold i (by omega) e]
          exact .inl hx
        · refine .inr ?_
          unfold kindAt at hx ⊢
          rw [hold i (by omega) e]
          exact hx
    · rw [hold i b (by omega)]
      exact h.rest i (by omega) b
  refine ⟨hj, (head_congr h0).2.2, ?_⟩
  obtain ⟨m, rfl⟩ : ∃ m, k = m + 1 := ⟨k - 1, by omega⟩
  have e1 := faults_rest (k := m + 1 + 1) hj.rest (m + 1) (by omega) (6 - m) (by omega)
  have e2 := faults_rest (k := m + 1) h.rest m (by omega) (7 - m) (by omega)
  rw [show m + 1 + (6 - m) = 7 by omega] at e1
  rw [show m + (7 - m) = 7 by omega] at e2
  rw [e1, e2]
  show faultsTo bs' s m ++ (if isFault bs' s (m + 1) then [recOf bs' s (m + 1)] else []) = _
  rw [fault_good hnew, faults_congr m (fun i a b => hold i (by omega) (by omega))]
  rfl
theorem Jg.mono {c : Nat} {bs : List Int} {s k gen : Nat} (h : Jg c bs s k gen) {c' : Nat} (hc : c ≤ c') : Jg c' bs s k gen :=
  ⟨h.len, h.s2, h.k8, ⟨h.gens.1, Nat.le_trans h.gens.2 hc⟩, h.head, h.recs, h.last, h.rest, h.other⟩
theorem sector_on {c o gen : Nat} {bs' : List Int} {cnt : Int} {new : List Int} {b : Bool} (hl' : bs'.length = 256) (ho : o < 2) (hg : 1 ≤ gen ∧ gen ≤ c) (hcnt : 0 ≤ cnt ∧ cnt < 4294967296) (hh : slotB bs' o 0 = slotOf 2 0 0 gen cnt) (hb : ∀ i, 2 ≤ i → i < 8 → slotB bs' o i = blank)
    {part code q act : Int} (hn : new = slotOf 1 part code q act) (h1 : slotB bs' o 1 = new ∨ (b = false ∧ kindAt bs' o 1 ≠ 3)) (hother : headB bs' (1 - o) = false ∨ (headB bs' (1 - o) = true ∧ genB bs' (1 - o) = (gen : Int) - 1)) :
    argB bs' o = cnt ∧ ((slotB bs' o 1 = new ∧ Jg c bs' o 2 gen ∧ faultsTo bs' o 7 = [recOf bs' o 1]) ∨ (b = false ∧ (∃ k', Jg c bs' o k' gen) ∧ faultsTo bs' o 7 = [])) := by
  subst hn
  have hf := faults_rest (bs := bs') (s := o) (k := 2) hb 1 (by omega) 6 (by omega)
  have hf1 : faultsTo bs' o 1 = [] ++ (if isFault bs' o 1 then [recOf bs' o 1] else []) := rfl
  refine ⟨by rw [(head_good hh).2.2]; omega, ?_⟩
  rcases h1 with h1 | ⟨hbf, h1⟩
  · refine .inl ⟨h1, ⟨hl', ho, by omega, hg, ⟨cnt, hcnt, hh⟩, fun i a b => ?_, fun _ => ?_, hb, hother⟩, ?_⟩
    · obtain rfl : i = 1 := by omega
      exact .inl ⟨part, code, q, act, h1⟩
    · show kindAt bs' o 1 ≠ 0
      rw [kind_good h1]
      decide
    · rw [show 7 = 1 + 6 by rfl, hf, hf1, fault_good h1]
      rfl
  · refine .inr ⟨hbf, ?_, ?_⟩
    · by_cases e : kindAt bs' o 1 = 0
      · refine ⟨1, hl', ho, by omega, hg, ⟨cnt, hcnt, hh⟩, fun i a b => by omega, fun h => by omega, fun i a b => ?_, hother⟩
        by_cases ei : i = 1
        · subst ei
          exact kind_none (slotB_len hl' ho b) e
        · exact hb i (by omega) b
      · refine ⟨2, hl', ho, by omega, hg, ⟨cnt, hcnt, hh⟩, fun i a b => ?_, fun _ => e, hb, hother⟩
        obtain rfl : i = 1 := by omega
        exact .inr h1
    · have : isFault bs' o 1 = false := by
        unfold isFault
        simp [h1]
      rw [show 7 = 1 + 6 by rfl, hf, hf1, this]
      rfl
end Go.Proofs.YtnjlbgolnbdkaaaGreat
