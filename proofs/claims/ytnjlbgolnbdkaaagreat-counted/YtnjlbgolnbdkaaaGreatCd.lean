/- The journal, also with torn slots: what an append makes of the counts. Plain. -/
import Derived.Test.YtnjlbgolnbdkaaaGreatCc
namespace Go.Proofs.YtnjlbgolnbdkaaaGreat
open Go.RowKit

structure Jg (c : Nat) (bs : List Int) (s k gen : Nat) : Prop where
  len : bs.length = 256
  s2 : s < 2
  k8 : 1 ≤ k ∧ k ≤ 8
  gens : 1 ≤ gen ∧ gen ≤ c
  head : ∃ cnt, (0 ≤ cnt ∧ cnt < 4294967296) ∧ slotB bs s 0 = slotOf 2 0 0 gen cnt
  recs : ∀ i, 1 ≤ i → i < k → (∃ p cd q a, slotB bs s i = slotOf 1 p cd q a) ∨ kindAt bs s i ≠ 3
  last : 2 ≤ k → kindAt bs s (k - 1) ≠ 0
  rest : ∀ i, k ≤ i → i < 8 → slotB bs s i = blank
  other : headB bs (1 - s) = false ∨ (headB bs (1 - s) = true ∧ genB bs (1 - s) = (gen : Int) - 1)
def Jh (c : Nat) (bs : List Int) : Prop := (bs.length = 256 ∧ headB bs 0 = false ∧ headB bs 1 = false) ∨ ∃ s k gen, Jg c bs s k gen
theorem free_ofG {bs : List Int} {s k : Nat} (hk : 1 ≤ k ∧ k ≤ 8) (h1 : kindAt bs s (k - 1) ≠ 0) (h2 : ∀ i, k ≤ i → i < 8 → slotB bs s i = blank) : freeOf bs s = k := by
  have key : ∀ n, k + n ≤ 8 → freeTo bs s (k + n) = k := by
    intro n
    induction n with
    | zero =>
      intro _
      obtain ⟨m, rfl⟩ : ∃ m, k = m + 1 := ⟨k - 1, by omega⟩
      show (if kindAt bs s m = 0 then freeTo bs s m else m + 1) = m + 1
      rw [Nat.add_sub_cancel] at h1
      rw [if_neg h1]
    | succ n ih =>
      intro hn
      show (if kindAt bs s (k + n) = 0 then freeTo bs s (k + n) else k + n + 1) = k
      rw [if_pos (kind_blank (h2 (k + n) (by omega) (by omega))), ih (by omega)]
  have := key (8 - k) (by omega)
  rw [show k + (8 - k) = 8 by omega] at this
  exact this
theorem Jg.facts {c : Nat} {bs : List Int} {s k gen : Nat} (h : Jg c bs s k gen) (hc : c < 2147483648) : headB bs s = true ∧ genB bs s = gen ∧ (sectorsOf bs).1 = s ∧ actOf bs = (s, 1 - s) ∧ freeOf bs s = k := by
  obtain ⟨cnt, hcnt, hh⟩ := h.head
  obtain ⟨h1, h2, h3⟩ := head_good hh
  have hg := h.gens
  have h2' : genB bs s = gen := by rw [h2]; omega
  have hf : freeOf bs s = k := free_ofG h.k8 (by
    by_cases e : k = 1
    · subst e
      rw [kind_good hh]
      decide
    · exact h.last (by have := h.k8; omega)) h.rest
  have g : ∀ x, headB bs x = true → genOf bs x = genB bs x := fun x hx => by
    unfold genOf hdrOf genB
    rw [if_pos hx]
  have ho := h.other
  have hs := h.s2
  refine ⟨h1, h2', ?_, ?_, hf⟩
  · unfold sectorsOf sectOf
    obtain rfl | rfl : s = 0 ∨ s = 1 := by omega
    · rcases ho with ho | ⟨ho, hg2⟩
      · simp only [Nat.sub_zero] at ho
        rw [h1, ho]
        simp
      · simp only [Nat.sub_zero] at ho hg2
        rw [h1, ho, h2', hg2]
        rw [if_pos (by simp)]
        rfl
    · rcases ho with ho | ⟨ho, hg2⟩
      · simp only [Nat.sub_self] at ho
        rw [h1, ho]
        simp
      · simp only [Nat.sub_self] at ho hg2
        rw [h1, ho, h2', hg2]
        rw [if_neg (by simp; omega), if_pos (by simp)]
        rfl
  · unfold actOf
    obtain rfl | rfl : s = 0 ∨ s = 1 := by omega
    · rcases ho with ho | ⟨ho, hg2⟩
      · simp only [Nat.sub_zero] at ho
        rw [h1, ho]
        rfl
      · simp only [Nat.sub_zero] at ho hg2
        rw [if_pos (by rw [g 0 h1, g 1 ho, h1, ho, h2', hg2]; simp; omega)]
    · rcases ho with ho | ⟨ho, hg2⟩
      · simp only [Nat.sub_self] at ho
        rw [ho]
        rfl
      · simp only [Nat.sub_self] at ho hg2
        rw [if_neg (by rw [g 0 ho, g 1 h1, h1, ho, h2', hg2]; simp; omega)]
end Go.Proofs.YtnjlbgolnbdkaaaGreat
