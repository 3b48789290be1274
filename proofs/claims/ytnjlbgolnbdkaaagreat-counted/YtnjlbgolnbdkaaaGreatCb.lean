/- The flash when the power is lost: bytes that are laid. Plain. -/
import Derived.Test.YtnjlbgolnbdkaaaGreatCa
namespace Go.Proofs.YtnjlbgolnbdkaaaGreat
open Go.RowKit

structure Has (L : Nat) (F : Fl) : Prop where
  left : F.left = L
  dead : F.dead = false
theorem Has.prog {L : Nat} {F : Fl} (h : Has (L + 1) F) (a : Nat) (v : Int) : ∃ F', F.prog a v = (true, F') ∧ Has L F' ∧ F'.res = F.res ∧ F'.bs = F.bs.set a (band8 (F.bs.getD a 0) v) := by
  have hl := h.left
  unfold Fl.prog
  rw [if_neg (by rw [h.dead]; simp), if_neg (by rw [hl]; omega)]
  refine ⟨_, rfl, ⟨?_, h.dead⟩, rfl, rfl⟩
  show (if 0 < F.left then F.left - 1 else F.left) = _
  rw [hl, if_pos (by omega)]
  omega
theorem Has.cut {F : Fl} (h : Has 0 F) (a : Nat) (v : Int) : ∃ F', F.prog a v = (false, F') ∧ F'.dead = true ∧ F'.res = F.res ∧ F'.bs = F.bs.set a (band8 (F.bs.getD a 0) (bor8 v F.res)) := by
  have hl := h.left
  unfold Fl.prog
  rw [if_neg (by rw [h.dead]; simp), if_pos (by rw [hl]; rfl)]
  exact ⟨_, rfl, rfl, rfl, rfl⟩
theorem layTo_has {F : Fl} {L : Nat} (h : Has L F) (hl : F.bs.length = 256) (a : Nat) (sl : List Int) (ha : a + 16 ≤ 256) (hb : ∀ j, j < 16 → F.bs.getD (a + j) 0 = 255) (hs : Bytes sl) (n : Nat) (hn : n ≤ 15) (hL : n ≤ L) :
    ∃ F', loopB (fun k F => F.prog (a + (k + 1)) (sl.getD (k + 1) 0)) n F = (true, F') ∧ Has (L - n) F' ∧ F'.res = F.res ∧ F'.bs.length = 256 ∧ ∀ j, F'.bs.getD j 0 = if a + 1 ≤ j ∧ j < a + 1 + n then sl.getD (j - a) 0 else F.bs.getD j 0 := by
  induction n with
  | zero => exact ⟨F, rfl, h, rfl, hl, fun j => by rw [if_neg (by omega)]⟩
  | succ n ih =>
    obtain ⟨F1, e1, h1, r1, l1, g1⟩ := ih (by omega) (by omega)
    obtain ⟨m, hm⟩ : ∃ m, L - n = m + 1 := ⟨L - n - 1, by omega⟩
    rw [hm] at h1
    obtain ⟨F2, e2, h2, r2, b2⟩ := h1.prog (a + (n + 1)) (sl.getD (n + 1) 0)
    refine ⟨F2, ?_, by rw [show L - (n + 1) = m by omega]; exact h2, r2.trans r1, by rw [b2, List.length_set, l1], fun j => ?_⟩
    · show andB (loopB _ n F) _ = _
      rw [e1, andB_yes]
      exact e2
    · have hx := hs.getD (n + 1)
      rw [b2, getD_set _ _ _ _ (by rw [l1]; omega), g1 (a + (n + 1)), if_neg (show ¬ (a + 1 ≤ a + (n + 1) ∧ a + (n + 1) < a + 1 + n) by omega), hb (n + 1) (by omega), band_full _ (by omega), g1 j]
      by_cases e : j = a + (n + 1)
      · subst e
        rw [if_pos rfl, if_pos (by omega), show a + (n + 1) - a = n + 1 by omega]
      · rw [if_neg e]
        by_cases e2 : a + 1 ≤ j ∧ j < a + 1 + n
        · rw [if_pos e2, if_pos (by omega)]
        · rw [if_neg e2, if_neg (by omega)]
theorem lay_has {F : Fl} {L : Nat} (h : Has L F) (hl : F.bs.length = 256) (a : Nat) (sl : List Int) (ha : a + 16 ≤ 256) (hb : ∀ j, j < 16 → F.bs.getD (a + j) 0 = 255) (hs : Bytes sl) (hL : 16 ≤ L) :
    ∃ F', F.lay a sl = (true, F') ∧ Has (L - 16) F' ∧ F'.res = F.res ∧ F'.bs.length = 256 ∧ ∀ j, F'.bs.getD j 0 = if a ≤ j ∧ j < a + 16 then sl.getD (j - a) 0 else F.bs.getD j 0 := by
  obtain ⟨F1, e1, h1, r1, l1, g1⟩ := layTo_has h hl a sl ha hb hs 15 (Nat.le_refl _) (by omega)
  obtain ⟨m, hm⟩ : ∃ m, L - 15 = m + 1 := ⟨L - 16, by omega⟩
  rw [hm] at h1
  obtain ⟨F2, e2, h2, r2, b2⟩ := h1.prog a (sl.getD 0 0)
  refine ⟨F2, ?_, by rw [show L - 16 = m by omega]; exact h2, r2.trans r1, by rw [b2, List.length_set, l1], fun j => ?_⟩
  · unfold Fl.lay
    rw [e1, andB_yes, e2]
  · have hx := hs.getD 0
    have h0 := hb 0 (by omega)
    rw [Nat.add_zero] at h0
    rw [b2, getD_set _ _ _ _ (by rw [l1]; omega), g1 a, if_neg (show ¬ (a + 1 ≤ a ∧ a < a + 1 + 15) by omega), h0, band_full _ (by omega), g1 j]
    by_cases e : j = a
    · subst e
      rw [if_pos rfl, if_pos (by omega), Nat.sub_self]
    · rw [if_neg e]
      by_cases e2 : a + 1 ≤ j ∧ j < a + 1 + 15
      · rw [if_pos e2, if_pos (by omega)]
      · rw [if_neg e2, if_neg (by omega)]
theorem lay_cut {F : Fl} {L : Nat} (h : Has L F) (hl : F.bs.length = 256) (a : Nat) (sl : List Int) (ha : a + 16 ≤ 256) (hb : ∀ j, j < 16 → F.bs.getD (a + j) 0 = 255) (hs : Bytes sl) (hL : L < 16) :
    ∃ F', F.lay a sl = (false, F') ∧ F'.dead = true ∧ F'.bs.length = 256 ∧ (∀ j, ¬ (a ≤ j ∧ j < a + 16) → F'.bs.getD j 0 = F.bs.getD j 0) ∧
      (F'.bs.getD a 0 = 255 ∨ (F'.bs.getD a 0 = band8 255 (bor8 (sl.getD 0 0) F.res) ∧ ∀ j, 1 ≤ j → j < 16 → F'.bs.getD (a + j) 0 = sl.getD j 0)) := by
  have h0 := hb 0 (by omega)
  rw [Nat.add_zero] at h0
  by_cases h15 : L = 15
  · subst h15
    obtain ⟨F1, e1, h1, r1, l1, g1⟩ := layTo_has h hl a sl ha hb hs 15 (Nat.le_refl _) (Nat.le_refl _)
    obtain ⟨F2, e2, d2, r2, b2⟩ := Has.cut h1 a (sl.getD 0 0)
    refine ⟨F2, ?_, d2, by rw [b2, List.length_set, l1], fun j hj => ?_, .inr ⟨?_, fun j hj1 hj2 => ?_⟩⟩
    · unfold Fl.lay
      rw [e1, andB_yes, e2]
    · rw [b2, getD_set _ _ _ _ (by rw [l1]; omega), if_neg (by omega), g1 j, if_neg (by omega)]
    · rw [b2, getD_set _ _ _ _ (by rw [l1]; omega), if_pos rfl, g1 a, if_neg (by omega), h0, r1]
    · rw [b2, getD_set _ _ _ _ (by rw [l1]; omega), if_neg (by omega), g1 (a + j), if_pos (by omega), show a + j - a = j by omega]
  · obtain ⟨F1, e1, h1, r1, l1, g1⟩ := layTo_has h hl a sl ha hb hs L (by omega) (Nat.le_refl _)
    rw [Nat.sub_self] at h1
    obtain ⟨F2, e2, d2, r2, b2⟩ := h1.cut (a + (L + 1)) (sl.getD (L + 1) 0)
    have hloop : loopB (fun k F => F.prog (a + (k + 1)) (sl.getD (k + 1) 0)) (L + 1) F = (false, F2) := by
      show andB (loopB _ L F) _ = _
      rw [e1, andB_yes]
      exact e2
    have hall := loopB_stop (fun k F => F.prog (a + (k + 1)) (sl.getD (k + 1) 0)) F (L + 1) 15 (by omega) (by rw [hloop])
    refine ⟨F2, ?_, d2, by rw [b2, List.length_set, l1], fun j hj => ?_, .inl ?_⟩
    · unfold Fl.lay
      rw [hall, hloop, andB_no]
    · rw [b2, getD_set _ _ _ _ (by rw [l1]; omega), if_neg (by omega), g1 j, if_neg (by omega)]
    · rw [b2, getD_set _ _ _ _ (by rw [l1]; omega), if_neg (by omega), g1 a, if_neg (by omega), h0]
end Go.Proofs.YtnjlbgolnbdkaaaGreat
