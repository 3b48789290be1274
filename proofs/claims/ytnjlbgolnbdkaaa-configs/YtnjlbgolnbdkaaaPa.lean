/- What a reader of configurations does, on lists: the document's own order of reading. Plain mathematics. -/
import Derived.Test.YtnjlbgolnbdkaaaCrc
namespace Go.Proofs.Ytnjlbgolnbdkaaa

/- a reader: how far it came; what is wrong (0: nothing yet), and where; a register (where the last window ends) -/
structure Rd where
  pos : Nat
  err : Int
  pl : Int
  fin : Int

def rdB (zs : List Int) (lo hi : Int) (r : Rd) : Int × Rd :=
  if r.err ≠ 0 then (lo, r)
  else if zs.length ≤ r.pos then (lo, { r with err := 2, pl := zs.length })
  else if zs.getD r.pos 0 < lo ∨ hi < zs.getD r.pos 0 then (lo, { r with err := 3, pl := r.pos })
  else (zs.getD r.pos 0, { r with pos := r.pos + 1 })
def rdNot (v bad : Int) (r : Rd) : Rd := if r.err = 0 ∧ v = bad then { r with err := 3, pl := (r.pos : Int) - 1 } else r

/- so many rounds, as long as nothing is wrong -/
def rdTo {α : Type} (f : Rd → α × Rd) : Nat → Rd → List α × Rd
  | 0, r => ([], r)
  | k + 1, r => if (rdTo f k r).2.err ≠ 0 then rdTo f k r else ((rdTo f k r).1 ++ [(f (rdTo f k r).2).1], (f (rdTo f k r).2).2)
theorem rdTo_go {α : Type} (f : Rd → α × Rd) (k : Nat) (r : Rd) (h : (rdTo f k r).2.err = 0) : rdTo f (k + 1) r = ((rdTo f k r).1 ++ [(f (rdTo f k r).2).1], (f (rdTo f k r).2).2) := by
  show (if (rdTo f k r).2.err ≠ 0 then _ else _) = _
  rw [if_neg (by simpa using h)]
theorem rdTo_stop {α : Type} (f : Rd → α × Rd) (k : Nat) (r : Rd) (h : (rdTo f k r).2.err ≠ 0) : ∀ j, k ≤ j → rdTo f j r = rdTo f k r := by
  intro j hj
  induction j with
  | zero => obtain rfl : k = 0 := by omega
            rfl
  | succ j ih =>
    by_cases he : k = j + 1
    · rw [he]
    · have := ih (by omega)
      show (if (rdTo f j r).2.err ≠ 0 then _ else _) = _
      rw [this, if_pos h]

def rdIns (zs : List Int) (n : Int) (r : Rd) : (Int × Int) × Rd :=
  (((rdB zs 0 13 r).1, (rdB zs 0 (if (rdB zs 0 13 r).1 = 4 then n - 1 else 255) (rdB zs 0 13 r).2).1), (rdB zs 0 (if (rdB zs 0 13 r).1 = 4 then n - 1 else 255) (rdB zs 0 13 r).2).2)
structure Pr where
  prio : Int
  code : List (Int × Int)
def rdProc (zs : List Int) (r : Rd) : Pr × Rd :=
  (⟨(rdB zs 0 9 r).1, (rdTo (rdIns zs (rdB zs 1 20 (rdB zs 0 9 r).2).1) (rdB zs 1 20 (rdB zs 0 9 r).2).1.toNat (rdB zs 1 20 (rdB zs 0 9 r).2).2).1⟩,
    (rdTo (rdIns zs (rdB zs 1 20 (rdB zs 0 9 r).2).1) (rdB zs 1 20 (rdB zs 0 9 r).2).1.toNat (rdB zs 1 20 (rdB zs 0 9 r).2).2).2)

/- bounds -/
theorem rdB_val (zs : List Int) (lo hi : Int) (r : Rd) (h : lo ≤ hi) : lo ≤ (rdB zs lo hi r).1 ∧ (rdB zs lo hi r).1 ≤ hi := by
  unfold rdB
  split
  · exact ⟨Int.le_refl _, h⟩
  · split
    · exact ⟨Int.le_refl _, h⟩
    · split
      · exact ⟨Int.le_refl _, h⟩
      · simp only; omega
/- a value behind which nothing is wrong lies within its bounds, whatever they are -/
theorem rdB_ok (zs : List Int) (lo hi : Int) (r : Rd) (h : (rdB zs lo hi r).2.err = 0) : r.err = 0 ∧ r.pos < zs.length ∧ (rdB zs lo hi r).1 = zs.getD r.pos 0 ∧ lo ≤ zs.getD r.pos 0 ∧ zs.getD r.pos 0 ≤ hi ∧ (rdB zs lo hi r).2.pos = r.pos + 1 := by
  unfold rdB at *
  split at h
  · rename_i h1; exact absurd h h1
  · rename_i h1
    split at h
    · simp at h
    · rename_i h2
      split at h
      · simp at h
      · rename_i h3
        rw [if_neg h1, if_neg h2, if_neg h3]
        exact ⟨by simpa using h1, by omega, rfl, by omega, by omega, rfl⟩
theorem rdB_le (zs : List Int) (lo hi : Int) (r : Rd) (h : r.pos ≤ zs.length) : (rdB zs lo hi r).2.pos ≤ zs.length := by
  unfold rdB
  split
  · exact h
  · split
    · exact h
    · split
      · exact h
      · simp only; omega
theorem rdNot_pos (v bad : Int) (r : Rd) : (rdNot v bad r).pos = r.pos := by unfold rdNot; split <;> rfl
end Go.Proofs.Ytnjlbgolnbdkaaa
