/- The check of some bytes as a function on lists, and small facts about it. Plain mathematics: nothing of the program. -/
namespace Go.Proofs.Ytnjlbgolnbdkaaa

def crcBit (s : Nat) : Nat := if s % 2 = 1 then (s / 2) ^^^ 3988292384 else s / 2
def crcBits : Nat → Nat → Nat
  | 0, s => s
  | k + 1, s => crcBit (crcBits k s)
def crcByte (s z : Nat) : Nat := crcBits 8 (s ^^^ z)
def crcFrom (s : Nat) (zs : List Int) : Nat := zs.foldl (fun s z => crcByte s z.toNat) s
def crcOf (zs : List Int) : Nat := 4294967295 - crcFrom 4294967295 zs

theorem crcBit_lt (s : Nat) (h : s < 4294967296) : crcBit s < 4294967296 := by
  unfold crcBit
  split
  · exact Nat.xor_lt_two_pow (n := 32) (by omega) (by omega)
  · omega

theorem crcBits_lt (k s : Nat) (h : s < 4294967296) : crcBits k s < 4294967296 := by
  induction k with
  | zero => exact h
  | succ k ih => exact crcBit_lt _ ih

theorem crcByte_lt (s z : Nat) (h : s < 4294967296) (hz : z < 256) : crcByte s z < 4294967296 := by
  unfold crcByte
  exact crcBits_lt _ _ (Nat.xor_lt_two_pow (n := 32) (by omega) (by omega))

theorem crcFrom_lt (zs : List Int) : ∀ s, s < 4294967296 → (∀ z ∈ zs, 0 ≤ z ∧ z < 256) → crcFrom s zs < 4294967296 := by
  induction zs with
  | nil => intro s h _; exact h
  | cons z zs ih =>
    intro s h hz
    have h1 := hz z (by simp)
    exact ih _ (crcByte_lt s z.toNat h (by omega)) (fun y hy => hz y (by simp [hy]))

theorem crcOf_lt (zs : List Int) : crcOf zs < 4294967296 := by unfold crcOf; omega

theorem crcFrom_snoc (s : Nat) (zs : List Int) (z : Int) : crcFrom s (zs ++ [z]) = crcByte (crcFrom s zs) z.toNat := by
  simp [crcFrom, List.foldl_append]

theorem take_snoc (zs : List Int) (k : Nat) (h : k < zs.length) : zs.take (k + 1) = zs.take k ++ [zs.getD k 0] := by
  rw [List.take_succ_eq_append_getElem h]
  simp [List.getD, h]

/- a number in four bytes, the highest one first -/
def be4 (n : Nat) : List Int := [((n / 16777216 % 256 : Nat) : Int), ((n / 65536 % 256 : Nat) : Int), ((n / 256 % 256 : Nat) : Int), ((n % 256 : Nat) : Int)]

def numFrom (s : Nat) (zs : List Int) : Nat := zs.foldl (fun s z => (s * 256 + z.toNat) % 4294967296) s
theorem numFrom_snoc (s : Nat) (zs : List Int) (z : Int) : numFrom s (zs ++ [z]) = (numFrom s zs * 256 + z.toNat) % 4294967296 := by
  simp [numFrom, List.foldl_append]
theorem numFrom_lt (zs : List Int) : ∀ s, s < 4294967296 → numFrom s zs < 4294967296 := by
  induction zs with
  | nil => intro s h; exact h
  | cons z zs ih => intro s _; exact ih _ (Nat.mod_lt _ (by decide))
theorem numFrom_be4 (n : Nat) (h : n < 4294967296) : numFrom 0 (be4 n) = n := by
  simp only [numFrom, be4, List.foldl, Int.toNat_natCast]
  omega

end Go.Proofs.Ytnjlbgolnbdkaaa
