/- The flash when the power is lost: an erase, a byte. Plain. -/
import Derived.Test.YtnjlbgolnbdkaaaGreatM28
namespace Go.Proofs.YtnjlbgolnbdkaaaGreat
open Go.RowKit

theorem ofInt_u8 (a : Nat) (ha : a < 256) : (BitVec.ofInt 8 (a : Int)).toNat = a := by
  rw [BitVec.ofInt_natCast, BitVec.toNat_ofNat]; exact Nat.mod_eq_of_lt (by omega)
theorem bor8_nat (a b : Nat) (ha : a < 256) (hb : b < 256) : bor8 (a : Int) (b : Int) = ((a ||| b : Nat) : Int) := by
  have hx : a ||| b < 2 ^ 8 := Nat.or_lt_two_pow (by omega) (by omega)
  show IntKind.u8.wrap ((BitVec.ofInt 8 (a : Int) ||| BitVec.ofInt 8 (b : Int)).toNat : Int) = _
  rw [BitVec.toNat_or, ofInt_u8 a ha, ofInt_u8 b hb]
  have h : ∀ x : Int, IntKind.u8.wrap x = x % 256 := fun x => by simp [IntKind.wrap, IntKind.signed, IntKind.bits]
  rw [h]
  omega
theorem bor8_zero (x : Int) (h : 0 ≤ x ∧ x ≤ 255) : bor8 x 0 = x := by
  obtain ⟨n, rfl⟩ := Int.eq_ofNat_of_zero_le h.1
  have := bor8_nat n 0 (by omega) (by omega)
  simpa using this
theorem bor8_pos (x r : Int) (h : 0 ≤ x ∧ x ≤ 255) (hr : 0 < r ∧ r ≤ 255) : bor8 x r ≠ 0 := by
  obtain ⟨n, rfl⟩ := Int.eq_ofNat_of_zero_le h.1
  obtain ⟨m, rfl⟩ := Int.eq_ofNat_of_zero_le (show 0 ≤ r by omega)
  rw [bor8_nat n m (by omega) (by omega)]
  have := Nat.right_le_or (n := n) (m := m)
  omega
theorem erase_cut {F : Fl} (hd : F.dead = false) (hlf : F.left = 0) (hl : F.bs.length = 256) (s : Nat) (hs : s < 2) :
    ∃ F', F.erase s = (false, F') ∧ F'.dead = true ∧ F'.bs.length = 256 ∧ ∀ j, F'.bs.getD j 0 = if 128 * s ≤ j ∧ j < 128 * s + 128 then bor8 (F.bs.getD j 0) F.res else F.bs.getD j 0 := by
  have hA1 := eraTo_len (fun x => bor8 x F.res) (128 * s) F.bs 128
  have hA2 := eraTo_get (fun x => bor8 x F.res) (128 * s) F.bs 128 (by rw [hl]; omega)
  unfold Fl.erase
  generalize eraTo (fun x => bor8 x F.res) (128 * s) F.bs 128 = A at *
  generalize eraTo (fun _ => 255) (128 * s) F.bs 128 = B at *
  rw [if_neg (by rw [hd]; simp), if_pos hlf]
  exact ⟨_, rfl, rfl, hA1.trans hl, hA2⟩
theorem kind_first {bs : List Int} (hl : bs.length = 256) {s i : Nat} (hs : s < 2) (hi : i < 8) (h : bs.getD (128 * s + 16 * i) 0 ≠ 0) : kindAt bs s i ≠ 3 := by
  unfold kindAt sortKind
  rw [slotB_map bs hl s i hs hi]
  split
  · decide
  · rw [if_pos (by simpa using h)]
    decide
theorem erase_leaves {bs bs' : List Int} {s : Nat} {res : Int} (hl : bs.length = 256) (hl' : bs'.length = 256) (hby : Bytes bs) (hs : s < 2) (hr : 0 ≤ res ∧ res ≤ 255) (hg : ∀ j, bs'.getD j 0 = if 128 * s ≤ j ∧ j < 128 * s + 128 then bor8 (bs.getD j 0) res else bs.getD j 0) :
    (∀ s' i, s' < 2 → i < 8 → s' ≠ s → slotB bs' s' i = slotB bs s' i) ∧ ((∀ i, i < 8 → slotB bs' s i = slotB bs s i) ∨ ∀ i, i < 8 → kindAt bs' s i ≠ 3) := by
  constructor
  · intro s' i hs' hi hne
    rw [slotB_map bs' hl' s' i hs' hi, slotB_map bs hl s' i hs' hi]
    apply List.map_congr_left
    intro j hj
    have := List.mem_range.1 hj
    rw [hg, if_neg (by omega)]
  · by_cases h0 : res = 0
    · refine .inl fun i hi => ?_
      rw [slotB_map bs' hl' s i hs hi, slotB_map bs hl s i hs hi]
      apply List.map_congr_left
      intro j hj
      have := List.mem_range.1 hj
      have hb := hby.getD (128 * s + 16 * i + j)
      rw [hg, if_pos (by omega), h0, bor8_zero _ (by omega)]
    · refine .inr fun i hi => kind_first hl' hs hi ?_
      have hb := hby.getD (128 * s + 16 * i)
      rw [hg, if_pos (by omega)]
      exact bor8_pos _ _ (by omega) (by omega)
end Go.Proofs.YtnjlbgolnbdkaaaGreat
