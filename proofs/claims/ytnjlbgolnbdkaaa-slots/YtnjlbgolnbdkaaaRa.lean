/- The document's own answer: four, check, number: the same functions on lists as the program's. -/
import Derived.Test.YtnjlbgolnbdkaaaSa
namespace Go.Proofs.Ytnjlbgolnbdkaaa
open Go.RowKit

set_option maxHeartbeats 400000 in
theorem four_any (v : Int) (w : World) :
    Calls Try.prog 22 #[.int .i64 v] w fun e w' => e = .returned (.slice (some ⟨w.heap.size, 0, none⟩) 4 4) ∧ w' = w.alloc (.cells (vals (be4 (v % 4294967296).toNat)).toArray 5) := by
  have HB : Hid ((vals (be4 (v % 4294967296).toNat)).toArray = #[Value.int .u8 (v / 16777216 % 256), .int .u8 (v / 65536 % 256), .int .u8 (v / 256 % 256), .int .u8 (v % 256)]) := by
    show _ = _
    obtain ⟨n, hn⟩ := Int.eq_ofNat_of_zero_le (show 0 ≤ v % 4294967296 from by omega)
    rw [hn, Int.toNat_natCast]
    unfold vals be4
    rw [show ((n / 16777216 % 256 : Nat) : Int) = v / 16777216 % 256 from by omega, show ((n / 65536 % 256 : Nat) : Int) = v / 65536 % 256 from by omega, show ((n / 256 % 256 : Nat) : Int) = v / 256 % 256 from by omega, show ((n % 256 : Nat) : Int) = v % 256 from by omega]
    rfl
  go_enter Try.func22, Try.ntmps22
  go_wp2
  go_ret
  rw [HB.out]
  exact ⟨rfl, rfl⟩

theorem ofInt_i64 (a : Nat) (ha : a < 9223372036854775808) : (BitVec.ofInt 64 (a : Int)).toNat = a := by
  rw [BitVec.ofInt_natCast, BitVec.toNat_ofNat]; exact Nat.mod_eq_of_lt (by omega)
theorem i64_xor_nat (a b : Nat) (ha : a < 4294967296) (hb : b < 4294967296) : bits .xor .i64 (a : Int) (b : Int) = ((a ^^^ b : Nat) : Int) := by
  have hx : a ^^^ b < 2 ^ 32 := Nat.xor_lt_two_pow (by omega) (by omega)
  show IntKind.i64.wrap ((BitVec.ofInt 64 (a : Int) ^^^ BitVec.ofInt 64 (b : Int)).toNat : Int) = _
  rw [BitVec.toNat_xor, ofInt_i64 a (by omega), ofInt_i64 b (by omega), IntKind.wrap_i64]
  omega

/- the check, bit by bit: the byte's bits come in one by one -/
theorem xor_half (a b : Nat) : (a ^^^ b) / 2 = a / 2 ^^^ b / 2 := by
  have := Nat.shiftRight_xor_distrib (a := a) (b := b) (i := 1)
  simpa [Nat.shiftRight_eq_div_pow] using this
theorem xor_parity (a b : Nat) : (a ^^^ b) % 2 = (a + b) % 2 := by
  have := Nat.xor_mod_two_eq_one (a := a) (b := b)
  omega
def refV (s c k : Nat) : Nat := crcBits k (s ^^^ c) ^^^ (c / 2 ^ k)
theorem refV_zero (s c : Nat) : refV s c 0 = s := by
  simp [refV, crcBits, Nat.xor_assoc]
theorem refV_eight (s c : Nat) (hc : c < 256) : refV s c 8 = crcByte s c := by
  have : c / 2 ^ 8 = 0 := by omega
  simp [refV, this, crcByte]
theorem refV_lt (s c k : Nat) (hs : s < 4294967296) (hc : c < 256) : refV s c k < 4294967296 := by
  have h1 := crcBits_lt k (s ^^^ c) (Nat.xor_lt_two_pow (n := 32) (by omega) (by omega))
  have h2 : c / 2 ^ k ≤ c := Nat.div_le_self _ _
  exact Nat.xor_lt_two_pow (n := 32) (by omega) (by omega)
theorem refV_succ (s c k : Nat) : refV s c (k + 1) = if (refV s c k + c / 2 ^ k) % 2 = 1 then (refV s c k / 2) ^^^ 3988292384 else refV s c k / 2 := by
  have e1 : c / 2 ^ (k + 1) = c / 2 ^ k / 2 := by rw [Nat.pow_succ, Nat.div_div_eq_div_mul]
  have e2 : (refV s c k + c / 2 ^ k) % 2 = crcBits k (s ^^^ c) % 2 := by
    rw [← xor_parity]
    simp [refV, Nat.xor_assoc]
  have e3 : refV s c k / 2 = crcBits k (s ^^^ c) / 2 ^^^ c / 2 ^ k / 2 := by unfold refV; rw [xor_half]
  rw [e2, e3]
  show crcBit (crcBits k (s ^^^ c)) ^^^ c / 2 ^ (k + 1) = _
  rw [e1]
  unfold crcBit
  split
  · rw [Nat.xor_assoc, Nat.xor_comm 3988292384, ← Nat.xor_assoc]
  · rfl
theorem half_pow (c k : Nat) : c / 2 ^ k / 2 = c / 2 ^ (k + 1) := by rw [Nat.pow_succ, Nat.div_div_eq_div_mul]

theorem ref_odd (x : Nat) (hx : x < 4294967296) : bits .xor .i64 ((x : Int) / 2) 3988292384 = ((x / 2 ^^^ 3988292384 : Nat) : Int) := by
  have := i64_xor_nat (x / 2) 3988292384 (by omega) (by omega)
  simpa using this

set_option maxHeartbeats 1000000 in
theorem rcheck_any (b off cap : Nat) (zs : List Int) (w : World) (hz : Bytes zs) (hr : Row w b off zs) (hn : zs.length ≤ 9223372036854775807) :
    Calls Try.prog 23 #[.slice (some ⟨b, off, none⟩) zs.length cap] w fun e w' => e = .returned (.int .i64 (crcOf zs : Nat)) ∧ w' = w := by
  go_enter Try.func23, Try.ntmps23
  go_wp2
  go_loop [3, 4] (fun t i => ∃ k : Nat, k ≤ zs.length ∧ i = .int .i64 k ∧ t = .int .i64 (crcFrom 4294967295 (zs.take k) : Nat)) (fun _ i => zs.length - (intOf i).toNat)
  case atStart => exact ⟨0, by omega, rfl, rfl⟩
  case round =>
    obtain ⟨k, hk, rfl, rfl⟩ := hrel
    have hl := crcFrom_lt (zs.take k) 4294967295 (by omega) (hz.take k)
    by_cases hlt : k < zs.length
    · have hc := hr k hlt
      have hb := hz.getD k
      have HS : Hid (crcFrom 4294967295 (zs.take (k + 1)) = crcByte (crcFrom 4294967295 (zs.take k)) (zs.getD k 0).toNat) := by
        show _ = _
        rw [take_snoc zs k hlt, crcFrom_snoc]
      generalize crcFrom 4294967295 (zs.take k) = c at *
      generalize zs.getD k 0 = z at *
      obtain ⟨d, rfl⟩ := Int.eq_ofNat_of_zero_le hb.1
      have hd : d < 256 := by omega
      simp only [Int.toNat_natCast] at HS
      go_wp2
      go_loop [3, 5, 6] (fun t e i => ∃ j : Nat, j ≤ 8 ∧ i = .int .i64 j ∧ t = .int .i64 (refV c d j : Nat) ∧ e = .int .i64 (d / 2 ^ j : Nat)) (fun _ _ i => 8 - (intOf i).toNat)
      case atStart => exact ⟨0, by omega, rfl, int_eq (by rw [refV_zero]), int_eq (by simp)⟩
      case round =>
        obtain ⟨j, hj, rfl, rfl, rfl⟩ := hrel
        have hv := refV_lt c d j hl hd
        have he : d / 2 ^ j ≤ d := Nat.div_le_self _ _
        have HV := hide (refV_succ c d j)
        have HE := hide (half_pow d j)
        have H8 := hide (refV_eight c d hd)
        by_cases hj8 : j < 8
        · generalize refV c d j = x at hv HV ⊢
          generalize d / 2 ^ j = y at he HV HE ⊢
          go_wp2
          · have hp : ((x : Int) + y) % 2 = 1 := beq_iff_eq.1 ‹_›
            go_round
            case rel => exact ⟨j + 1, by omega, by go_num, int_eq (by rw [HV.out, if_pos (by omega)]; exact ref_odd x hv), int_eq (by rw [← HE.out]; simp)⟩
            case measure => simp [intOf]; omega
          · have hp : ¬ ((x : Int) + y) % 2 = 1 := beq_eq_false_iff_ne.1 ‹_›
            go_round
            case rel => exact ⟨j + 1, by omega, by go_num, int_eq (by rw [HV.out, if_neg (by omega)]; simp), int_eq (by rw [← HE.out]; simp)⟩
            case measure => simp [intOf]; omega
        · obtain rfl : j = 8 := by omega
          have HX := hide (H8.out)
          go_wp2
          go_round
          case rel => exact ⟨k + 1, by omega, by go_num, int_eq (by rw [HS.out, ← HX.out])⟩
          case measure => simp [intOf]; omega
    · have HE : Hid (zs.take k = zs) := by
        show _ = _
        rw [List.take_of_length_le (by omega)]
      go_wp2
      go_ret
      exact ⟨ret_int (by rw [HE.out]; unfold crcOf; rw [HE.out] at hl; omega), rfl⟩
end Go.Proofs.Ytnjlbgolnbdkaaa
