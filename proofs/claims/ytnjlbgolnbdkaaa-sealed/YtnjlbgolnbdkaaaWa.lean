/- What the small functions of the program do: wire.shifted, pick, wire.Check, wire.Number. -/
import Derived.Test.YtnjlbgolnbdkaaaRows
import Derived.Test.YtnjlbgolnbdkaaaCrc
import Derived.WalkKit
import Derived.WalkSpells
import Derived.WalkLawsBesides
namespace Go.Proofs.Ytnjlbgolnbdkaaa
open Go.RowKit

theorem and_one (c : Nat) (h : c < 4294967296) : bits .and .u32 (c : Int) 1 = ((c % 2 : Nat) : Int) := by
  have := u32_and_nat c 1 h (by omega)
  rw [Nat.and_one_is_mod] at this
  exact this

theorem bit_odd (c : Nat) (h : c < 4294967296) (e : (bits .and .u32 (c : Int) 1 == 1) = true) : bits .xor .u32 ((c : Int) / 2) 3988292384 = ((crcBit c : Nat) : Int) := by
  rw [and_one c h] at e
  have e1 : c % 2 = 1 := by have := beq_iff_eq.1 e; omega
  have := u32_xor_nat (c / 2) 3988292384 (by omega) (by omega)
  unfold crcBit
  rw [if_pos e1]
  simpa using this

theorem bit_even (c : Nat) (h : c < 4294967296) (e : (bits .and .u32 (c : Int) 1 == 1) = false) : (c : Int) / 2 = ((crcBit c : Nat) : Int) := by
  rw [and_one c h] at e
  have e1 : ¬ c % 2 = 1 := by have := beq_eq_false_iff_ne.1 e; omega
  unfold crcBit
  rw [if_neg e1]
  simp

theorem hide {p : Prop} (h : p) : Hid p := h
theorem int_eq {k : IntKind} {a b : Int} (h : a = b) : Value.int k a = Value.int k b := by rw [h]
theorem ret_bool {a b : Bool} (h : a = b) : Ending.returned (.bool a) = .returned (.bool b) := by rw [h]
theorem ret_int {k : IntKind} {a b : Int} (h : a = b) : Ending.returned (.int k a) = .returned (.int k b) := by rw [h]

set_option maxHeartbeats 400000 in
theorem shifted_any (s : Nat) (w : World) (hs : s < 4294967296) :
    Calls Try.prog 45 #[.int .u32 s] w fun e w' => e = .returned (.int .u32 (crcBits 8 s : Nat)) ∧ w' = w := by
  go_enter Try.func45, Try.ntmps45
  go_wp2
  go_loop [0, 4] (fun t i => ∃ k : Nat, k ≤ 8 ∧ i = .int .i64 k ∧ t = .int .u32 (crcBits k s : Nat)) (fun _ i => 8 - (intOf i).toNat)
  case atStart => exact ⟨0, by omega, rfl, rfl⟩
  case round =>
    obtain ⟨k, hk, rfl, rfl⟩ := hrel
    have hl := crcBits_lt k s hs
    have HS : Hid (crcBits (k + 1) s = crcBit (crcBits k s)) := rfl
    generalize hg : crcBits k s = c at *
    have HG : Hid (crcBits k s = c) := hg
    clear hg
    by_cases hlt : k < 8
    · go_wp2
      all_goals
        go_round
        case rel => exact ⟨k + 1, by omega, by go_num, int_eq (by rw [HS.out]; first | exact bit_odd c hl ‹_› | exact bit_even c hl ‹_›)⟩
        case measure => simp [intOf]; omega
    · go_wp2
      go_ret
      have e : k = 8 := by omega
      subst e
      exact ⟨ret_int (by rw [HG.out]), rfl⟩

/- pick: which of n things a raw number speaks of -/
def pickOf (c n : Int) : Int := if c < 0 then (-(c + 1)) % n else c % n
theorem pickOf_nonneg (c n : Int) (hn : 0 < n) : 0 ≤ pickOf c n := by unfold pickOf; split <;> exact Int.emod_nonneg _ (by omega)
theorem pickOf_lt (c n : Int) (hn : 0 < n) : pickOf c n < n := by unfold pickOf; split <;> exact Int.emod_lt_of_pos _ hn

set_option maxHeartbeats 400000 in
theorem pick_any (c n : Int) (w : World) (h1 : -9223372036854775808 ≤ c) (h2 : c ≤ 9223372036854775807) (hn : 1 ≤ n) (hn2 : n ≤ 4294967296) :
    Calls Try.prog 13 #[.int .i64 c, .int .i64 n] w fun e w' => e = .returned (.int .i64 (pickOf c n)) ∧ w' = w := by
  by_cases h : c < 0
  · have HP : Hid (-((c + 1).tmod n) = pickOf c n) := by
      show _ = _
      unfold pickOf
      rw [if_pos h, ← Int.neg_tmod, Int.tmod_eq_emod_of_nonneg (by omega)]
    go_enter Try.func13, Try.ntmps13
    go_wp2
    go_ret
    exact ⟨ret_int HP.out, rfl⟩
  · have HP : Hid (c % n = pickOf c n) := by
      show _ = _
      unfold pickOf
      rw [if_neg h]
    go_enter Try.func13, Try.ntmps13
    go_wp2
    go_ret
    exact ⟨ret_int HP.out, rfl⟩

/- the bytes zs lie in block b from off on -/
def Row (w : World) (b off : Nat) (zs : List Int) : Prop := ∀ i, i < zs.length → w.cell? ⟨b, off + i, none⟩ = some (.int .u8 (zs.getD i 0))
def Bytes (zs : List Int) : Prop := ∀ z ∈ zs, 0 ≤ z ∧ z < 256
theorem Bytes.getD {zs : List Int} (h : Bytes zs) (i : Nat) : 0 ≤ zs.getD i 0 ∧ zs.getD i 0 < 256 := by
  by_cases hi : i < zs.length
  · have := h (zs.getD i 0) (by rw [List.getD_eq_getElem?_getD, List.getElem?_eq_getElem hi]; simp)
    exact this
  · rw [List.getD_eq_getElem?_getD, List.getElem?_eq_none (by omega)]; simp
theorem Bytes.take {zs : List Int} (h : Bytes zs) (n : Nat) : Bytes (zs.take n) := fun z hz => h z (List.mem_of_mem_take hz)
theorem Bytes.drop {zs : List Int} (h : Bytes zs) (n : Nat) : Bytes (zs.drop n) := fun z hz => h z (List.mem_of_mem_drop hz)

theorem xor_byte (s : Nat) (z : Int) (hs : s < 4294967296) (h0 : 0 ≤ z) (h1 : z < 256) : bits .xor .u32 (s : Int) z = ((s ^^^ z.toNat : Nat) : Int) := by
  have := u32_xor (s : Int) z (by omega) (by omega) h0 (by omega)
  simpa using this

theorem not_u32 (c : Nat) (h : c < 4294967296) : bits .xor .u32 IntKind.u32.max (c : Int) = ((4294967295 - c : Nat) : Int) := by
  show IntKind.u32.wrap ((BitVec.ofInt 32 4294967295 ^^^ BitVec.ofInt 32 (c : Int)).toNat : Int) = _
  have h1 : BitVec.ofInt 32 4294967295 = BitVec.allOnes 32 := by decide +kernel
  rw [h1, BitVec.allOnes_xor, BitVec.toNat_not, ofInt_u32 c h, IntKind.wrap_u32']
  omega

set_option maxHeartbeats 400000 in
theorem check_any (b off cap : Nat) (zs : List Int) (w : World) (hz : Bytes zs) (hr : Row w b off zs) (hn : zs.length ≤ 9223372036854775807) :
    Calls Try.prog 30 #[.slice (some ⟨b, off, none⟩) zs.length cap] w fun e w' => e = .returned (.int .u32 (crcOf zs : Nat)) ∧ w' = w := by
  go_enter Try.func30, Try.ntmps30
  go_wp2
  go_loop [3, 8] (fun t i => ∃ k : Nat, k ≤ zs.length ∧ i = .int .i64 k ∧ t = .int .u32 (crcFrom 4294967295 (zs.take k) : Nat)) (fun _ i => zs.length - (intOf i).toNat)
  case atStart => exact ⟨0, by omega, rfl, rfl⟩
  case round =>
    obtain ⟨k, hk, rfl, rfl⟩ := hrel
    have hl := crcFrom_lt (zs.take k) 4294967295 (by omega) (hz.take k)
    by_cases hlt : k < zs.length
    · have hc := hr k hlt
      have hb := hz.getD k
      have HS : Hid (crcFrom 4294967295 (zs.take (k + 1)) = crcByte (crcFrom 4294967295 (zs.take k)) (zs.getD k 0).toNat) := by
        show _ = _
        rw [take_snoc zs k hlt, crcFrom_snoc]
      generalize crcFrom 4294967295 (zs.take k) = c at *
      generalize zs.getD k 0 = z at *
      have hx := xor_byte c z hl hb.1 hb.2
      have hxl : c ^^^ z.toNat < 4294967296 := Nat.xor_lt_two_pow (n := 32) (by omega) (by omega)
      go_wp2_with (go_at_call 45; refine (shifted_any _ _ hxl).mono ?_; rintro e w' ⟨rfl, rfl⟩)
      go_round
      case rel => exact ⟨k + 1, by omega, by go_num, int_eq (by rw [HS.out]; rfl)⟩
      case measure => simp [intOf]; omega
    · have HE : Hid (zs.take k = zs) := by
        show _ = _
        rw [List.take_of_length_le (by omega)]
      have HN := not_u32 _ hl
      have HN' : Hid _ := HN
      clear HN
      go_wp2
      go_ret
      exact ⟨ret_int (by rw [HN'.out, HE.out]; rfl), rfl⟩

theorem shl8_or (s : Nat) (z : Int) (h0 : 0 ≤ z) (h1 : z < 256) : bits .or .u32 (IntKind.u32.wrap ((s : Int) * 256)) z = (((s * 256 + z.toNat) % 4294967296 : Nat) : Int) := by
  obtain ⟨n, rfl⟩ := Int.eq_ofNat_of_zero_le h0
  rw [IntKind.wrap_u32']
  have e : ((s : Int) * 256) % 4294967296 = ((s * 256 % 4294967296 : Nat) : Int) := by omega
  rw [e, u32_or_nat _ _ (by omega) (by omega)]
  have e2 : s * 256 % 4294967296 = (s % 16777216) * 2 ^ 8 := by omega
  have e3 := Nat.two_pow_add_eq_or_of_lt (i := 8) (b := n) (by omega) (s % 16777216)
  rw [e2, Nat.mul_comm, ← e3]
  simp only [Int.toNat_natCast]
  omega

set_option maxHeartbeats 400000 in
theorem number_any (b off cap : Nat) (zs : List Int) (w : World) (hz : Bytes zs) (hr : Row w b off zs) (hn : zs.length ≤ 9223372036854775807) :
    Calls Try.prog 29 #[.slice (some ⟨b, off, none⟩) zs.length cap] w fun e w' => e = .returned (.int .u32 (numFrom 0 zs : Nat)) ∧ w' = w := by
  go_enter Try.func29, Try.ntmps29
  go_wp2
  go_loop [3, 8] (fun t i => ∃ k : Nat, k ≤ zs.length ∧ i = .int .i64 k ∧ t = .int .u32 (numFrom 0 (zs.take k) : Nat)) (fun _ i => zs.length - (intOf i).toNat)
  case atStart => exact ⟨0, by omega, rfl, rfl⟩
  case round =>
    obtain ⟨k, hk, rfl, rfl⟩ := hrel
    have hl := numFrom_lt (zs.take k) 0 (by omega)
    by_cases hlt : k < zs.length
    · have hc := hr k hlt
      have hb := hz.getD k
      have HS : Hid (numFrom 0 (zs.take (k + 1)) = (numFrom 0 (zs.take k) * 256 + (zs.getD k 0).toNat) % 4294967296) := by
        show _ = _
        rw [take_snoc zs k hlt, numFrom_snoc]
      generalize numFrom 0 (zs.take k) = c at *
      generalize zs.getD k 0 = z at *
      have HX : Hid _ := shl8_or c z hb.1 hb.2
      go_wp2
      go_round
      case rel => exact ⟨k + 1, by omega, by go_num, int_eq (by rw [HS.out]; exact HX.out)⟩
      case measure => simp [intOf]; omega
    · have HE : Hid (zs.take k = zs) := by
        show _ = _
        rw [List.take_of_length_le (by omega)]
      go_wp2
      go_ret
      exact ⟨ret_int (by rw [HE.out]), rfl⟩

/- blank -/
def blankB (zs : List Int) : Bool := zs.all (· == 255)
set_option maxHeartbeats 400000 in
theorem blank_any (b off cap : Nat) (zs : List Int) (w : World) (hz : Bytes zs) (hr : Row w b off zs) (hn : zs.length ≤ 9223372036854775807) :
    Calls Try.prog 28 #[.slice (some ⟨b, off, none⟩) zs.length cap] w fun e w' => e = .returned (.bool (blankB zs)) ∧ w' = w := by
  go_enter Try.func28, Try.ntmps28
  go_wp2
  go_loop [7] (fun i => ∃ k : Nat, k ≤ zs.length ∧ i = .int .i64 k ∧ blankB (zs.take k) = true) (fun i => zs.length - (intOf i).toNat)
  case atStart => exact ⟨0, by omega, rfl, rfl⟩
  case round =>
    obtain ⟨k, hk, rfl, hbl⟩ := hrel
    by_cases hlt : k < zs.length
    · have hc := hr k hlt
      have hb := hz.getD k
      have HS : Hid (blankB (zs.take (k + 1)) = (zs.getD k 0 == 255)) := by
        show _ = _
        rw [take_snoc zs k hlt]
        unfold blankB at *
        rw [List.all_append, hbl]
        simp
      have HN : Hid (zs.getD k 0 ≠ 255 → blankB zs = false) := by
        intro hne
        unfold blankB
        rw [List.all_eq_false]
        exact ⟨zs.getD k 0, by rw [List.getD_eq_getElem?_getD, List.getElem?_eq_getElem hlt]; simp, by simpa using hne⟩
      clear hbl
      generalize zs.getD k 0 = z at *
      by_cases hz255 : z = 255
      · subst hz255
        go_wp2
        go_round
        case rel => exact ⟨k + 1, by omega, by go_num, by rw [HS.out]; rfl⟩
        case measure => simp [intOf]; omega
      · have hzb : (z != 255) = true := by simpa using hz255
        have HF : Hid (blankB zs = false) := HN.out hz255
        clear hz255
        go_wp2
        go_ret
        exact ⟨ret_bool HF.out.symm, rfl⟩
    · have HE : Hid (blankB zs = true) := by
        rw [List.take_of_length_le (by omega)] at hbl
        exact hbl
      clear hbl
      go_wp2
      go_ret
      exact ⟨ret_bool HE.out.symm, rfl⟩
end Go.Proofs.Ytnjlbgolnbdkaaa
