/- Texts of the proofs of Watched and Clocked, one behind the other. -/
import Derived.Test.YtnjlbgolnbdkaaaGreatRows
import Derived.WalkKit
import Derived.WalkSpells
import Derived.WalkLawsBesides
import Derived.Deep.AppendLies
import Derived.OwnWalk
import Derived.Deep.RegionHeld3
import Derived.Deep.DrawnRows
import Derived.Deep.QuietTactic
import Derived.BigQuiet
import Derived.WalkSmall
/- Texts of the proof of Boots, one behind the other. -/
namespace Go.Proofs.YtnjlbgolnbdkaaaGreat

def crcBit (s : Nat) : Nat := if s % 2 = 1 then (s / 2) ^^^ 3988292384 else s / 2
def crcBits : Nat → Nat → Nat
  | 0, s => s
  | k + 1, s => crcBit (crcBits k s)
def crcByte (s z : Nat) : Nat := crcBits 8 (s ^^^ z)
def crcFrom (s : Nat) (zs : List Int) : Nat := zs.foldl (fun s z => crcByte s z.toNat) s
def crcOf (zs : List Int) : Nat := 4294967295 - crcFrom 4294967295 zs

theorem crcBit_lt (s : Nat) (h : s < 4294967296) : crcBit s < 4294967296 := by
  unfold crcBit
  split
  · exact Nat.xor_lt_two_pow (n := 32) (by omega) (by omega)
  · omega

theorem crcBits_lt (k s : Nat) (h : s < 4294967296) : crcBits k s < 4294967296 := by
  induction k with
  | zero => exact h
  | succ k ih => exact crcBit_lt _ ih

theorem crcByte_lt (s z : Nat) (h : s < 4294967296) (hz : z < 256) : crcByte s z < 4294967296 := by
  unfold crcByte
  exact crcBits_lt _ _ (Nat.xor_lt_two_pow (n := 32) (by omega) (by omega))

theorem crcFrom_lt (zs : List Int) : ∀ s, s < 4294967296 → (∀ z ∈ zs, 0 ≤ z ∧ z < 256) → crcFrom s zs < 4294967296 := by
  induction zs with
  | nil => intro s h _; exact h
  | cons z zs ih =>
    intro s h hz
    have h1 := hz z (by simp)
    exact ih _ (crcByte_lt s z.toNat h (by omega)) (fun y hy => hz y (by simp [hy]))

theorem crcOf_lt (zs : List Int) : crcOf zs < 4294967296 := by unfold crcOf; omega

theorem crcFrom_snoc (s : Nat) (zs : List Int) (z : Int) : crcFrom s (zs ++ [z]) = crcByte (crcFrom s zs) z.toNat := by
  simp [crcFrom, List.foldl_append]

theorem take_snoc (zs : List Int) (k : Nat) (h : k < zs.length) : zs.take (k + 1) = zs.take k ++ [zs.getD k 0] := by
  rw [List.take_succ_eq_append_getElem h]
  simp [List.getD, h]

def be4 (n : Nat) : List Int := [((n / 16777216 % 256 : Nat) : Int), ((n / 65536 % 256 : Nat) : Int), ((n / 256 % 256 : Nat) : Int), ((n % 256 : Nat) : Int)]

def numFrom (s : Nat) (zs : List Int) : Nat := zs.foldl (fun s z => (s * 256 + z.toNat) % 4294967296) s
theorem numFrom_snoc (s : Nat) (zs : List Int) (z : Int) : numFrom s (zs ++ [z]) = (numFrom s zs * 256 + z.toNat) % 4294967296 := by
  simp [numFrom, List.foldl_append]
theorem numFrom_lt (zs : List Int) : ∀ s, s < 4294967296 → numFrom s zs < 4294967296 := by
  induction zs with
  | nil => intro s h; exact h
  | cons z zs ih => intro s _; exact ih _ (Nat.mod_lt _ (by decide))
theorem numFrom_be4 (n : Nat) (h : n < 4294967296) : numFrom 0 (be4 n) = n := by
  simp only [numFrom, be4, List.foldl, Int.toNat_natCast]
  omega

end Go.Proofs.YtnjlbgolnbdkaaaGreat
namespace Go.Proofs.YtnjlbgolnbdkaaaGreat
open Go.RowKit

theorem and_one (c : Nat) (h : c < 4294967296) : bits .and .u32 (c : Int) 1 = ((c % 2 : Nat) : Int) := by
  have := u32_and_nat c 1 h (by omega)
  rw [Nat.and_one_is_mod] at this
  exact this

theorem bit_odd (c : Nat) (h : c < 4294967296) (e : (bits .and .u32 (c : Int) 1 == 1) = true) : bits .xor .u32 ((c : Int) / 2) 3988292384 = ((crcBit c : Nat) : Int) := by
  rw [and_one c h] at e
  have e1 : c % 2 = 1 := by have := beq_iff_eq.1 e; omega
  have := u32_xor_nat (c / 2) 3988292384 (by omega) (by omega)
  unfold crcBit
  rw [if_pos e1]
  simpa using this

theorem bit_even (c : Nat) (h : c < 4294967296) (e : (bits .and .u32 (c : Int) 1 == 1) = false) : (c : Int) / 2 = ((crcBit c : Nat) : Int) := by
  rw [and_one c h] at e
  have e1 : ¬ c % 2 = 1 := by have := beq_eq_false_iff_ne.1 e; omega
  unfold crcBit
  rw [if_neg e1]
  simp

theorem hide {p : Prop} (h : p) : Hid p := h
theorem int_eq {k : IntKind} {a b : Int} (h : a = b) : Value.int k a = Value.int k b := by rw [h]
theorem ret_bool {a b : Bool} (h : a = b) : Ending.returned (.bool a) = .returned (.bool b) := by rw [h]
theorem ret_int {k : IntKind} {a b : Int} (h : a = b) : Ending.returned (.int k a) = .returned (.int k b) := by rw [h]

set_option maxHeartbeats 400000 in
theorem shifted_any (s : Nat) (w : World) (hs : s < 4294967296) :
    Calls Tryz.prog 123 #[.int .u32 s] w fun e w' => e = .returned (.int .u32 (crcBits 8 s : Nat)) ∧ w' = w := by
  go_enter Tryz.func123, Tryz.ntmps123
  go_wp2
  go_loop [0, 4] (fun t i => ∃ k : Nat, k ≤ 8 ∧ i = .int .i64 k ∧ t = .int .u32 (crcBits k s : Nat)) (fun _ i => 8 - (intOf i).toNat)
  case atStart => exact ⟨0, by omega, rfl, rfl⟩
  case round =>
    obtain ⟨k, hk, rfl, rfl⟩ := hrel
    have hl := crcBits_lt k s hs
    have HS : Hid (crcBits (k + 1) s = crcBit (crcBits k s)) := rfl
    generalize hg : crcBits k s = c at *
    have HG : Hid (crcBits k s = c) := hg
    clear hg
    by_cases hlt : k < 8
    · go_wp2
      all_goals
        go_round
        case rel => exact ⟨k + 1, by omega, by go_num, int_eq (by rw [HS.out]; first | exact bit_odd c hl ‹_› | exact bit_even c hl ‹_›)⟩
        case measure => simp [intOf]; omega
    · go_wp2
      go_ret
      have e : k = 8 := by omega
      subst e
      exact ⟨ret_int (by rw [HG.out]), rfl⟩

def pickOf (c n : Int) : Int := if c < 0 then (-(c + 1)) % n else c % n
theorem pickOf_nonneg (c n : Int) (hn : 0 < n) : 0 ≤ pickOf c n := by unfold pickOf; split <;> exact Int.emod_nonneg _ (by omega)
theorem pickOf_lt (c n : Int) (hn : 0 < n) : pickOf c n < n := by unfold pickOf; split <;> exact Int.emod_lt_of_pos _ hn

def Row (w : World) (b off : Nat) (zs : List Int) : Prop := ∀ i, i < zs.length → w.cell? ⟨b, off + i, none⟩ = some (.int .u8 (zs.getD i 0))
def Bytes (zs : List Int) : Prop := ∀ z ∈ zs, 0 ≤ z ∧ z < 256
theorem Bytes.getD {zs : List Int} (h : Bytes zs) (i : Nat) : 0 ≤ zs.getD i 0 ∧ zs.getD i 0 < 256 := by
  by_cases hi : i < zs.length
  · have := h (zs.getD i 0) (by rw [List.getD_eq_getElem?_getD, List.getElem?_eq_getElem hi]; simp)
    exact this
  · rw [List.getD_eq_getElem?_getD, List.getElem?_eq_none (by omega)]; simp
theorem Bytes.take {zs : List Int} (h : Bytes zs) (n : Nat) : Bytes (zs.take n) := fun z hz => h z (List.mem_of_mem_take hz)
theorem Bytes.drop {zs : List Int} (h : Bytes zs) (n : Nat) : Bytes (zs.drop n) := fun z hz => h z (List.mem_of_mem_drop hz)

theorem xor_byte (s : Nat) (z : Int) (hs : s < 4294967296) (h0 : 0 ≤ z) (h1 : z < 256) : bits .xor .u32 (s : Int) z = ((s ^^^ z.toNat : Nat) : Int) := by
  have := u32_xor (s : Int) z (by omega) (by omega) h0 (by omega)
  simpa using this

theorem not_u32 (c : Nat) (h : c < 4294967296) : bits .xor .u32 IntKind.u32.max (c : Int) = ((4294967295 - c : Nat) : Int) := by
  show IntKind.u32.wrap ((BitVec.ofInt 32 4294967295 ^^^ BitVec.ofInt 32 (c : Int)).toNat : Int) = _
  have h1 : BitVec.ofInt 32 4294967295 = BitVec.allOnes 32 := by decide +kernel
  rw [h1, BitVec.allOnes_xor, BitVec.toNat_not, ofInt_u32 c h, IntKind.wrap_u32']
  omega

set_option maxHeartbeats 400000 in
theorem check_any (b off cap : Nat) (zs : List Int) (w : World) (hz : Bytes zs) (hr : Row w b off zs) (hn : zs.length ≤ 9223372036854775807) :
    Calls Tryz.prog 88 #[.slice (some ⟨b, off, none⟩) zs.length cap] w fun e w' => e = .returned (.int .u32 (crcOf zs : Nat)) ∧ w' = w := by
  go_enter Tryz.func88, Tryz.ntmps88
  go_wp2
  go_loop [3, 8] (fun t i => ∃ k : Nat, k ≤ zs.length ∧ i = .int .i64 k ∧ t = .int .u32 (crcFrom 4294967295 (zs.take k) : Nat)) (fun _ i => zs.length - (intOf i).toNat)
  case atStart => exact ⟨0, by omega, rfl, rfl⟩
  case round =>
    obtain ⟨k, hk, rfl, rfl⟩ := hrel
    have hl := crcFrom_lt (zs.take k) 4294967295 (by omega) (hz.take k)
    by_cases hlt : k < zs.length
    · have hc := hr k hlt
      have hb := hz.getD k
      have HS : Hid (crcFrom 4294967295 (zs.take (k + 1)) = crcByte (crcFrom 4294967295 (zs.take k)) (zs.getD k 0).toNat) := by
        show _ = _
        rw [take_snoc zs k hlt, crcFrom_snoc]
      generalize crcFrom 4294967295 (zs.take k) = c at *
      generalize zs.getD k 0 = z at *
      have hx := xor_byte c z hl hb.1 hb.2
      have hxl : c ^^^ z.toNat < 4294967296 := Nat.xor_lt_two_pow (n := 32) (by omega) (by omega)
      go_wp2_with (go_at_call 123; refine (shifted_any _ _ hxl).mono ?_; rintro e w' ⟨rfl, rfl⟩)
      go_round
      case rel => exact ⟨k + 1, by omega, by go_num, int_eq (by rw [HS.out]; rfl)⟩
      case measure => simp [intOf]; omega
    · have HE : Hid (zs.take k = zs) := by
        show _ = _
        rw [List.take_of_length_le (by omega)]
      have HN := not_u32 _ hl
      have HN' : Hid _ := HN
      clear HN
      go_wp2
      go_ret
      exact ⟨ret_int (by rw [HN'.out, HE.out]; rfl), rfl⟩

theorem shl8_or (s : Nat) (z : Int) (h0 : 0 ≤ z) (h1 : z < 256) : bits .or .u32 (IntKind.u32.wrap ((s : Int) * 256)) z = (((s * 256 + z.toNat) % 4294967296 : Nat) : Int) := by
  obtain ⟨n, rfl⟩ := Int.eq_ofNat_of_zero_le h0
  rw [IntKind.wrap_u32']
  have e : ((s : Int) * 256) % 4294967296 = ((s * 256 % 4294967296 : Nat) : Int) := by omega
  rw [e, u32_or_nat _ _ (by omega) (by omega)]
  have e2 : s * 256 % 4294967296 = (s % 16777216) * 2 ^ 8 := by omega
  have e3 := Nat.two_pow_add_eq_or_of_lt (i := 8) (b := n) (by omega) (s % 16777216)
  rw [e2, Nat.mul_comm, ← e3]
  simp only [Int.toNat_natCast]
  omega

set_option maxHeartbeats 400000 in
theorem number_any (b off cap : Nat) (zs : List Int) (w : World) (hz : Bytes zs) (hr : Row w b off zs) (hn : zs.length ≤ 9223372036854775807) :
    Calls Tryz.prog 87 #[.slice (some ⟨b, off, none⟩) zs.length cap] w fun e w' => e = .returned (.int .u32 (numFrom 0 zs : Nat)) ∧ w' = w := by
  go_enter Tryz.func87, Tryz.ntmps87
  go_wp2
  go_loop [3, 8] (fun t i => ∃ k : Nat, k ≤ zs.length ∧ i = .int .i64 k ∧ t = .int .u32 (numFrom 0 (zs.take k) : Nat)) (fun _ i => zs.length - (intOf i).toNat)
  case atStart => exact ⟨0, by omega, rfl, rfl⟩
  case round =>
    obtain ⟨k, hk, rfl, rfl⟩ := hrel
    have hl := numFrom_lt (zs.take k) 0 (by omega)
    by_cases hlt : k < zs.length
    · have hc := hr k hlt
      have hb := hz.getD k
      have HS : Hid (numFrom 0 (zs.take (k + 1)) = (numFrom 0 (zs.take k) * 256 + (zs.getD k 0).toNat) % 4294967296) := by
        show _ = _
        rw [take_snoc zs k hlt, numFrom_snoc]
      generalize numFrom 0 (zs.take k) = c at *
      generalize zs.getD k 0 = z at *
      have HX : Hid _ := shl8_or c z hb.1 hb.2
      go_wp2
      go_round
      case rel => exact ⟨k + 1, by omega, by go_num, int_eq (by rw [HS.out]; exact HX.out)⟩
      case measure => simp [intOf]; omega
    · have HE : Hid (zs.take k = zs) := by
        show _ = _
        rw [List.take_of_length_le (by omega)]
      go_wp2
      go_ret
      exact ⟨ret_int (by rw [HE.out]), rfl⟩

def blankB (zs : List Int) : Bool := zs.all (· == 255)
set_option maxHeartbeats 400000 in
theorem blank_any (b off cap : Nat) (zs : List Int) (w : World) (hz : Bytes zs) (hr : Row w b off zs) (hn : zs.length ≤ 9223372036854775807) :
    Calls Tryz.prog 196 #[.slice (some ⟨b, off, none⟩) zs.length cap] w fun e w' => e = .returned (.bool (blankB zs)) ∧ w' = w := by
  go_enter Tryz.func196, Tryz.ntmps196
  go_wp2
  go_loop [7] (fun i => ∃ k : Nat, k ≤ zs.length ∧ i = .int .i64 k ∧ blankB (zs.take k) = true) (fun i => zs.length - (intOf i).toNat)
  case atStart => exact ⟨0, by omega, rfl, rfl⟩
  case round =>
    obtain ⟨k, hk, rfl, hbl⟩ := hrel
    by_cases hlt : k < zs.length
    · have hc := hr k hlt
      have hb := hz.getD k
      have HS : Hid (blankB (zs.take (k + 1)) = (zs.getD k 0 == 255)) := by
        show _ = _
        rw [take_snoc zs k hlt]
        unfold blankB at *
        rw [List.all_append, hbl]
        simp
      have HN : Hid (zs.getD k 0 ≠ 255 → blankB zs = false) := by
        intro hne
        unfold blankB
        rw [List.all_eq_false]
        exact ⟨zs.getD k 0, by rw [List.getD_eq_getElem?_getD, List.getElem?_eq_getElem hlt]; simp, by simpa using hne⟩
      clear hbl
      generalize zs.getD k 0 = z at *
      by_cases hz255 : z = 255
      · subst hz255
        go_wp2
        go_round
        case rel => exact ⟨k + 1, by omega, by go_num, by rw [HS.out]; rfl⟩
        case measure => simp [intOf]; omega
      · have hzb : (z != 255) = true := by simpa using hz255
        have HF : Hid (blankB zs = false) := HN.out hz255
        clear hz255
        go_wp2
        go_ret
        exact ⟨ret_bool HF.out.symm, rfl⟩
    · have HE : Hid (blankB zs = true) := by
        rw [List.take_of_length_le (by omega)] at hbl
        exact hbl
      clear hbl
      go_wp2
      go_ret
      exact ⟨ret_bool HE.out.symm, rfl⟩
end Go.Proofs.YtnjlbgolnbdkaaaGreat
namespace Go.Proofs.YtnjlbgolnbdkaaaGreat
open Go.RowKit

theorem Tryz.info5 : (Tryz.prog.info? 5).map (fun i => (i.zero, i.size, i.bytes)) = some (some (.int .u8 0), 1, 1) := by kernel_rfl
def vals (zs : List Int) : List Value := zs.map (Value.int .u8)
theorem vals_append (a b : List Int) : vals (a ++ b) = vals a ++ vals b := by simp [vals]
theorem vals_length (a : List Int) : (vals a).length = a.length := by simp [vals]

theorem news_at (w : World) (cs : Array Value) (t : TypeId) : ∀ j u, cs.toList[j]? = some u → (w.alloc (.cells cs t)).cell? ((⟨w.heap.size, 0, none⟩ : Addr).add j) = some u := World.news_of_block (heap_alloc_new w _)
theorem vals_one (zs : List Int) : ∀ u ∈ vals zs, u.oneCell' = true := by
  intro u hu
  obtain ⟨z, _, rfl⟩ := List.mem_map.1 hu
  rfl
theorem grown_alloc {w w' : World} {o : Obj} {row : Option Nat} (h : (w.alloc o).grownBy w' row) : w.grownBy w' row :=
  ⟨h.os, h.tape, h.output, by have := h.size; simp at this; omega, fun k hk hne => (h.block k (by simp; omega) hne).trans (Below.heap_alloc w o k hk)⟩
theorem vals_be4 (n : Nat) (hn : n < 4294967296) : vals (be4 n) = #[Value.int .u8 ((n : Int) / 16777216), .int .u8 ((n : Int) / 65536 % 256), .int .u8 ((n : Int) / 256 % 256), .int .u8 ((n : Int) % 256)].toList := by
  have e1 : ((n / 16777216 % 256 : Nat) : Int) = (n : Int) / 16777216 := by omega
  have e2 : ((n / 65536 % 256 : Nat) : Int) = (n : Int) / 65536 % 256 := by omega
  have e3 : ((n / 256 % 256 : Nat) : Int) = (n : Int) / 256 % 256 := by omega
  have e4 : ((n % 256 : Nat) : Int) = (n : Int) % 256 := by omega
  unfold vals be4
  rw [e1, e2, e3, e4]
  rfl

set_option maxHeartbeats 400000 in
theorem append4_any (base g k cap n : Nat) (zs : List Int) (w : World) (hown : w.ownsRow base 5 1 (.slice (some ⟨g, 0, none⟩) k cap) k (vals zs)) (hroom : k + 4 ≤ cap) (hn : n < 4294967296) :
    Calls Tryz.prog 152 #[.slice (some ⟨g, 0, none⟩) k cap, .int .u32 n] w fun e w' => e = .returned (.slice (some ⟨g, 0, none⟩) (k + 4) cap) ∧
      w'.ownsRow base 5 1 (.slice (some ⟨g, 0, none⟩) (k + 4) cap) (k + 4) (vals (zs ++ be4 n)) ∧ w.grownBy w' (some g) := by
  obtain ⟨i0, hi, hz0, hz1, hz2⟩ := info_parts Tryz.info5
  go_enter Tryz.func152, Tryz.ntmps152
  go_wp2_with (at_builtin; go_must (refine wpList_append_fits _ rfl (.tmp 5) (.tmp 17) 22 rfl base 5 i0 1 Tryz.underlying22 hi hz1 g k cap (vals zs) rfl (hown.alloc _) ⟨w.heap.size, 0, none⟩ 4 4 (vals (be4 n)) (by rfl) rfl (by rw [vals_be4 n hn]; exact news_at w _ 5) (vals_one _) hroom ?_))
  intro w1 hown1 hgrow
  have H1 : Hid (w1.ownsRow base 5 1 (.slice (some ⟨g, 0, none⟩) (k + 4) cap) (k + 4) (vals (zs ++ be4 n))) := by rw [vals_append]; exact hown1
  have H2 : Hid (w.grownBy w1 (some g)) := grown_alloc hgrow
  clear hown1 hgrow
  go_wp2
  go_ret
  exact ⟨rfl, H1.out, H2.out⟩

theorem append4_int (base g k cap : Nat) (n : Int) (zs : List Int) (w : World) (hown : w.ownsRow base 5 1 (.slice (some ⟨g, 0, none⟩) k cap) k (vals zs)) (hroom : k + 4 ≤ cap) (h0 : 0 ≤ n) (hn : n < 4294967296) :
    Calls Tryz.prog 152 #[.slice (some ⟨g, 0, none⟩) k cap, .int .u32 n] w fun e w' => e = .returned (.slice (some ⟨g, 0, none⟩) (k + 4) cap) ∧
      w'.ownsRow base 5 1 (.slice (some ⟨g, 0, none⟩) (k + 4) cap) (k + 4) (vals (zs ++ be4 n.toNat)) ∧ w.grownBy w' (some g) := by
  obtain ⟨m, rfl⟩ := Int.eq_ofNat_of_zero_le h0
  exact append4_any base g k cap m zs w hown hroom (by omega)

theorem check_at (b off n cap : Nat) (zs : List Int) (w : World) (hl : zs.length = n) (hz : Bytes zs) (hr : Row w b off zs) (hn : n ≤ 9223372036854775807) :
    Calls Tryz.prog 88 #[.slice (some ⟨b, off, none⟩) n cap] w fun e w' => e = .returned (.int .u32 (crcOf zs : Nat)) ∧ w' = w := by
  subst hl
  exact check_any b off cap zs w hz hr hn
theorem number_at (b off n cap : Nat) (zs : List Int) (w : World) (hl : zs.length = n) (hz : Bytes zs) (hr : Row w b off zs) (hn : n ≤ 9223372036854775807) :
    Calls Tryz.prog 87 #[.slice (some ⟨b, off, none⟩) n cap] w fun e w' => e = .returned (.int .u32 (numFrom 0 zs : Nat)) ∧ w' = w := by
  subst hl
  exact number_any b off cap zs w hz hr hn
theorem blank_at (b off n cap : Nat) (zs : List Int) (w : World) (hl : zs.length = n) (hz : Bytes zs) (hr : Row w b off zs) (hn : n ≤ 9223372036854775807) :
    Calls Tryz.prog 196 #[.slice (some ⟨b, off, none⟩) n cap] w fun e w' => e = .returned (.bool (blankB zs)) ∧ w' = w := by
  subst hl
  exact blank_any b off cap zs w hz hr hn

theorem Row.piece {w : World} {b off : Nat} {zs : List Int} (h : Row w b off zs) (i n : Nat) : Row w b (off + i) ((zs.drop i).take n) := by
  intro j hj
  simp only [List.length_take, List.length_drop] at hj
  have := h (i + j) (by omega)
  rw [Nat.add_assoc, this]
  simp only [List.getD_eq_getElem?_getD, List.getElem?_take, List.getElem?_drop]
  rw [if_pos (by omega)]
theorem row_of_own {w : World} {base g n cap : Nat} {zs : List Int} (h : w.ownsRow base 5 1 (.slice (some ⟨g, 0, none⟩) n cap) n (vals zs)) : Row w g 0 zs := by
  intro i hi
  have := h.cells (g := g) rfl i (.int .u8 (zs.getD i 0)) (by simp [vals, List.getD_eq_getElem?_getD, List.getElem?_eq_getElem hi])
  have e : (⟨g, 0, none⟩ : Addr).add i = ⟨g, 0 + i, none⟩ := by unfold Addr.add; split <;> simp_all
  rw [← e]
  exact this

def slotHead (kind part code seq arg : Int) : List Int := [kind % 256, part % 256, code % 256] ++ be4 (seq % 4294967296).toNat ++ be4 (arg % 4294967296).toNat
def slotOf (kind part code seq arg : Int) : List Int := 0 :: slotHead kind part code seq arg ++ be4 (crcOf (slotHead kind part code seq arg))

theorem be4_bytes (n : Nat) : Bytes (be4 n) := by
  intro z hz
  simp only [be4, List.mem_cons, List.not_mem_nil, or_false] at hz
  omega
theorem slotHead_bytes (kind part code seq arg : Int) : Bytes (slotHead kind part code seq arg) := by
  intro z hz
  simp only [slotHead, List.mem_append, List.mem_cons, List.not_mem_nil, or_false] at hz
  rcases hz with (hz | hz) | hz
  · omega
  · exact be4_bytes _ z hz
  · exact be4_bytes _ z hz

set_option maxHeartbeats 1000000 in
theorem slot_any (kind part code seq arg : Int) (w : World) :
    Calls Tryz.prog 191 #[.agg #[.int .i64 kind, .int .i64 part, .int .i64 code, .int .i64 seq, .int .i64 arg]] w fun e w' => ∃ g, e = .returned (.slice (some ⟨g, 0, none⟩) 16 16) ∧
      w'.ownsRow w.heap.size 5 1 (.slice (some ⟨g, 0, none⟩) 16 16) 16 (vals (slotOf kind part code seq arg)) ∧ Below w.heap.size w w' := by
  obtain ⟨i0, hi, hz0, hz1, hz2⟩ := info_parts Tryz.info5
  go_enter Tryz.func191, Tryz.ntmps191
  go_wp2_with (at_make; go_must (refine wpList_make_own _ rfl _ _ 22 rfl w.heap.size 5 i0 (.int .u8 0) 1 Tryz.underlying22 hi hz0 hz1 .i64 .i64 16 16 rfl rfl rfl (by rw [hz2]; omega) (by decide) (by simp) ?_))
  intro w1 hown1 hgrow1
  have hb1 : w1.heap[w.heap.size]? = some (.cells #[.int .i64 kind, .int .i64 part, .int .i64 code, .int .i64 seq, .int .i64 arg] 52 (0, 0)) := (hgrow1.block _ (by simp) (by simp)).trans (heap_alloc_new w _)
  have HB1 : Hid (Below w.heap.size w w1) := ((Below.refl _ _).alloc (Nat.le_refl _) _).grown hgrow1 (by simp) (by simp)
  have HW1 : Hid (w.heap.size + 1 ≤ w1.heap.size) := by have := hgrow1.size; simp at this; exact this
  have c0 : w1.cell? ⟨w.heap.size, 0, none⟩ = some (.int .i64 kind) := by rw [cell_of_row _ _ _ _ _ _ hb1]; rfl
  have c1 : w1.cell? ⟨w.heap.size, 1, none⟩ = some (.int .i64 part) := by rw [cell_of_row _ _ _ _ _ _ hb1]; rfl
  have c2 : w1.cell? ⟨w.heap.size, 2, none⟩ = some (.int .i64 code) := by rw [cell_of_row _ _ _ _ _ _ hb1]; rfl
  have HB : Hid (w1.heap[w.heap.size]? = some (.cells #[.int .i64 kind, .int .i64 part, .int .i64 code, .int .i64 seq, .int .i64 arg] 52 (0, 0))) := hb1
  clear hb1 hgrow1
  go_wp2_with (at_builtin; go_must (refine wpList_append_fits _ rfl (.tmp 5) (.tmp 15) 22 rfl w.heap.size 5 i0 1 Tryz.underlying22 hi hz1 (w.heap.size + 1) 0 16 [] rfl (hown1.alloc _) ⟨w1.heap.size, 0, none⟩ 4 4 (vals [0, kind % 256, part % 256, code % 256]) (by rfl) rfl (news_at w1 _ 5) (vals_one _) (by omega) ?_))
  intro w2 hown2 hgrow2
  have hb2 : w2.heap[w.heap.size]? = some (.cells #[.int .i64 kind, .int .i64 part, .int .i64 code, .int .i64 seq, .int .i64 arg] 52 (0, 0)) := ((grown_alloc hgrow2).block _ (by have := HW1.out; omega) (by simp)).trans HB.out
  have HB2 : Hid (Below w.heap.size w w2) := (HB1.out).grown (grown_alloc hgrow2) (by have := HW1.out; omega) (by simp)
  have HW2 : Hid (w.heap.size + 1 ≤ w2.heap.size) := by have := (grown_alloc hgrow2).size; have := HW1.out; show _ ≤ _; omega
  have d3 : w2.cell? ⟨w.heap.size, 3, none⟩ = some (.int .i64 seq) := by rw [cell_of_row _ _ _ _ _ _ hb2]; rfl
  have HBb : Hid (w2.heap[w.heap.size]? = some (.cells #[.int .i64 kind, .int .i64 part, .int .i64 code, .int .i64 seq, .int .i64 arg] 52 (0, 0))) := hb2
  have HO2 : Hid _ := hown2
  clear hb2 hgrow2 HB HB1 HW1 c0 c1 c2 hown1 hown2
  go_wp2_with fail
  refine (append4_int w.heap.size (w.heap.size + 1) 4 16 _ _ w2 HO2.out (by omega) (by omega) (by omega)).mono ?_
  rintro e w3 ⟨rfl, hown3, hgrow3⟩
  have hb3 : w3.heap[w.heap.size]? = some (.cells #[.int .i64 kind, .int .i64 part, .int .i64 code, .int .i64 seq, .int .i64 arg] 52 (0, 0)) := (hgrow3.block _ (by have := HW2.out; omega) (by simp)).trans HBb.out
  have HB3 : Hid (Below w.heap.size w w3) := (HB2.out).grown hgrow3 (by have := HW2.out; omega) (by simp)
  have HW3 : Hid (w.heap.size + 1 ≤ w3.heap.size) := by have := hgrow3.size; have := HW2.out; show _ ≤ _; omega
  have d4 : w3.cell? ⟨w.heap.size, 4, none⟩ = some (.int .i64 arg) := by rw [cell_of_row _ _ _ _ _ _ hb3]; rfl
  have HO3 : Hid _ := hown3
  clear hgrow3 HBb hb3 HB2 HW2 d3 hown3 HO2
  go_wp2_with fail
  refine (append4_int w.heap.size (w.heap.size + 1) 8 16 _ _ w3 HO3.out (by omega) (by omega) (by omega)).mono ?_
  rintro e w4 ⟨rfl, hown4, hgrow4⟩
  have HB4 : Hid (Below w.heap.size w w4) := (HB3.out).grown hgrow4 (by have := HW3.out; omega) (by simp)
  have HW4 : Hid (w.heap.size + 1 ≤ w4.heap.size) := by have := hgrow4.size; have := HW3.out; show _ ≤ _; omega
  have HO4 : Hid (w4.ownsRow w.heap.size 5 1 (.slice (some ⟨w.heap.size + 1, 0, none⟩) 12 16) 12 (vals (0 :: slotHead kind part code seq arg))) := by
    show World.ownsRow _ _ _ _ _ _ _
    simpa [slotHead] using hown4
  have HR : Hid (Row w4 (w.heap.size + 1) 1 (slotHead kind part code seq arg)) := by
    have := (row_of_own HO4.out).piece 1 11
    exact this
  clear hgrow4 HB3 HW3 d4 hown4 HO3
  go_wp2_with fail
  refine (check_at (w.heap.size + 1) 1 11 15 (slotHead kind part code seq arg) w4 rfl (slotHead_bytes _ _ _ _ _) HR.out (by omega)).mono ?_
  rintro e w5 ⟨rfl, rfl⟩
  have hc := crcOf_lt (slotHead kind part code seq arg)
  have HS : Hid (slotOf kind part code seq arg = 0 :: slotHead kind part code seq arg ++ be4 (crcOf (slotHead kind part code seq arg))) := rfl
  go_wp2_with fail
  refine (append4_any w.heap.size (w.heap.size + 1) 12 16 _ _ w5 HO4.out (by omega) hc).mono ?_
  rintro e w6 ⟨rfl, hown6, hgrow6⟩
  have HB6 : Hid (Below w.heap.size w w6) := (HB4.out).grown hgrow6 (by have := HW4.out; omega) (by simp)
  have HO6 : Hid _ := hown6
  clear hown6 hgrow6
  go_wp2
  go_ret
  exact ⟨w.heap.size + 1, rfl, HO6.out, HB6.out⟩
end Go.Proofs.YtnjlbgolnbdkaaaGreat
/- Texts of the proof of Boots, one behind the other. -/
namespace Go.Proofs.YtnjlbgolnbdkaaaGreat
open Go.RowKit

theorem number_piece (b off i m cap : Nat) (zs : List Int) (w : World) (hz : Bytes zs) (hr : Row w b off zs) (hm : i + m ≤ zs.length) (hn : m ≤ 9223372036854775807) :
    Calls Tryz.prog 87 #[.slice (some ⟨b, off + i, none⟩) m cap] w fun e w' => e = .returned (.int .u32 (numFrom 0 ((zs.drop i).take m) : Nat)) ∧ w' = w :=
  number_at b (off + i) m cap _ w (by simp; omega) ((hz.drop i).take m) (hr.piece i m) hn
theorem check_piece (b off i m cap : Nat) (zs : List Int) (w : World) (hz : Bytes zs) (hr : Row w b off zs) (hm : i + m ≤ zs.length) (hn : m ≤ 9223372036854775807) :
    Calls Tryz.prog 88 #[.slice (some ⟨b, off + i, none⟩) m cap] w fun e w' => e = .returned (.int .u32 (crcOf ((zs.drop i).take m) : Nat)) ∧ w' = w :=
  check_at b (off + i) m cap _ w (by simp; omega) ((hz.drop i).take m) (hr.piece i m) hn

theorem row_lt {w : World} {b off : Nat} {zs : List Int} (hr : Row w b off zs) (h : 0 < zs.length) : b < w.heap.size := by
  have := hr 0 h
  rcases Nat.lt_or_ge b w.heap.size with h1 | h1
  · exact h1
  · simp [World.cell?, Array.getElem?_eq_none h1] at this
theorem Row.alloc {w : World} {b off : Nat} {zs : List Int} (hr : Row w b off zs) (o : Obj) : Row (w.alloc o) b off zs := by
  intro i hi
  have hb := row_lt hr (by omega)
  rw [World.cell?_alloc_past _ _ _ hb]
  exact hr i hi
theorem Row.drew {w : World} {b off : Nat} {zs : List Int} (hr : Row w b off zs) : Row w.drew b off zs := hr
theorem Row.drewN {w : World} {b off : Nat} {zs : List Int} (hr : Row w b off zs) (n : Nat) : Row (w.drewN n) b off zs := hr
theorem Row.below {w w' : World} {B b off : Nat} {zs : List Int} (hr : Row w b off zs) (hb : Below B w w') (hlt : b < B) : Row w' b off zs := fun i hi => (hb.cell (by exact hlt)).trans (hr i hi)

def recAgg (zs : List Int) : Value := .agg #[.int .i64 (zs.getD 1 0), .int .i64 (zs.getD 2 0), .int .i64 (zs.getD 3 0), .int .i64 (numFrom 0 ((zs.drop 4).take 4) : Nat), .int .i64 (numFrom 0 ((zs.drop 8).take 4) : Nat)]

theorem wrap_small (n : Int) (h0 : 0 ≤ n) (h1 : n < 4294967296) : IntKind.i64.wrap n = n := by
  rw [IntKind.wrap_i64]; omega

attribute [local go_sem ↓] Go.wp_at_zero Go.wp_at_succ
set_option maxHeartbeats 1000000 in
theorem record_core (b off cap : Nat) (z1 z2 z3 : Int) (F : Nat → Nat) (P : World → Prop) (w : World) (hcap : 16 ≤ cap) (hc2 : cap ≤ 9223372036854775807)
    (b1 : 0 ≤ z1 ∧ z1 < 256) (b2 : 0 ≤ z2 ∧ z2 < 256) (b3 : 0 ≤ z3 ∧ z3 < 256) (h4 : F 4 < 4294967296) (h8 : F 8 < 4294967296)
    (hP : ∀ W, P W → W.cell? ⟨b, off + 1, none⟩ = some (.int .u8 z1) ∧ W.cell? ⟨b, off + 2, none⟩ = some (.int .u8 z2) ∧ W.cell? ⟨b, off + 3, none⟩ = some (.int .u8 z3) ∧ P W)
    (hA : ∀ o, P (w.alloc o)) (hD : ∀ W, P W → P W.drew)
    (g : ∀ i, i + 4 ≤ 12 → ∀ W c, P W → Calls Tryz.prog 87 #[.slice (some ⟨b, off + i, none⟩) 4 c] W fun e w' => e = .returned (.int .u32 (F i)) ∧ w' = W) :
    Calls Tryz.prog 197 #[.slice (some ⟨b, off, none⟩) 16 cap] w fun e w' => e = .returned (.agg #[.int .i64 z1, .int .i64 z2, .int .i64 z3, .int .i64 (F 4), .int .i64 (F 8)]) ∧ Below w.heap.size w w' := by
  have e1 : IntKind.i64.wrap z1 = z1 := wrap_small _ (by omega) (by omega)
  have e2 : IntKind.i64.wrap z2 = z2 := wrap_small _ (by omega) (by omega)
  have e3 : IntKind.i64.wrap z3 = z3 := wrap_small _ (by omega) (by omega)
  have e4 : IntKind.i64.wrap (F 4 : Int) = F 4 := wrap_small _ (by omega) (by omega)
  have e8 : IntKind.i64.wrap (F 8 : Int) = F 8 := wrap_small _ (by omega) (by omega)
  have k1 : (8 : Int) ≤ (cap : Int) := by omega
  have k2 : (12 : Int) ≤ (cap : Int) := by omega
  have k3 : ¬ cap = 4 := by omega
  have k4 : ¬ cap = 8 := by omega
  have k5 : (4 : Int) ≤ 8 := by omega
  have k6 : (8 : Int) ≤ 12 := by omega
  have HP : Hid _ := hP
  have HA : Hid _ := hA
  have HD : Hid _ := hD
  have HG : Hid _ := g
  clear hP hA hD g
  go_enter Tryz.func197, Tryz.ntmps197
  go_wp2
  go_region_held3 (fun w' => w'.cell? ⟨b, off + 1, none⟩ = some (.int .u8 z1) ∧ w'.cell? ⟨b, off + 2, none⟩ = some (.int .u8 z2) ∧ w'.cell? ⟨b, off + 3, none⟩ = some (.int .u8 z3) ∧ P w')
    (first | exact HP.out _ (HA.out _) | exact HP.out _ (HD.out _ (HA.out _)) | (refine HP.out _ ?_; assumption))
    (first | (go_at_call 87; refine (HG.out _ (by omega) _ _ (by first | exact HA.out _ | exact HD.out _ (HA.out _))).mono ?_; rintro e w' ⟨rfl, rfl⟩))
  go_wp2
  exact bodyPost_ret (v := .agg #[.int .i64 z1, .int .i64 z2, .int .i64 z3, .int .i64 (F 4), .int .i64 (F 8)]) (by simp [results, Tryz.results197, go_sem]) rfl ⟨rfl, ((Below.refl _ _).alloc (Nat.le_refl _) _).drew⟩

theorem record_any (b off cap : Nat) (zs : List Int) (w : World) (hl : zs.length = 16) (hz : Bytes zs) (hr : Row w b off zs) (hcap : 16 ≤ cap) (hc2 : cap ≤ 9223372036854775807) :
    Calls Tryz.prog 197 #[.slice (some ⟨b, off, none⟩) 16 cap] w fun e w' => e = .returned (recAgg zs) ∧ Below w.heap.size w w' :=
  record_core b off cap (zs.getD 1 0) (zs.getD 2 0) (zs.getD 3 0) (fun i => numFrom 0 ((zs.drop i).take 4)) (fun W => Row W b off zs) w hcap hc2 (hz.getD 1) (hz.getD 2) (hz.getD 3)
    (numFrom_lt _ 0 (by omega)) (numFrom_lt _ 0 (by omega)) (fun W h => ⟨h 1 (by omega), h 2 (by omega), h 3 (by omega), h⟩) (fun o => hr.alloc o) (fun W h => h.drew)
    (fun i hi W c h => number_piece b off i 4 c zs W hz h (by omega) (by omega))

def zeroAgg : Value := .agg #[.int .i64 0, .int .i64 0, .int .i64 0, .int .i64 0, .int .i64 0]
def goodB (zs : List Int) : Bool := numFrom 0 ((zs.drop 12).take 4) == crcOf ((zs.drop 1).take 11)
def sortKind (zs : List Int) : Int := if blankB zs = true then 0 else if zs.getD 0 0 ≠ 0 then 1 else if goodB zs = false then 2 else 3
set_option maxHeartbeats 1000000 in
theorem sort_blank (b off cap : Nat) (zs : List Int) (w : World) (hl : zs.length = 16) (hz : Bytes zs) (hr : Row w b off zs) (hb : blankB zs = true) :
    Calls Tryz.prog 168 #[.slice (some ⟨b, off, none⟩) 16 cap] w fun e w' => e = .returned (.tuple #[.int .i64 0, zeroAgg, .int .i64 0]) ∧ Below w.heap.size w w' := by
  have HB : Hid _ := hb
  clear hb
  go_enter Tryz.func168, Tryz.ntmps168
  go_wp2_with (go_at_call 196; refine (blank_at b off 16 cap zs _ hl hz (hr.alloc _) (by omega)).mono ?_; rintro e w' ⟨rfl, rfl⟩; rw [HB.out])
  exact bodyPost_ret (v := .tuple #[.int .i64 0, zeroAgg, .int .i64 0]) (by simp [results, Tryz.results168, go_sem, zeroAgg]) rfl ⟨rfl, ((Below.refl _ _).alloc (Nat.le_refl _) _)⟩

set_option maxHeartbeats 1000000 in
theorem sort_torn (b off cap : Nat) (zs : List Int) (w : World) (hl : zs.length = 16) (hz : Bytes zs) (hr : Row w b off zs) (hb : blankB zs = false) (h0 : (zs.getD 0 0 != 0) = true) :
    Calls Tryz.prog 168 #[.slice (some ⟨b, off, none⟩) 16 cap] w fun e w' => e = .returned (.tuple #[.int .i64 1, zeroAgg, .int .i64 0]) ∧ Below w.heap.size w w' := by
  have HB : Hid _ := hb
  have HR : Hid (Row w b off zs) := hr
  have c0 : ∀ o, (w.alloc o).cell? ⟨b, off, none⟩ = some (.int .u8 (zs.getD 0 0)) := fun o => hr.alloc o 0 (by omega)
  clear hb hr
  generalize zs.getD 0 0 = z at h0 c0
  go_enter Tryz.func168, Tryz.ntmps168
  go_wp2_with (go_at_call 196; refine (blank_at b off 16 cap zs _ hl hz (HR.out.alloc _) (by omega)).mono ?_; rintro e w' ⟨rfl, rfl⟩; rw [HB.out])
  exact bodyPost_ret (v := .tuple #[.int .i64 1, zeroAgg, .int .i64 0]) (by simp [results, Tryz.results168, go_sem, zeroAgg]) rfl ⟨rfl, ((Below.refl _ _).alloc (Nat.le_refl _) _)⟩

theorem ne_u32 (a b : Nat) (h : (a == b) = false) : ((a : Int) != (b : Int)) = true := by
  have := beq_eq_false_iff_ne.1 h
  rw [bne_iff_ne]
  omega
theorem eq_u32 (a b : Nat) (h : (a == b) = true) : ((a : Int) != (b : Int)) = false := by
  have := beq_iff_eq.1 h
  simp [this]

set_option maxHeartbeats 1000000 in
theorem sort_corrupt (b off cap : Nat) (zs : List Int) (w : World) (hl : zs.length = 16) (hz : Bytes zs) (hr : Row w b off zs) (hcap : 16 ≤ cap) (hc2 : cap ≤ 9223372036854775807) (hb : blankB zs = false) (h0 : zs.getD 0 0 = 0) (hg : goodB zs = false) :
    Calls Tryz.prog 168 #[.slice (some ⟨b, off, none⟩) 16 cap] w fun e w' => e = .returned (.tuple #[.int .i64 2, zeroAgg, .int .i64 0]) ∧ Below w.heap.size w w' := by
  have HB : Hid (blankB zs = false) := hb
  have HR : Hid (Row w b off zs) := hr
  have c0 : ∀ o, (w.alloc o).cell? ⟨b, off, none⟩ = some (.int .u8 0) := fun o => by rw [← h0]; exact hr.alloc o 0 (by omega)
  have k1 : (12 : Int) ≤ (cap : Int) := by omega
  have k2 : (16 : Int) ≤ (cap : Int) := by omega
  have k3 : ¬ cap = 12 := by omega
  have k4 : ¬ cap = 1 := by omega
  have hne := ne_u32 _ _ hg
  have HN : Hid (∀ W c, Row W b off zs → Calls Tryz.prog 87 #[.slice (some ⟨b, off + 12, none⟩) 4 c] W fun e w' => e = .returned (.int .u32 (numFrom 0 ((zs.drop 12).take 4) : Nat)) ∧ w' = W) := fun W c h => number_piece b off 12 4 c zs W hz h (by omega) (by omega)
  have HC : Hid (∀ W c, Row W b off zs → Calls Tryz.prog 88 #[.slice (some ⟨b, off + 1, none⟩) 11 c] W fun e w' => e = .returned (.int .u32 (crcOf ((zs.drop 1).take 11) : Nat)) ∧ w' = W) := fun W c h => check_piece b off 1 11 c zs W hz h (by omega) (by omega)
  generalize numFrom 0 ((zs.drop 12).take 4) = p at hne HN
  generalize crcOf ((zs.drop 1).take 11) = q at hne HC
  clear hb hr hg h0
  go_enter Tryz.func168, Tryz.ntmps168
  go_wp2_with (go_at_call 196; refine (blank_at b off 16 cap zs _ hl hz (HR.out.alloc _) (by omega)).mono ?_; rintro e w' ⟨rfl, rfl⟩; rw [HB.out])
  go_quiet ((first | (go_at_call 87; exact Calls.quiet_of_same (HN.out _ _ (HR.out.alloc _))) | (go_at_call 88; exact Calls.quiet_of_same (HC.out _ _ (HR.out.alloc _)))))
  go_wp2
  refine bodyPost_ret (v := .tuple #[.int .i64 2, zeroAgg, .int .i64 0]) (by simp [results, Tryz.results168, go_sem, zeroAgg]) rfl ⟨rfl, ?_⟩
  exact (((((below_drewN ((Below.refl _ _).alloc (Nat.le_refl _) _) nq).setCell (Nat.le_refl _) _).setCell (Nat.le_refl _) _).setCell (Nat.le_refl _) _).setCell (Nat.le_refl _) _).setCell (Nat.le_refl _) _

end Go.Proofs.YtnjlbgolnbdkaaaGreat
namespace Go.Proofs.YtnjlbgolnbdkaaaGreat
open Go.RowKit

theorem bcell {W w1 : World} (hb : Below W.heap.size W w1) : (∀ b o, b < W.heap.size → w1.cell? ⟨b, o, none⟩ = W.cell? ⟨b, o, none⟩) ∧ (∀ b o, b < W.heap.size → w1.frozen? ⟨b, o, none⟩ = W.frozen? ⟨b, o, none⟩) :=
  ⟨fun b o h => hb.cell (p := ⟨b, o, none⟩) h, fun b o h => hb.frozen (p := ⟨b, o, none⟩) h⟩

set_option maxHeartbeats 1000000 in
theorem sort_good_core (b off cap : Nat) (zs : List Int) (r1 r2 r3 r4 r5 : Int) (w : World) (hl : zs.length = 16) (hz : Bytes zs) (hr : Row w b off zs) (hcap : 16 ≤ cap) (hc2 : cap ≤ 9223372036854775807) (hb : blankB zs = false) (h0 : zs.getD 0 0 = 0) (hg : goodB zs = true)
    (hrec : ∀ W, Row W b off zs → Calls Tryz.prog 197 #[.slice (some ⟨b, off, none⟩) 16 cap] W fun e w' => e = .returned (.agg #[.int .i64 r1, .int .i64 r2, .int .i64 r3, .int .i64 r4, .int .i64 r5]) ∧ Below W.heap.size W w') :
    Calls Tryz.prog 168 #[.slice (some ⟨b, off, none⟩) 16 cap] w fun e w' => e = .returned (.tuple #[.int .i64 3, .agg #[.int .i64 r1, .int .i64 r2, .int .i64 r3, .int .i64 r4, .int .i64 r5], .int .i64 0]) ∧ Below w.heap.size w w' := by
  have HB : Hid (blankB zs = false) := hb
  have HR : Hid (Row w b off zs) := hr
  have HREC : Hid (∀ W, Row W b off zs → Calls Tryz.prog 197 #[.slice (some ⟨b, off, none⟩) 16 cap] W fun e w' => e = .returned (.agg #[.int .i64 r1, .int .i64 r2, .int .i64 r3, .int .i64 r4, .int .i64 r5]) ∧ Below W.heap.size W w') := hrec
  have c0 : ∀ o, (w.alloc o).cell? ⟨b, off, none⟩ = some (.int .u8 0) := fun o => by rw [← h0]; exact hr.alloc o 0 (by omega)
  have k1 : (12 : Int) ≤ (cap : Int) := by omega
  have k2 : (16 : Int) ≤ (cap : Int) := by omega
  have k3 : ¬ cap = 12 := by omega
  have k4 : ¬ cap = 1 := by omega
  have hne := eq_u32 _ _ hg
  have HN : Hid (∀ W c, Row W b off zs → Calls Tryz.prog 87 #[.slice (some ⟨b, off + 12, none⟩) 4 c] W fun e w' => e = .returned (.int .u32 (numFrom 0 ((zs.drop 12).take 4) : Nat)) ∧ w' = W) := fun W c h => number_piece b off 12 4 c zs W hz h (by omega) (by omega)
  have HC : Hid (∀ W c, Row W b off zs → Calls Tryz.prog 88 #[.slice (some ⟨b, off + 1, none⟩) 11 c] W fun e w' => e = .returned (.int .u32 (crcOf ((zs.drop 1).take 11) : Nat)) ∧ w' = W) := fun W c h => check_piece b off 1 11 c zs W hz h (by omega) (by omega)
  generalize numFrom 0 ((zs.drop 12).take 4) = p at hne HN
  generalize crcOf ((zs.drop 1).take 11) = q at hne HC
  clear hb hr hg h0 hrec
  go_enter Tryz.func168, Tryz.ntmps168
  go_wp2_with (go_at_call 196; refine (blank_at b off 16 cap zs _ hl hz (HR.out.alloc _) (by omega)).mono ?_; rintro e w' ⟨rfl, rfl⟩; rw [HB.out])
  go_quiet ((first | (go_at_call 87; exact Calls.quiet_of_same (HN.out _ _ (HR.out.alloc _))) | (go_at_call 88; exact Calls.quiet_of_same (HC.out _ _ (HR.out.alloc _)))))
  go_wp2_with fail
  refine (HREC.out _ ((HR.out.alloc _).drewN nq)).mono ?_
  rintro e w1 ⟨rfl, hbel⟩
  obtain ⟨hc, hf⟩ := bcell hbel
  have HB1 : Hid (Below w.heap.size w w1) := ((below_drewN ((Below.refl _ _).alloc (Nat.le_refl _) _) nq).trans (hbel.mono (by simp)))
  have hz1 : w.heap.size < w1.heap.size := by have := hbel.size; simp at this; omega
  clear hbel
  go_wp2
  refine bodyPost_ret (v := .tuple #[.int .i64 3, .agg #[.int .i64 r1, .int .i64 r2, .int .i64 r3, .int .i64 r4, .int .i64 r5], .int .i64 0]) (by simp [results, Tryz.results168, go_sem, hc]) rfl ⟨rfl, ?_⟩
  exact ((((HB1.out.setCell (Nat.le_refl _) _).setCell (Nat.le_refl _) _).setCell (Nat.le_refl _) _).setCell (Nat.le_refl _) _).setCell (Nat.le_refl _) _

def recAt (zs : List Int) : Nat → Int
  | 0 => zs.getD 1 0
  | 1 => zs.getD 2 0
  | 2 => zs.getD 3 0
  | 3 => (numFrom 0 ((zs.drop 4).take 4) : Nat)
  | _ => (numFrom 0 ((zs.drop 8).take 4) : Nat)
def sortRec (zs : List Int) (i : Nat) : Int := if sortKind zs = 3 then recAt zs i else 0
def aggOf (r : Nat → Int) : Value := .agg #[.int .i64 (r 0), .int .i64 (r 1), .int .i64 (r 2), .int .i64 (r 3), .int .i64 (r 4)]
theorem tuple_eq {k1 k2 : Int} {r1 r2 : Nat → Int} {e : Int} (hk : k1 = k2) (hr : r1 = r2) : Ending.returned (.tuple #[.int .i64 k1, aggOf r1, .int .i64 e]) = .returned (.tuple #[.int .i64 k2, aggOf r2, .int .i64 e]) := by rw [hk, hr]

theorem sort16_any (b off cap : Nat) (zs : List Int) (w : World) (hl : zs.length = 16) (hz : Bytes zs) (hr : Row w b off zs) (hcap : 16 ≤ cap) (hc2 : cap ≤ 9223372036854775807) :
    Calls Tryz.prog 168 #[.slice (some ⟨b, off, none⟩) 16 cap] w fun e w' => e = .returned (.tuple #[.int .i64 (sortKind zs), aggOf (sortRec zs), .int .i64 0]) ∧ Below w.heap.size w w' := by
  have none : sortKind zs ≠ 3 → (fun _ => 0) = sortRec zs := fun h => by funext i; simp [sortRec, h]
  by_cases h1 : blankB zs = true
  · have hk : sortKind zs = 0 := by simp [sortKind, h1]
    refine (sort_blank b off cap zs w hl hz hr h1).mono ?_
    rintro e w' ⟨rfl, hb⟩
    exact ⟨tuple_eq hk.symm (none (by omega)), hb⟩
  · have h1' : blankB zs = false := by simpa using h1
    by_cases h2 : zs.getD 0 0 = 0
    · by_cases h3 : goodB zs = true
      · have hk : sortKind zs = 3 := by simp only [sortKind, h1', h2, h3]; decide
        refine (sort_good_core b off cap zs _ _ _ _ _ w hl hz hr hcap hc2 h1' h2 h3 (fun W h => record_any b off cap zs W hl hz h hcap hc2)).mono ?_
        rintro e w' ⟨rfl, hb⟩
        exact ⟨tuple_eq (r1 := recAt zs) hk.symm (by funext i; simp [sortRec, hk]), hb⟩
      · have h3' : goodB zs = false := by simpa using h3
        have hk : sortKind zs = 2 := by simp only [sortKind, h1', h2, h3']; decide
        refine (sort_corrupt b off cap zs w hl hz hr hcap hc2 h1' h2 h3').mono ?_
        rintro e w' ⟨rfl, hb⟩
        exact ⟨tuple_eq hk.symm (none (by omega)), hb⟩
    · have hk : sortKind zs = 1 := by unfold sortKind; rw [h1', if_neg (by decide), if_pos h2]
      refine (sort_torn b off cap zs w hl hz hr h1' (by simpa using h2)).mono ?_
      rintro e w' ⟨rfl, hb⟩
      exact ⟨tuple_eq hk.symm (none (by omega)), hb⟩

end Go.Proofs.YtnjlbgolnbdkaaaGreat
namespace Go.Proofs.YtnjlbgolnbdkaaaGreat
open Go.RowKit

theorem slotOf_length (kind part code seq arg : Int) : (slotOf kind part code seq arg).length = 16 := rfl
end Go.Proofs.YtnjlbgolnbdkaaaGreat
/- Texts of the proof of Boots, one behind the other. -/
namespace Go.Proofs.YtnjlbgolnbdkaaaGreat
open Go.RowKit

theorem ofInt_i64 (a : Nat) (ha : a < 9223372036854775808) : (BitVec.ofInt 64 (a : Int)).toNat = a := by
  rw [BitVec.ofInt_natCast, BitVec.toNat_ofNat]; exact Nat.mod_eq_of_lt (by omega)
theorem i64_xor_nat (a b : Nat) (ha : a < 4294967296) (hb : b < 4294967296) : bits .xor .i64 (a : Int) (b : Int) = ((a ^^^ b : Nat) : Int) := by
  have hx : a ^^^ b < 2 ^ 32 := Nat.xor_lt_two_pow (by omega) (by omega)
  show IntKind.i64.wrap ((BitVec.ofInt 64 (a : Int) ^^^ BitVec.ofInt 64 (b : Int)).toNat : Int) = _
  rw [BitVec.toNat_xor, ofInt_i64 a (by omega), ofInt_i64 b (by omega), IntKind.wrap_i64]
  omega

end Go.Proofs.YtnjlbgolnbdkaaaGreat
namespace Go.Proofs.YtnjlbgolnbdkaaaGreat
open Go.RowKit

theorem own_lit (w : World) (zs : List Int) (n : Nat) (hn : zs.length = n) (hm : n ≤ maxLen) : (w.alloc (.cells (vals zs).toArray 5)).ownsRow w.heap.size 5 1 (.slice (some ⟨w.heap.size, 0, none⟩) n n) n (vals zs) := by
  refine ⟨by simp [vals_length, hn], .inr ⟨w.heap.size, n, (vals zs).toArray, rfl, Nat.le_refl _, heap_alloc_new w _, Nat.le_refl _, hm, by simp [vals_length, hn], ?_⟩⟩
  simp [List.take_of_length_le, vals_length, hn]
end Go.Proofs.YtnjlbgolnbdkaaaGreat
