/- Texts of the proof of Boots, one behind the other. -/
import Derived.Test.YtnjlbgolnbdkaaaGreatJ01
/- The document's own answer: four, check, number: the same functions on lists as the program's. -/
namespace Go.Proofs.YtnjlbgolnbdkaaaGreat
open Go.RowKit

set_option maxHeartbeats 400000 in
theorem four_any (v : Int) (w : World) :
    Calls Tryz.prog 178 #[.int .i64 v] w fun e w' => e = .returned (.slice (some ⟨w.heap.size, 0, none⟩) 4 4) ∧ w' = w.alloc (.cells (vals (be4 (v % 4294967296).toNat)).toArray 5) := by
  have HB : Hid ((vals (be4 (v % 4294967296).toNat)).toArray = #[Value.int .u8 (v / 16777216 % 256), .int .u8 (v / 65536 % 256), .int .u8 (v / 256 % 256), .int .u8 (v % 256)]) := by
    show _ = _
    obtain ⟨n, hn⟩ := Int.eq_ofNat_of_zero_le (show 0 ≤ v % 4294967296 from by omega)
    rw [hn, Int.toNat_natCast]
    unfold vals be4
    rw [show ((n / 16777216 % 256 : Nat) : Int) = v / 16777216 % 256 from by omega, show ((n / 65536 % 256 : Nat) : Int) = v / 65536 % 256 from by omega, show ((n / 256 % 256 : Nat) : Int) = v / 256 % 256 from by omega, show ((n % 256 : Nat) : Int) = v % 256 from by omega]
    rfl
  go_enter Tryz.func178, Tryz.ntmps178
  go_wp2
  go_ret
  rw [HB.out]
  exact ⟨rfl, rfl⟩

theorem ofInt_i64 (a : Nat) (ha : a < 9223372036854775808) : (BitVec.ofInt 64 (a : Int)).toNat = a := by
  rw [BitVec.ofInt_natCast, BitVec.toNat_ofNat]; exact Nat.mod_eq_of_lt (by omega)
theorem i64_xor_nat (a b : Nat) (ha : a < 4294967296) (hb : b < 4294967296) : bits .xor .i64 (a : Int) (b : Int) = ((a ^^^ b : Nat) : Int) := by
  have hx : a ^^^ b < 2 ^ 32 := Nat.xor_lt_two_pow (by omega) (by omega)
  show IntKind.i64.wrap ((BitVec.ofInt 64 (a : Int) ^^^ BitVec.ofInt 64 (b : Int)).toNat : Int) = _
  rw [BitVec.toNat_xor, ofInt_i64 a (by omega), ofInt_i64 b (by omega), IntKind.wrap_i64]
  omega

/- the check, bit by bit: the byte's bits come in one by one -/
theorem xor_half (a b : Nat) : (a ^^^ b) / 2 = a / 2 ^^^ b / 2 := by
  have := Nat.shiftRight_xor_distrib (a := a) (b := b) (i := 1)
  simpa [Nat.shiftRight_eq_div_pow] using this
theorem xor_parity (a b : Nat) : (a ^^^ b) % 2 = (a + b) % 2 := by
  have := Nat.xor_mod_two_eq_one (a := a) (b := b)
  omega
def refV (s c k : Nat) : Nat := crcBits k (s ^^^ c) ^^^ (c / 2 ^ k)
theorem refV_zero (s c : Nat) : refV s c 0 = s := by
  simp [refV, crcBits, Nat.xor_assoc]
theorem refV_eight (s c : Nat) (hc : c < 256) : refV s c 8 = crcByte s c := by
  have : c / 2 ^ 8 = 0 := by omega
  simp [refV, this, crcByte]
theorem refV_lt (s c k : Nat) (hs : s < 4294967296) (hc : c < 256) : refV s c k < 4294967296 := by
  have h1 := crcBits_lt k (s ^^^ c) (Nat.xor_lt_two_pow (n := 32) (by omega) (by omega))
  have h2 : c / 2 ^ k ≤ c := Nat.div_le_self _ _
  exact Nat.xor_lt_two_pow (n := 32) (by omega) (by omega)
theorem refV_succ (s c k : Nat) : refV s c (k + 1) = if (refV s c k + c / 2 ^ k) % 2 = 1 then (refV s c k / 2) ^^^ 3988292384 else refV s c k / 2 := by
  have e1 : c / 2 ^ (k + 1) = c / 2 ^ k / 2 := by rw [Nat.pow_succ, Nat.div_div_eq_div_mul]
  have e2 : (refV s c k + c / 2 ^ k) % 2 = crcBits k (s ^^^ c) % 2 := by
    rw [← xor_parity]
    simp [refV, Nat.xor_assoc]
  have e3 : refV s c k / 2 = crcBits k (s ^^^ c) / 2 ^^^ c / 2 ^ k / 2 := by unfold refV; rw [xor_half]
  rw [e2, e3]
  show crcBit (crcBits k (s ^^^ c)) ^^^ c / 2 ^ (k + 1) = _
  rw [e1]
  unfold crcBit
  split
  · rw [Nat.xor_assoc, Nat.xor_comm 3988292384, ← Nat.xor_assoc]
  · rfl
theorem half_pow (c k : Nat) : c / 2 ^ k / 2 = c / 2 ^ (k + 1) := by rw [Nat.pow_succ, Nat.div_div_eq_div_mul]

theorem ref_odd (x : Nat) (hx : x < 4294967296) : bits .xor .i64 ((x : Int) / 2) 3988292384 = ((x / 2 ^^^ 3988292384 : Nat) : Int) := by
  have := i64_xor_nat (x / 2) 3988292384 (by omega) (by omega)
  simpa using this

set_option maxHeartbeats 1000000 in
theorem rcheck_any (b off cap : Nat) (zs : List Int) (w : World) (hz : Bytes zs) (hr : Row w b off zs) (hn : zs.length ≤ 9223372036854775807) :
    Calls Tryz.prog 136 #[.slice (some ⟨b, off, none⟩) zs.length cap] w fun e w' => e = .returned (.int .i64 (crcOf zs : Nat)) ∧ w' = w := by
  go_enter Tryz.func136, Tryz.ntmps136
  go_wp2
  go_loop [3, 4] (fun t i => ∃ k : Nat, k ≤ zs.length ∧ i = .int .i64 k ∧ t = .int .i64 (crcFrom 4294967295 (zs.take k) : Nat)) (fun _ i => zs.length - (intOf i).toNat)
  case atStart => exact ⟨0, by omega, rfl, rfl⟩
  case round =>
    obtain ⟨k, hk, rfl, rfl⟩ := hrel
    have hl := crcFrom_lt (zs.take k) 4294967295 (by omega) (hz.take k)
    by_cases hlt : k < zs.length
    · have hc := hr k hlt
      have hb := hz.getD k
      have HS : Hid (crcFrom 4294967295 (zs.take (k + 1)) = crcByte (crcFrom 4294967295 (zs.take k)) (zs.getD k 0).toNat) := by
        show _ = _
        rw [take_snoc zs k hlt, crcFrom_snoc]
      generalize crcFrom 4294967295 (zs.take k) = c at *
      generalize zs.getD k 0 = z at *
      obtain ⟨d, rfl⟩ := Int.eq_ofNat_of_zero_le hb.1
      have hd : d < 256 := by omega
      simp only [Int.toNat_natCast] at HS
      go_wp2
      go_loop [3, 5, 6] (fun t e i => ∃ j : Nat, j ≤ 8 ∧ i = .int .i64 j ∧ t = .int .i64 (refV c d j : Nat) ∧ e = .int .i64 (d / 2 ^ j : Nat)) (fun _ _ i => 8 - (intOf i).toNat)
      case atStart => exact ⟨0, by omega, rfl, int_eq (by rw [refV_zero]), int_eq (by simp)⟩
      case round =>
        obtain ⟨j, hj, rfl, rfl, rfl⟩ := hrel
        have hv := refV_lt c d j hl hd
        have he : d / 2 ^ j ≤ d := Nat.div_le_self _ _
        have HV := hide (refV_succ c d j)
        have HE := hide (half_pow d j)
        have H8 := hide (refV_eight c d hd)
        by_cases hj8 : j < 8
        · generalize refV c d j = x at hv HV ⊢
          generalize d / 2 ^ j = y at he HV HE ⊢
          go_wp2
          · have hp : ((x : Int) + y) % 2 = 1 := beq_iff_eq.1 ‹_›
            go_round
            case rel => exact ⟨j + 1, by omega, by go_num, int_eq (by rw [HV.out, if_pos (by omega)]; exact ref_odd x hv), int_eq (by rw [← HE.out]; simp)⟩
            case measure => simp [intOf]; omega
          · have hp : ¬ ((x : Int) + y) % 2 = 1 := beq_eq_false_iff_ne.1 ‹_›
            go_round
            case rel => exact ⟨j + 1, by omega, by go_num, int_eq (by rw [HV.out, if_neg (by omega)]; simp), int_eq (by rw [← HE.out]; simp)⟩
            case measure => simp [intOf]; omega
        · obtain rfl : j = 8 := by omega
          have HX := hide (H8.out)
          go_wp2
          go_round
          case rel => exact ⟨k + 1, by omega, by go_num, int_eq (by rw [HS.out, ← HX.out])⟩
          case measure => simp [intOf]; omega
    · have HE : Hid (zs.take k = zs) := by
        show _ = _
        rw [List.take_of_length_le (by omega)]
      go_wp2
      go_ret
      exact ⟨ret_int (by rw [HE.out]; unfold crcOf; rw [HE.out] at hl; omega), rfl⟩
end Go.Proofs.YtnjlbgolnbdkaaaGreat
/- The document's own answer: number, Slot. -/
namespace Go.Proofs.YtnjlbgolnbdkaaaGreat
open Go.RowKit

theorem rcheck_piece (b off i m cap : Nat) (zs : List Int) (w : World) (hz : Bytes zs) (hr : Row w b off zs) (hm : i + m ≤ zs.length) (hn : m ≤ 9223372036854775807) :
    Calls Tryz.prog 136 #[.slice (some ⟨b, off + i, none⟩) m cap] w fun e w' => e = .returned (.int .i64 (crcOf ((zs.drop i).take m) : Nat)) ∧ w' = w := by
  have hl : ((zs.drop i).take m).length = m := by simp; omega
  have := rcheck_any b (off + i) cap ((zs.drop i).take m) w ((hz.drop i).take m) (hr.piece i m) (by omega)
  rw [hl] at this
  exact this

set_option maxHeartbeats 1000000 in
theorem rnumber_core (b off cap : Nat) (z0 z1 z2 z3 : Int) (w : World) (h0 : 0 ≤ z0 ∧ z0 < 256) (h1 : 0 ≤ z1 ∧ z1 < 256) (h2 : 0 ≤ z2 ∧ z2 < 256) (h3 : 0 ≤ z3 ∧ z3 < 256)
    (c0 : w.cell? ⟨b, off, none⟩ = some (.int .u8 z0)) (c1 : w.cell? ⟨b, off + 1, none⟩ = some (.int .u8 z1)) (c2 : w.cell? ⟨b, off + 2, none⟩ = some (.int .u8 z2)) (c3 : w.cell? ⟨b, off + 3, none⟩ = some (.int .u8 z3)) :
    Calls Tryz.prog 135 #[.slice (some ⟨b, off, none⟩) 4 cap] w fun e w' => e = .returned (.int .i64 (16777216 * z0 + 65536 * z1 + 256 * z2 + z3)) ∧ ∃ n, w' = w.drewN n := by
  go_enter Tryz.func135, Tryz.ntmps135
  go_wp2
  go_quiet (fail)
  go_wp2
  go_ret
  exact ⟨rfl, _, rfl⟩
theorem numFrom_four (z0 z1 z2 z3 : Int) (h0 : 0 ≤ z0 ∧ z0 < 256) (h1 : 0 ≤ z1 ∧ z1 < 256) (h2 : 0 ≤ z2 ∧ z2 < 256) (h3 : 0 ≤ z3 ∧ z3 < 256) : ((numFrom 0 [z0, z1, z2, z3] : Nat) : Int) = 16777216 * z0 + 65536 * z1 + 256 * z2 + z3 := by
  simp only [numFrom, List.foldl]
  omega
theorem rnumber_piece (b off i cap : Nat) (zs : List Int) (w : World) (hz : Bytes zs) (hr : Row w b off zs) (hm : i + 4 ≤ zs.length) :
    Calls Tryz.prog 135 #[.slice (some ⟨b, off + i, none⟩) 4 cap] w fun e w' => e = .returned (.int .i64 (numFrom 0 ((zs.drop i).take 4) : Nat)) ∧ ∃ n, w' = w.drewN n := by
  have e : (zs.drop i).take 4 = [zs.getD i 0, zs.getD (i + 1) 0, zs.getD (i + 2) 0, zs.getD (i + 3) 0] := by
    apply List.ext_getElem
    · simp; omega
    · intro j h1 h2
      have hj : j < 4 := by simpa using h2
      simp only [List.getElem_take, List.getElem_drop]
      match j, hj with
      | 0, _ => simp [List.getD_eq_getElem?_getD, List.getElem?_eq_getElem (show i < zs.length by omega)]
      | 1, _ => simp [List.getD_eq_getElem?_getD, List.getElem?_eq_getElem (show i + 1 < zs.length by omega)]
      | 2, _ => simp [List.getD_eq_getElem?_getD, List.getElem?_eq_getElem (show i + 2 < zs.length by omega)]
      | 3, _ => simp [List.getD_eq_getElem?_getD, List.getElem?_eq_getElem (show i + 3 < zs.length by omega)]
  rw [e, numFrom_four _ _ _ _ (hz.getD _) (hz.getD _) (hz.getD _) (hz.getD _)]
  exact rnumber_core b (off + i) cap _ _ _ _ w (hz.getD _) (hz.getD _) (hz.getD _) (hz.getD _) (hr i (by omega)) (hr (i + 1) (by omega)) (hr (i + 2) (by omega)) (hr (i + 3) (by omega))

/- a row that a literal laid is the call's own -/
theorem own_lit (w : World) (zs : List Int) (n : Nat) (hn : zs.length = n) (hm : n ≤ maxLen) : (w.alloc (.cells (vals zs).toArray 5)).ownsRow w.heap.size 5 1 (.slice (some ⟨w.heap.size, 0, none⟩) n n) n (vals zs) := by
  refine ⟨by simp [vals_length, hn], .inr ⟨w.heap.size, n, (vals zs).toArray, rfl, Nat.le_refl _, heap_alloc_new w _, Nat.le_refl _, hm, by simp [vals_length, hn], ?_⟩⟩
  simp [List.take_of_length_le, vals_length, hn]
theorem own_base {w : World} {base base' : Nat} {v : Value} {n : Nat} {xs : List Value} (h : w.ownsRow base 5 1 v n xs) (hb : base' ≤ base) : w.ownsRow base' 5 1 v n xs := by
  obtain ⟨h1, h2⟩ := h
  rcases h2 with h2 | ⟨g', cap, cur, hv, hb', r⟩
  · exact ⟨h1, .inl h2⟩
  · exact ⟨h1, .inr ⟨g', cap, cur, hv, by omega, r⟩⟩

theorem four_abs (v : Int) (w : World) :
    Calls Tryz.prog 178 #[.int .i64 v] w fun e w' => ∃ a, e = .returned (.slice (some ⟨a, 0, none⟩) 4 4) ∧ (∀ j u, (vals (be4 (v % 4294967296).toNat))[j]? = some u → w'.cell? ((⟨a, 0, none⟩ : Addr).add j) = some u) ∧ w.grownBy w' none := by
  refine (four_any v w).mono ?_
  rintro e w' ⟨rfl, rfl⟩
  exact ⟨w.heap.size, rfl, news_at w _ 5, grown_alloc (World.grownBy.refl _ _)⟩

def boxOf (kind part code seq arg : Int) : Obj := .cells #[.int .i64 kind, .int .i64 part, .int .i64 code, .int .i64 seq, .int .i64 arg] 52 (0, 0)

set_option maxRecDepth 100000 in
set_option maxHeartbeats 1000000 in
theorem rslot_any (kind part code seq arg : Int) (w : World) :
    Calls Tryz.prog 207 #[.agg #[.int .i64 kind, .int .i64 part, .int .i64 code, .int .i64 seq, .int .i64 arg]] w fun e w' => ∃ g cap, 16 ≤ cap ∧ cap ≤ 9223372036854775807 ∧ e = .returned (.slice (some ⟨g, 0, none⟩) 16 cap) ∧
      w'.ownsRow w.heap.size 5 1 (.slice (some ⟨g, 0, none⟩) 16 cap) 16 (vals (slotOf kind part code seq arg)) ∧ Below w.heap.size w w' := by
  obtain ⟨i0, hi, hz0, hz1, hz2⟩ := info_parts Tryz.info5
  go_enter Tryz.func207, Tryz.ntmps207
  go_wp2_with fail
  refine (four_abs seq _).mono ?_
  rintro e w1 ⟨a1, rfl, hn1, hg1⟩
  have HO1 : Hid (w1.ownsRow (w.heap.size + 1) 5 1 (.slice (some ⟨w.heap.size + 1, 0, none⟩) 4 4) 4 (vals [0, kind % 256, part % 256, code % 256])) := by
    have := own_lit (w.alloc (boxOf kind part code seq arg)) [0, kind % 256, part % 256, code % 256] 4 rfl (by decide)
    rw [show (w.alloc (boxOf kind part code seq arg)).heap.size = w.heap.size + 1 from by simp] at this
    exact this.kept hg1 (.inr (by simp [Value.ownBlock]))
  have HX1 : Hid (w1.heap[w.heap.size]? = some (boxOf kind part code seq arg)) := (hg1.block _ (by simp; omega) (by simp)).trans ((Below.heap_alloc _ _ _ (by simp)).trans (heap_alloc_new w _))
  have HB1 : Hid (Below w.heap.size w w1) := (((Below.refl _ _).alloc (Nat.le_refl _) _).alloc (by simp) _).grown hg1 (by simp; omega) (by simp)
  have hs1 : w.heap.size + 2 ≤ w1.heap.size := by have := hg1.size; simp at this; omega
  have HN1 := hide hn1
  clear hn1 hg1
  go_wp2_with (at_builtin; go_must (refine wpList_append_lies _ rfl (.tmp 15) (.tmp 18) 22 rfl (w.heap.size + 1) 5 i0 (.int .u8 0) 1 1 Tryz.underlying22 hi hz0 hz1 hz2 rfl (by decide) _ 4 (vals [0, kind % 256, part % 256, code % 256]) rfl HO1.out ⟨a1, 0, none⟩ 4 4 (vals (be4 (seq % 4294967296).toNat)) (by rfl) rfl HN1.out (vals_one _) (by omega) (by decide) (by omega) (by omega) _ rfl ?_))
  intro g2 cap2 w2 hown2 hgrow2 _ _
  have hge2 : w.heap.size + 1 ≤ g2 := (hown2.lt g2 rfl).1
  have HX2 : Hid (w2.heap[w.heap.size]? = some (boxOf kind part code seq arg)) := (hgrow2.block _ (by omega) (by simp [Value.ownBlock])).trans HX1.out
  have HB2 : Hid (Below w.heap.size w w2) := HB1.out.grown hgrow2 (by omega) (by simp [Value.ownBlock])
  have hs2 : w.heap.size + 2 ≤ w2.heap.size := by have := hgrow2.size; omega
  have c4 : w2.cell? ⟨w.heap.size, 4, none⟩ = some (.int .i64 arg) := by rw [cell_of_row _ _ _ _ _ _ HX2.out]; rfl
  have HO2 := hide hown2
  clear hown2 hgrow2 HO1 HX1 HB1 HN1
  go_wp2_with fail
  refine (four_abs arg _).mono ?_
  rintro e w3 ⟨a3, rfl, hn3, hg3⟩
  have HO3 := hide (HO2.out.kept hg3 (.inr (by simp [Value.ownBlock])))
  have HB3 : Hid (Below w.heap.size w w3) := HB2.out.grown hg3 (by omega) (by simp)
  have hs3 : w.heap.size + 2 ≤ w3.heap.size := by have := hg3.size; omega
  have HN3 := hide hn3
  clear hn3 hg3 HO2 HX2 HB2 c4
  go_wp2_with (at_builtin; go_must (refine wpList_append_lies _ rfl (.tmp 20) (.tmp 23) 22 rfl (w.heap.size + 1) 5 i0 (.int .u8 0) 1 1 Tryz.underlying22 hi hz0 hz1 hz2 rfl (by decide) _ 8 _ rfl HO3.out ⟨a3, 0, none⟩ 4 4 (vals (be4 (arg % 4294967296).toNat)) (by rfl) rfl HN3.out (vals_one _) (by omega) (by decide) (by omega) (by omega) _ rfl ?_))
  intro g4 cap4 w4 hown4 hgrow4 _ _
  have hge4 : w.heap.size + 1 ≤ g4 := (hown4.lt g4 rfl).1
  have HB4 : Hid (Below w.heap.size w w4) := HB3.out.grown hgrow4 (by omega) (by simp [Value.ownBlock]; omega)
  have hs4 : w.heap.size + 2 ≤ w4.heap.size := by have := hgrow4.size; omega
  have HO4 : Hid (w4.ownsRow (w.heap.size + 1) 5 1 (.slice (some ⟨g4, 0, none⟩) 12 cap4) 12 (vals (0 :: slotHead kind part code seq arg))) := hown4
  have HR4 : Hid (Row w4 g4 0 (0 :: slotHead kind part code seq arg)) := row_of_own HO4.out
  have hcap4 : (12 : Int) ≤ (cap4 : Int) ∧ (cap4 : Int) ≤ 9223372036854775807 := by
    rcases hown4.2 with ⟨h1, _⟩ | ⟨g', cap', cur, hv, _, _, h1, h2, _⟩
    · simp at h1
    · simp at hv; obtain ⟨_, rfl⟩ := hv; unfold maxLen at h2; omega
  have hc1 : ¬ cap4 = 1 := by omega
  have HZ : Hid (Bytes (0 :: slotHead kind part code seq arg)) := by
    intro z hz
    rcases List.mem_cons.1 hz with h | h
    · omega
    · exact slotHead_bytes _ _ _ _ _ z h
  have HC : Hid (∀ W c, Row W g4 0 (0 :: slotHead kind part code seq arg) → Calls Tryz.prog 136 #[.slice (some ⟨g4, 1, none⟩) 11 c] W fun e w' => e = .returned (.int .i64 (crcOf (slotHead kind part code seq arg) : Nat)) ∧ w' = W) := fun W c h => by
    have := rcheck_piece g4 0 1 11 c (0 :: slotHead kind part code seq arg) W HZ.out h (Nat.le_refl 12) (by omega)
    rw [show List.take 11 (List.drop 1 (0 :: slotHead kind part code seq arg)) = slotHead kind part code seq arg from rfl] at this
    exact this
  clear hown4 hgrow4 HO3 HB3 HN3
  have HS : Hid (slotOf kind part code seq arg = 0 :: slotHead kind part code seq arg ++ be4 (crcOf (slotHead kind part code seq arg))) := rfl
  have hcl := crcOf_lt (slotHead kind part code seq arg)
  generalize crcOf (slotHead kind part code seq arg) = cc at hcl HC HS
  go_wp2_with fail
  refine (HC.out _ _ HR4.out).mono ?_
  rintro e w4 ⟨rfl, rfl⟩
  go_wp2_with fail
  refine (four_abs cc _).mono ?_
  rintro e w5 ⟨a5, rfl, hn5, hg5⟩
  rw [show (((cc : Int) % 4294967296).toNat) = cc from by omega] at hn5
  have HO5 := hide (HO4.out.kept hg5 (.inr (by simp [Value.ownBlock])))
  have HB5 : Hid (Below w.heap.size w w5) := HB4.out.grown hg5 (by omega) (by simp)
  have hs5 : w.heap.size + 2 ≤ w5.heap.size := by have := hg5.size; omega
  have HN5 := hide hn5
  clear hn5 hg5 HO4 HB4 HR4 HC
  go_wp2_with (at_builtin; go_must (refine wpList_append_lies _ rfl (.tmp 28) (.tmp 30) 22 rfl (w.heap.size + 1) 5 i0 (.int .u8 0) 1 1 Tryz.underlying22 hi hz0 hz1 hz2 rfl (by decide) _ 12 _ rfl HO5.out ⟨a5, 0, none⟩ 4 4 (vals (be4 cc)) (by rfl) rfl HN5.out (vals_one _) (by omega) (by decide) (by omega) (by omega) _ rfl ?_))
  intro g6 cap6 w6 hown6 hgrow6 _ _
  have HB6 : Hid (Below w.heap.size w w6) := HB5.out.grown hgrow6 (by omega) (by simp [Value.ownBlock]; omega)
  have hcap6 : 16 ≤ cap6 ∧ cap6 ≤ 9223372036854775807 := by
    rcases hown6.2 with ⟨h1, _⟩ | ⟨g', cap', cur, hv, _, _, h1, h2, _⟩
    · simp at h1
    · simp at hv; obtain ⟨_, rfl⟩ := hv; unfold maxLen at h2; omega
  have HO6 : Hid (w6.ownsRow w.heap.size 5 1 (.slice (some ⟨g6, 0, none⟩) 16 cap6) 16 (vals (slotOf kind part code seq arg))) := by
    rw [HS.out, vals_append]
    exact own_base hown6 (by omega)
  clear hown6 hgrow6 HO5 HB5 HN5
  go_wp2
  go_ret
  exact ⟨g6, cap6, hcap6.1, hcap6.2, rfl, HO6.out, HB6.out⟩
end Go.Proofs.YtnjlbgolnbdkaaaGreat
