/- The statement Sealed: the walk. -/
import Derived.Test.YtnjlbgolnbdkaaaSa
namespace Go.Proofs.Ytnjlbgolnbdkaaa
open Go.RowKit

/- one byte more, in memory of the call's own -/
theorem next_row {wa wr w1 : World} {v v' : Value} {k : Nat} {zs : List Int} {val : Int} {o : Obj} (hl : zs.length = k) (hz : Bytes zs) (h0 : 0 < k → zs.getD 0 0 = 255) (hb : Below wa.heap.size wa wr) (hown0 : wr.ownsRow wa.heap.size 5 1 v k (vals zs))
    (hv : 0 ≤ val ∧ val < 256) (hv0 : k = 0 → val = 255) (hown : w1.ownsRow wa.heap.size 5 1 v' (k + 1) (vals zs ++ [.int .u8 val])) (hg : (wr.alloc o).grownBy w1 v.ownBlock) :
    ∃ ys : List Int, ys.length = k + 1 ∧ Bytes ys ∧ (0 < k + 1 → ys.getD 0 0 = 255) ∧ w1.ownsRow wa.heap.size 5 1 v' (k + 1) (vals ys) ∧ Below wa.heap.size wa w1 := by
  refine ⟨zs ++ [val], by simp [hl], ?_, ?_, ?_, ?_⟩
  · intro z hz'
    rcases List.mem_append.1 hz' with h | h
    · exact hz z h
    · simp at h; omega
  · intro _
    by_cases hk : k = 0
    · have : zs = [] := List.eq_nil_of_length_eq_zero (by omega)
      subst this
      simpa using hv0 hk
    · have := h0 (by omega)
      simp only [List.getD_eq_getElem?_getD] at *
      rw [List.getElem?_append_left (by omega)]
      exact this
  · rw [vals_append]; exact hown
  · exact hb.grown (grown_alloc hg) hb.size (fun k hk => (hown0.lt k hk).1)
theorem or_byte (z a : Int) (hz : 0 ≤ z ∧ z < 256) (ha : 0 ≤ a ∧ a ≤ 255) : 0 ≤ bits .or .u8 z a ∧ bits .or .u8 z a < 256 := by
  rw [u8_or z a hz.1 hz.2 ha.1 (by omega)]
  have : z.toNat ||| a.toNat < 2 ^ 8 := Nat.or_lt_two_pow (by omega) (by omega)
  omega

set_option maxRecDepth 100000 in
set_option maxHeartbeats 1000000 in
theorem sealed_walk (a0 a1 a2 a3 a4 a5 : Int) (w0 : -9223372036854775808 ≤ a0 ∧ a0 ≤ 9223372036854775807) (w1 : -9223372036854775808 ≤ a1 ∧ a1 ≤ 9223372036854775807) (w2 : -9223372036854775808 ≤ a2 ∧ a2 ≤ 9223372036854775807)
    (w3 : -9223372036854775808 ≤ a3 ∧ a3 ≤ 9223372036854775807) (w4 : -9223372036854775808 ≤ a4 ∧ a4 ≤ 9223372036854775807) (w5 : 0 ≤ a5 ∧ a5 ≤ 255) (w : World) :
    Calls Try.prog 5 #[.int .i64 a0, .int .i64 a1, .int .i64 a2, .int .i64 a3, .int .i64 a4, .int .u8 a5] w fun e w' => e = .returned (.bool true) ∧ Below w.heap.size w w' := by
  have p0 := pickOf_nonneg a0 256 (by omega)
  have q0 := pickOf_lt a0 256 (by omega)
  have p1 := pickOf_nonneg a1 256 (by omega)
  have q1 := pickOf_lt a1 256 (by omega)
  have p2 := pickOf_nonneg a2 4294967296 (by omega)
  have q2 := pickOf_lt a2 4294967296 (by omega)
  have p3 := pickOf_nonneg a3 4294967296 (by omega)
  have q3 := pickOf_lt a3 4294967296 (by omega)
  have p4 := pickOf_nonneg a4 16 (by omega)
  have q4 := pickOf_lt a4 16 (by omega)
  have P0 := hide (fun W => pick_any a0 256 W w0.1 w0.2 (by omega) (by omega))
  have P1 := hide (fun W => pick_any a1 256 W w1.1 w1.2 (by omega) (by omega))
  have P2 := hide (fun W => pick_any a2 4294967296 W w2.1 w2.2 (by omega) (by omega))
  have P3 := hide (fun W => pick_any a3 4294967296 W w3.1 w3.2 (by omega) (by omega))
  have P4 := hide (fun W => pick_any a4 16 W w4.1 w4.2 (by omega) (by omega))
  generalize pickOf a0 256 = x0 at *
  generalize pickOf a1 256 = x1 at *
  generalize pickOf a2 4294967296 = x2 at *
  generalize pickOf a3 4294967296 = x3 at *
  generalize pickOf a4 16 = x4 at *
  go_enter Try.func5, Try.ntmps5
  go_wp2_with fail
  refine (P0.out _).mono ?_
  rintro e w ⟨rfl, rfl⟩
  go_wp2_with fail
  refine (P1.out _).mono ?_
  rintro e w ⟨rfl, rfl⟩
  go_wp2_with fail
  refine (P2.out _).mono ?_
  rintro e w ⟨rfl, rfl⟩
  go_wp2_with fail
  refine (P3.out _).mono ?_
  rintro e w ⟨rfl, rfl⟩
  go_wp2_with fail
  refine (bslot_any 1 x0 x1 x2 x3 _).mono ?_
  rintro e wa ⟨g, rfl, hown, hbel⟩
  obtain ⟨i0, hi, hz0, hz1, hz2⟩ := info_parts Try.info5
  have HR := hide (row_of_own hown)
  have HB := hide ((((Below.refl _ _).alloc (Nat.le_refl _) _).trans (hbel.mono (by simp)) : Below w.heap.size w wa))
  have hgs : g < wa.heap.size := row_lt HR.out (by rw [slotOf_length]; omega)
  have hws : w.heap.size < wa.heap.size := by have := hbel.size; simp at this; omega
  have r0 : wa.cell? ⟨w.heap.size, 0, none⟩ = some (.int .i64 1) := (hbel.cell (by simp)).trans (by rw [cell_of_row _ _ _ _ _ _ (heap_alloc_new w _)]; rfl)
  have r1 : wa.cell? ⟨w.heap.size, 1, none⟩ = some (.int .i64 x0) := (hbel.cell (by simp)).trans (by rw [cell_of_row _ _ _ _ _ _ (heap_alloc_new w _)]; rfl)
  have r2 : wa.cell? ⟨w.heap.size, 2, none⟩ = some (.int .i64 x1) := (hbel.cell (by simp)).trans (by rw [cell_of_row _ _ _ _ _ _ (heap_alloc_new w _)]; rfl)
  have r3 : wa.cell? ⟨w.heap.size, 3, none⟩ = some (.int .i64 x2) := (hbel.cell (by simp)).trans (by rw [cell_of_row _ _ _ _ _ _ (heap_alloc_new w _)]; rfl)
  have r4 : wa.cell? ⟨w.heap.size, 4, none⟩ = some (.int .i64 x3) := (hbel.cell (by simp)).trans (by rw [cell_of_row _ _ _ _ _ _ (heap_alloc_new w _)]; rfl)
  have HS := hide (slotOf_bytes 1 x0 x1 x2 x3)
  have HL := hide (slotOf_length 1 x0 x1 x2 x3)
  have RR := hide (And.intro r0 (And.intro r1 (And.intro r2 (And.intro r3 r4))))
  have HK := hide (slotOf_kind 1 x0 x1 x2 x3)
  have HRC := hide (slotOf_rec 1 x0 x1 x2 x3)
  generalize slotOf 1 x0 x1 x2 x3 = ss at *
  clear hown hbel r0 r1 r2 r3 r4 P0 P1 P2 P3
  go_wp2_with fail
  refine (P4.out _).mono ?_
  rintro e wa ⟨rfl, rfl⟩
  clear P4
  go_wp2
  go_loopw [16, 17] (fun v i wr => ∃ (k : Nat) (zs : List Int), k ≤ 16 ∧ i = .int .i64 k ∧ zs.length = k ∧ Bytes zs ∧ (0 < k → zs.getD 0 0 = 255) ∧ wr.ownsRow wa.heap.size 5 1 v k (vals zs) ∧ Below wa.heap.size wa wr)
    (fun _ i _ => 16 - (intOf i).toNat)
  case atStart => exact ⟨0, [], by omega, rfl, rfl, (fun z hz => by simp at hz), (fun h => by omega), World.ownsRow_nil _ _ _ _, Below.refl _ _⟩
  case round =>
    obtain ⟨k, zs, hk, rfl, hl, hz, h0, hown, hbel⟩ := hrel
    by_cases hlt : k < 16
    · have hc : wr.cell? ⟨g, k, none⟩ = some (.int .u8 (ss.getD k 0)) := by
        have := (HR.out.below hbel hgs) k (by rw [HL.out]; omega)
        simpa using this
      have hsb := HS.out.getD k
      generalize ss.getD k 0 = z at hc hsb
      have hzs : wa.heap.size ≤ wr.heap.size := hbel.size
      have HO := hide hown
      have HBW := hide hbel
      have HZ := hide hz
      have H0 := hide h0
      have HLZ := hide hl
      clear hown hbel hz h0 hl
      rcases (show (1 ≤ k ∧ (k : Int) ≤ x4) ∨ (x4 < (k : Int) ∧ (k : Int) < x4 + 2) ∨ (k < 1) ∨ (x4 + 1 < (k : Int)) from by omega) with hA | hB | hC | hD
      · have hval : 0 ≤ z ∧ z < 256 := hsb
        have hval0 : k = 0 → z = 255 := (fun h => by omega)
        have HV := hide hval
        have HV0 := hide hval0
        clear hval hval0
        go_wp2_with (at_builtin; go_must (refine wpList_append_own _ rfl (.tmp 66) (.tmp 68) 24 rfl wa.heap.size 5 i0 (.int .u8 0) 1 1 Try.underlying24 hi hz0 hz1 hz2 rfl (by decide) _ k (vals zs) rfl (HO.out.alloc _) ⟨wr.heap.size, 0, none⟩ 1 1 [.int .u8 (z)] rfl rfl (news_at wr #[.int .u8 (z)] 5) (vals_one [z]) (by unfold maxLen; omega) (by omega) (by simp; omega) ?_))
        intro v' w1 hown' hgrow _
        have HN := hide (next_row HLZ.out HZ.out H0.out HBW.out HO.out HV.out HV0.out hown' hgrow)
        clear hown' hgrow
        go_wp2
        go_roundw
        case rel =>
          obtain ⟨ys, y1, y2, y3, y4, y5⟩ := HN.out
          exact ⟨k + 1, ys, by omega, by go_num, y1, y2, y3, y4, y5⟩
        case measure => simp [intOf]; omega
      · have hval : 0 ≤ bits .or .u8 z a5 ∧ bits .or .u8 z a5 < 256 := or_byte z a5 hsb w5
        have hval0 : k = 0 → bits .or .u8 z a5 = 255 := (fun h => by omega)
        have HV := hide hval
        have HV0 := hide hval0
        clear hval hval0
        go_wp2_with (at_builtin; go_must (refine wpList_append_own _ rfl (.tmp 66) (.tmp 68) 24 rfl wa.heap.size 5 i0 (.int .u8 0) 1 1 Try.underlying24 hi hz0 hz1 hz2 rfl (by decide) _ k (vals zs) rfl (HO.out.alloc _) ⟨wr.heap.size, 0, none⟩ 1 1 [.int .u8 (bits .or .u8 z a5)] rfl rfl (news_at wr #[.int .u8 (bits .or .u8 z a5)] 5) (vals_one [bits .or .u8 z a5]) (by unfold maxLen; omega) (by omega) (by simp; omega) ?_))
        intro v' w1 hown' hgrow _
        have HN := hide (next_row HLZ.out HZ.out H0.out HBW.out HO.out HV.out HV0.out hown' hgrow)
        clear hown' hgrow
        go_wp2
        go_roundw
        case rel =>
          obtain ⟨ys, y1, y2, y3, y4, y5⟩ := HN.out
          exact ⟨k + 1, ys, by omega, by go_num, y1, y2, y3, y4, y5⟩
        case measure => simp [intOf]; omega
      · have hval : 0 ≤ (255 : Int) ∧ (255 : Int) < 256 := by omega
        have HV := hide hval
        clear hval
        go_wp2_with (at_builtin; go_must (refine wpList_append_own _ rfl (.tmp 66) (.tmp 68) 24 rfl wa.heap.size 5 i0 (.int .u8 0) 1 1 Try.underlying24 hi hz0 hz1 hz2 rfl (by decide) _ k (vals zs) rfl (HO.out.alloc _) ⟨wr.heap.size, 0, none⟩ 1 1 [.int .u8 ((255 : Int))] rfl rfl (news_at wr #[.int .u8 ((255 : Int))] 5) (vals_one [(255 : Int)]) (by unfold maxLen; omega) (by omega) (by simp; omega) ?_))
        intro v' w1 hown' hgrow _
        have HN := hide (next_row HLZ.out HZ.out H0.out HBW.out HO.out HV.out (fun _ => rfl) hown' hgrow)
        clear hown' hgrow
        go_wp2
        go_roundw
        case rel =>
          obtain ⟨ys, y1, y2, y3, y4, y5⟩ := HN.out
          exact ⟨k + 1, ys, by omega, by go_num, y1, y2, y3, y4, y5⟩
        case measure => simp [intOf]; omega
      · have hval : 0 ≤ (255 : Int) ∧ (255 : Int) < 256 := by omega
        have HV := hide hval
        clear hval
        go_wp2_with (at_builtin; go_must (refine wpList_append_own _ rfl (.tmp 66) (.tmp 68) 24 rfl wa.heap.size 5 i0 (.int .u8 0) 1 1 Try.underlying24 hi hz0 hz1 hz2 rfl (by decide) _ k (vals zs) rfl (HO.out.alloc _) ⟨wr.heap.size, 0, none⟩ 1 1 [.int .u8 ((255 : Int))] rfl rfl (news_at wr #[.int .u8 ((255 : Int))] 5) (vals_one [(255 : Int)]) (by unfold maxLen; omega) (by omega) (by simp; omega) ?_))
        intro v' w1 hown' hgrow _
        have HN := hide (next_row HLZ.out HZ.out H0.out HBW.out HO.out HV.out (fun _ => rfl) hown' hgrow)
        clear hown' hgrow
        go_wp2
        go_roundw
        case rel =>
          obtain ⟨ys, y1, y2, y3, y4, y5⟩ := HN.out
          exact ⟨k + 1, ys, by omega, by go_num, y1, y2, y3, y4, y5⟩
        case measure => simp [intOf]; omega
    · obtain rfl : k = 16 := by omega
      obtain ⟨h, cap, rfl, hbase, hhs⟩ := hown.form (by omega)
      have hcap : 16 ≤ cap ∧ cap ≤ 9223372036854775807 := by
        rcases hown.2 with ⟨h1, _⟩ | ⟨g', cap', cur, hv, _, _, h1, h2, _⟩
        · simp at h1
        · simp at hv; obtain ⟨_, rfl⟩ := hv; unfold maxLen at h2; omega
      have HRow := hide (row_of_own hown)
      obtain ⟨hkk, hrr⟩ := torn_kind zs (h0 (by omega))
      have HSB := hide (bsort16_any h 0 cap zs wr hl hz HRow.out hcap.1 hcap.2)
      rw [hrr] at HSB
      generalize sortKind zs = kk at hkk HSB
      have k3 : (kk != 3) = true := by rw [bne_iff_ne]; omega
      have k2 : (kk != 2) = true := by rw [bne_iff_ne]; omega
      have HBW := hide hbel
      have hzs : wa.heap.size ≤ wr.heap.size := hbel.size
      clear hown hbel hz h0 hl hrr hkk
      go_wp2_with fail
      refine HSB.out.mono ?_
      rintro e wb ⟨rfl, hbel⟩
      simp only [aggOf]
      have hzb : wr.heap.size ≤ wb.heap.size := hbel.size
      have HBB := hide (HBW.out.trans (hbel.mono hzs))
      clear hbel HSB HBW
      go_wp2_with fail
      refine (bsort16_any g 0 16 ss _ HL.out HS.out ((HR.out.below HBB.out hgs).alloc _) (by omega) (by omega)).mono ?_
      rintro e wc ⟨rfl, hbel⟩
      have e0 := HRC.out 0
      have e1 := HRC.out 1
      have e2 := HRC.out 2
      have e3 := HRC.out 3
      have e4 := HRC.out 4
      simp only at e0 e1 e2 e3 e4
      rw [HK.out]
      simp only [aggOf, e0, e1, e2, e3, e4]
      rw [show (1 : Int) % 256 = 1 from rfl, show x0 % 256 = x0 from by omega, show x1 % 256 = x1 from by omega, show x2 % 4294967296 = x2 from by omega, show x3 % 4294967296 = x3 from by omega]
      have nb := (hbel.block wb.heap.size (by simp)).trans (heap_alloc_new wb _)
      have n0 : wc.cell? ⟨wb.heap.size, 0, none⟩ = some (.int .i64 0) := by rw [cell_of_row _ _ _ _ _ _ nb]; rfl
      have n1 : wc.cell? ⟨wb.heap.size, 1, none⟩ = some (.int .i64 0) := by rw [cell_of_row _ _ _ _ _ _ nb]; rfl
      have n2 : wc.cell? ⟨wb.heap.size, 2, none⟩ = some (.int .i64 0) := by rw [cell_of_row _ _ _ _ _ _ nb]; rfl
      have n3 : wc.cell? ⟨wb.heap.size, 3, none⟩ = some (.int .i64 0) := by rw [cell_of_row _ _ _ _ _ _ nb]; rfl
      have n4 : wc.cell? ⟨wb.heap.size, 4, none⟩ = some (.int .i64 0) := by rw [cell_of_row _ _ _ _ _ _ nb]; rfl
      have HBC := hide ((HBB.out.alloc (by omega) _).trans (hbel.mono (by simp; omega)))
      have r0 : wc.cell? ⟨w.heap.size, 0, none⟩ = some (.int .i64 1) := (HBC.out.cell (by exact hws)).trans RR.out.1
      have r1 : wc.cell? ⟨w.heap.size, 1, none⟩ = some (.int .i64 x0) := (HBC.out.cell (by exact hws)).trans RR.out.2.1
      have r2 : wc.cell? ⟨w.heap.size, 2, none⟩ = some (.int .i64 x1) := (HBC.out.cell (by exact hws)).trans RR.out.2.2.1
      have r3 : wc.cell? ⟨w.heap.size, 3, none⟩ = some (.int .i64 x2) := (HBC.out.cell (by exact hws)).trans RR.out.2.2.2.1
      have r4 : wc.cell? ⟨w.heap.size, 4, none⟩ = some (.int .i64 x3) := (HBC.out.cell (by exact hws)).trans RR.out.2.2.2.2
      have hzc : wb.heap.size < wc.heap.size := by have := hbel.size; simp at this; omega
      have hwc : w.heap.size < wc.heap.size := by omega
      have HEND := hide ((HB.out.trans (HBC.out.mono (by omega))) : Below w.heap.size w wc)
      clear hbel e0 e1 e2 e3 e4 nb HBB
      go_wp2
      go_ret
      exact ⟨rfl, HEND.out.alloc (by omega) _⟩
end Go.Proofs.Ytnjlbgolnbdkaaa
