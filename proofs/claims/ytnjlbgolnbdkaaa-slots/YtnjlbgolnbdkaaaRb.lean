/- The document's own answer: number, Slot. -/
import Derived.Test.YtnjlbgolnbdkaaaRa
namespace Go.Proofs.Ytnjlbgolnbdkaaa
open Go.RowKit

theorem rcheck_piece (b off i m cap : Nat) (zs : List Int) (w : World) (hz : Bytes zs) (hr : Row w b off zs) (hm : i + m ≤ zs.length) (hn : m ≤ 9223372036854775807) :
    Calls Try.prog 23 #[.slice (some ⟨b, off + i, none⟩) m cap] w fun e w' => e = .returned (.int .i64 (crcOf ((zs.drop i).take m) : Nat)) ∧ w' = w := by
  have hl : ((zs.drop i).take m).length = m := by simp; omega
  have := rcheck_any b (off + i) cap ((zs.drop i).take m) w ((hz.drop i).take m) (hr.piece i m) (by omega)
  rw [hl] at this
  exact this

set_option maxHeartbeats 1000000 in
theorem rnumber_core (b off cap : Nat) (z0 z1 z2 z3 : Int) (w : World) (h0 : 0 ≤ z0 ∧ z0 < 256) (h1 : 0 ≤ z1 ∧ z1 < 256) (h2 : 0 ≤ z2 ∧ z2 < 256) (h3 : 0 ≤ z3 ∧ z3 < 256)
    (c0 : w.cell? ⟨b, off, none⟩ = some (.int .u8 z0)) (c1 : w.cell? ⟨b, off + 1, none⟩ = some (.int .u8 z1)) (c2 : w.cell? ⟨b, off + 2, none⟩ = some (.int .u8 z2)) (c3 : w.cell? ⟨b, off + 3, none⟩ = some (.int .u8 z3)) :
    Calls Try.prog 42 #[.slice (some ⟨b, off, none⟩) 4 cap] w fun e w' => e = .returned (.int .i64 (16777216 * z0 + 65536 * z1 + 256 * z2 + z3)) ∧ ∃ n, w' = w.drewN n := by
  go_enter Try.func42, Try.ntmps42
  go_wp2
  go_quiet (fail)
  go_wp2
  go_ret
  exact ⟨rfl, _, rfl⟩
theorem numFrom_four (z0 z1 z2 z3 : Int) (h0 : 0 ≤ z0 ∧ z0 < 256) (h1 : 0 ≤ z1 ∧ z1 < 256) (h2 : 0 ≤ z2 ∧ z2 < 256) (h3 : 0 ≤ z3 ∧ z3 < 256) : ((numFrom 0 [z0, z1, z2, z3] : Nat) : Int) = 16777216 * z0 + 65536 * z1 + 256 * z2 + z3 := by
  simp only [numFrom, List.foldl]
  omega
theorem rnumber_piece (b off i cap : Nat) (zs : List Int) (w : World) (hz : Bytes zs) (hr : Row w b off zs) (hm : i + 4 ≤ zs.length) :
    Calls Try.prog 42 #[.slice (some ⟨b, off + i, none⟩) 4 cap] w fun e w' => e = .returned (.int .i64 (numFrom 0 ((zs.drop i).take 4) : Nat)) ∧ ∃ n, w' = w.drewN n := by
  have e : (zs.drop i).take 4 = [zs.getD i 0, zs.getD (i + 1) 0, zs.getD (i + 2) 0, zs.getD (i + 3) 0] := by
    apply List.ext_getElem
    · simp; omega
    · intro j h1 h2
      have hj : j < 4 := by simpa using h2
      simp only [List.getElem_take, List.getElem_drop]
      match j, hj with
      | 0, _ => simp [List.getD_eq_getElem?_getD, List.getElem?_eq_getElem (show i < zs.length by omega)]
      | 1, _ => simp [List.getD_eq_getElem?_getD, List.getElem?_eq_getElem (show i + 1 < zs.length by omega)]
      | 2, _ => simp [List.getD_eq_getElem?_getD, List.getElem?_eq_getElem (show i + 2 < zs.length by omega)]
      | 3, _ => simp [List.getD_eq_getElem?_getD, List.getElem?_eq_getElem (show i + 3 < zs.length by omega)]
  rw [e, numFrom_four _ _ _ _ (hz.getD _) (hz.getD _) (hz.getD _) (hz.getD _)]
  exact rnumber_core b (off + i) cap _ _ _ _ w (hz.getD _) (hz.getD _) (hz.getD _) (hz.getD _) (hr i (by omega)) (hr (i + 1) (by omega)) (hr (i + 2) (by omega)) (hr (i + 3) (by omega))

/- a row that a literal laid is the call's own -/
theorem own_lit (w : World) (zs : List Int) (n : Nat) (hn : zs.length = n) (hm : n ≤ maxLen) : (w.alloc (.cells (vals zs).toArray 5)).ownsRow w.heap.size 5 1 (.slice (some ⟨w.heap.size, 0, none⟩) n n) n (vals zs) := by
  refine ⟨by simp [vals_length, hn], .inr ⟨w.heap.size, n, (vals zs).toArray, rfl, Nat.le_refl _, heap_alloc_new w _, Nat.le_refl _, hm, by simp [vals_length, hn], ?_⟩⟩
  simp [List.take_of_length_le, vals_length, hn]
theorem own_base {w : World} {base base' : Nat} {v : Value} {n : Nat} {xs : List Value} (h : w.ownsRow base 5 1 v n xs) (hb : base' ≤ base) : w.ownsRow base' 5 1 v n xs := by
  obtain ⟨h1, h2⟩ := h
  rcases h2 with h2 | ⟨g', cap, cur, hv, hb', r⟩
  · exact ⟨h1, .inl h2⟩
  · exact ⟨h1, .inr ⟨g', cap, cur, hv, by omega, r⟩⟩

theorem four_abs (v : Int) (w : World) :
    Calls Try.prog 22 #[.int .i64 v] w fun e w' => ∃ a, e = .returned (.slice (some ⟨a, 0, none⟩) 4 4) ∧ (∀ j u, (vals (be4 (v % 4294967296).toNat))[j]? = some u → w'.cell? ((⟨a, 0, none⟩ : Addr).add j) = some u) ∧ w.grownBy w' none := by
  refine (four_any v w).mono ?_
  rintro e w' ⟨rfl, rfl⟩
  exact ⟨w.heap.size, rfl, news_at w _ 5, grown_alloc (World.grownBy.refl _ _)⟩

def boxOf (kind part code seq arg : Int) : Obj := .cells #[.int .i64 kind, .int .i64 part, .int .i64 code, .int .i64 seq, .int .i64 arg] 23 (0, 0)

set_option maxRecDepth 100000 in
set_option maxHeartbeats 1000000 in
theorem rslot_any (kind part code seq arg : Int) (w : World) :
    Calls Try.prog 9 #[.agg #[.int .i64 kind, .int .i64 part, .int .i64 code, .int .i64 seq, .int .i64 arg]] w fun e w' => ∃ g cap, 16 ≤ cap ∧ cap ≤ 9223372036854775807 ∧ e = .returned (.slice (some ⟨g, 0, none⟩) 16 cap) ∧
      w'.ownsRow w.heap.size 5 1 (.slice (some ⟨g, 0, none⟩) 16 cap) 16 (vals (slotOf kind part code seq arg)) ∧ Below w.heap.size w w' := by
  obtain ⟨i0, hi, hz0, hz1, hz2⟩ := info_parts Try.info5
  go_enter Try.func9, Try.ntmps9
  go_wp2_with fail
  refine (four_abs seq _).mono ?_
  rintro e w1 ⟨a1, rfl, hn1, hg1⟩
  have HO1 : Hid (w1.ownsRow (w.heap.size + 1) 5 1 (.slice (some ⟨w.heap.size + 1, 0, none⟩) 4 4) 4 (vals [0, kind % 256, part % 256, code % 256])) := by
    have := own_lit (w.alloc (boxOf kind part code seq arg)) [0, kind % 256, part % 256, code % 256] 4 rfl (by decide)
    rw [show (w.alloc (boxOf kind part code seq arg)).heap.size = w.heap.size + 1 from by simp] at this
    exact this.kept hg1 (.inr (by simp [Value.ownBlock]))
  have HX1 : Hid (w1.heap[w.heap.size]? = some (boxOf kind part code seq arg)) := (hg1.block _ (by simp; omega) (by simp)).trans ((Below.heap_alloc _ _ _ (by simp)).trans (heap_alloc_new w _))
  have HB1 : Hid (Below w.heap.size w w1) := (((Below.refl _ _).alloc (Nat.le_refl _) _).alloc (by simp) _).grown hg1 (by simp; omega) (by simp)
  have hs1 : w.heap.size + 2 ≤ w1.heap.size := by have := hg1.size; simp at this; omega
  have HN1 := hide hn1
  clear hn1 hg1
  go_wp2_with (at_builtin; go_must (refine wpList_append_lies _ rfl (.tmp 15) (.tmp 18) 24 rfl (w.heap.size + 1) 5 i0 (.int .u8 0) 1 1 Try.underlying24 hi hz0 hz1 hz2 rfl (by decide) _ 4 (vals [0, kind % 256, part % 256, code % 256]) rfl HO1.out ⟨a1, 0, none⟩ 4 4 (vals (be4 (seq % 4294967296).toNat)) (by rfl) rfl HN1.out (vals_one _) (by omega) (by decide) (by omega) (by omega) _ rfl ?_))
  intro g2 cap2 w2 hown2 hgrow2 _ _
  have hge2 : w.heap.size + 1 ≤ g2 := (hown2.lt g2 rfl).1
  have HX2 : Hid (w2.heap[w.heap.size]? = some (boxOf kind part code seq arg)) := (hgrow2.block _ (by omega) (by simp [Value.ownBlock])).trans HX1.out
  have HB2 : Hid (Below w.heap.size w w2) := HB1.out.grown hgrow2 (by omega) (by simp [Value.ownBlock])
  have hs2 : w.heap.size + 2 ≤ w2.heap.size := by have := hgrow2.size; omega
  have c4 : w2.cell? ⟨w.heap.size, 4, none⟩ = some (.int .i64 arg) := by rw [cell_of_row _ _ _ _ _ _ HX2.out]; rfl
  have HO2 := hide hown2
  clear hown2 hgrow2 HO1 HX1 HB1 HN1
  go_wp2_with fail
  refine (four_abs arg _).mono ?_
  rintro e w3 ⟨a3, rfl, hn3, hg3⟩
  have HO3 := hide (HO2.out.kept hg3 (.inr (by simp [Value.ownBlock])))
  have HB3 : Hid (Below w.heap.size w w3) := HB2.out.grown hg3 (by omega) (by simp)
  have hs3 : w.heap.size + 2 ≤ w3.heap.size := by have := hg3.size; omega
  have HN3 := hide hn3
  clear hn3 hg3 HO2 HX2 HB2 c4
  go_wp2_with (at_builtin; go_must (refine wpList_append_lies _ rfl (.tmp 20) (.tmp 23) 24 rfl (w.heap.size + 1) 5 i0 (.int .u8 0) 1 1 Try.underlying24 hi hz0 hz1 hz2 rfl (by decide) _ 8 _ rfl HO3.out ⟨a3, 0, none⟩ 4 4 (vals (be4 (arg % 4294967296).toNat)) (by rfl) rfl HN3.out (vals_one _) (by omega) (by decide) (by omega) (by omega) _ rfl ?_))
  intro g4 cap4 w4 hown4 hgrow4 _ _
  have hge4 : w.heap.size + 1 ≤ g4 := (hown4.lt g4 rfl).1
  have HB4 : Hid (Below w.heap.size w w4) := HB3.out.grown hgrow4 (by omega) (by simp [Value.ownBlock]; omega)
  have hs4 : w.heap.size + 2 ≤ w4.heap.size := by have := hgrow4.size; omega
  have HO4 : Hid (w4.ownsRow (w.heap.size + 1) 5 1 (.slice (some ⟨g4, 0, none⟩) 12 cap4) 12 (vals (0 :: slotHead kind part code seq arg))) := hown4
  have HR4 : Hid (Row w4 g4 0 (0 :: slotHead kind part code seq arg)) := row_of_own HO4.out
  have hcap4 : (12 : Int) ≤ (cap4 : Int) ∧ (cap4 : Int) ≤ 9223372036854775807 := by
    rcases hown4.2 with ⟨h1, _⟩ | ⟨g', cap', cur, hv, _, _, h1, h2, _⟩
    · simp at h1
    · simp at hv; obtain ⟨_, rfl⟩ := hv; unfold maxLen at h2; omega
  have hc1 : ¬ cap4 = 1 := by omega
  have HZ : Hid (Bytes (0 :: slotHead kind part code seq arg)) := by
    intro z hz
    rcases List.mem_cons.1 hz with h | h
    · omega
    · exact slotHead_bytes _ _ _ _ _ z h
  have HC : Hid (∀ W c, Row W g4 0 (0 :: slotHead kind part code seq arg) → Calls Try.prog 23 #[.slice (some ⟨g4, 1, none⟩) 11 c] W fun e w' => e = .returned (.int .i64 (crcOf (slotHead kind part code seq arg) : Nat)) ∧ w' = W) := fun W c h => by
    have := rcheck_piece g4 0 1 11 c (0 :: slotHead kind part code seq arg) W HZ.out h (Nat.le_refl 12) (by omega)
    rw [show List.take 11 (List.drop 1 (0 :: slotHead kind part code seq arg)) = slotHead kind part code seq arg from rfl] at this
    exact this
  clear hown4 hgrow4 HO3 HB3 HN3
  have HS : Hid (slotOf kind part code seq arg = 0 :: slotHead kind part code seq arg ++ be4 (crcOf (slotHead kind part code seq arg))) := rfl
  have hcl := crcOf_lt (slotHead kind part code seq arg)
  generalize crcOf (slotHead kind part code seq arg) = cc at hcl HC HS
  go_wp2_with fail
  refine (HC.out _ _ HR4.out).mono ?_
  rintro e w4 ⟨rfl, rfl⟩
  go_wp2_with fail
  refine (four_abs cc _).mono ?_
  rintro e w5 ⟨a5, rfl, hn5, hg5⟩
  rw [show (((cc : Int) % 4294967296).toNat) = cc from by omega] at hn5
  have HO5 := hide (HO4.out.kept hg5 (.inr (by simp [Value.ownBlock])))
  have HB5 : Hid (Below w.heap.size w w5) := HB4.out.grown hg5 (by omega) (by simp)
  have hs5 : w.heap.size + 2 ≤ w5.heap.size := by have := hg5.size; omega
  have HN5 := hide hn5
  clear hn5 hg5 HO4 HB4 HR4 HC
  go_wp2_with (at_builtin; go_must (refine wpList_append_lies _ rfl (.tmp 28) (.tmp 30) 24 rfl (w.heap.size + 1) 5 i0 (.int .u8 0) 1 1 Try.underlying24 hi hz0 hz1 hz2 rfl (by decide) _ 12 _ rfl HO5.out ⟨a5, 0, none⟩ 4 4 (vals (be4 cc)) (by rfl) rfl HN5.out (vals_one _) (by omega) (by decide) (by omega) (by omega) _ rfl ?_))
  intro g6 cap6 w6 hown6 hgrow6 _ _
  have HB6 : Hid (Below w.heap.size w w6) := HB5.out.grown hgrow6 (by omega) (by simp [Value.ownBlock]; omega)
  have hcap6 : 16 ≤ cap6 ∧ cap6 ≤ 9223372036854775807 := by
    rcases hown6.2 with ⟨h1, _⟩ | ⟨g', cap', cur, hv, _, _, h1, h2, _⟩
    · simp at h1
    · simp at hv; obtain ⟨_, rfl⟩ := hv; unfold maxLen at h2; omega
  have HO6 : Hid (w6.ownsRow w.heap.size 5 1 (.slice (some ⟨g6, 0, none⟩) 16 cap6) 16 (vals (slotOf kind part code seq arg))) := by
    rw [HS.out, vals_append]
    exact own_base hown6 (by omega)
  clear hown6 hgrow6 HO5 HB5 HN5
  go_wp2
  go_ret
  exact ⟨g6, cap6, hcap6.1, hcap6.2, rfl, HO6.out, HB6.out⟩
end Go.Proofs.Ytnjlbgolnbdkaaa
