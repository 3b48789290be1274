/- wire.Append and journal.Slot: the slot of a record, in memory of its own. -/
import Derived.Test.YtnjlbgolnbdkaaaWa
import Derived.Deep.AppendLies
import Derived.OwnWalk
namespace Go.Proofs.Ytnjlbgolnbdkaaa
open Go.RowKit

theorem Try.info5 : (Try.prog.info? 5).map (fun i => (i.zero, i.size, i.bytes)) = some (some (.int .u8 0), 1, 1) := by kernel_rfl
def vals (zs : List Int) : List Value := zs.map (Value.int .u8)
theorem vals_append (a b : List Int) : vals (a ++ b) = vals a ++ vals b := by simp [vals]
theorem vals_length (a : List Int) : (vals a).length = a.length := by simp [vals]

theorem news_at (w : World) (cs : Array Value) (t : TypeId) : ∀ j u, cs.toList[j]? = some u → (w.alloc (.cells cs t)).cell? ((⟨w.heap.size, 0, none⟩ : Addr).add j) = some u := World.news_of_block (heap_alloc_new w _)
theorem vals_one (zs : List Int) : ∀ u ∈ vals zs, u.oneCell' = true := by
  intro u hu
  obtain ⟨z, _, rfl⟩ := List.mem_map.1 hu
  rfl
theorem grown_alloc {w w' : World} {o : Obj} {row : Option Nat} (h : (w.alloc o).grownBy w' row) : w.grownBy w' row :=
  ⟨h.os, h.tape, h.output, by have := h.size; simp at this; omega, fun k hk hne => (h.block k (by simp; omega) hne).trans (Below.heap_alloc w o k hk)⟩
theorem vals_be4 (n : Nat) (hn : n < 4294967296) : vals (be4 n) = #[Value.int .u8 ((n : Int) / 16777216), .int .u8 ((n : Int) / 65536 % 256), .int .u8 ((n : Int) / 256 % 256), .int .u8 ((n : Int) % 256)].toList := by
  have e1 : ((n / 16777216 % 256 : Nat) : Int) = (n : Int) / 16777216 := by omega
  have e2 : ((n / 65536 % 256 : Nat) : Int) = (n : Int) / 65536 % 256 := by omega
  have e3 : ((n / 256 % 256 : Nat) : Int) = (n : Int) / 256 % 256 := by omega
  have e4 : ((n % 256 : Nat) : Int) = (n : Int) % 256 := by omega
  unfold vals be4
  rw [e1, e2, e3, e4]
  rfl

set_option maxHeartbeats 400000 in
theorem append4_any (base g k cap n : Nat) (zs : List Int) (w : World) (hown : w.ownsRow base 5 1 (.slice (some ⟨g, 0, none⟩) k cap) k (vals zs)) (hroom : k + 4 ≤ cap) (hn : n < 4294967296) :
    Calls Try.prog 32 #[.slice (some ⟨g, 0, none⟩) k cap, .int .u32 n] w fun e w' => e = .returned (.slice (some ⟨g, 0, none⟩) (k + 4) cap) ∧
      w'.ownsRow base 5 1 (.slice (some ⟨g, 0, none⟩) (k + 4) cap) (k + 4) (vals (zs ++ be4 n)) ∧ w.grownBy w' (some g) := by
  obtain ⟨i0, hi, hz0, hz1, hz2⟩ := info_parts Try.info5
  go_enter Try.func32, Try.ntmps32
  go_wp2_with (at_builtin; go_must (refine wpList_append_fits _ rfl (.tmp 5) (.tmp 17) 24 rfl base 5 i0 1 Try.underlying24 hi hz1 g k cap (vals zs) rfl (hown.alloc _) ⟨w.heap.size, 0, none⟩ 4 4 (vals (be4 n)) (by rfl) rfl (by rw [vals_be4 n hn]; exact news_at w _ 5) (vals_one _) hroom ?_))
  intro w1 hown1 hgrow
  have H1 : Hid (w1.ownsRow base 5 1 (.slice (some ⟨g, 0, none⟩) (k + 4) cap) (k + 4) (vals (zs ++ be4 n))) := by rw [vals_append]; exact hown1
  have H2 : Hid (w.grownBy w1 (some g)) := grown_alloc hgrow
  clear hown1 hgrow
  go_wp2
  go_ret
  exact ⟨rfl, H1.out, H2.out⟩

theorem append4_int (base g k cap : Nat) (n : Int) (zs : List Int) (w : World) (hown : w.ownsRow base 5 1 (.slice (some ⟨g, 0, none⟩) k cap) k (vals zs)) (hroom : k + 4 ≤ cap) (h0 : 0 ≤ n) (hn : n < 4294967296) :
    Calls Try.prog 32 #[.slice (some ⟨g, 0, none⟩) k cap, .int .u32 n] w fun e w' => e = .returned (.slice (some ⟨g, 0, none⟩) (k + 4) cap) ∧
      w'.ownsRow base 5 1 (.slice (some ⟨g, 0, none⟩) (k + 4) cap) (k + 4) (vals (zs ++ be4 n.toNat)) ∧ w.grownBy w' (some g) := by
  obtain ⟨m, rfl⟩ := Int.eq_ofNat_of_zero_le h0
  exact append4_any base g k cap m zs w hown hroom (by omega)

theorem check_at (b off n cap : Nat) (zs : List Int) (w : World) (hl : zs.length = n) (hz : Bytes zs) (hr : Row w b off zs) (hn : n ≤ 9223372036854775807) :
    Calls Try.prog 30 #[.slice (some ⟨b, off, none⟩) n cap] w fun e w' => e = .returned (.int .u32 (crcOf zs : Nat)) ∧ w' = w := by
  subst hl
  exact check_any b off cap zs w hz hr hn
theorem number_at (b off n cap : Nat) (zs : List Int) (w : World) (hl : zs.length = n) (hz : Bytes zs) (hr : Row w b off zs) (hn : n ≤ 9223372036854775807) :
    Calls Try.prog 29 #[.slice (some ⟨b, off, none⟩) n cap] w fun e w' => e = .returned (.int .u32 (numFrom 0 zs : Nat)) ∧ w' = w := by
  subst hl
  exact number_any b off cap zs w hz hr hn
theorem blank_at (b off n cap : Nat) (zs : List Int) (w : World) (hl : zs.length = n) (hz : Bytes zs) (hr : Row w b off zs) (hn : n ≤ 9223372036854775807) :
    Calls Try.prog 28 #[.slice (some ⟨b, off, none⟩) n cap] w fun e w' => e = .returned (.bool (blankB zs)) ∧ w' = w := by
  subst hl
  exact blank_any b off cap zs w hz hr hn

/- a piece of a row -/
theorem Row.piece {w : World} {b off : Nat} {zs : List Int} (h : Row w b off zs) (i n : Nat) : Row w b (off + i) ((zs.drop i).take n) := by
  intro j hj
  simp only [List.length_take, List.length_drop] at hj
  have := h (i + j) (by omega)
  rw [Nat.add_assoc, this]
  simp only [List.getD_eq_getElem?_getD, List.getElem?_take, List.getElem?_drop]
  rw [if_pos (by omega)]
theorem row_of_own {w : World} {base g n cap : Nat} {zs : List Int} (h : w.ownsRow base 5 1 (.slice (some ⟨g, 0, none⟩) n cap) n (vals zs)) : Row w g 0 zs := by
  intro i hi
  have := h.cells (g := g) rfl i (.int .u8 (zs.getD i 0)) (by simp [vals, List.getD_eq_getElem?_getD, List.getElem?_eq_getElem hi])
  have e : (⟨g, 0, none⟩ : Addr).add i = ⟨g, 0 + i, none⟩ := by unfold Addr.add; split <;> simp_all
  rw [← e]
  exact this

/- the bytes of a record's slot, as it is when it was laid -/
def slotHead (kind part code seq arg : Int) : List Int := [kind % 256, part % 256, code % 256] ++ be4 (seq % 4294967296).toNat ++ be4 (arg % 4294967296).toNat
def slotOf (kind part code seq arg : Int) : List Int := 0 :: slotHead kind part code seq arg ++ be4 (crcOf (slotHead kind part code seq arg))

theorem be4_bytes (n : Nat) : Bytes (be4 n) := by
  intro z hz
  simp only [be4, List.mem_cons, List.not_mem_nil, or_false] at hz
  omega
theorem slotHead_bytes (kind part code seq arg : Int) : Bytes (slotHead kind part code seq arg) := by
  intro z hz
  simp only [slotHead, List.mem_append, List.mem_cons, List.not_mem_nil, or_false] at hz
  rcases hz with (hz | hz) | hz
  · omega
  · exact be4_bytes _ z hz
  · exact be4_bytes _ z hz

set_option maxHeartbeats 1000000 in
theorem slot_any (kind part code seq arg : Int) (w : World) :
    Calls Try.prog 15 #[.agg #[.int .i64 kind, .int .i64 part, .int .i64 code, .int .i64 seq, .int .i64 arg]] w fun e w' => ∃ g, e = .returned (.slice (some ⟨g, 0, none⟩) 16 16) ∧
      w'.ownsRow w.heap.size 5 1 (.slice (some ⟨g, 0, none⟩) 16 16) 16 (vals (slotOf kind part code seq arg)) ∧ Below w.heap.size w w' := by
  obtain ⟨i0, hi, hz0, hz1, hz2⟩ := info_parts Try.info5
  go_enter Try.func15, Try.ntmps15
  go_wp2_with (at_make; go_must (refine wpList_make_own _ rfl _ _ 24 rfl w.heap.size 5 i0 (.int .u8 0) 1 Try.underlying24 hi hz0 hz1 .i64 .i64 16 16 rfl rfl rfl (by rw [hz2]; omega) (by decide) (by simp) ?_))
  intro w1 hown1 hgrow1
  have hb1 : w1.heap[w.heap.size]? = some (.cells #[.int .i64 kind, .int .i64 part, .int .i64 code, .int .i64 seq, .int .i64 arg] 23 (0, 0)) := (hgrow1.block _ (by simp) (by simp)).trans (heap_alloc_new w _)
  have HB1 : Hid (Below w.heap.size w w1) := ((Below.refl _ _).alloc (Nat.le_refl _) _).grown hgrow1 (by simp) (by simp)
  have HW1 : Hid (w.heap.size + 1 ≤ w1.heap.size) := by have := hgrow1.size; simp at this; exact this
  have c0 : w1.cell? ⟨w.heap.size, 0, none⟩ = some (.int .i64 kind) := by rw [cell_of_row _ _ _ _ _ _ hb1]; rfl
  have c1 : w1.cell? ⟨w.heap.size, 1, none⟩ = some (.int .i64 part) := by rw [cell_of_row _ _ _ _ _ _ hb1]; rfl
  have c2 : w1.cell? ⟨w.heap.size, 2, none⟩ = some (.int .i64 code) := by rw [cell_of_row _ _ _ _ _ _ hb1]; rfl
  have HB : Hid (w1.heap[w.heap.size]? = some (.cells #[.int .i64 kind, .int .i64 part, .int .i64 code, .int .i64 seq, .int .i64 arg] 23 (0, 0))) := hb1
  clear hb1 hgrow1
  go_wp2_with (at_builtin; go_must (refine wpList_append_fits _ rfl (.tmp 5) (.tmp 15) 24 rfl w.heap.size 5 i0 1 Try.underlying24 hi hz1 (w.heap.size + 1) 0 16 [] rfl (hown1.alloc _) ⟨w1.heap.size, 0, none⟩ 4 4 (vals [0, kind % 256, part % 256, code % 256]) (by rfl) rfl (news_at w1 _ 5) (vals_one _) (by omega) ?_))
  intro w2 hown2 hgrow2
  have hb2 : w2.heap[w.heap.size]? = some (.cells #[.int .i64 kind, .int .i64 part, .int .i64 code, .int .i64 seq, .int .i64 arg] 23 (0, 0)) := ((grown_alloc hgrow2).block _ (by have := HW1.out; omega) (by simp)).trans HB.out
  have HB2 : Hid (Below w.heap.size w w2) := (HB1.out).grown (grown_alloc hgrow2) (by have := HW1.out; omega) (by simp)
  have HW2 : Hid (w.heap.size + 1 ≤ w2.heap.size) := by have := (grown_alloc hgrow2).size; have := HW1.out; show _ ≤ _; omega
  have d3 : w2.cell? ⟨w.heap.size, 3, none⟩ = some (.int .i64 seq) := by rw [cell_of_row _ _ _ _ _ _ hb2]; rfl
  have HBb : Hid (w2.heap[w.heap.size]? = some (.cells #[.int .i64 kind, .int .i64 part, .int .i64 code, .int .i64 seq, .int .i64 arg] 23 (0, 0))) := hb2
  have HO2 : Hid _ := hown2
  clear hb2 hgrow2 HB HB1 HW1 c0 c1 c2 hown1 hown2
  go_wp2_with fail
  refine (append4_int w.heap.size (w.heap.size + 1) 4 16 _ _ w2 HO2.out (by omega) (by omega) (by omega)).mono ?_
  rintro e w3 ⟨rfl, hown3, hgrow3⟩
  have hb3 : w3.heap[w.heap.size]? = some (.cells #[.int .i64 kind, .int .i64 part, .int .i64 code, .int .i64 seq, .int .i64 arg] 23 (0, 0)) := (hgrow3.block _ (by have := HW2.out; omega) (by simp)).trans HBb.out
  have HB3 : Hid (Below w.heap.size w w3) := (HB2.out).grown hgrow3 (by have := HW2.out; omega) (by simp)
  have HW3 : Hid (w.heap.size + 1 ≤ w3.heap.size) := by have := hgrow3.size; have := HW2.out; show _ ≤ _; omega
  have d4 : w3.cell? ⟨w.heap.size, 4, none⟩ = some (.int .i64 arg) := by rw [cell_of_row _ _ _ _ _ _ hb3]; rfl
  have HO3 : Hid _ := hown3
  clear hgrow3 HBb hb3 HB2 HW2 d3 hown3 HO2
  go_wp2_with fail
  refine (append4_int w.heap.size (w.heap.size + 1) 8 16 _ _ w3 HO3.out (by omega) (by omega) (by omega)).mono ?_
  rintro e w4 ⟨rfl, hown4, hgrow4⟩
  have HB4 : Hid (Below w.heap.size w w4) := (HB3.out).grown hgrow4 (by have := HW3.out; omega) (by simp)
  have HW4 : Hid (w.heap.size + 1 ≤ w4.heap.size) := by have := hgrow4.size; have := HW3.out; show _ ≤ _; omega
  have HO4 : Hid (w4.ownsRow w.heap.size 5 1 (.slice (some ⟨w.heap.size + 1, 0, none⟩) 12 16) 12 (vals (0 :: slotHead kind part code seq arg))) := by
    show World.ownsRow _ _ _ _ _ _ _
    simpa [slotHead] using hown4
  have HR : Hid (Row w4 (w.heap.size + 1) 1 (slotHead kind part code seq arg)) := by
    have := (row_of_own HO4.out).piece 1 11
    exact this
  clear hgrow4 HB3 HW3 d4 hown4 HO3
  go_wp2_with fail
  refine (check_at (w.heap.size + 1) 1 11 15 (slotHead kind part code seq arg) w4 rfl (slotHead_bytes _ _ _ _ _) HR.out (by omega)).mono ?_
  rintro e w5 ⟨rfl, rfl⟩
  have hc := crcOf_lt (slotHead kind part code seq arg)
  have HS : Hid (slotOf kind part code seq arg = 0 :: slotHead kind part code seq arg ++ be4 (crcOf (slotHead kind part code seq arg))) := rfl
  go_wp2_with fail
  refine (append4_any w.heap.size (w.heap.size + 1) 12 16 _ _ w5 HO4.out (by omega) hc).mono ?_
  rintro e w6 ⟨rfl, hown6, hgrow6⟩
  have HB6 : Hid (Below w.heap.size w w6) := (HB4.out).grown hgrow6 (by have := HW4.out; omega) (by simp)
  have HO6 : Hid _ := hown6
  clear hown6 hgrow6
  go_wp2
  go_ret
  exact ⟨w.heap.size + 1, rfl, HO6.out, HB6.out⟩
end Go.Proofs.Ytnjlbgolnbdkaaa
