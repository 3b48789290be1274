/- The hands: lend. -/
import Derived.Test.YtnjlbgolnbdkaaaHa
namespace Go.Proofs.Ytnjlbgolnbdkaaa
open Go.RowKit

theorem made_bytes (n : Nat) : (madeCells #[Value.int .u8 0] n).toList = List.replicate n (.int .u8 0) := by
  rw [List.eq_replicate_iff]
  refine ⟨by simp [madeCells], ?_⟩
  intro v hv
  simp only [madeCells, Array.toList_map, List.mem_map] at hv
  obtain ⟨i, _, rfl⟩ := hv
  have : i % 1 = 0 := Nat.mod_one i
  simp [this]

theorem slice_one (v : Value) (ao : Option Addr) (n c : Nat) (h : v = .slice ao n c) : ∀ u ∈ [v], u.oneCell' = true := by
  intro u hu
  simp at hu
  subst hu
  subst h
  rfl
theorem own_first {w : World} {base g cap : Nat} {e : TypeId} {v : Value} (h : w.ownsRow base e 1 (.slice (some ⟨g, 0, none⟩) 1 cap) 1 [v]) : w.cell? ⟨g, 0, none⟩ = some v := by
  have := h.cells (g := g) rfl 0 v rfl
  simpa [Addr.add] using this

set_option maxRecDepth 100000 in
set_option maxHeartbeats 1000000 in
theorem lend_any (hb : Nat) (n0 : Int) (vs : Nat → Value) (ao : Option Addr) (n cap : Nat) (zs : List Int) (w : World) (hB : w.heap[hb]? = some (.cells (handCells (.slice none 0 0) (.slice none 0 0) n0 vs) 41 (0, 0))) (hz : Held w ao n cap zs) (hn' : n ≤ 140737488351232) :
    Calls Try.prog 16 #[.pointer (some ⟨hb, 0, none⟩), .slice ao n cap] w fun e w' => ∃ x a1 c1 a2 c2, e = .returned (.slice (some ⟨x, 0, none⟩) n (n + 2)) ∧ w.heap.size ≤ x ∧ w.heap.size ≤ a1 ∧ w.heap.size ≤ a2 ∧ 
      w'.heap[x]? = some (.cells (vals (zs ++ [165, 165])).toArray 5 (0, 0)) ∧ w'.cell? ⟨a1, 0, none⟩ = some (.slice (some ⟨x, 0, none⟩) (n + 2) (n + 2)) ∧ w'.cell? ⟨a2, 0, none⟩ = some (.slice ao n cap) ∧
      w'.heap[hb]? = some (.cells (handCells (.slice (some ⟨a1, 0, none⟩) 1 c1) (.slice (some ⟨a2, 0, none⟩) 1 c2) n0 vs) 41 (0, 0)) ∧ Touch (· = hb) w w' := by
  obtain ⟨i0, hi, hz0, hz1, hz2⟩ := info_parts Try.info5
  have hn : (n : Int) ≤ 140737488351232 := by omega
  have hlt : hb < w.heap.size := by
    rcases Nat.lt_or_ge hb w.heap.size with h | h
    · exact h
    · rw [Array.getElem?_eq_none h] at hB; cases hB
  have HB := hide hB
  have HZ := hide hz
  clear hB hz
  go_enter Try.func16, Try.ntmps16
  go_wp2_with (at_make; go_must (refine wpList_make_full _ rfl _ _ 24 rfl w.heap.size 5 i0 (.int .u8 0) 1 Try.underlying24 hi hz0 hz1 .i64 .i64 _ _ (n + 2) rfl rfl (by omega) (by omega) (by rw [hz2]; omega) (by unfold maxLen; omega) (by omega) ?_))
  intro w1 hown1 hgrow1
  rw [made_bytes] at hown1
  have HX1 := hide (own_block hown1).1
  have HG1 := hide hgrow1
  clear hown1 hgrow1
  have HT1 : Hid (Touch (fun _ => False) w w1) := Touch.ofGrown HG1.out (by simp)
  have HZ1 := hide (HZ.out.touch HT1.out (fun _ _ _ => id))
  have hzl := HZ.out.len
  have HL : Hid (zs.length = n) := hzl
  clear hzl
  go_wp2_with (refine wpList_copy_splice rfl (.tmp 12) (.tmp 13) 24 24 rfl 5 Try.underlying24 (by rw [hi]; simp [hz1]) (some ⟨w.heap.size, 0, none⟩) ao (n + 2) (n + 2) n cap rfl rfl w.heap.size 0 (List.replicate (n + 2) (.int .u8 0)) 5 HX1.out (vals zs) (by rw [vals_length, HL.out]; exact (Nat.min_eq_left (by omega)).symm) (fun hp => ⟨rfl, (by cases ao with | none => exact absurd (HZ1.out.none rfl) (by have := HZ1.out.cap1; rw [vals_length, HL.out] at hp; omega) | some ad => exact ⟨ad, rfl, HZ1.out.cells ad rfl⟩)⟩) (by rw [vals_length, HL.out]; simp) (vals_one _) w.heap.size w (HT1.out.below (Nat.le_refl _) (by simp)) (Nat.le_refl _) ?_)
  intro w2 hx2 hb2
  have HX2 : Hid (w2.heap[w.heap.size]? = some (.cells (vals (zs ++ [0, 0])).toArray 5 (0, 0))) := by
    have := hx2.out
    rw [show splice (List.replicate (n + 2) (Value.int .u8 0)) 0 (vals zs) = vals (zs ++ [0, 0]) from by
      unfold splice
      rw [vals_append, vals_length, HL.out]
      simp [vals, List.drop_replicate]] at this
    exact this
  have cx0 : w2.cell? ⟨w.heap.size, n, none⟩ = some (.int .u8 0) := by
    rw [cell_of_row _ _ _ _ _ _ HX2.out]
    simp [vals, ← HL.out]
  have cx1 : w2.cell? ⟨w.heap.size, n + 1, none⟩ = some (.int .u8 0) := by
    rw [cell_of_row _ _ _ _ _ _ HX2.out]
    simp [vals, ← HL.out]
  have fx0 := free_of_block HX2.out n
  have fx1 := free_of_block HX2.out (n + 1)
  have HB2 := hide hb2
  have H2 : Hid (w2.heap[hb]? = some (.cells (handCells (.slice none 0 0) (.slice none 0 0) n0 vs) 41 (0, 0))) := (hb2.block _ hlt).trans HB.out
  clear hx2 hb2 HX1 HG1 HT1 HZ1
  have hs2 : w.heap.size < w2.heap.size := by
    rcases Nat.lt_or_ge w.heap.size w2.heap.size with h | h
    · exact h
    · exact absurd HX2.out (by rw [Array.getElem?_eq_none h]; simp)
  have c0 : w2.cell? ⟨hb, 0, none⟩ = some (.slice none 0 0) := by rw [cell_of_row _ _ _ _ _ _ H2.out]; rfl
  have c1 : w2.cell? ⟨hb, 1, none⟩ = some (.slice none 0 0) := by rw [cell_of_row _ _ _ _ _ _ H2.out]; rfl
  have f0 := free_of_block H2.out 0
  have f1 := free_of_block H2.out 1
  have hne1 : ¬ w.heap.size = hb := by omega
  have hne2 : ¬ hb = w.heap.size := by omega
  obtain ⟨j0, hj, hj0, hj1, hj2⟩ := info_parts Try.info24
  obtain ⟨w3, hw3⟩ : ∃ w3, w3 = (w2.setCell ⟨w.heap.size, n, none⟩ (.int .u8 165)).setCell ⟨w.heap.size, n + 1, none⟩ (.int .u8 165) := ⟨_, rfl⟩
  have hs3 : w3.heap.size = w2.heap.size := by rw [hw3]; simp
  have HX3 : Hid (w3.heap[w.heap.size]? = some (.cells (vals (zs ++ [165, 165])).toArray 5 (0, 0))) := by
    have := block_set (block_set HX2.out n (.int .u8 165)) (n + 1) (.int .u8 165)
    rw [← hw3] at this
    rw [this]
    congr 2
    apply Array.ext'
    simp [vals, ← HL.out]
  have HT3 : Hid (Touch (· = w.heap.size) w2 w3) := by
    rw [hw3]
    exact Touch.trans (S := (· = w.heap.size)) (T := (· = w.heap.size)) (Touch.ofSet w2 w.heap.size n (.int .u8 165) rfl) (Touch.ofSet _ w.heap.size (n + 1) (.int .u8 165) rfl) (fun i hi => .inl hi)
  have H3 : Hid (w3.heap[hb]? = some (.cells (handCells (.slice none 0 0) (.slice none 0 0) n0 vs) 41 (0, 0))) := (HT3.out.block _ (by omega) (by omega)).trans H2.out
  have HW3 := hide hw3
  clear hw3
  go_wp2_with (at_builtin; go_must (refine wpList_append_lies _ rfl (.tmp 26) (.tmp 28) 30 rfl w.heap.size 24 j0 (.slice none 0 0) 1 24 Try.underlying30 hj hj0 hj1 hj2 rfl (by decide) (.slice none 0 0) 0 [] rfl (World.ownsRow_nil _ _ _ _) ⟨w2.heap.size, 0, none⟩ 1 1 [.slice (some ⟨w.heap.size, 0, none⟩) (n + 2) (n + 2)] (by rfl) rfl (by rw [← HW3.out, ← hs3]; exact news_at w3 #[.slice (some ⟨w.heap.size, 0, none⟩) (n + 2) (n + 2)] 24) (slice_one _ _ _ _ rfl) (by omega) (by decide) (by omega) (by rw [← HW3.out]; simp; omega) _ rfl ?_))
  intro a1 cc1 w4 hown4 hgrow4 hat4 hlt4
  rw [← HW3.out] at hgrow4
  have ha1 : a1 = w2.heap.size + 1 := by simpa [Value.ownBlock] using hat4
  have hg4 : w3.grownBy w4 none := grown_alloc hgrow4
  have HX4 : Hid (w4.heap[w.heap.size]? = some (.cells (vals (zs ++ [165, 165])).toArray 5 (0, 0))) := (hg4.block _ (by omega) (by simp)).trans HX3.out
  have H4 : Hid (w4.heap[hb]? = some (.cells (handCells (.slice none 0 0) (.slice none 0 0) n0 vs) 41 (0, 0))) := (hg4.block _ (by omega) (by simp)).trans H3.out
  have HC4 := hide (own_first hown4)
  have HT4 : Hid (Below w.heap.size w w4) := (HB2.out.trans (HT3.out.below (by omega) (by intro k hk; omega))).grown hg4 (by omega) (by simp)
  have d0 : w4.cell? ⟨hb, 0, none⟩ = some (.slice none 0 0) := by rw [cell_of_row _ _ _ _ _ _ H4.out]; rfl
  have d1 : w4.cell? ⟨hb, 1, none⟩ = some (.slice none 0 0) := by rw [cell_of_row _ _ _ _ _ _ H4.out]; rfl
  have e0 := free_of_block H4.out 0
  have e1 := free_of_block H4.out 1
  have hs4 : w2.heap.size + 1 < w4.heap.size := by omega
  clear hown4 hgrow4 hat4 hg4 c0 c1 f0 f1 cx0 cx1 fx0 fx1 H3 H2 HX2 HX3 HT3 HB2 HW3
  have HA1 := hide ha1
  clear ha1
  obtain ⟨w5, hw5⟩ : ∃ w5, w5 = w4.setCell ⟨hb, 0, none⟩ (.slice (some ⟨a1, 0, none⟩) 1 cc1) := ⟨_, rfl⟩
  have hs5 : w5.heap.size = w4.heap.size := by rw [hw5]; simp
  have HT5 : Hid (Touch (· = hb) w4 w5) := by
    rw [hw5]
    exact Touch.ofSet w4 hb 0 _ rfl
  have H5 : Hid (w5.heap[hb]? = some (.cells (handCells (.slice (some ⟨a1, 0, none⟩) 1 cc1) (.slice none 0 0) n0 vs) 41 (0, 0))) := by
    rw [hw5]
    exact block_set H4.out 0 _
  have HW5 := hide hw5
  clear hw5
  go_wp2_with (at_builtin; go_must (refine wpList_append_lies _ rfl (.tmp 36) (.tmp 38) 30 rfl w.heap.size 24 j0 (.slice none 0 0) 1 24 Try.underlying30 hj hj0 hj1 hj2 rfl (by decide) (.slice none 0 0) 0 [] rfl (World.ownsRow_nil _ _ _ _) ⟨w4.heap.size, 0, none⟩ 1 1 [.slice ao n cap] (by rfl) rfl (by rw [← HW5.out, ← hs5]; exact news_at w5 #[.slice ao n cap] 24) (slice_one _ _ _ _ rfl) (by omega) (by decide) (by omega) (by rw [← HW5.out]; simp; omega) _ rfl ?_))
  intro a2 cc2 w6 hown6 hgrow6 hat6 hlt6
  rw [← HW5.out] at hgrow6
  have ha2 : a2 = w4.heap.size + 1 := by simpa [Value.ownBlock] using hat6
  have HA2 := hide ha2
  clear ha2
  have hg6 : w5.grownBy w6 none := grown_alloc hgrow6
  have HT6 : Hid (Touch (· = hb) w4 w6) := Touch.trans (T := fun _ => False) HT5.out (Touch.ofGrown hg6 (by simp)) (fun _ h => h.elim)
  have HX6 : Hid (w6.heap[w.heap.size]? = some (.cells (vals (zs ++ [165, 165])).toArray 5 (0, 0))) := (HT6.out.block _ (by omega) hne1).trans HX4.out
  have H6 : Hid (w6.heap[hb]? = some (.cells (handCells (.slice (some ⟨a1, 0, none⟩) 1 cc1) (.slice none 0 0) n0 vs) 41 (0, 0))) := (hg6.block _ (by omega) (by simp)).trans H5.out
  have HC6 : Hid (w6.cell? ⟨a1, 0, none⟩ = some (.slice (some ⟨w.heap.size, 0, none⟩) (n + 2) (n + 2))) := (World.cell?_of_block (HT6.out.block a1 (by omega) (by rw [HA1.out]; omega))).trans HC4.out
  have HD6 := hide (own_first hown6)
  have HT : Hid (Touch (· = hb) w w6) := Touch.trans (S := (· = hb)) (Touch.ofBelow HT4.out) HT6.out (fun i hi => .inl hi)
  have e1' := free_of_block H6.out 1
  have d1' : w6.cell? ⟨hb, 1, none⟩ = some (.slice none 0 0) := by rw [cell_of_row _ _ _ _ _ _ H6.out]; rfl
  clear hown6 hgrow6 hat6 hg6 d0 d1 e0 e1 H4 H5 HX4 HT4 HT5 HT6 HW5
  go_wp2
  go_ret
  have hA1 := HA1.out
  have hA2 := HA2.out
  refine ⟨w.heap.size, a1, cc1, a2, cc2, rfl, Nat.le_refl _, by omega, by omega, ?_, ?_, ?_, block_set H6.out 1 _, Touch.trans (S := (· = hb)) (T := (· = hb)) HT.out (Touch.ofSet w6 hb 1 _ rfl) (fun i hi => .inl hi)⟩
  · rw [Below.heap_setCell _ _ _ _ (by exact hne1)]; exact HX6.out
  · rw [World.cell?_of_block (w := w6) (Below.heap_setCell _ _ _ _ (by show ¬ a1 = hb; omega))]; exact HC6.out
  · rw [World.cell?_of_block (w := w6) (Below.heap_setCell _ _ _ _ (by show ¬ a2 = hb; omega))]; exact HD6.out
end Go.Proofs.Ytnjlbgolnbdkaaa
