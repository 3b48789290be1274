/- The statement Slots: the walk. -/
import Derived.Test.YtnjlbgolnbdkaaaSc
namespace Go.Proofs.Ytnjlbgolnbdkaaa
open Go.RowKit

theorem hands_new (w : World) : Hands w.heap.size w.heap.size 0 (w.alloc (.cells (handCells (.slice none 0 0) (.slice none 0 0) 0 (fun _ => .slice none 0 0)) 41)) := by
  refine ⟨Nat.le_refl _, fun _ => .slice none 0 0, fun k => if k = w.heap.size then 0 else 4, [], rfl, heap_alloc_new w _, by simp, fun k hk => by show 4 ≤ (if k = w.heap.size then 0 else 4); rw [if_neg (by omega)]; omega, ?_, fun _ _ => rfl⟩
  exact ⟨World.ownsRow_nil _ _ _ _, fun b e => by simp [Value.ownBlock] at e, World.ownsRow_nil _ _ _ _, fun b e => by simp [Value.ownBlock] at e, fun k hk => by simp at hk⟩
theorem Hands.base {base base' hb : Nat} {n : Int} {w : World} (h : Hands base hb n w) (hb' : base' ≤ base) : Hands base' hb n w := by
  obtain ⟨h1, vs, L, A, h2, h3, h4, h5, h6, h7⟩ := h
  refine ⟨by omega, vs, L, A, h2, h3, h4, fun k hk => h5 k (by omega), ?_, h7⟩
  have ow : ∀ {e : TypeId} {v : Value} {n : Nat} {xs : List Value}, w.ownsRow base e 1 v n xs → w.ownsRow base' e 1 v n xs := by
    intro e v n xs ⟨a, b⟩
    rcases b with b | ⟨g', cap, cur, hv, hb2, r⟩
    · exact ⟨a, .inl b⟩
    · exact ⟨a, .inr ⟨g', cap, cur, hv, by omega, r⟩⟩
  exact ⟨ow h6.own, h6.lab, ow h6.ownM, h6.labM, fun k hk => ⟨fun b e => ⟨((h6.kept k hk).1 b e).1, by have := ((h6.kept k hk).1 b e).2.1; omega, ((h6.kept k hk).1 b e).2.2⟩, (h6.kept k hk).2⟩⟩

def twoBoxes (w : World) (r1 r2 r3 r4 r5 o1 o2 o3 o4 o5 : Int) : World := (w.alloc (boxOf r1 r2 r3 r4 r5)).alloc (boxOf o1 o2 o3 o4 o5)
theorem twoBoxes_size (w : World) (r1 r2 r3 r4 r5 o1 o2 o3 o4 o5 : Int) : (twoBoxes w r1 r2 r3 r4 r5 o1 o2 o3 o4 o5).heap.size = w.heap.size + 2 := by simp [twoBoxes]
theorem box_cells (w W : World) (r1 r2 r3 r4 r5 o1 o2 o3 o4 o5 : Int) (h : Below (w.heap.size + 2) (twoBoxes w r1 r2 r3 r4 r5 o1 o2 o3 o4 o5) W) :
    (W.cell? ⟨w.heap.size, 0, none⟩ = some (.int .i64 r1) ∧ W.cell? ⟨w.heap.size, 1, none⟩ = some (.int .i64 r2) ∧ W.cell? ⟨w.heap.size, 2, none⟩ = some (.int .i64 r3) ∧ W.cell? ⟨w.heap.size, 3, none⟩ = some (.int .i64 r4) ∧ W.cell? ⟨w.heap.size, 4, none⟩ = some (.int .i64 r5)) ∧
    (W.cell? ⟨w.heap.size + 1, 0, none⟩ = some (.int .i64 o1) ∧ W.cell? ⟨w.heap.size + 1, 1, none⟩ = some (.int .i64 o2) ∧ W.cell? ⟨w.heap.size + 1, 2, none⟩ = some (.int .i64 o3) ∧ W.cell? ⟨w.heap.size + 1, 3, none⟩ = some (.int .i64 o4) ∧ W.cell? ⟨w.heap.size + 1, 4, none⟩ = some (.int .i64 o5)) := by
  have h1 : W.heap[w.heap.size]? = some (boxOf r1 r2 r3 r4 r5) := (h.block _ (by omega)).trans ((Below.heap_alloc _ _ _ (by simp)).trans (heap_alloc_new w _))
  have h2 : W.heap[w.heap.size + 1]? = some (boxOf o1 o2 o3 o4 o5) := by
    have := heap_alloc_new (w.alloc (boxOf r1 r2 r3 r4 r5)) (boxOf o1 o2 o3 o4 o5)
    rw [show (w.alloc (boxOf r1 r2 r3 r4 r5)).heap.size = w.heap.size + 1 from by simp] at this
    exact (h.block _ (by omega)).trans this
  refine ⟨⟨?_, ?_, ?_, ?_, ?_⟩, ⟨?_, ?_, ?_, ?_, ?_⟩⟩ <;> first | (rw [cell_of_row _ _ _ _ _ _ h1]; rfl) | (rw [cell_of_row _ _ _ _ _ _ h2]; rfl)

set_option maxRecDepth 100000 in
set_option maxHeartbeats 2000000 in
theorem slots_walk (r1 r2 r3 r4 r5 o1 o2 o3 o4 o5 : Int) (ab : Option Addr) (nb cb : Nat) (zb : List Int) (ac : Option Addr) (nc cc : Nat) (zc : List Int) (w : World)
    (hzb : Held w ab nb cb zb) (hnb : nb ≤ 140737488351232) (hzc : Held w ac nc cc zc) (hnc : nc ≤ 140737488351232) :
    Calls Try.prog 3 #[.agg #[.int .i64 r1, .int .i64 r2, .int .i64 r3, .int .i64 r4, .int .i64 r5], .slice ab nb cb, .agg #[.int .i64 o1, .int .i64 o2, .int .i64 o3, .int .i64 o4, .int .i64 o5], .slice ac nc cc] w
      fun e w' => e = .returned (.bool true) ∧ Below w.heap.size w w' := by
  have HZB := hide hzb
  have HZC := hide hzc
  clear hzb hzc
  go_enter Try.func3, Try.ntmps3
  go_wp2_with fail
  refine (bslot_any 1 2 3 258 4 _).mono ?_
  rintro e w1 ⟨g, rfl, hown, hbel⟩
  have HSRT := hide (bsort16_any g 0 16 _ w1 (slotOf_length 1 2 3 258 4) (slotOf_bytes 1 2 3 258 4) (row_of_own hown) (by omega) (by omega))
  rw [slotOf_kind] at HSRT
  have e0 := slotOf_rec 1 2 3 258 4 0
  have e1 := slotOf_rec 1 2 3 258 4 1
  have e2 := slotOf_rec 1 2 3 258 4 2
  have e3 := slotOf_rec 1 2 3 258 4 3
  have e4 := slotOf_rec 1 2 3 258 4 4
  simp only [aggOf] at HSRT
  rw [e0, e1, e2, e3, e4] at HSRT
  have hb1 : Below (w.heap.size + 2) (twoBoxes w r1 r2 r3 r4 r5 o1 o2 o3 o4 o5) w1 := by
    have h : Below (twoBoxes w r1 r2 r3 r4 r5 o1 o2 o3 o4 o5).heap.size (twoBoxes w r1 r2 r3 r4 r5 o1 o2 o3 o4 o5) w1 := hbel
    rw [twoBoxes_size] at h
    exact h
  have hs1 : w.heap.size + 2 ≤ w1.heap.size := by have := hb1.size; rw [twoBoxes_size] at this; exact this
  have HB1 := hide hb1
  clear hown hbel e0 e1 e2 e3 e4 hb1
  go_wp2_with fail
  refine HSRT.out.mono ?_
  rintro e w2 ⟨rfl, hb2⟩
  have hs2 := hb2.size
  have HB2 := hide (HB1.out.trans (hb2.mono hs1))
  clear hb2 HSRT HB1
  obtain ⟨⟨x0, x1, x2, x3, x4⟩, ⟨y0, y1, y2, y3, y4⟩⟩ := box_cells w w2 _ _ _ _ _ _ _ _ _ _ HB2.out
  have hlt1 : w.heap.size < w2.heap.size := by omega
  have hlt2 : w.heap.size + 1 < w2.heap.size := by omega
  have HH0 : Hid (Hands (w.heap.size + 2) (w2.heap.size + 1) 0 ((w2.alloc (boxOf 1 2 3 258 4)).alloc (.cells (handCells (.slice none 0 0) (.slice none 0 0) 0 (fun _ => .slice none 0 0)) 41))) := by
    have := hands_new (w2.alloc (boxOf 1 2 3 258 4))
    rw [show (w2.alloc (boxOf 1 2 3 258 4)).heap.size = w2.heap.size + 1 from by simp] at this
    exact this.base (by omega)
  have HBW : Hid (Below (w.heap.size + 2) (twoBoxes w r1 r2 r3 r4 r5 o1 o2 o3 o4 o5) ((w2.alloc (boxOf 1 2 3 258 4)).alloc (.cells (handCells (.slice none 0 0) (.slice none 0 0) 0 (fun _ => .slice none 0 0)) 41))) := (HB2.out.alloc (by omega) _).alloc (by simp; omega) _
  have H0 : Hid (∀ W, Below (w.heap.size + 2) (twoBoxes w r1 r2 r3 r4 r5 o1 o2 o3 o4 o5) W → Held W ab nb cb zb ∧ Held W ac nc cc zc) := by
    intro W hW
    have t : Below w.heap.size w W := (((Below.refl _ _).alloc (Nat.le_refl _) _).alloc (by simp) _).trans (hW.mono (by omega))
    exact ⟨HZB.out.touch (Touch.ofBelow (S := fun _ => False) t) (fun _ _ _ => id), HZC.out.touch (Touch.ofBelow (S := fun _ => False) t) (fun _ _ _ => id)⟩
  have HN : Hid ((∀ ad, ab = some ad → 0 < nb → ad.block ≠ w2.heap.size + 1) ∧ (∀ ad, ac = some ad → 0 < nc → ad.block ≠ w2.heap.size + 1)) := ⟨fun ad e h => by have := HZB.out.lt ad e h; omega, fun ad e h => by have := HZC.out.lt ad e h; omega⟩
  go_wp2_with fail
  refine (sorted_any (w.heap.size + 2) (w2.heap.size + 1) 0 r1 r2 r3 r4 r5 ab nb cb zb _ HH0.out (by omega) (by omega) (H0.out _ HBW.out).1 hnb HN.out.1).mono ?_
  rintro e wA ⟨rfl, hHA, hbA⟩
  have HBA := hide (HBW.out.trans hbA)
  have HHA := hide hHA
  clear hHA hbA x0 x1 x2 x3 x4 y0 y1 y2 y3 y4 HH0 HBW HB2
  obtain ⟨⟨x0, x1, x2, x3, x4⟩, ⟨y0, y1, y2, y3, y4⟩⟩ := box_cells w wA _ _ _ _ _ _ _ _ _ _ HBA.out
  go_wp2_with fail
  refine (sorted_any (w.heap.size + 2) (w2.heap.size + 1) (0 + 1) o1 o2 o3 o4 o5 ac nc cc zc _ HHA.out (by omega) (by omega) (H0.out _ HBA.out).2 hnc HN.out.2).mono ?_
  rintro e wB ⟨rfl, hHB, hbB⟩
  have HBB := hide (HBA.out.trans hbB)
  have HHB := hide hHB
  clear hHB hbB x0 x1 x2 x3 x4 y0 y1 y2 y3 y4 HHA HBA
  obtain ⟨⟨x0, x1, x2, x3, x4⟩, ⟨y0, y1, y2, y3, y4⟩⟩ := box_cells w wB _ _ _ _ _ _ _ _ _ _ HBB.out
  go_wp2_with fail
  go_cut [15] from 50 to 54 (fun s15 wx => s15 = .bool true ∧ Hands (w.heap.size + 2) (w2.heap.size + 1) (0 + 1 + 1 + 1) wx ∧ Below (w.heap.size + 2) (twoBoxes w r1 r2 r3 r4 r5 o1 o2 o3 o4 o5) wx)
  case first =>
    have HRS := hide (fun W => rslot_any o1 o2 o3 o4 o5 W)
    have HSO : Hid (∀ wD g2 cap2, cap2 ≤ 9223372036854775807 → wD.ownsRow wB.drew.heap.size 5 1 (.slice (some ⟨g2, 0, none⟩) 16 cap2) 16 (vals (slotOf o1 o2 o3 o4 o5)) → Below wB.drew.heap.size wB.drew wD →
        (wD.cell? ⟨w.heap.size, 0, none⟩ = some (.int .i64 r1) ∧ wD.cell? ⟨w.heap.size, 1, none⟩ = some (.int .i64 r2) ∧ wD.cell? ⟨w.heap.size, 2, none⟩ = some (.int .i64 r3) ∧ wD.cell? ⟨w.heap.size, 3, none⟩ = some (.int .i64 r4) ∧ wD.cell? ⟨w.heap.size, 4, none⟩ = some (.int .i64 r5)) ∧
        Hid (Calls Try.prog 8 #[.pointer (some ⟨w2.heap.size + 1, 0, none⟩), .agg #[.int .i64 r1, .int .i64 r2, .int .i64 r3, .int .i64 r4, .int .i64 r5], .slice (some ⟨g2, 0, none⟩) 16 cap2] wD fun e w' => e = .returned (.bool true) ∧ Hands (w.heap.size + 2) (w2.heap.size + 1) (0 + 1 + 1 + 1) w' ∧ Below (w.heap.size + 2) (twoBoxes w r1 r2 r3 r4 r5 o1 o2 o3 o4 o5) w')) := by
      intro wD g2 cap2 hc hown hbel
      have hbel' : Below wB.heap.size wB wD := ⟨hbel.os, hbel.tape, hbel.output, hbel.size, hbel.block⟩
      have hsB : w.heap.size + 2 ≤ wB.heap.size := by have := HBB.out.size; rw [twoBoxes_size] at this; exact this
      have hBD := HBB.out.trans (hbel'.mono hsB)
      obtain ⟨_, vs, L, A, _, hBk, _⟩ := HHB.out
      have hlt := lt_of_block hBk
      have hg2 : wB.heap.size ≤ g2 := (hown.lt g2 rfl).1
      refine ⟨(box_cells w wD _ _ _ _ _ _ _ _ _ _ hBD).1, ?_⟩
      refine (sorted_any (w.heap.size + 2) (w2.heap.size + 1) (0 + 1 + 1) r1 r2 r3 r4 r5 (some ⟨g2, 0, none⟩) 16 cap2 (slotOf o1 o2 o3 o4 o5) wD (HHB.out.below hbel') (by omega) (by omega) (held_own hown (slotOf_bytes _ _ _ _ _) hc) (by omega) (fun ad e _ => by simp at e; subst e; show g2 ≠ w2.heap.size + 1; omega)).mono ?_
      rintro e w' ⟨he, hH, hb⟩
      exact ⟨he, hH, hBD.trans hb⟩
    go_region_with (first | (go_at_call 9; refine (HRS.out _).mono ?_; rintro e wD ⟨g2, cap2, h16, hmx, rfl, hown2, hbel2⟩; obtain ⟨⟨v0, v1, v2, v3, v4⟩, HS8⟩ := HSO.out wD g2 cap2 hmx hown2 hbel2; clear hown2 hbel2) | (go_at_call 8; refine HS8.out.mono ?_; rintro e wE ⟨rfl, hHE, hbE⟩))
    all_goals (go_wp2_with fail; go_meet; exact ⟨rfl, hHE, hbE⟩)
  case rest =>
  obtain ⟨rfl, hHC, hbC⟩ := hcut
  have HBC := hide hbC
  have HHC := hide hHC
  clear hHC hbC x0 x1 x2 x3 x4 y0 y1 y2 y3 y4 HHB HBB
  obtain ⟨⟨x0, x1, x2, x3, x4⟩, ⟨y0, y1, y2, y3, y4⟩⟩ := box_cells w wc _ _ _ _ _ _ _ _ _ _ HBC.out
  go_wp2_with fail
  refine (sorted_any (w.heap.size + 2) (w2.heap.size + 1) (0 + 1 + 1 + 1) r1 r2 r3 r4 r5 ab nb cb zb _ HHC.out (by omega) (by omega) (H0.out _ HBC.out).1 hnb HN.out.1).mono ?_
  rintro e wF ⟨rfl, hHF, hbF⟩
  have HEND : Hid (Below w.heap.size w wF) := (((Below.refl _ _).alloc (Nat.le_refl _) _).alloc (by simp) _).trans ((HBC.out.trans hbF).mono (by omega))
  clear hHF hbF x0 x1 x2 x3 x4 y0 y1 y2 y3 y4 HHC HBC
  go_wp2
  go_ret
  exact ⟨rfl, HEND.out⟩
end Go.Proofs.Ytnjlbgolnbdkaaa
