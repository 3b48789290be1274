/- Texts of the proof of Boots, one behind the other. -/
import Derived.Test.YtnjlbgolnbdkaaaGreatJ38
/- The law's look: the walk. -/
namespace Go.Proofs.YtnjlbgolnbdkaaaGreat
open Go.RowKit

set_option maxRecDepth 100000 in
set_option maxHeartbeats 8000000 in
theorem llook_yes (p : Nat → Value) (L : Nat → Nat) (hb : Nat) (n : Int) (vs : Nat → Value) (A : Nat → List Kept) (kx fx gx kr : Nat) (M : MLay) (st : RSt) (bs : List Int) (left res : Int) (dead : Bool) (done : Int) (left' res' : Int) (dead' : Bool) (done' : Int) (i : Nat) (w : World)
    (h : Hnd p L hb n vs A A w) (h0 : 0 ≤ n) (h1 : n + 1 ≤ 100000000000) (hA : ∀ f, (A f).length + 4 ≤ 100000000000) (p0 : p 0 = .pointer (some ⟨kx, 0, none⟩)) (p2 : p 2 = .pointer (some ⟨kr, 0, none⟩)) (hk : KernAt w kx M fx st) (hr : RefK 0 kr gx st w) (hf : FlashAt w fx bs left res dead done) (hg : FlashAt w gx bs left' res' dead' done') (hi : i < st.parts.length) :
    Calls Tryz.prog 63 #[.pointer (some ⟨hb, 0, none⟩), .int .i64 i] w fun e w' => ∃ L' vs' A', e = .returned (.bool true) ∧ Hnd p L' hb (n + 2) vs' A' A' w' ∧ (∀ f, (A' f).length ≤ (A f).length + 8) ∧ (∀ k, k < w.heap.size → L' k = L k) ∧ Touch (fun k => L k ≤ 27) w w' := by
  have c0 : w.cell? ⟨hb, 0, none⟩ = some (.pointer (some ⟨kx, 0, none⟩)) := by rw [cell_of_row _ _ _ _ _ _ h.blk, ← p0]; rfl
  have c2 : w.cell? ⟨hb, 2, none⟩ = some (.pointer (some ⟨kr, 0, none⟩)) := by rw [cell_of_row _ _ _ _ _ _ h.blk, ← p2]; rfl
  have hlb := lt_of_cell c0
  have HL1 := hide (klook_yes kx M fx st bs left res dead done i w hk hf hi)
  have hok := hk.ok
  have HL2 : Hid (∀ W, Below w.heap.size w W → Calls Tryz.prog 99 #[.pointer (some ⟨kr, 0, none⟩), .int .i64 i] W fun e w' => ∃ aw cw v, e = .returned (.tuple #[.agg #[.int .i64 (st.parts.getD i default).mode, .int .i64 (restartsOf bs i), .slice aw (st.parts.getD i default).words.length cw, v], .int .i64 0]) ∧ IntsV 0 (.slice aw (st.parts.getD i default).words.length cw) (st.parts.getD i default).words w' ∧ w'.ownsRow W.heap.size 47 3 v (st.parts.getD i default).procs.length ((st.parts.getD i default).procs.flatMap stateCells) ∧ Below W.heap.size W w') := fun W hW => rlook_yes 0 kr gx st i bs left' res' dead' done' W (hr.keep (fun b _ hb => hW.block b hb)) (hg.below hW) hi hok.few.2 (hok.np i hi)
  have HH := hide h
  have hnp := hok.np i hi
  have hnw := hok.nw i hi
  clear h hk hf hg p0 p2 hr hok
  generalize st.parts.getD i default = q at *
  generalize restartsOf bs i = rs at *
  go_enter Tryz.func63, Tryz.ntmps63
  go_wp2_with fail
  refine HL1.out.mono ?_
  rintro e w1 ⟨v, rfl, ⟨y1, k1, y2, k2, rfl, hW1, hS1⟩, hb1⟩
  have hs1 := hb1.size
  have d2 := (hb1.cell (p := ⟨hb, 2, none⟩) hlb).trans c2
  have hlb1 : hb < w1.heap.size := by omega
  have hba : Below w1.heap.size w1 (w1.alloc (.cells #[.int .i64 q.mode, .int .i64 rs, .slice (some ⟨y1, 0, none⟩) q.words.length k1, .slice (some ⟨y2, 0, none⟩) q.procs.length k2] 43)) := (Below.refl _ _).alloc (Nat.le_refl _) _
  have HL2' := hide (HL2.out _ (hb1.trans (hba.mono hs1)))
  have HB1 := hide hb1
  have HBA := hide hba
  have HW1 := hide hW1
  have HS1 := hide hS1
  clear hb1 hW1 hS1 HL1 HL2 c0 c2 hba
  go_wp2_with fail
  refine HL2'.out.mono ?_
  rintro e w2 ⟨aw, cw, v2, rfl, hW2, hS2, hb2⟩
  have hs2 : w1.heap.size + 1 ≤ w2.heap.size := by have := hb2.size; simpa using this
  obtain ⟨az, cs, hv2, hrs2⟩ := states_read rfl hS2
  subst hv2
  have hb12 : Below w1.heap.size w1 w2 := HBA.out.trans (hb2.mono (by simp))
  obtain ⟨b5, hb5⟩ : ∃ b5, b5 = w1.heap.size := ⟨_, rfl⟩
  obtain ⟨b7, hb7⟩ : ∃ b7, b7 = w2.heap.size := ⟨_, rfl⟩
  obtain ⟨w3, hw3⟩ : ∃ w3, w3 = w2.alloc (.cells #[.int .i64 q.mode, .int .i64 rs, .slice aw q.words.length cw, .slice az q.procs.length cs] 43) := ⟨_, rfl⟩
  have hb23 : Below w2.heap.size w2 w3 := by rw [hw3]; exact (Below.refl _ _).alloc (Nat.le_refl _) _
  have hB5 : w3.heap[b5]? = some (.cells #[.int .i64 q.mode, .int .i64 rs, .slice (some ⟨y1, 0, none⟩) q.words.length k1, .slice (some ⟨y2, 0, none⟩) q.procs.length k2] 43 (0, 0)) := keepB hb23 (keepB hb2 (heap_at hb5))
  have hB7 : w3.heap[b7]? = some (.cells #[.int .i64 q.mode, .int .i64 rs, .slice aw q.words.length cw, .slice az q.procs.length cs] 43 (0, 0)) := by rw [hw3]; exact heap_at hb7
  have hb13 : Below w1.heap.size w1 w3 := hb12.trans (hb23.mono hb12.size)
  have hB3 : Below w.heap.size w w3 := HB1.out.trans (hb13.mono hs1)
  have hW1' : w3.ownsRow w.heap.size 3 1 (.slice (some ⟨y1, 0, none⟩) q.words.length k1) q.words.length (q.words.map (Value.int .i64)) := own_keep HW1.out (fun b e => hb13.block b (World.ownsRow.lt HW1.out b e).2)
  have hS1' : w3.ownsRow w.heap.size 47 3 (.slice (some ⟨y2, 0, none⟩) q.procs.length k2) q.procs.length (q.procs.flatMap stateCells) := own_keep HS1.out (fun b e => hb13.block b (World.ownsRow.lt HS1.out b e).2)
  have hW2' : w3.ownsRow 0 3 1 (.slice aw q.words.length cw) q.words.length (q.words.map (Value.int .i64)) := own_keep hW2 (fun b e => hb23.block b (World.ownsRow.lt hW2 b e).2)
  have hS2' : w3.ownsRow (w1.alloc (.cells #[.int .i64 q.mode, .int .i64 rs, .slice (some ⟨y1, 0, none⟩) q.words.length k1, .slice (some ⟨y2, 0, none⟩) q.procs.length k2] 43)).heap.size 47 3 (.slice az q.procs.length cs) q.procs.length (q.procs.flatMap stateCells) := own_keep hS2 (fun b e => hb23.block b (World.ownsRow.lt hS2 b e).2)
  obtain ⟨_, _, e1, hr1⟩ := ints_read rfl hW1'
  obtain ⟨rfl, _, rfl⟩ := Value.slice.inj e1
  obtain ⟨_, _, e2, hr2⟩ := ints_read rfl hW2'
  obtain ⟨rfl, _, rfl⟩ := Value.slice.inj e2
  obtain ⟨_, _, e3, hr3⟩ := states_read rfl hS1'
  obtain ⟨rfl, _, rfl⟩ := Value.slice.inj e3
  obtain ⟨_, _, e4, hr4⟩ := states_read rfl hS2'
  obtain ⟨rfl, _, rfl⟩ := Value.slice.inj e4
  have HKT := hide (fun qq => keep_two p L hb n vs A _ _ _ _ _ _ w (w3.drewN qq) HH.out h0 h1 hA (below_drewN hB3 qq) hW1' hS1' (by omega) (by omega))
  have HR1 := hide hr1
  have HR2 := hide hr2
  have HR3 := hide hr3
  have HR4 := hide hr4
  have HB5 := hide hB5
  have HB3 := hide hB3
  have HW3 := hide hw3
  have HN5 : Hid (w.heap.size ≤ b5 ∧ b5 < w3.heap.size ∧ b7 < w3.heap.size) := ⟨by omega, lt_of_heap hB5, lt_of_heap hB7⟩
  have HE5 := hide hb5
  have HE7 := hide hb7
  have x0 : w3.cell? ⟨b5, 0, none⟩ = some (.int .i64 q.mode) := by rw [cell_of_row _ _ _ _ _ _ hB5]; rfl
  have x1 : w3.cell? ⟨b5, 1, none⟩ = some (.int .i64 rs) := by rw [cell_of_row _ _ _ _ _ _ hB5]; rfl
  have x2 : w3.cell? ⟨b5, 2, none⟩ = some (.slice (some ⟨y1, 0, none⟩) q.words.length k1) := by rw [cell_of_row _ _ _ _ _ _ hB5]; rfl
  have x3 : w3.cell? ⟨b5, 3, none⟩ = some (.slice (some ⟨y2, 0, none⟩) q.procs.length k2) := by rw [cell_of_row _ _ _ _ _ _ hB5]; rfl
  have z0 : w3.cell? ⟨b7, 0, none⟩ = some (.int .i64 q.mode) := by rw [cell_of_row _ _ _ _ _ _ hB7]; rfl
  have z1 : w3.cell? ⟨b7, 1, none⟩ = some (.int .i64 rs) := by rw [cell_of_row _ _ _ _ _ _ hB7]; rfl
  have z2 : w3.cell? ⟨b7, 2, none⟩ = some (.slice aw q.words.length cw) := by rw [cell_of_row _ _ _ _ _ _ hB7]; rfl
  have z3 : w3.cell? ⟨b7, 3, none⟩ = some (.slice az q.procs.length cs) := by rw [cell_of_row _ _ _ _ _ _ hB7]; rfl
  clear hW2 hS2 hb2 hrs2 hb12 hb23 hB5 hB7 hb13 hB3 hW1' hS1' hW2' hS2' e1 e2 e3 e4 hr1 hr2 hr3 hr4 hw3 HL2' hb5 hb7
  have q1 : (q.mode == q.mode) = true := by simp
  have q2 : (rs == rs) = true := by simp
  have q3 : ((q.words.length : Int) == (q.words.length : Int)) = true := by simp
  have q4 : ((q.procs.length : Int) == (q.procs.length : Int)) = true := by simp
  generalize hnw' : q.words.length = nw at *
  generalize hnp' : q.procs.length = np at *
  have HNW := hide hnw'
  have HNP := hide hnp'
  clear hnw' hnp'
  have HNUM := hide num_any
  go_wp2_with fail
  rw [← HW3.out, ← HE5.out, ← HE7.out]
  refine (HNUM.out _ _).mono ?_
  rintro e w9 ⟨rfl, hw9⟩
  obtain rfl := hw9.symm
  go_wp2
  go_loopw [9, 10] (fun o t wr => ∃ k m : Nat, k ≤ nw ∧ t = .int .i64 k ∧ o = .bool true ∧ wr = w3.drewN m) (fun _ t _ => nw - (intOf t).toNat)
  case atStart => exact ⟨0, 0, by omega, rfl, rfl, rfl⟩
  case round =>
    obtain ⟨k, m, hk, rfl, rfl, rfl⟩ := hrel
    by_cases hlt : k < nw
    · obtain ⟨z, hz⟩ : ∃ z, q.words[k]? = some z := ⟨q.words[k]'(by rw [HNW.out]; exact hlt), List.getElem?_eq_getElem _⟩
      obtain ⟨g1, e1, _, c1⟩ := HR1.out k z hz
      obtain ⟨g2, e2, _, c2⟩ := HR2.out k z hz
      subst e2
      obtain rfl : y1 = g1 := by simpa using e1
      clear hz e1
      have hzz : (z == z) = true := by simp
      go_wp2_with fail
      go_quiet (fail)
      go_wp2
      exact ⟨⟨k + 1, m + nq, by omega, by go_num, rfl, rfl⟩, by simp [intOf]; omega⟩
    · go_wp2
      go_loopw [9, 11] (fun o t wr => ∃ k m : Nat, k ≤ np ∧ t = .int .i64 k ∧ o = .bool true ∧ wr = w3.drewN m) (fun _ t _ => np - (intOf t).toNat)
      case atStart => exact ⟨0, m, by omega, rfl, rfl, rfl⟩
      case round =>
        obtain ⟨k2', m2, hk2, rfl, rfl, rfl⟩ := hrel
        by_cases hlt2 : k2' < np
        · obtain ⟨z, hz⟩ : ∃ z, q.procs[k2']? = some z := ⟨q.procs[k2']'(by rw [HNP.out]; exact hlt2), List.getElem?_eq_getElem _⟩
          obtain ⟨g1, e1, _, c1, c2, c3⟩ := HR3.out k2' z hz
          obtain ⟨g2, e2, _, d1, d2', d3⟩ := HR4.out k2' z hz
          subst e2
          obtain rfl : y2 = g1 := by simpa using e1
          clear hz e1
          generalize z.next = zn at *
          generalize z.acc = za at *
          generalize z.stopped = zs at *
          go_wp2_with fail
          go_quiet (fail)
          go_wp2
          exact ⟨⟨k2' + 1, m2 + nq, by omega, by go_num, rfl, rfl⟩, by simp [intOf]; omega⟩
        · have HK1 : Hid (Calls Tryz.prog 100 #[.pointer (some ⟨hb, 5, none⟩), .slice (some ⟨y1, 0, none⟩) nw k1] (w3.drewN (m2 + 1)) fun e w4 => e = .returned (.tuple #[]) ∧ w4.cell? ⟨b5, 3, none⟩ = some (.slice (some ⟨y2, 0, none⟩) np k2) ∧ (∀ q, Calls Tryz.prog 101 #[.pointer (some ⟨hb, 5, none⟩), .slice (some ⟨y2, 0, none⟩) np k2] (w4.drewN q) fun e w5 => ∃ L' vs' A', e = .returned (.tuple #[]) ∧ Hnd p L' hb (n + 2) vs' A' A' w5 ∧ (∀ f, (A' f).length ≤ (A f).length + 8) ∧ (∀ k, k < w.heap.size → L' k = L k) ∧ Touch (fun k => L k ≤ 27) w w5)) := (HKT.out (m2 + 1)).mono (fun e w4 ⟨he, hbk, hc⟩ => ⟨he, by rw [cell_of_row _ _ _ _ _ _ ((hbk b5 _ _ HN5.out.1 HB5.out (by decide)).trans HB5.out)]; rfl, hc⟩)
          clear HKT
          go_wp2_with fail
          go_region_with (go_at_call 100; refine HK1.out.mono ?_; rintro e w4 ⟨rfl, x4, hc4⟩; have HC4 := hide hc4; clear hc4)
          all_goals
            go_wp2_with fail
            have HC5 := hide (HC4.out 1)
            go_region_with (go_at_call 101; refine HC5.out.mono ?_; rintro e w5 ⟨L', vs', A', rfl, hE⟩; have HE := hide hE; clear hE)
            all_goals
              go_wp2
              go_ret
              exact ⟨L', vs', A', rfl, HE.out⟩
end Go.Proofs.YtnjlbgolnbdkaaaGreat
