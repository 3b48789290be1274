/- The law: two partitions that lie alike are the same. -/
import Derived.Test.YtnjlbgolnbdkaaaQk
import Derived.DeepKeys
namespace Go.Proofs.Ytnjlbgolnbdkaaa
open Go.RowKit

theorem flat_get {α : Type} (F : α → List Value) (sz : Nat) (hF : ∀ a, (F a).length = sz) (l : List α) (i : Nat) (a : α) (hi : l[i]? = some a) (f : Nat) (hf : f < sz) : (l.flatMap F)[i * sz + f]? = (F a)[f]? := by
  induction l generalizing i with
  | nil => simp at hi
  | cons x l ih =>
    rw [List.flatMap_cons]
    cases i with
    | zero =>
      simp at hi
      subst hi
      rw [Nat.zero_mul, Nat.zero_add, List.getElem?_append_left (by rw [hF]; exact hf)]
    | succ i =>
      have hx := hF x
      rw [List.getElem?_append_right (by rw [hx, Nat.add_mul]; omega), hx, show (i + 1) * sz + f - sz = i * sz + f from by rw [Nat.add_mul]; omega]
      exact ih i (by simpa using hi)
theorem own_read {w : World} {base : Nat} {e : TypeId} {sz : Nat} {v : Value} {n : Nat} {α : Type} (F : α → List Value) (hF : ∀ a, (F a).length = sz) (l : List α) (hn : l.length = n) (h : w.ownsRow base e sz v n (l.flatMap F)) : n ≤ 9223372036854775807 ∧ ∃ ad c, v = .slice ad n c ∧ ∀ i a, l[i]? = some a → ∃ g, ad = some ⟨g, 0, none⟩ ∧ ∀ f, f < sz → w.cell? ⟨g, i * sz + f, none⟩ = (F a)[f]? := by
  rcases h.2 with ⟨h1, h2⟩ | ⟨g, cap, cur, hv, hb, hh, hc, hm, _⟩
  · subst h2
    refine ⟨by omega, none, 0, h1, fun i a hi => ?_⟩
    rw [List.length_eq_zero_iff.1 hn] at hi
    simp at hi
  · refine ⟨by unfold maxLen at hm; omega, some ⟨g, 0, none⟩, cap, hv, fun i a hi => ⟨g, rfl, fun f hf => ?_⟩⟩
    subst hv
    have hlt : i < l.length := (List.getElem?_eq_some_iff.1 hi).1
    rw [World.ownsRow.cellAt h (i * sz + f) (by
      have : (i + 1) * sz ≤ n * sz := Nat.mul_le_mul_right sz (by omega)
      rw [Nat.add_mul] at this
      omega)]
    exact flat_get F sz hF l i a hi f hf
theorem code_read {base : Nat} {v : Value} {code : List (Int × Int)} {w : World} (h : CodeV base v code w) : code.length ≤ 9223372036854775807 ∧ ∃ ad c, v = .slice ad code.length c ∧ ∀ i a, code[i]? = some a → ∃ g, ad = some ⟨g, 0, none⟩ ∧ w.cell? ⟨g, i * 2, none⟩ = some (.int .i64 a.1) ∧ w.cell? ⟨g, i * 2 + 1, none⟩ = some (.int .i64 a.2) := by
  obtain ⟨h1, ad, c, hv, hr⟩ := own_read (fun c : Int × Int => [.int .i64 c.1, .int .i64 c.2]) (fun _ => rfl) code rfl h
  refine ⟨h1, ad, c, hv, fun i a hi => ?_⟩
  obtain ⟨g, hg, hc⟩ := hr i a hi
  exact ⟨g, hg, by simpa using hc 0 (by omega), by simpa using hc 1 (by omega)⟩
theorem procs_read {base : Nat} {v : Value} {ps : List Pr} {w : World} (h : ProcsV base v ps w) : ps.length ≤ 9223372036854775807 ∧ ∃ ad c, v = .slice ad ps.length c ∧ ∀ i p, ps[i]? = some p → ∃ g vc, ad = some ⟨g, 0, none⟩ ∧ w.cell? ⟨g, i * 2, none⟩ = some (.int .i64 p.prio) ∧ w.cell? ⟨g, i * 2 + 1, none⟩ = some vc ∧ CodeV base vc p.code w := by
  obtain ⟨l, hl, ho, hc⟩ := h
  subst hl
  obtain ⟨h1, ad, c, hv, hr⟩ := own_read (fun p : Pr × Value => [.int .i64 p.1.prio, p.2]) (fun _ => rfl) l rfl ho
  rw [List.length_map]
  refine ⟨h1, ad, c, hv, fun i p hi => ?_⟩
  rw [List.getElem?_map] at hi
  obtain ⟨q, hq, rfl⟩ := Option.map_eq_some_iff.1 hi
  obtain ⟨g, hg, hcc⟩ := hr i q hq
  exact ⟨g, q.2, hg, by simpa using hcc 0 (by omega), by simpa using hcc 1 (by omega), hc q (List.mem_of_getElem? hq)⟩

theorem cell_lt {w : World} {g o : Nat} {u : Value} (h : w.cell? ⟨g, o, none⟩ = some u) : g < w.heap.size := by
  rcases Nat.lt_or_ge g w.heap.size with h1 | h1
  · exact h1
  · have : w.heap[g]? = none := by simp; omega
    simp [World.cell?, this] at h
theorem acts_same (a0 a1 a2 a3 a4 a5 : Int) : ∀ w, (Op.equalIn 10000 87 (.agg #[.int .i64 a0, .int .i64 a1, .int .i64 a2, .int .i64 a3, .int .i64 a4, .int .i64 a5]) (.agg #[.int .i64 a0, .int .i64 a1, .int .i64 a2, .int .i64 a3, .int .i64 a4, .int .i64 a5])).run Try.prog w = .ok true w := by
  intro w
  have hu : Try.prog.underlying 87 = some (.array 6 3) := by kernel_rfl
  obtain ⟨i, hi⟩ := info_of_underlying Try.underlying3
  rw [run_equalIn_array w 9999 _ _ hu hi]
  have hc : Try.prog.cellsOf 3 = 1 := by kernel_rfl
  simp [Op.eqItems, List.range, List.range.loop, go_sem, hc]

set_option maxRecDepth 100000 in
set_option maxHeartbeats 4000000 in
theorem samePart_any (p : Pt) (b1 b2 : Nat) (v1 v2 : Value) (w : World) (h1 : ProcsV b1 v1 p.procs w) (h2 : ProcsV b2 v2 p.procs w) :
    Calls Try.prog 43 #[.agg (ptCells p.sys p.words p.limit (fun i => p.acts.getD i 0) v1), .agg (ptCells p.sys p.words p.limit (fun i => p.acts.getD i 0) v2)] w fun e w' => e = .returned (.bool true) ∧ Below w.heap.size w w' := by
  obtain ⟨hn, ad1, c1, hv1, hr1⟩ := procs_read h1
  obtain ⟨_, ad2, c2, hv2, hr2⟩ := procs_read h2
  subst hv1 hv2
  have HR1 := hide hr1
  have HR2 := hide hr2
  have HH := hide (And.intro h1 h2)
  clear hr1 hr2 h1 h2
  obtain ⟨N, hN⟩ : ∃ N, N = p.procs.length := ⟨_, rfl⟩
  rw [← hN] at hn HH ⊢
  have HN := hide hN
  clear hN
  simp only [ptCells]
  generalize p.sys = sy
  generalize p.words = wd
  generalize p.limit = lm
  generalize p.acts.getD 0 0 = a0
  generalize p.acts.getD 1 0 = a1
  generalize p.acts.getD 2 0 = a2
  generalize p.acts.getD 3 0 = a3
  generalize p.acts.getD 4 0 = a4
  generalize p.acts.getD 5 0 = a5
  have e0 : (sy != sy) = false := by simp
  have e1 : (wd != wd) = false := by simp
  have e2 : (lm != lm) = false := by simp
  have e3 : ((N : Int) != (N : Int)) = false := by simp
  have e4 := acts_same a0 a1 a2 a3 a4 a5
  go_enter Try.func43, Try.ntmps43
  go_wp2
  obtain ⟨w0, hw0⟩ : ∃ w0, w0 = ((w.alloc (.cells #[.bool sy, .int .i64 wd, .int .i64 lm, .int .i64 a0, .int .i64 a1, .int .i64 a2, .int .i64 a3, .int .i64 a4, .int .i64 a5, .slice ad1 N c1] 90)).alloc (.cells #[.bool sy, .int .i64 wd, .int .i64 lm, .int .i64 a0, .int .i64 a1, .int .i64 a2, .int .i64 a3, .int .i64 a4, .int .i64 a5, .slice ad2 N c2] 90)) := ⟨_, rfl⟩
  have hs0 : w0.heap.size = w.heap.size + 2 := by rw [hw0]; simp
  have hA0 : w0.heap[w.heap.size]? = some (.cells #[.bool sy, .int .i64 wd, .int .i64 lm, .int .i64 a0, .int .i64 a1, .int .i64 a2, .int .i64 a3, .int .i64 a4, .int .i64 a5, .slice ad1 N c1] 90 (0, 0)) := by rw [hw0]; exact (Below.heap_alloc _ _ _ (by simp)).trans (heap_alloc_new w _)
  have hB0 : w0.heap[w.heap.size + 1]? = some (.cells #[.bool sy, .int .i64 wd, .int .i64 lm, .int .i64 a0, .int .i64 a1, .int .i64 a2, .int .i64 a3, .int .i64 a4, .int .i64 a5, .slice ad2 N c2] 90 (0, 0)) := by rw [hw0]; exact new_two w _ _
  have hW0 : Below w.heap.size w w0 := by rw [hw0]; exact ((Below.refl _ _).alloc (Nat.le_refl _) _).alloc (by simp) _
  rw [← hw0]
  have H0 := hide (And.intro hA0 (And.intro hB0 hW0))
  clear hA0 hB0 hW0 hw0
  go_loopw [5] (fun i wr => ∃ k : Nat, k ≤ N ∧ i = .int .i64 k ∧ Below w0.heap.size w0 wr) (fun i _ => N - (intOf i).toNat)
  case atStart => exact ⟨0, by omega, rfl, Below.refl _ _⟩
  case round =>
    obtain ⟨k, hk, rfl, hbl⟩ := hrel
    have hsr := hbl.size
    have hA := (hbl.block _ (by omega)).trans H0.out.1
    have hB := (hbl.block _ (by omega)).trans H0.out.2.1
    have x1 : wr.cell? ⟨w.heap.size, 9, none⟩ = some (.slice ad1 N c1) := by rw [cell_of_row _ _ _ _ _ _ hA]; rfl
    have x2 : wr.cell? ⟨w.heap.size + 1, 9, none⟩ = some (.slice ad2 N c2) := by rw [cell_of_row _ _ _ _ _ _ hB]; rfl
    have hbw : Below w.heap.size w wr := H0.out.2.2.trans (hbl.mono (by omega))
    have HB := hide (And.intro hbl hbw)
    clear hA hB hbl hbw
    by_cases hlt : k < N
    · obtain ⟨q, hq⟩ : ∃ q, p.procs[k]? = some q := ⟨_, List.getElem?_eq_getElem (by have := HN.out; omega)⟩
      have h1' : ProcsV b1 (.slice ad1 N c1) p.procs wr := HH.out.1.keep (fun b _ h2 _ => HB.out.2.block b h2)
      have h2' : ProcsV b2 (.slice ad2 N c2) p.procs wr := HH.out.2.keep (fun b _ h2 _ => HB.out.2.block b h2)
      obtain ⟨_, _, _, f1, hr1⟩ := procs_read h1'
      obtain ⟨_, _, _, f2, hr2⟩ := procs_read h2'
      obtain ⟨g1, vc1, g1e, p10, p11, hc1⟩ := hr1 k q hq
      obtain ⟨g2, vc2, g2e, p20, p21, hc2⟩ := hr2 k q hq
      simp at f1 f2
      obtain ⟨f1a, f1b, f1c⟩ := f1
      obtain ⟨f2a, f2b, f2c⟩ := f2
      rw [← f1a] at g1e
      rw [← f2a] at g2e
      subst g1e g2e
      obtain ⟨hcn, adv1, cv1, rfl, hcr1⟩ := code_read hc1
      obtain ⟨_, adv2, cv2, rfl, hcr2⟩ := code_read hc2
      have HC := hide (And.intro hcr1 hcr2)
      clear hr1 hr2 h1' h2' f1a f1b f1c f2a f2b f2c hc1 hc2 hcr1 hcr2 hq
      generalize q.prio = pr at p10 p20
      obtain ⟨M, hM⟩ : ∃ M, M = q.code.length := ⟨_, rfl⟩
      rw [← hM] at hcn p11 p21
      have HM := hide hM
      clear hM
      have l1 : w.heap.size < wr.heap.size := by omega
      have l2 : w.heap.size + 1 < wr.heap.size := by omega
      have l3 : g1 < wr.heap.size := cell_lt p10
      have l4 : g2 < wr.heap.size := cell_lt p20
      have d0 : (pr != pr) = false := by simp
      have d1 : ((M : Int) != (M : Int)) = false := by simp
      go_wp2
      obtain ⟨W, hW⟩ : ∃ W, W = (wr.alloc (.cells #[.int .i64 pr, .slice adv1 M cv1] 104)).alloc (.cells #[.int .i64 pr, .slice adv2 M cv2] 104) := ⟨_, rfl⟩
      have hsW : W.heap.size = wr.heap.size + 2 := by rw [hW]; simp
      have hWA : W.heap[wr.heap.size]? = some (.cells #[.int .i64 pr, .slice adv1 M cv1] 104 (0, 0)) := by rw [hW]; exact (Below.heap_alloc _ _ _ (by simp)).trans (heap_alloc_new wr _)
      have hWB : W.heap[wr.heap.size + 1]? = some (.cells #[.int .i64 pr, .slice adv2 M cv2] 104 (0, 0)) := by rw [hW]; exact new_two wr _ _
      have hWL : Below wr.heap.size wr W := by rw [hW]; exact ((Below.refl _ _).alloc (Nat.le_refl _) _).alloc (by simp) _
      have y1 : W.cell? ⟨wr.heap.size, 1, none⟩ = some (.slice adv1 M cv1) := by rw [cell_of_row _ _ _ _ _ _ hWA]; rfl
      have y2 : W.cell? ⟨wr.heap.size + 1, 1, none⟩ = some (.slice adv2 M cv2) := by rw [cell_of_row _ _ _ _ _ _ hWB]; rfl
      rw [← hW]
      have HW := hide hWL
      have HWE := hide hW
      clear hWA hWB hWL hW x1 x2 p10 p11 p20 p21
      go_loopw [8] (fun i wq => ∃ j q : Nat, j ≤ M ∧ i = .int .i64 j ∧ wq = W.drewN q) (fun i _ => M - (intOf i).toNat)
      case atStart => exact ⟨0, 0, by omega, rfl, rfl⟩
      case round =>
        obtain ⟨j, qn, hj, rfl, rfl⟩ := hrel
        by_cases hjt : j < M
        · obtain ⟨a, ha⟩ : ∃ a, q.code[j]? = some a := ⟨_, List.getElem?_eq_getElem (by have := HM.out; omega)⟩
          obtain ⟨g3, g3e, r10, r11⟩ := HC.out.1 j a ha
          obtain ⟨g4, g4e, r20, r21⟩ := HC.out.2 j a ha
          have l5 := cell_lt r10
          have l6 := cell_lt r20
          have s10 : W.cell? ⟨g3, j * 2, none⟩ = some (.int .i64 a.1) := (HW.out.cell (by exact l5)).trans r10
          have s11 : W.cell? ⟨g3, j * 2 + 1, none⟩ = some (.int .i64 a.2) := (HW.out.cell (by exact l5)).trans r11
          have s20 : W.cell? ⟨g4, j * 2, none⟩ = some (.int .i64 a.1) := (HW.out.cell (by exact l6)).trans r20
          have s21 : W.cell? ⟨g4, j * 2 + 1, none⟩ = some (.int .i64 a.2) := (HW.out.cell (by exact l6)).trans r21
          subst g3e g4e
          clear r10 r11 r20 r21 l5 l6 ha
          generalize a.1 = A1 at s10 s20
          generalize a.2 = A2 at s11 s21
          have m1 : (A1 == A1) = true := by simp
          have m2 : (A2 == A2) = true := by simp
          go_wp2
          go_quiet (fail)
          go_wp2
          go_roundw
          case rel => exact ⟨j + 1, _, by omega, by go_num, rfl⟩
          case measure => simp [intOf]; omega
        · go_wp2
          go_roundw
          case rel => exact ⟨k + 1, by omega, by go_num, below_drewN (HB.out.1.trans (HW.out.mono (by omega))) _⟩
          case measure => simp [intOf]; omega
    · go_wp2
      go_ret
      exact ⟨rfl, HB.out.2⟩
end Go.Proofs.Ytnjlbgolnbdkaaa
