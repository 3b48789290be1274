/- The law: two configurations that lie alike are the same. -/
import Derived.Test.YtnjlbgolnbdkaaaTa
namespace Go.Proofs.Ytnjlbgolnbdkaaa
open Go.RowKit

theorem wins_read {base : Nat} {v : Value} {l : List Wn} {w : World} (h : WinsV base v l w) : l.length ≤ 9223372036854775807 ∧ ∃ ad c, v = .slice ad l.length c ∧ ∀ i a, l[i]? = some a → ∃ g, ad = some ⟨g, 0, none⟩ ∧ w.cell? ⟨g, i * 3, none⟩ = some (.int .i64 a.part) ∧ w.cell? ⟨g, i * 3 + 1, none⟩ = some (.int .i64 a.first) ∧ w.cell? ⟨g, i * 3 + 2, none⟩ = some (.int .i64 a.many) := by
  obtain ⟨h1, ad, c, hv, hr⟩ := own_read (fun p : Wn => [.int .i64 p.part, .int .i64 p.first, .int .i64 p.many]) (fun _ => rfl) l rfl h
  refine ⟨h1, ad, c, hv, fun i a hi => ?_⟩
  obtain ⟨g, hg, hc⟩ := hr i a hi
  exact ⟨g, hg, by simpa using hc 0 (by omega), by simpa using hc 1 (by omega), by simpa using hc 2 (by omega)⟩
theorem chans_read {base : Nat} {v : Value} {l : List Ch} {w : World} (h : ChansV base v l w) : l.length ≤ 9223372036854775807 ∧ ∃ ad c, v = .slice ad l.length c ∧ ∀ i a, l[i]? = some a → ∃ g, ad = some ⟨g, 0, none⟩ ∧ w.cell? ⟨g, i * 3, none⟩ = some (.int .i64 a.src) ∧ w.cell? ⟨g, i * 3 + 1, none⟩ = some (.int .i64 a.dst) ∧ w.cell? ⟨g, i * 3 + 2, none⟩ = some (.int .i64 a.depth) := by
  obtain ⟨h1, ad, c, hv, hr⟩ := own_read (fun p : Ch => [.int .i64 p.src, .int .i64 p.dst, .int .i64 p.depth]) (fun _ => rfl) l rfl h
  refine ⟨h1, ad, c, hv, fun i a hi => ?_⟩
  obtain ⟨g, hg, hc⟩ := hr i a hi
  exact ⟨g, hg, by simpa using hc 0 (by omega), by simpa using hc 1 (by omega), by simpa using hc 2 (by omega)⟩
theorem parts_read {base : Nat} {v : Value} {ps : List Pt} {w : World} (h : PartsV base v ps w) : ps.length ≤ 9223372036854775807 ∧ ∃ ad c, v = .slice ad ps.length c ∧ ∀ i p, ps[i]? = some p → ∃ g vc, ad = some ⟨g, 0, none⟩ ∧ (∀ f, f < 10 → w.cell? ⟨g, i * 10 + f, none⟩ = (ptCells p.sys p.words p.limit (fun i => p.acts.getD i 0) vc).toList[f]?) ∧ ProcsV base vc p.procs w := by
  obtain ⟨l, hl, ho, hc⟩ := h
  subst hl
  obtain ⟨h1, ad, c, hv, hr⟩ := own_read (fun p : Pt × Value => (ptCells p.1.sys p.1.words p.1.limit (fun i => p.1.acts.getD i 0) p.2).toList) (fun _ => rfl) l rfl ho
  rw [List.length_map]
  refine ⟨h1, ad, c, hv, fun i p hi => ?_⟩
  rw [List.getElem?_map] at hi
  obtain ⟨q, hq, rfl⟩ := Option.map_eq_some_iff.1 hi
  obtain ⟨g, hg, hcc⟩ := hr i q hq
  exact ⟨g, q.2, hg, hcc, hc q (List.mem_of_getElem? hq)⟩

theorem part_slice {base : Nat} {v : Value} {ps : List Pr} {w : World} (h : ProcsV base v ps w) : ∃ ad m c, v = .slice ad m c := by
  obtain ⟨_, ad, c, h, _⟩ := procs_read h
  exact ⟨ad, _, c, h⟩

set_option maxRecDepth 100000 in
set_option maxHeartbeats 8000000 in
theorem sameConfig_any (cf : Cf) (b1 b2 : Nat) (vP1 vW1 vC1 vP2 vW2 vC2 : Value) (w : World) (h1 : ConfV b1 vP1 vW1 vC1 cf w) (h2 : ConfV b2 vP2 vW2 vC2 cf w) :
    Calls Try.prog 26 #[.agg (cfCells cf.frame cf.watch vP1 vW1 vC1), .agg (cfCells cf.frame cf.watch vP2 vW2 vC2)] w fun e w' => e = .returned (.bool true) ∧ Below w.heap.size w w' := by
  obtain ⟨hnP, adP1, cP1, hvP1, _⟩ := parts_read h1.parts
  obtain ⟨_, adP2, cP2, hvP2, _⟩ := parts_read h2.parts
  obtain ⟨hnW, adW1, cW1, hvW1, _⟩ := wins_read h1.wins
  obtain ⟨_, adW2, cW2, hvW2, _⟩ := wins_read h2.wins
  obtain ⟨hnC, adC1, cC1, hvC1, _⟩ := chans_read h1.chans
  obtain ⟨_, adC2, cC2, hvC2, _⟩ := chans_read h2.chans
  subst hvP1 hvP2 hvW1 hvW2 hvC1 hvC2
  have HH := hide (And.intro h1 h2)
  clear h1 h2
  obtain ⟨NP, hNP⟩ : ∃ NP, NP = cf.parts.length := ⟨_, rfl⟩
  obtain ⟨NW, hNW⟩ : ∃ NW, NW = cf.wins.length := ⟨_, rfl⟩
  obtain ⟨NC, hNC⟩ : ∃ NC, NC = cf.chans.length := ⟨_, rfl⟩
  rw [← hNP, ← hNW, ← hNC] at HH ⊢
  rw [← hNP] at hnP
  rw [← hNW] at hnW
  rw [← hNC] at hnC
  have HN := hide (And.intro hNP (And.intro hNW hNC))
  clear hNP hNW hNC
  simp only [cfCells]
  generalize cf.frame = fr
  generalize cf.watch = wt
  have e0 : (fr != fr) = false := by simp
  have e1 : (wt != wt) = false := by simp
  have e2 : ((NP : Int) != (NP : Int)) = false := by simp
  have e3 : ((NW : Int) != (NW : Int)) = false := by simp
  have e4 : ((NC : Int) != (NC : Int)) = false := by simp
  go_enter Try.func26, Try.ntmps26
  go_wp2
  obtain ⟨w0, hw0⟩ : ∃ w0, w0 = ((w.alloc (.cells #[.int .i64 fr, .int .i64 wt, .slice adP1 NP cP1, .slice adW1 NW cW1, .slice adC1 NC cC1] 48)).alloc (.cells #[.int .i64 fr, .int .i64 wt, .slice adP2 NP cP2, .slice adW2 NW cW2, .slice adC2 NC cC2] 48)) := ⟨_, rfl⟩
  have hs0 : w0.heap.size = w.heap.size + 2 := by rw [hw0]; simp
  have hA0 : w0.heap[w.heap.size]? = some (.cells #[.int .i64 fr, .int .i64 wt, .slice adP1 NP cP1, .slice adW1 NW cW1, .slice adC1 NC cC1] 48 (0, 0)) := by rw [hw0]; exact (Below.heap_alloc _ _ _ (by simp)).trans (heap_alloc_new w _)
  have hB0 : w0.heap[w.heap.size + 1]? = some (.cells #[.int .i64 fr, .int .i64 wt, .slice adP2 NP cP2, .slice adW2 NW cW2, .slice adC2 NC cC2] 48 (0, 0)) := by rw [hw0]; exact new_two w _ _
  have hW0 : Below w.heap.size w w0 := by rw [hw0]; exact ((Below.refl _ _).alloc (Nat.le_refl _) _).alloc (by simp) _
  rw [← hw0]
  have H0 := hide (And.intro hA0 (And.intro hB0 hW0))
  clear hA0 hB0 hW0 hw0
  go_loopw [5] (fun i wr => ∃ k : Nat, k ≤ NP ∧ i = .int .i64 k ∧ Below w0.heap.size w0 wr) (fun i _ => NP - (intOf i).toNat)
  case atStart => exact ⟨0, by omega, rfl, Below.refl _ _⟩
  case round =>
    obtain ⟨k, hk, rfl, hbl⟩ := hrel
    have hsr := hbl.size
    have hA := (hbl.block _ (by omega)).trans H0.out.1
    have hB := (hbl.block _ (by omega)).trans H0.out.2.1
    have x1 : wr.cell? ⟨w.heap.size, 2, none⟩ = some (.slice adP1 NP cP1) := by rw [cell_of_row _ _ _ _ _ _ hA]; rfl
    have x2 : wr.cell? ⟨w.heap.size + 1, 2, none⟩ = some (.slice adP2 NP cP2) := by rw [cell_of_row _ _ _ _ _ _ hB]; rfl
    have hbw : Below w.heap.size w wr := H0.out.2.2.trans (hbl.mono (by omega))
    have HB := hide (And.intro hbl hbw)
    clear hA hB hbl hbw
    by_cases hlt : k < NP
    · obtain ⟨p, hq⟩ : ∃ p, cf.parts[k]? = some p := ⟨_, List.getElem?_eq_getElem (by have := HN.out.1; omega)⟩
      have h1' : PartsV b1 (.slice adP1 NP cP1) cf.parts wr := HH.out.1.parts.keep (fun b _ h2 _ => HB.out.2.block b h2)
      have h2' : PartsV b2 (.slice adP2 NP cP2) cf.parts wr := HH.out.2.parts.keep (fun b _ h2 _ => HB.out.2.block b h2)
      obtain ⟨_, _, _, f1, hr1⟩ := parts_read h1'
      obtain ⟨_, _, _, f2, hr2⟩ := parts_read h2'
      obtain ⟨g1, vc1, g1e, p1, hc1⟩ := hr1 k p hq
      obtain ⟨g2, vc2, g2e, p2, hc2⟩ := hr2 k p hq
      simp at f1 f2
      obtain ⟨f1a, f1b, f1c⟩ := f1
      obtain ⟨f2a, f2b, f2c⟩ := f2
      rw [← f1a] at g1e
      rw [← f2a] at g2e
      subst g1e g2e
      obtain ⟨ads1, ms1, cs1, rfl⟩ := part_slice hc1
      obtain ⟨ads2, ms2, cs2, rfl⟩ := part_slice hc2
      have t0 : wr.cell? ⟨g1, k * 10, none⟩ = some (.bool p.sys) := p1 0 (by omega)
      have t1 : wr.cell? ⟨g1, k * 10 + 1, none⟩ = some (.int .i64 p.words) := p1 1 (by omega)
      have t2 : wr.cell? ⟨g1, k * 10 + 2, none⟩ = some (.int .i64 p.limit) := p1 2 (by omega)
      have t3 : wr.cell? ⟨g1, k * 10 + 3, none⟩ = some (.int .i64 (p.acts.getD 0 0)) := p1 3 (by omega)
      have t4 : wr.cell? ⟨g1, k * 10 + 4, none⟩ = some (.int .i64 (p.acts.getD 1 0)) := p1 4 (by omega)
      have t5 : wr.cell? ⟨g1, k * 10 + 5, none⟩ = some (.int .i64 (p.acts.getD 2 0)) := p1 5 (by omega)
      have t6 : wr.cell? ⟨g1, k * 10 + 6, none⟩ = some (.int .i64 (p.acts.getD 3 0)) := p1 6 (by omega)
      have t7 : wr.cell? ⟨g1, k * 10 + 7, none⟩ = some (.int .i64 (p.acts.getD 4 0)) := p1 7 (by omega)
      have t8 : wr.cell? ⟨g1, k * 10 + 8, none⟩ = some (.int .i64 (p.acts.getD 5 0)) := p1 8 (by omega)
      have t9 : wr.cell? ⟨g1, k * 10 + 9, none⟩ = some (.slice ads1 ms1 cs1) := p1 9 (by omega)
      have z0 : wr.cell? ⟨g2, k * 10, none⟩ = some (.bool p.sys) := p2 0 (by omega)
      have z1 : wr.cell? ⟨g2, k * 10 + 1, none⟩ = some (.int .i64 p.words) := p2 1 (by omega)
      have z2 : wr.cell? ⟨g2, k * 10 + 2, none⟩ = some (.int .i64 p.limit) := p2 2 (by omega)
      have z3 : wr.cell? ⟨g2, k * 10 + 3, none⟩ = some (.int .i64 (p.acts.getD 0 0)) := p2 3 (by omega)
      have z4 : wr.cell? ⟨g2, k * 10 + 4, none⟩ = some (.int .i64 (p.acts.getD 1 0)) := p2 4 (by omega)
      have z5 : wr.cell? ⟨g2, k * 10 + 5, none⟩ = some (.int .i64 (p.acts.getD 2 0)) := p2 5 (by omega)
      have z6 : wr.cell? ⟨g2, k * 10 + 6, none⟩ = some (.int .i64 (p.acts.getD 3 0)) := p2 6 (by omega)
      have z7 : wr.cell? ⟨g2, k * 10 + 7, none⟩ = some (.int .i64 (p.acts.getD 4 0)) := p2 7 (by omega)
      have z8 : wr.cell? ⟨g2, k * 10 + 8, none⟩ = some (.int .i64 (p.acts.getD 5 0)) := p2 8 (by omega)
      have z9 : wr.cell? ⟨g2, k * 10 + 9, none⟩ = some (.slice ads2 ms2 cs2) := p2 9 (by omega)
      have HSP : Hid (∀ W, Below wr.heap.size wr W → Calls Try.prog 43 #[.agg #[.bool p.sys, .int .i64 p.words, .int .i64 p.limit, .int .i64 (p.acts.getD 0 0), .int .i64 (p.acts.getD 1 0), .int .i64 (p.acts.getD 2 0), .int .i64 (p.acts.getD 3 0), .int .i64 (p.acts.getD 4 0), .int .i64 (p.acts.getD 5 0), .slice ads1 ms1 cs1], .agg #[.bool p.sys, .int .i64 p.words, .int .i64 p.limit, .int .i64 (p.acts.getD 0 0), .int .i64 (p.acts.getD 1 0), .int .i64 (p.acts.getD 2 0), .int .i64 (p.acts.getD 3 0), .int .i64 (p.acts.getD 4 0), .int .i64 (p.acts.getD 5 0), .slice ads2 ms2 cs2]] W fun e w' => e = .returned (.bool true) ∧ Below wr.heap.size wr w') := fun W hW => (samePart_any p b1 b2 (.slice ads1 ms1 cs1) (.slice ads2 ms2 cs2) W (hc1.keep (fun b _ h2 _ => hW.block b h2)) (hc2.keep (fun b _ h2 _ => hW.block b h2))).mono (fun e w' ⟨he, hb⟩ => ⟨he, hW.trans (hb.mono hW.size)⟩)
      clear hr1 hr2 h1' h2' f1a f1b f1c f2a f2b f2c hc1 hc2 hq p1 p2
      generalize p.sys = sy at *
      generalize p.words = wd at *
      generalize p.limit = lm at *
      generalize p.acts.getD 0 0 = a0 at *
      generalize p.acts.getD 1 0 = a1 at *
      generalize p.acts.getD 2 0 = a2 at *
      generalize p.acts.getD 3 0 = a3 at *
      generalize p.acts.getD 4 0 = a4 at *
      generalize p.acts.getD 5 0 = a5 at *
      go_wp2_with fail
      go_cut [6] from 55 to 65 (fun s6 wx => s6 = .bool true ∧ Below wr.heap.size wr wx)
      case first =>
        go_region_with (first | (go_at_call 43; refine (HSP.out _ (by first | exact Below.refl _ _ | exact (Below.refl _ _).drew)).mono ?_; rintro e w2 ⟨rfl, hbel2⟩))
        all_goals (go_wp2_with fail; go_meet; exact ⟨rfl, hbel2.os, hbel2.tape, hbel2.output, hbel2.size, hbel2.block⟩)
      case rest =>
      obtain ⟨rfl, hbc⟩ := hcut
      have HBC := hide hbc
      clear hbc HSP x1 x2
      go_wp2
      go_roundw
      case rel => exact ⟨k + 1, by omega, by go_num, HB.out.1.trans (HBC.out.mono (by omega))⟩
      case measure => simp [intOf]; omega
    · have hA := (HB.out.1.block _ (by omega)).trans H0.out.1
      have hB := (HB.out.1.block _ (by omega)).trans H0.out.2.1
      have y1 : wr.cell? ⟨w.heap.size, 3, none⟩ = some (.slice adW1 NW cW1) := by rw [cell_of_row _ _ _ _ _ _ hA]; rfl
      have y2 : wr.cell? ⟨w.heap.size + 1, 3, none⟩ = some (.slice adW2 NW cW2) := by rw [cell_of_row _ _ _ _ _ _ hB]; rfl
      have y3 : wr.cell? ⟨w.heap.size, 4, none⟩ = some (.slice adC1 NC cC1) := by rw [cell_of_row _ _ _ _ _ _ hA]; rfl
      have y4 : wr.cell? ⟨w.heap.size + 1, 4, none⟩ = some (.slice adC2 NC cC2) := by rw [cell_of_row _ _ _ _ _ _ hB]; rfl
      have hW1 : WinsV b1 (.slice adW1 NW cW1) cf.wins wr := own_type HH.out.1.wins (fun b _ h2 _ => HB.out.2.block b h2)
      have hW2 : WinsV b2 (.slice adW2 NW cW2) cf.wins wr := own_type HH.out.2.wins (fun b _ h2 _ => HB.out.2.block b h2)
      have hC1 : ChansV b1 (.slice adC1 NC cC1) cf.chans wr := own_type HH.out.1.chans (fun b _ h2 _ => HB.out.2.block b h2)
      have hC2 : ChansV b2 (.slice adC2 NC cC2) cf.chans wr := own_type HH.out.2.chans (fun b _ h2 _ => HB.out.2.block b h2)
      obtain ⟨_, _, _, f1, hr1⟩ := wins_read hW1
      obtain ⟨_, _, _, f2, hr2⟩ := wins_read hW2
      obtain ⟨_, _, _, f3, hr3⟩ := chans_read hC1
      obtain ⟨_, _, _, f4, hr4⟩ := chans_read hC2
      simp only [Value.slice.injEq] at f1 f2 f3 f4
      rw [← f1.1] at hr1
      rw [← f2.1] at hr2
      rw [← f3.1] at hr3
      rw [← f4.1] at hr4
      have HFW := hide (And.intro hr1 hr2)
      have HFC := hide (And.intro hr3 hr4)
      clear hA hB hW1 hW2 hC1 hC2 f1 f2 f3 f4 hr1 hr2 hr3 hr4
      go_wp2
      go_loopw [7] (fun i wq => ∃ j q : Nat, j ≤ NW ∧ i = .int .i64 j ∧ wq = wr.drewN q) (fun i _ => NW - (intOf i).toNat)
      case atStart => exact ⟨0, 0, by omega, rfl, rfl⟩
      case round =>
        obtain ⟨j7, qn, hj, rfl, rfl⟩ := hrel
        by_cases hjt : j7 < NW
        · obtain ⟨a, ha⟩ : ∃ a, cf.wins[j7]? = some a := ⟨_, List.getElem?_eq_getElem (by have := HN.out.2.1; omega)⟩
          obtain ⟨g3, g3e, r1, r2, r3⟩ := HFW.out.1 j7 a ha
          obtain ⟨g4, g4e, r4, r5, r6⟩ := HFW.out.2 j7 a ha
          subst g3e g4e
          clear ha
          generalize a.part = A1 at r1 r4
          generalize a.first = A2 at r2 r5
          generalize a.many = A3 at r3 r6
          have m1 : (A1 == A1) = true := by simp
          have m2 : (A2 == A2) = true := by simp
          have m3 : (A3 == A3) = true := by simp
          go_wp2
          go_quiet (fail)
          go_wp2
          go_roundw
          case rel => exact ⟨j7 + 1, _, by omega, by go_num, rfl⟩
          case measure => simp [intOf]; omega
        · go_wp2
          go_loopw [8] (fun i wq => ∃ j q : Nat, j ≤ NC ∧ i = .int .i64 j ∧ wq = wr.drewN q) (fun i _ => NC - (intOf i).toNat)
          case atStart => exact ⟨0, qn, by omega, rfl, rfl⟩
          case round =>
            obtain ⟨j8, qn, hj, rfl, rfl⟩ := hrel
            by_cases hjt : j8 < NC
            · obtain ⟨a, ha⟩ : ∃ a, cf.chans[j8]? = some a := ⟨_, List.getElem?_eq_getElem (by have := HN.out.2.2; omega)⟩
              obtain ⟨g3, g3e, r1, r2, r3⟩ := HFC.out.1 j8 a ha
              obtain ⟨g4, g4e, r4, r5, r6⟩ := HFC.out.2 j8 a ha
              subst g3e g4e
              clear ha
              generalize a.src = A1 at r1 r4
              generalize a.dst = A2 at r2 r5
              generalize a.depth = A3 at r3 r6
              have m1 : (A1 == A1) = true := by simp
              have m2 : (A2 == A2) = true := by simp
              have m3 : (A3 == A3) = true := by simp
              go_wp2
              go_quiet (fail)
              go_wp2
              go_roundw
              case rel => exact ⟨j8 + 1, _, by omega, by go_num, rfl⟩
              case measure => simp [intOf]; omega
            · go_wp2
              go_ret
              exact ⟨rfl, below_drewN HB.out.2 _⟩
end Go.Proofs.Ytnjlbgolnbdkaaa
