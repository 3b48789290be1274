/- The keeper's piece. -/
import Derived.Test.YtnjlbgolnbdkaaaGreatCn
import Derived.Test.YtnjlbgolnbdkaaaGreatCr
namespace Go.Proofs.YtnjlbgolnbdkaaaGreat
open Go.RowKit

theorem lies_get {w : World} {ao : Option Addr} {l : List (Nat → Int)} (h : Lies w ao l) (k : Nat) (hk : k < l.length) : ∃ g o r, ao = some ⟨g, o, none⟩ ∧ l[k]? = some r ∧ w.cell? ⟨g, o + k * 5, none⟩ = some (.int .i64 (r 0)) ∧ w.cell? ⟨g, o + k * 5 + 1, none⟩ = some (.int .i64 (r 1)) ∧ w.cell? ⟨g, o + k * 5 + 2, none⟩ = some (.int .i64 (r 2)) ∧ w.cell? ⟨g, o + k * 5 + 3, none⟩ = some (.int .i64 (r 3)) ∧ w.cell? ⟨g, o + k * 5 + 4, none⟩ = some (.int .i64 (r 4)) := by
  obtain ⟨g, o, e, x⟩ := h k _ (List.getElem?_eq_getElem hk)
  exact ⟨g, o, _, e, List.getElem?_eq_getElem hk, x⟩
set_option maxRecDepth 100000 in
set_option maxHeartbeats 4000000 in
theorem kpiece_same (a1 a2 : Option Addr) (n1 n2 c1 c2 : Nat) (X al : List (Nat → Int)) (pt cd : Int) (w : World) (hn1 : X.length = n1) (hn2 : al.length = n2) (hl : n1 ≤ n2 ∧ n2 ≤ 100) (hc2 : n2 ≤ c2) (h1 : Lies w a1 X) (h2 : Lies w a2 al) (he : al.drop (n2 - n1) = X) :
    Calls Tryz.prog 28 #[.slice a1 n1 c1, .slice a2 n2 c2, .int .i64 pt, .int .i64 cd] w fun e w' => e = .returned (.bool true) ∧ Below w.heap.size w w' := by
  have h3 := h2.drop (n2 - n1) c2 (by omega)
  rw [he] at h3
  obtain ⟨d, hd⟩ : ∃ d, d = n2 - n1 := ⟨_, rfl⟩
  rw [← hd] at h3
  have hsub : ((n2 : Nat) : Int) - ((n1 : Nat) : Int) = ((d : Nat) : Int) := by omega
  have hdn : n2 - d = n1 := by omega
  have HS := hide (ksameLog_yes a1 (if c2 = d then a2 else a2.map (·.add (d * 5))) c1 (c2 - d) X w (by omega) h1 h3)
  rw [hn1] at HS
  have hle : decide ((n1 : Int) ≤ (n2 : Nat)) = true := by simp; omega
  have hdl : d ≤ n2 := by omega
  clear h1 h2 h3 he hd hn1 hn2
  by_cases hcd : c2 = d
  · rw [if_pos hcd, show c2 - d = 0 by omega] at HS
    go_enter Tryz.func28, Tryz.ntmps28
    go_wp2_with fail
    refine HS.out.mono ?_
    rintro e w1 ⟨rfl, hb1⟩
    have HB1 := hide hb1
    clear hb1 HS
    go_wp2
    go_ret
    exact ⟨rfl, HB1.out⟩
  · rw [if_neg hcd] at HS
    go_enter Tryz.func28, Tryz.ntmps28
    go_wp2_with fail
    refine HS.out.mono ?_
    rintro e w1 ⟨rfl, hb1⟩
    have HB1 := hide hb1
    clear hb1 HS
    go_wp2
    go_ret
    exact ⟨rfl, HB1.out⟩

theorem slice_high (a : Option Addr) (n c m : Nat) (h : m ≤ c) (hc : ¬ c = 0) (W : World) : (Instr.sliceAt 49 (.slice a n c) none (some (.int .i64 (m : Nat))) none).run Tryz.prog W = .ok (.slice (a.map (·.add (0 * 5))) m c) W := by
  simp [go_sem, h, hc]
theorem slice_low (a : Option Addr) (n c d : Nat) (h : d ≤ n) (W : World) : (Instr.sliceAt 49 (.slice a n c) (some (.int .i64 (d : Nat))) none none).run Tryz.prog W = .ok (.slice (if c = d then a else a.map (·.add (d * 5))) (n - d) (c - d)) W := by
  simp [go_sem, h]
attribute [-go_sem] Go.run_sliceAt_slice
set_option maxRecDepth 100000 in
set_option maxHeartbeats 4000000 in
theorem kpiece_more (a1 a2 : Option Addr) (n1 n2 m c1 c2 : Nat) (X al : List (Nat → Int)) (r : Nat → Int) (w : World) (hnm : n1 = m + 1) (hn1 : X.length = m) (hn2 : al.length = n2) (hl : m ≤ n2 ∧ n2 ≤ 100) (hc1 : m + 1 ≤ c1) (hc2 : n2 ≤ c2) (h1 : Lies w a1 (X ++ [r])) (h2 : Lies w a2 al) (he : al.drop (n2 - m) = X) (hsq : ∀ (i : Nat) (q : Nat → Int), al[i]? = some q → q 3 = (i : Int) + 1) (h3 : r 3 = (n2 : Int) + 1) :
    Calls Tryz.prog 28 #[.slice a1 n1 c1, .slice a2 n2 c2, .int .i64 (r 1), .int .i64 (r 2)] w fun e w' => e = .returned (.bool true) ∧ Below w.heap.size w w' := by
  obtain ⟨g1, o1, r', rfl, hr', x0, x1, x2, x3, x4⟩ := lies_get h1 m (by simp; omega)
  have hrr : r' = r := by
    rw [List.getElem?_append_right (by omega), hn1, Nat.sub_self] at hr'
    simpa using hr'.symm
  subst hrr
  have hX : Lies w (some ⟨g1, o1, none⟩) X := by
    have := h1.take m
    rw [List.take_append_of_le_length (by omega), List.take_of_length_le (by omega)] at this
    exact this
  have hXd := h2.drop (n2 - m) c2 (by omega)
  rw [he] at hXd
  obtain ⟨d, hd⟩ : ∃ d, d = n2 - m := ⟨_, rfl⟩
  rw [← hd] at hXd
  have hs1 : ((n1 : Nat) : Int) - 1 = ((m : Nat) : Int) := by omega
  have hdn : n2 - d = m := by omega
  have hdl : d ≤ n2 := by omega
  /- where the first comparison is made, it says no -/
  have HNO : Hid (n1 ≤ n2 → ∀ d', d' = n2 - n1 → Calls Tryz.prog 43 #[.slice (some ⟨g1, o1, none⟩) n1 c1, .slice (a2.map (·.add (d' * 5))) n1 (c2 - d')] w fun e w' => e = .returned (.bool false) ∧ Below w.heap.size w w') := by
    intro hm d' hd'
    have h4 := h2.drop d' c2 (by omega)
    rw [if_neg (by omega)] at h4
    obtain ⟨q, hq⟩ : ∃ q, (X ++ [r'])[0]? = some q := ⟨(X ++ [r'])[0]'(by simp), List.getElem?_eq_getElem _⟩
    obtain ⟨p, hp⟩ : ∃ p, (al.drop d')[0]? = some p := ⟨(al.drop d')[0]'(by simp; omega), List.getElem?_eq_getElem _⟩
    refine ksameLog_no _ _ n1 c1 (c2 - d') _ _ q p w (by omega) h1 h4 hq hp ?_
    have hp3 : p 3 = (d' : Int) + 1 := by
      rw [List.getElem?_drop, Nat.add_zero] at hp
      exact hsq d' p hp
    have hq3 : q 3 = (d' : Int) + 2 := by
      by_cases em : m = 0
      · have : X = [] := List.length_eq_zero_iff.1 (by omega)
        rw [this] at hq
        simp at hq
        rw [← hq, h3]
        omega
      · rw [List.getElem?_append_left (by omega), ← he, List.getElem?_drop, Nat.add_zero] at hq
        have := hsq _ q hq
        omega
    omega
  have HLA : Hid (0 < n2 → ∃ g2 o2 q, a2 = some ⟨g2, o2, none⟩ ∧ q = (n2 : Int) ∧ ∀ W, Below w.heap.size w W → W.cell? ⟨g2, o2 + (n2 - 1) * 5 + 3, none⟩ = some (.int .i64 q)) := by
    intro h0
    obtain ⟨g2, o2, q, ha, hq, y0, y1, y2, y3, y4⟩ := lies_get h2 (n2 - 1) (by omega)
    have := hsq _ q hq
    exact ⟨g2, o2, q 3, ha, by omega, fun W hW => (hW.cell (p := ⟨g2, o2 + (n2 - 1) * 5 + 3, none⟩) (lt_of_cell y3)).trans y3⟩
  have HYES : Hid (∀ W, Below w.heap.size w W → Calls Tryz.prog 43 #[.slice (some ⟨g1, o1, none⟩) m c1, .slice (if c2 = d then a2 else a2.map (·.add (d * 5))) m (c2 - d)] W fun e w' => e = .returned (.bool true) ∧ Below W.heap.size W w') := fun W hW => by
    have := ksameLog_yes (some ⟨g1, o1, none⟩) (if c2 = d then a2 else a2.map (·.add (d * 5))) c1 (c2 - d) X W (by omega) (hX.below hW) (hXd.below hW)
    rw [hn1] at this
    exact this
  have hg1 := lt_of_cell x0
  generalize r' 0 = r0 at *
  generalize r' 1 = r1 at *
  generalize r' 2 = r2 at *
  generalize r' 3 = r3 at *
  generalize r' 4 = r4 at *
  clear h1 h2 he hX hXd hsq hd hn1 hn2 hr'
  have hz : (n1 == 0) = false := by simp; omega
  have hz2 : (((n1 : Nat) : Int) == 0) = false := by simp; omega
  have hgt : decide (n2 < m) = false := by simp; omega
  have H3 := hide h3
  clear h3
  have hm1 : m < n1 := by omega
  have hsl1 : ∀ W, (Instr.sliceAt 49 (.slice (some ⟨g1, o1, none⟩) n1 c1) none (some (.int .i64 (m : Nat))) none).run Tryz.prog W = .ok (.slice (some ⟨g1, o1, none⟩) m c1) W := slice_high (some ⟨g1, o1, none⟩) n1 c1 m (by omega) (by omega)
  have hsl2 : ∀ W, (Instr.sliceAt 49 (.slice a2 n2 c2) (some (.int .i64 (d : Nat))) none none).run Tryz.prog W = .ok (.slice (if c2 = d then a2 else a2.map (·.add (d * 5))) m (c2 - d)) W := fun W => by have := slice_low a2 n2 c2 d hdl W; rw [hdn] at this; exact this
  generalize (if c2 = d then a2 else a2.map (·.add (d * 5))) = A at *
  generalize c2 - d = C at *
  have HXC : Hid (∀ W, Below w.heap.size w W → W.cell? ⟨g1, o1 + m * 5, none⟩ = some (.int .i64 r0) ∧ W.cell? ⟨g1, o1 + m * 5 + 1, none⟩ = some (.int .i64 r1) ∧ W.cell? ⟨g1, o1 + m * 5 + 2, none⟩ = some (.int .i64 r2) ∧ W.cell? ⟨g1, o1 + m * 5 + 3, none⟩ = some (.int .i64 r3) ∧ W.cell? ⟨g1, o1 + m * 5 + 4, none⟩ = some (.int .i64 r4)) := fun W hW => by
    have hx : ∀ o, W.cell? ⟨g1, o, none⟩ = w.cell? ⟨g1, o, none⟩ := fun o => hW.cell (p := ⟨g1, o, none⟩) hg1
    exact ⟨(hx _).trans x0, (hx _).trans x1, (hx _).trans x2, (hx _).trans x3, (hx _).trans x4⟩
  /- behind the first comparison -/
  have HREST : Hid (∀ w1, Below w.heap.size w w1 → ∀ w2, w2 = w1.alloc (.cells #[.int .i64 r0, .int .i64 r1, .int .i64 r2, .int .i64 r3, .int .i64 r4] 52) → Below w.heap.size w w2 ∧ (∃ (ι : Type) (f : ι → World), (∀ i, Below w.heap.size w (f i)) ∧ (∃ i, w2.drew = f i) ∧ (∀ i, (f i).cell? ⟨w1.heap.size, 1, none⟩ = some (.int .i64 r1) ∧ (f i).cell? ⟨w1.heap.size, 2, none⟩ = some (.int .i64 r2) ∧ (f i).cell? ⟨w1.heap.size, 3, none⟩ = some (.int .i64 r3)) ∧ ∀ i, Calls Tryz.prog 43 #[.slice (some ⟨g1, o1, none⟩) m c1, .slice A m C] (f i) fun e w' => e = .returned (.bool true) ∧ ∃ j, w' = f j)) := by
    intro w1 hb1 w2 hw2
    have hb : Below w1.heap.size w1 w2 := by rw [hw2]; exact (Below.refl _ _).alloc (Nat.le_refl _) _
    have hb2 : Below w.heap.size w w2 := hb1.trans (hb.mono hb1.size)
    obtain ⟨ι, _, f, hf, hg⟩ := belowClass w2
    have hfw : ∀ i, Below w.heap.size w (f i) := fun i => hb2.trans ((hf i).mono hb2.size)
    refine ⟨hb2, ι, f, hfw, hg _ (Below.refl _ _).drew, fun i => ?_, fun i => Calls.inClass hf hg i (HYES.out (f i) (hfw i))⟩
    have hbk : (f i).heap[w1.heap.size]? = some (.cells #[.int .i64 r0, .int .i64 r1, .int .i64 r2, .int .i64 r3, .int .i64 r4] 52 (0, 0)) := keepB (hf i) (by rw [hw2]; exact heap_alloc_new w1 _)
    exact ⟨by rw [cell_of_row _ _ _ _ _ _ hbk]; rfl, by rw [cell_of_row _ _ _ _ _ _ hbk]; rfl, by rw [cell_of_row _ _ _ _ _ _ hbk]; rfl⟩
  have HNM := hide hnm
  have HL := hide hl
  have HGL := hide (And.intro hc1 hc2)
  have HDN := hide (And.intro hdn hdl)
  clear x0 x1 x2 x3 x4 hdn hdl HYES
  by_cases hmn : n1 ≤ n2
  · have hle : decide (((n1 : Nat) : Int) ≤ (n2 : Nat)) = true := by simp; omega
    obtain ⟨d', hd'⟩ : ∃ d', d' = n2 - n1 := ⟨_, rfl⟩
    have HN := hide (HNO.out hmn d' hd')
    have hsub2 : ((n2 : Nat) : Int) - ((n1 : Nat) : Int) = ((d' : Nat) : Int) := by omega
    have hdd : ((d' : Nat) : Int) + 1 = ((d : Nat) : Int) := by have := HDN.out; omega
    have hsl3 : ∀ W, (Instr.sliceAt 49 (.slice a2 n2 c2) (some (.int .i64 (d' : Nat))) none none).run Tryz.prog W = .ok (.slice (a2.map (·.add (d' * 5))) n1 (c2 - d')) W := fun W => by have := slice_low a2 n2 c2 d' (by omega) W; rw [if_neg (by omega), show n2 - d' = n1 by omega] at this; exact this
    generalize a2.map (·.add (d' * 5)) = A3 at *
    generalize c2 - d' = C3 at *
    obtain ⟨g2, o2, q, rfl, hq, hcl⟩ := HLA.out (by omega)
    have hqb : 0 ≤ q ∧ q ≤ 100 := by omega
    have hq3 : (r3 == q + 1) = true := by have := H3.out; simp; omega
    have HCL := hide hcl
    have hnz : (((n2 : Nat) : Int) == 0) = false := by simp; omega
    obtain ⟨n3, hn3⟩ : ∃ n3, n3 = n2 - 1 := ⟨_, rfl⟩
    have hn21 : ((n2 : Nat) : Int) - 1 = ((n3 : Nat) : Int) := by omega
    rw [← hn3] at HCL
    have hn32 : n3 < n2 := by omega
    have hn100 : n2 ≤ 100 ∧ n1 ≤ 101 ∧ m ≤ 100 ∧ d ≤ 100 ∧ d' ≤ 100 := by have := HDN.out; omega
    clear hd' hnm hcl hn3 hq hl
    go_enter Tryz.func28, Tryz.ntmps28
    go_wp2_with fail
    refine HN.out.mono ?_
    rintro e w1 ⟨rfl, hb1⟩
    obtain ⟨x0, x1, x2, x3, x4⟩ := HXC.out w1 hb1
    obtain ⟨w2, hw2⟩ : ∃ w2, w2 = w1.alloc (.cells #[.int .i64 r0, .int .i64 r1, .int .i64 r2, .int .i64 r3, .int .i64 r4] 52) := ⟨_, rfl⟩
    obtain ⟨hb2, ι, f, hfw, hf0, hfc, hcalls⟩ := HREST.out w1 hb1 w2 hw2
    have HFW := hide hfw
    have HC0 := hide hf0
    have HFC := hide hfc
    have HYE := hide hcalls
    have HW2 := hide hw2
    clear hb1 hw2 hb2 hfw hf0 hfc hcalls HN HREST HNO HXC
    go_upto_region 9 with fail
    rw [← HW2.out]
    have wm1 : IntKind.i64.wrap ((m : Nat) : Int) = ((m : Nat) : Int) := wrap_small _ (by omega) (by omega)
    have wd1 : IntKind.i64.wrap ((d : Nat) : Int) = ((d : Nat) : Int) := wrap_small _ (by omega) (by omega)
    have we1 : IntKind.i64.wrap ((d' : Nat) : Int) = ((d' : Nat) : Int) := wrap_small _ (by omega) (by omega)
    refine region_class f (by kernel_rfl) (by kernel_rfl) HC0.out ?_
    repeat (go_big_quiet_step (first | exact rfl | (with_reducible exact ⟨rfl, rfl⟩) | (go_at_call 43; with_reducible exact HYE.out _)))
    refine wpQuiet_nil ?_
    rintro _ ⟨i, rfl⟩
    obtain ⟨f1, f2, f3⟩ := HFC.out i
    have f4 := HCL.out (f i) (HFW.out i)
    have HBW := hide (HFW.out i)
    go_wp2_with fail
    go_region
    all_goals
      go_wp2
      go_ret
      exact ⟨rfl, HBW.out.trans ⟨rfl, rfl, rfl, Nat.le_refl _, fun _ _ => rfl⟩⟩
  · have hle : decide (((n1 : Nat) : Int) ≤ (n2 : Nat)) = false := by simp; omega
    obtain rfl : d = 0 := by have := HDN.out; omega
    have hsub2 : ((n2 : Nat) : Int) - ((n1 : Nat) : Int) = -1 := by omega
    have hsl3 : ∀ W, (Instr.sliceAt 49 (.slice a2 n2 c2) (some (.int .i64 0)) none none).run Tryz.prog W = .ok (.slice A m C) W := hsl2
    have hn100 : n2 ≤ 100 ∧ n1 ≤ 101 ∧ m ≤ 100 := by omega
    obtain ⟨x0, x1, x2, x3, x4⟩ := HXC.out w (Below.refl _ _)
    obtain ⟨w2, hw2⟩ : ∃ w2, w2 = w.alloc (.cells #[.int .i64 r0, .int .i64 r1, .int .i64 r2, .int .i64 r3, .int .i64 r4] 52) := ⟨_, rfl⟩
    obtain ⟨hb2, ι, f, hfw, hf0, hfc, hcalls⟩ := HREST.out w (Below.refl _ _) w2 hw2
    have HFW := hide hfw
    have HC0 := hide hf0
    have HFC := hide hfc
    have HYE := hide hcalls
    have HW2 := hide hw2
    clear hw2 hb2 hfw hf0 hfc hcalls HREST HNO HXC hnm hl hsl2
    by_cases hn0 : n2 = 0
    · have hnz : (((n2 : Nat) : Int) == 0) = true := by simp; omega
      have hnz2 : (n2 == 0) = true := by simp; omega
      clear hn0
      go_enter Tryz.func28, Tryz.ntmps28
      go_upto_region 9 with fail
      rw [← HW2.out]
      have wm1 : IntKind.i64.wrap ((m : Nat) : Int) = ((m : Nat) : Int) := wrap_small _ (by omega) (by omega)
      refine region_class f (by kernel_rfl) (by kernel_rfl) HC0.out ?_
      repeat (go_big_quiet_step (first | exact rfl | (with_reducible exact ⟨rfl, rfl⟩) | (go_at_call 43; with_reducible exact HYE.out _)))
      refine wpQuiet_nil ?_
      rintro _ ⟨i, rfl⟩
      obtain ⟨f1, f2, f3⟩ := HFC.out i
      have HBW := hide (HFW.out i)
      go_wp2_with fail
      go_region
      all_goals
        go_wp2
        go_ret
        exact ⟨rfl, HBW.out.trans ⟨rfl, rfl, rfl, Nat.le_refl _, fun _ _ => rfl⟩⟩
    · obtain ⟨g2, o2, q, rfl, hq, hcl⟩ := HLA.out (by omega)
      have hqb : 0 ≤ q ∧ q ≤ 100 := by omega
      have hq3 : (r3 == q + 1) = true := by have := H3.out; simp; omega
      have HCL := hide hcl
      have hnz : (((n2 : Nat) : Int) == 0) = false := by simp; omega
      obtain ⟨n3, hn3⟩ : ∃ n3, n3 = n2 - 1 := ⟨_, rfl⟩
      have hn21 : ((n2 : Nat) : Int) - 1 = ((n3 : Nat) : Int) := by omega
      rw [← hn3] at HCL
      have hn32 : n3 < n2 := by omega
      clear hcl hn3 hq
      go_enter Tryz.func28, Tryz.ntmps28
      go_upto_region 9 with fail
      rw [← HW2.out]
      have wm1 : IntKind.i64.wrap ((m : Nat) : Int) = ((m : Nat) : Int) := wrap_small _ (by omega) (by omega)
      refine region_class f (by kernel_rfl) (by kernel_rfl) HC0.out ?_
      repeat (go_big_quiet_step (first | exact rfl | (with_reducible exact ⟨rfl, rfl⟩) | (go_at_call 43; with_reducible exact HYE.out _)))
      refine wpQuiet_nil ?_
      rintro _ ⟨i, rfl⟩
      obtain ⟨f1, f2, f3⟩ := HFC.out i
      have f4 := HCL.out (f i) (HFW.out i)
      have HBW := hide (HFW.out i)
      go_wp2_with fail
      go_region
      all_goals
        go_wp2
        go_ret
        exact ⟨rfl, HBW.out.trans ⟨rfl, rfl, rfl, Nat.le_refl _, fun _ _ => rfl⟩⟩
theorem kpiece_any (a1 a2 : Option Addr) (c1 c2 : Nat) (lg al : List (Nat → Int)) (pt cd : Int) (w : World) (hl2 : al.length ≤ 100) (hc1 : lg.length ≤ c1) (hc2 : al.length ≤ c2) (h1 : Lies w a1 lg) (h2 : Lies w a2 al) (hs : Seqs al) (he : Ends al lg pt cd) :
    Calls Tryz.prog 28 #[.slice a1 lg.length c1, .slice a2 al.length c2, .int .i64 pt, .int .i64 cd] w fun e w' => e = .returned (.bool true) ∧ Below w.heap.size w w' := by
  obtain ⟨pre, X, hal, hmin, hX⟩ := he
  have hlen : al.length = pre.length + X.length := by rw [hal, List.length_append]
  have hdrop : al.drop (al.length - X.length) = X := by
    rw [hlen, Nat.add_sub_cancel, hal, List.drop_left]
  rcases hX with rfl | ⟨r, rfl, e1, e2, e3⟩
  · exact kpiece_same a1 a2 lg.length al.length c1 c2 lg al pt cd w rfl rfl (by omega) hc2 h1 h2 hdrop
  · rw [← e1, ← e2]
    rw [List.length_append] at hc1 ⊢
    exact kpiece_more a1 a2 (X.length + 1) al.length X.length c1 c2 X al r w rfl rfl rfl (by omega) hc1 hc2 h1 h2 hdrop hs e3
theorem RecsV.whole {base : Nat} {v : Value} {l : List (Nat → Int)} {w : World} (h : RecsV base v l w) : ∃ ad c, v = .slice ad l.length c ∧ l.length ≤ c ∧ Lies w ad l := by
  obtain ⟨ad, c, hv, hl⟩ := h.lies
  refine ⟨ad, c, hv, ?_, hl⟩
  rcases h.2 with ⟨h1, h2⟩ | ⟨g, cap, cur, hv2, _, hh, hc, hm, _⟩
  · rw [hv] at h1
    cases l with
    | nil => simp
    | cons x l => simp at h1
  · rw [hv] at hv2
    cases hv2
    exact hc
theorem Kp.row {base base' : Nat} {w w' : World} {kb : Nat} {L : MLay} {g : Nat} {s : SF} {v : Value} {al : List (Nat → Int)} (h : Kp base w kb L g s) (hv : RecsV base' v al w) (hg : w.grownBy w' v.ownBlock) :
    Kp base w' kb L g s ∧ ∀ (b : Nat) (c : Array Value) (t : TypeId), w.heap[b]? = some (.cells c t (0, 0)) → t ≠ 52 → w'.heap[b]? = some (.cells c t (0, 0)) := by
  rcases hv.2 with ⟨h1, h2⟩ | ⟨gg, cap, cur, hv2, _, hh, _⟩
  · subst h1
    have ht : Touch (fun _ => False) w w' := Touch.ofGrown hg (fun k e => by cases e)
    have hb : Below w.heap.size w w' := ht.below (Nat.le_refl _) (fun k e => e.elim)
    exact ⟨h.mono hb, fun b c t hx _ => keepB hb hx⟩
  · subst hv2
    have ht : Touch (· = gg) w w' := Touch.ofGrown hg (fun k e => by cases e; exact .inl rfl)
    have key : ∀ (b : Nat) (c : Array Value) (t : TypeId), w.heap[b]? = some (.cells c t (0, 0)) → t ≠ 52 → w'.heap[b]? = some (.cells c t (0, 0)) := fun b c t hx hne => (ht.block b (lt_of_block hx) (fun e => ne_of_types hx hh hne e)).trans hx
    exact ⟨⟨⟨key _ _ _ h.kn.box (by decide), h.kn.mo.box hh (by decide) ht⟩, h.run, Nat.le_trans h.size ht.size, h.low⟩, key⟩
theorem Bys.row5 {base : Nat} {w w' : World} {v : Value} {zs : List Int} (h : Bys base w v zs) (hk : ∀ (b : Nat) (c : Array Value) (t : TypeId), w.heap[b]? = some (.cells c t (0, 0)) → t ≠ 52 → w'.heap[b]? = some (.cells c t (0, 0))) : Bys base w' v zs := by
  refine h.keep fun b e => ?_
  rcases h.own.2 with ⟨h1, h2⟩ | ⟨g, cap, cur, hv, _, hh, _⟩
  · subst h1
    cases e
  · subst hv
    cases e
    rw [hk g cur 5 hh (by decide), hh]
end Go.Proofs.YtnjlbgolnbdkaaaGreat
