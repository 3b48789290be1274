/- Texts of the proof of Boots, one behind the other. -/
import Derived.Test.YtnjlbgolnbdkaaaGreatJ16
import Derived.RangeFuncNested
import Derived.RangeFuncWrites
import Derived.RangeFuncCalls
import Derived.Stop.RegionWithIn
import Derived.Test.YtnjlbgolnbdkaaaGreatJ15
/- The program's journal: the faults of a sector. -/
namespace Go.Proofs.YtnjlbgolnbdkaaaGreat
open Go.RowKit Go.Shelf

attribute [local go_sem] Oper.semAt_some
attribute [-go_sem] Builtin.append_

def pfTo (bs : List Int) (s : Nat) (pre : List (Fin 8)) : List (Nat → Int) := pre.flatMap fun i => if headB bs s && isFault bs s i.1 then [recOf bs s i.1] else []
theorem pfTo_hit (bs : List Int) (s : Nat) (pre : List (Fin 8)) (i : Fin 8) (h : (headB bs s && isFault bs s i.1) = true) : pfTo bs s (pre ++ [i]) = pfTo bs s pre ++ [recOf bs s i.1] := by simp at h; simp [pfTo, h]
theorem pfTo_miss (bs : List Int) (s : Nat) (pre : List (Fin 8)) (i : Fin 8) (h : (headB bs s && isFault bs s i.1) = false) : pfTo bs s (pre ++ [i]) = pfTo bs s pre := by simp at h; simp only [pfTo, List.flatMap_append, List.flatMap_cons, List.flatMap_nil, List.append_nil]; simp; exact h
theorem pfTo_le (bs : List Int) (s : Nat) (pre : List (Fin 8)) : (pfTo bs s pre).length ≤ pre.length := by
  induction pre with
  | nil => exact Nat.le_refl _
  | cons a l ih => show ((if _ then _ else _) ++ pfTo bs s l).length ≤ _; rw [List.length_append]; split <;> simp <;> omega

theorem keepsOthers_below {W W' : World} (h : Below W.heap.size W W') : KeepsOthers W W' := ⟨h.size, fun k _ hk _ => (h.block k (Array.getElem?_eq_some_iff.1 hk).1).trans hk⟩

set_option maxRecDepth 100000 in
set_option maxHeartbeats 2000000 in
theorem faults_any (x : Nat) (bs : List Int) (s : Nat) (w : World) (h : SecAt x bs s w) :
    Calls Tryz.prog 127 #[.agg #[.int .i64 s, .slice (some ⟨x, 0, none⟩) 8 8]] w fun e w' => ∃ v, e = .returned v ∧ (RecsV w.heap.size v (pfTo bs s (upto 8 8)) w' ∧ (v = .slice none 0 0 ↔ pfTo bs s (upto 8 8) = [])) ∧ Below w.heap.size w w' := by
  obtain ⟨i0, hi, hz0, hz1, hz2⟩ := info_parts Tryz.info52
  have hmx : Tryz.prog.follows .mixedOrders = true := by kernel_rfl
  refine (callsIn_wide (n := 4)).1 ?_
  refine callsIn_of_wp_marks Tryz.func127 rfl trivial ?_ rfl
  simp only [Tryz.ntmps127, List.size_toArray, List.length_cons, List.length_nil, Nat.reduceAdd, Nat.reduceSub, Array.replicate_succ, Array.replicate_zero, List.push_toArray, List.append_toArray, List.nil_append, List.cons_append]
  gi_wp2_with (refine ⟨trivial, ?_⟩; gi_at_call 172; refine (callsIn_wide.2 (entAll_any _ _)).mono ?_; rintro e w' ⟨rfl, rfl⟩)
  have hb1 : Below w.heap.size w (w.alloc (.cells #[.int .i64 s, .slice (some ⟨x, 0, none⟩) 8 8] 183)) := (Below.refl _ _).alloc (Nat.le_refl _) _
  obtain ⟨w1, hw1⟩ : ∃ w1, w1 = w.alloc (.cells #[.int .i64 s, .slice (some ⟨x, 0, none⟩) 8 8] 183) := ⟨_, rfl⟩
  have hs1 : w1.heap.size = w.heap.size + 1 := by rw [hw1]; simp
  have hA1 : w1.heap[w.heap.size]? = some (.cells #[.int .i64 s, .slice (some ⟨x, 0, none⟩) 8 8] 183 (0, 0)) := by rw [hw1]; exact heap_alloc_new w _
  rw [← hw1] at hb1 ⊢
  have hS1 := h.below hb1
  have bO := Boxed.new w1 49 (.slice none 0 0)
  have bC := Boxed.new (w1.alloc (.cells #[.slice none 0 0] 49)) 181 (.slice (some ⟨x, 0, none⟩) 8 8)
  rw [World.size_alloc] at bC
  rw [hs1] at bO bC
  have hB0 : Below (w.heap.size + 1) w1 ((w1.alloc (.cells #[.slice none 0 0] 49)).alloc (.cells #[.slice (some ⟨x, 0, none⟩) 8 8] 181)) := ((Below.refl _ w1).alloc (by omega) _).alloc (by simp; omega) _
  obtain ⟨w2, hw2⟩ : ∃ w2, w2 = (w1.alloc (.cells #[.slice none 0 0] 49)).alloc (.cells #[.slice (some ⟨x, 0, none⟩) 8 8] 181) := ⟨_, rfl⟩
  have hs2 : w2.heap.size = w.heap.size + 3 := by rw [hw2]; simp; omega
  have bO2 := bO.alloc (.cells #[.slice (some ⟨x, 0, none⟩) 8 8] 181)
  rw [← hw2] at bC hB0 bO2 ⊢
  refine wpIn_rangeFunc_ownF rfl (by omega) (gf := 199) (lb := #[.pointer (some ⟨w.heap.size + 1 + 1, 0, none⟩)]) rfl trivial (enters_of Tryz.func199 (by kernel_rfl) rfl)
    (entAll_stops _ _ trivial rfl (by omega) (w.heap.size + 1 + 1) x w2 (by omega) bC) (fun h k => k.trans h) (fun W l o o' hl _ _ _ => World.putObj_heap_other (by omega)) (Below.refl _ _) (fun _ => rfl)
    (fun pre W => (∃ v, Boxed W (w.heap.size + 1) 49 v ∧ W.ownsRow (w.heap.size + 1) 52 5 v (pfTo bs s pre).length (recsCells (pfTo bs s pre)) ∧ (v = .slice none 0 0 ↔ pfTo bs s pre = [])) ∧ Boxed W (w.heap.size + 1 + 1) 181 (.slice (some ⟨x, 0, none⟩) 8 8) ∧ Below (w.heap.size + 1) w1 W)
    (fun _ _ _ => False)
    (OwnFrom.and (Own.from (holdsRow_own (w.heap.size + 1) (w.heap.size + 1) 49 52 5 (fun pre => (pfTo bs s pre).length) (fun pre => recsCells (pfTo bs s pre)) (fun pre v => v = .slice none 0 0 ↔ pfTo bs s pre = [])) _) (OwnFrom.and (Own.from (boxed_own _ _ _) _) (ownFrom_below (by omega) (by omega))))
    (fun _ _ _ _ _ hs _ _ => hs)
    ⟨⟨_, bO2, World.ownsRow_nil _ _ _ _, by simp [pfTo]⟩, bC, hB0⟩
    (fun i => { tmps := #[.agg #[.int .i64 s, .slice (some ⟨x, 0, none⟩) 8 8], .pointer (some ⟨w.heap.size, 0, none⟩), .slice none 0 0, .pointer (some ⟨w.heap.size + 1, 0, none⟩), undef, .pointer (some ⟨x, i.1 * 6, none⟩), .pointer (some ⟨w.heap.size, 1, none⟩), .agg #[.slice (some ⟨x, 0, none⟩) 8 8], .func (.func 199) #[] #[.pointer (some ⟨w.heap.size + 1 + 1, 0, none⟩)], .int .i64 i.1, .pointer (some ⟨x, i.1 * 6, none⟩), undef, undef, undef, undef, undef, undef, undef, undef, undef, undef, undef, undef, undef, undef, undef, undef], defers := [] }) ?assign ?body ?done ?stop
  case assign =>
    intro l i W K hK
    gi_wp2
    exact hK
  case body =>
    rintro l pre i W ⟨⟨v, hv, hrow, hnil⟩, hC, hB⟩ hlt
    have hsW := hB.size
    have hAW := (hB.block w.heap.size (by omega)).trans hA1
    have a0 : W.cell? ⟨w.heap.size, 0, none⟩ = some (.int .i64 s) := by rw [cell_of_row _ _ _ _ _ _ hAW]; rfl
    have a1 : W.cell? ⟨w.heap.size, 1, none⟩ = some (.slice (some ⟨x, 0, none⟩) 8 8) := by rw [cell_of_row _ _ _ _ _ _ hAW]; rfl
    have hSW : SecAt x bs s W := hS1.below (by rw [hs1]; exact hB)
    have HV := hide hv
    have HROW := hide hrow
    have HNIL := hide hnil
    have HC := hide hC
    have HB := hide hB
    have HSW := hide hSW
    have hi8 := i.2
    obtain ⟨P2, hP2⟩ : ∃ P2 : World → Prop, P2 = fun W' => Below W.heap.size W W' := ⟨_, rfl⟩
    have HP2 := hide hP2
    have HHD : Hid (Calls Tryz.prog 125 #[.agg #[.int .i64 s, .slice (some ⟨x, 0, none⟩) 8 8]] W fun e w' => e = .returned (.bool (headB bs s)) ∧ Below W.heap.size W w') := headed_any x bs s W hSW
    have HLT := hide hlt
    have HSZW := hide hsW
    clear hv hrow hnil hC hB hSW hP2 hlt hAW hsW
    gi_wp2_with fail
    refine ⟨trivial, ?_⟩
    refine (CallsIn.inRound l (callsIn_wide.2 HHD.out)).mono ?_
    rintro e W2 ⟨rfl, hb2⟩
    have HB2 := hide hb2
    clear hb2 HHD
    cases hd : headB bs s with
    | false =>
      have HD := hide hd
      clear hd
      gi_wp2
      refine ⟨trivial, ?_⟩
      gi_wp2
      have hpf := pfTo_miss bs s pre i (by rw [HD.out]; rfl)
      refine ⟨keepsOthers_below HB2.out, HB2.out.block _ HC.out.lt, ⟨⟨v, (HB2.out.block _ HV.out.lt).trans HV.out, by rw [hpf]; exact own_keep HROW.out (fun b e => HB2.out.block b (World.ownsRow.lt HROW.out b e).2), by rw [hpf]; exact HNIL.out⟩, (HB2.out.block _ HC.out.lt).trans HC.out, HB.out.trans (HB2.out.mono (by have := HSZW.out; omega))⟩⟩
    | true =>
      have HD := hide hd
      clear hd
      have hS2 := HSW.out.below HB2.out
      have c0 : W2.cell? ⟨x, i.1 * 6, none⟩ = some (.int .i64 (entOf bs s i.1 0)) := by simpa using hS2.cell i.1 0 (by omega) (by omega)
      have c1 : W2.cell? ⟨x, i.1 * 6 + 1, none⟩ = some (.int .i64 (entOf bs s i.1 1)) := by simpa using hS2.cell i.1 1 (by omega) (by omega)
      have c2 : W2.cell? ⟨x, i.1 * 6 + 2, none⟩ = some (.int .i64 (entOf bs s i.1 2)) := by simpa using hS2.cell i.1 2 (by omega) (by omega)
      have c3 : W2.cell? ⟨x, i.1 * 6 + 3, none⟩ = some (.int .i64 (entOf bs s i.1 3)) := by simpa using hS2.cell i.1 3 (by omega) (by omega)
      have c4 : W2.cell? ⟨x, i.1 * 6 + 4, none⟩ = some (.int .i64 (entOf bs s i.1 4)) := by simpa using hS2.cell i.1 4 (by omega) (by omega)
      have c5 : W2.cell? ⟨x, i.1 * 6 + 5, none⟩ = some (.int .i64 (entOf bs s i.1 5)) := by simpa using hS2.cell i.1 5 (by omega) (by omega)
      have HIS := hide (entIs_any (entOf bs s i.1 0) (entOf bs s i.1 1) (entOf bs s i.1 2) (entOf bs s i.1 3) (entOf bs s i.1 4) (entOf bs s i.1 5) 1 W2)
      have HF : Hid (isFault bs s i.1 = (entOf bs s i.1 0 == 3 && entOf bs s i.1 1 == 1)) := rfl
      have HR : Hid (recCells (recOf bs s i.1) = [.int .i64 (entOf bs s i.1 1), .int .i64 (entOf bs s i.1 2), .int .i64 (entOf bs s i.1 3), .int .i64 (entOf bs s i.1 4), .int .i64 (entOf bs s i.1 5)]) := rfl
      clear hS2
      generalize entOf bs s i.1 0 = e0 at *
      generalize entOf bs s i.1 1 = e1 at *
      generalize entOf bs s i.1 2 = e2 at *
      generalize entOf bs s i.1 3 = e3 at *
      generalize entOf bs s i.1 4 = e4 at *
      generalize entOf bs s i.1 5 = e5 at *
      gi_wp2_with fail
      refine ⟨trivial, ?_⟩
      refine (CallsIn.inRound l (callsIn_wide.2 HIS.out)).mono ?_
      rintro e W3 ⟨rfl, hb3⟩
      have HB3 : Hid (Below W.heap.size W W3) := HB2.out.trans (hb3.mono HB2.out.size)
      have d1 : W3.cell? ⟨x, i.1 * 6 + 1, none⟩ = some (.int .i64 e1) := (hb3.cell (p := ⟨x, i.1 * 6 + 1, none⟩) (Nat.lt_of_lt_of_le HSW.out.lt HB2.out.size)).trans c1
      have d2 : W3.cell? ⟨x, i.1 * 6 + 2, none⟩ = some (.int .i64 e2) := (hb3.cell (p := ⟨x, i.1 * 6 + 2, none⟩) (Nat.lt_of_lt_of_le HSW.out.lt HB2.out.size)).trans c2
      have d3 : W3.cell? ⟨x, i.1 * 6 + 3, none⟩ = some (.int .i64 e3) := (hb3.cell (p := ⟨x, i.1 * 6 + 3, none⟩) (Nat.lt_of_lt_of_le HSW.out.lt HB2.out.size)).trans c3
      have d4 : W3.cell? ⟨x, i.1 * 6 + 4, none⟩ = some (.int .i64 e4) := (hb3.cell (p := ⟨x, i.1 * 6 + 4, none⟩) (Nat.lt_of_lt_of_le HSW.out.lt HB2.out.size)).trans c4
      have d5 : W3.cell? ⟨x, i.1 * 6 + 5, none⟩ = some (.int .i64 e5) := (hb3.cell (p := ⟨x, i.1 * 6 + 5, none⟩) (Nat.lt_of_lt_of_le HSW.out.lt HB2.out.size)).trans c5
      clear hb3 HIS c0 c1 c2 c3 c4 c5 a0 a1
      cases hf : (e0 == 3 && e1 == 1) with
      | false =>
        have HD2 := hide hf
        clear hf
        gi_wp2
        have hpf := pfTo_miss bs s pre i (by rw [HF.out, HD2.out, Bool.and_false])
        refine ⟨keepsOthers_below HB3.out, HB3.out.block _ HC.out.lt, ⟨⟨v, (HB3.out.block _ HV.out.lt).trans HV.out, by rw [hpf]; exact own_keep HROW.out (fun b e => HB3.out.block b (World.ownsRow.lt HROW.out b e).2), by rw [hpf]; exact HNIL.out⟩, (HB3.out.block _ HC.out.lt).trans HC.out, HB.out.trans (HB3.out.mono (by have := HSZW.out; omega))⟩⟩
      | true =>
        have HD2 := hide hf
        clear hf
        have hpl := pfTo_le bs s pre
        have hv3 : Boxed W3.drew (w.heap.size + 1) 49 v := (HB3.out.block _ HV.out.lt).trans HV.out
        have hC3 : Boxed W3.drew (w.heap.size + 1 + 1) 181 (.slice (some ⟨x, 0, none⟩) 8 8) := (HB3.out.block _ HC.out.lt).trans HC.out
        have hr3 : W3.drew.ownsRow (w.heap.size + 1) 52 5 v (pfTo bs s pre).length (recsCells (pfTo bs s pre)) := own_keep HROW.out (fun b e => HB3.out.block b (World.ownsRow.lt HROW.out b e).2)
        have hz3 : w.heap.size + 1 ≤ W3.drew.heap.size := by have := HSZW.out; have := HB3.out.size; show _ ≤ W3.heap.size; omega
        obtain ⟨v', w4, hrun, hown', hgrow, hnil'⟩ := run_append_own (P := Tryz.prog) (W3.drew.alloc (.cells #[.int .i64 e1, .int .i64 e2, .int .i64 e3, .int .i64 e4, .int .i64 e5] 52)) (w.heap.size + 1) 49 49 52 i0 _ 5 40 Tryz.underlying49 hi hz0 hz1 hz2 rfl (by decide) v _ _ (hr3.alloc _) ⟨W3.heap.size, 0, none⟩ 1 1 [.int .i64 e1, .int .i64 e2, .int .i64 e3, .int .i64 e4, .int .i64 e5] rfl (by have := news_at W3.drew #[.int .i64 e1, .int .i64 e2, .int .i64 e3, .int .i64 e4, .int .i64 e5] 52; simpa using this) (ints_one _ (by simp)) (by have := HLT.out; unfold maxLen; omega) (by have := HLT.out; omega) (Nat.le_trans hz3 (by simp))
        obtain ⟨g', cap', rfl⟩ := ownsRow_succ hown'
        have hrun2 : (Builtin.append_ #[49, 49] 49 #[v, .slice (some ⟨W3.heap.size, 0, none⟩) 1 1]).run Tryz.prog (W3.alloc (.cells #[.int .i64 e1, .int .i64 e2, .int .i64 e3, .int .i64 e4, .int .i64 e5] 52)).drew = _ := hrun
        obtain ⟨hv4, hv5, hr5, hk5, hb5⟩ := hv3.appended (by decide) hr3 hz3 (Nat.le_refl _) hown' hgrow
        have hC4 : Boxed w4 (w.heap.size + 1 + 1) 181 (.slice (some ⟨x, 0, none⟩) 8 8) := (hC3.alloc _).kept hgrow (hC3.not_row (by decide) hr3)
        have hC5 := hC4.other (B' := w.heap.size + 1) (by omega) (.slice (some ⟨g', 0, none⟩) ((pfTo bs s pre).length + 1) cap')
        have hc3 : W3.cell? ⟨w.heap.size + 1, 0, none⟩ = some v := hv3.cell
        have hc3a : ∀ o, (W3.alloc o).cell? ⟨w.heap.size + 1, 0, none⟩ = some v := fun o => (hv3.alloc o).cell
        have hc4 := hv4.cell
        have hf4 := hv4.frozen
        have hpf := pfTo_hit bs s pre i (by rw [HF.out, HD2.out, HD.out]; rfl)
        have HEND : Hid (KeepsOthers W (w4.setCell ⟨w.heap.size + 1, 0, none⟩ (.slice (some ⟨g', 0, none⟩) ((pfTo bs s pre).length + 1) cap')) ∧ (w4.setCell ⟨w.heap.size + 1, 0, none⟩ (.slice (some ⟨g', 0, none⟩) ((pfTo bs s pre).length + 1) cap')).heap[w.heap.size + 1 + 1]? = W.heap[w.heap.size + 1 + 1]? ∧ ((∃ v, Boxed (w4.setCell ⟨w.heap.size + 1, 0, none⟩ (.slice (some ⟨g', 0, none⟩) ((pfTo bs s pre).length + 1) cap')) (w.heap.size + 1) 49 v ∧ (w4.setCell ⟨w.heap.size + 1, 0, none⟩ (.slice (some ⟨g', 0, none⟩) ((pfTo bs s pre).length + 1) cap')).ownsRow (w.heap.size + 1) 52 5 v (pfTo bs s (pre ++ [i])).length (recsCells (pfTo bs s (pre ++ [i]))) ∧ (v = .slice none 0 0 ↔ pfTo bs s (pre ++ [i]) = [])) ∧ Boxed (w4.setCell ⟨w.heap.size + 1, 0, none⟩ (.slice (some ⟨g', 0, none⟩) ((pfTo bs s pre).length + 1) cap')) (w.heap.size + 1 + 1) 181 (.slice (some ⟨x, 0, none⟩) 8 8) ∧ Below (w.heap.size + 1) w1 (w4.setCell ⟨w.heap.size + 1, 0, none⟩ (.slice (some ⟨g', 0, none⟩) ((pfTo bs s pre).length + 1) cap')))) := by
          refine ⟨(keepsOthers_below HB3.out.drew).trans hk5, hC5.trans HC.out.symm, ⟨_, hv5, ?_, ?_⟩, hC5, HB.out.trans ((HB3.out.drew.mono (by have := HSZW.out; omega)).trans hb5)⟩
          · rw [hpf, List.length_append, recsCells_append, show recsCells [recOf bs s i.1] = recCells (recOf bs s i.1) from by simp [recsCells], HR.out]
            exact hr5
          · rw [hpf]
            simp
        clear hv3 hC3 hr3 hz3 hown' hgrow hnil' hv4 hv5 hr5 hk5 hb5 hC4 hC5 hpf hpl hrun
        obtain ⟨K, hK⟩ : ∃ K : Nat, K = (pfTo bs s pre).length := ⟨_, rfl⟩
        rw [← hK] at hrun2 HEND
        have HKK := hide hK
        clear hK
        gi_wp2_with fail
        gi_region_with fail
        all_goals gi_wp2
        all_goals exact HEND.out
  case done =>
    rintro D ys W hD rfl ⟨⟨v, hv, hrow, hnil⟩, hC, hB⟩ hK
    have hc := hv.cell
    gi_wp2
    refine ⟨by simp, .inl ⟨_, _, rfl, run_takeDeferred hK, ?_⟩⟩
    refine ⟨_, results_tmp rfl _ _ _, v, rfl, ⟨own_low (ownsRow_putObj hrow _ hK rfl) (by omega), hnil⟩, ?_⟩
    exact hb1.trans ((hB.mono (by omega)).trans (belowK_b (w := w) (Nat.le_refl _) W D _ _ (by omega) hK rfl rfl))
  case stop =>
    rintro D c pre W _ _ h _
    exact h.elim
end Go.Proofs.YtnjlbgolnbdkaaaGreat
/- The document's reading of the journal: Log, Restarts. -/
namespace Go.Proofs.YtnjlbgolnbdkaaaGreat
open Go.RowKit

theorem wpList_append_nil {P : Program} (w : World) {ops : Array Oper} {rest : List Oper} {o : Oper} {a : Act} {Q : Exit → Act → World → Prop}
    (hg : o.guard = none) (s x : Operand) (t : TypeId) (hop : o.op = Op.call { callee := Callee.builtin Builtin.append, args := #[s, x], argTypes := #[t, t] })
    (base : Nat) (e : TypeId) (i : TypeInfo) (size : Nat) (h1 : P.underlying t = some (.slice e)) (h2 : P.info? e = some i)
    (v : Value) (n : Nat) (xs : List Value) (hs : a.eval s = v) (hown : w.ownsRow base e size v n xs) (hx : a.eval x = .slice none 0 0)
    (hK : wpList P ops Q rest (a.put o.dst v) w) : wpList P ops Q (o :: rest) a w := by
  refine wpList_plain hg fun K hK' => ?_
  have hrun := run_append_owned_none (P := P) (w := w) base t o.type e i size h1 h2 v n xs hown
  unfold Oper.wp
  simp [execOp, hop, resolve, invoke, builtin, hs, hx, hrun, Result.andThen]
  exact hK' _ _ hK
theorem RecsV.below {base : Nat} {v : Value} {l : List (Nat → Int)} {w w' : World} (h : RecsV base v l w) (hb : Below w.heap.size w w') : RecsV base v l w' := own_keep h (fun b e => hb.block b (World.ownsRow.lt h b e).2)

set_option maxRecDepth 100000 in
set_option maxHeartbeats 2000000 in
theorem rlog_any (g : Nat) (bs : List Int) (left res : Int) (dead : Bool) (done : Int) (w : World) (h : FlashAt w g bs left res dead done) :
    Calls Tryz.prog 97 #[.pointer (some ⟨g, 0, none⟩)] w fun e w' => ∃ v, e = .returned v ∧ (RecsV w.heap.size v (logOf bs) w' ∧ (logOf bs = [] → v = .slice none 0 0)) ∧ Below w.heap.size w w' := by
  obtain ⟨i0, hi, hz0, hz1, hz2⟩ := info_parts Tryz.info52
  have HBY := hide (bytes_any g bs left res dead done w h)
  have hB := h.bytes
  have hrng := sectorsOf_rng bs
  have HLO : Hid (logOf bs = faultsOf bs (sectorsOf bs).2 ++ faultsOf bs (sectorsOf bs).1) := rfl
  have hl1 := faultsOf_le bs (sectorsOf bs).1
  have hl2 := faultsOf_le bs (sectorsOf bs).2
  clear h
  go_enter Tryz.func97, Tryz.ntmps97
  go_wp2_with fail
  refine HBY.out.mono ?_
  rintro e w1 ⟨x, cap, rfl, hown, hb1⟩
  have hA := own_rarg hown hB
  have hs1 := hb1.size
  have HA := hide hA
  have HB1 := hide hb1
  have HS := hide (rsectors_any x cap bs w1 hA)
  have HFA : Hid (∀ W s, Below w1.heap.size w1 W → (-1 ≤ s ∧ s < 2) → Calls Tryz.prog 138 #[.slice (some ⟨x, 0, none⟩) 256 cap, .int .i64 s] W fun e w' => ∃ v, e = .returned v ∧ (RecsV W.heap.size v (faultsOf bs s) w' ∧ (faultsOf bs s = [] → v = .slice none 0 0)) ∧ Below W.heap.size W w') := fun W s hW hs => rfaults_any x cap bs s W hs (hA.below hW)
  clear hown hb1 hA HBY hB
  generalize (sectorsOf bs).1 = a at HS HLO hrng hl1
  generalize (sectorsOf bs).2 = o at HS HLO hrng hl2
  go_wp2_with fail
  refine HS.out.mono ?_
  rintro e w2 ⟨rfl, hb2⟩
  have hs2 := hb2.size
  have HB2 := hide hb2
  have HF1 := hide (HFA.out w2 o hb2 hrng.2)
  clear hb2 HS
  generalize faultsOf bs o = lo at HF1 HLO hl2
  go_wp2_with fail
  refine HF1.out.mono ?_
  rintro e w3 ⟨v3, rfl, ⟨hV3, hN3⟩, hb3⟩
  have hs3 := hb3.size
  have HB3 : Hid (Below w1.heap.size w1 w3) := HB2.out.trans (hb3.mono hs2)
  have HF2 := hide (HFA.out w3 a HB3.out hrng.1)
  have HV3 := hide hV3
  have HN3 := hide hN3
  clear hV3 hN3 hb3 HF1 HFA
  obtain ⟨ad3, c3, rfl⟩ := own_slice HV3.out
  generalize faultsOf bs a = la at HF2 HLO hl1
  go_wp2_with fail
  refine HF2.out.mono ?_
  rintro e w4 ⟨v4, rfl, ⟨hV4, hN4⟩, hb4⟩
  have hs4 := hb4.size
  have HV34 : Hid (RecsV w2.heap.size (.slice ad3 lo.length c3) lo w4) := HV3.out.below hb4
  have HB4 : Hid (Below w.heap.size w w4) := HB1.out.trans ((HB3.out.trans (hb4.mono (by omega))).mono hs1)
  have HV4 := hide hV4
  have HN4 := hide hN4
  clear hV4 hN4 hb4 HF2
  by_cases hla : la = []
  · obtain rfl := HN4.out hla
    subst hla
    have HRES : Hid (RecsV w.heap.size (.slice ad3 lo.length c3) (logOf bs) w4 ∧ (logOf bs = [] → (Value.slice ad3 lo.length c3) = .slice none 0 0)) := by
      rw [HLO.out, List.append_nil]
      exact ⟨own_low HV34.out (by omega), HN3.out⟩
    go_wp2_with (at_builtin; go_must (refine wpList_append_nil _ rfl (.tmp 21) (.tmp 22) 49 rfl w2.heap.size 52 i0 5 Tryz.underlying49 hi (.slice ad3 lo.length c3) lo.length (recsCells lo) rfl HV34.out rfl ?_))
    go_wp2
    go_ret
    exact ⟨_, rfl, HRES.out, HB4.out⟩
  · obtain ⟨ad4, c4, hv4⟩ := own_slice HV4.out
    subst hv4
    have hpos : 0 < la.length := List.length_pos_iff.2 hla
    obtain ⟨g4, hg4⟩ : ∃ g4, ad4 = some ⟨g4, 0, none⟩ := by
      rcases HV4.out.2 with ⟨_, h2⟩ | ⟨g4, cap4, cur, hv, _⟩
      · omega
      · simp at hv; exact ⟨g4, hv.1⟩
    subst hg4
    have HNEW : Hid (∀ j u, (recsCells la)[j]? = some u → w4.cell? ((⟨g4, 0, none⟩ : Addr).add j) = some u) := fun j u hu => World.ownsRow.cells HV4.out rfl j u hu
    go_wp2_with (at_builtin; go_must (refine wpList_append_lies _ rfl (.tmp 21) (.tmp 22) 49 rfl w2.heap.size 52 i0 _ 5 40 Tryz.underlying49 hi hz0 hz1 hz2 rfl (by decide) (.slice ad3 lo.length c3) lo.length (recsCells lo) rfl HV34.out ⟨g4, 0, none⟩ la.length c4 (recsCells la) (by rfl) (recsCells_length la) HNEW.out (recsCells_one la) hpos (by unfold maxLen; omega) (by omega) (by omega) _ rfl ?_))
    intro g5 c5 w5 hown5 hgrow5 _ _
    have HRES : Hid ((RecsV w.heap.size (.slice (some ⟨g5, 0, none⟩) (lo.length + la.length) c5) (logOf bs) w5 ∧ (logOf bs = [] → (Value.slice (some ⟨g5, 0, none⟩) (lo.length + la.length) c5) = .slice none 0 0)) ∧ Below w.heap.size w w5) := by
      refine ⟨⟨?_, fun hh => ?_⟩, HB4.out.grown hgrow5 (by omega) (fun b e => by have := (World.ownsRow.lt HV34.out b e).1; omega)⟩
      · rw [HLO.out]
        unfold RecsV
        rw [recsCells_append, List.length_append]
        exact own_low hown5 (by omega)
      · rw [HLO.out] at hh
        exact absurd (List.append_eq_nil_iff.1 hh).2 hla
    clear hown5 hgrow5
    go_wp2
    go_ret
    exact ⟨_, rfl, HRES.out.1, HRES.out.2⟩
end Go.Proofs.YtnjlbgolnbdkaaaGreat
