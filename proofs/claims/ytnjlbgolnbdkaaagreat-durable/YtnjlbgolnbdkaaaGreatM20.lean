/- Texts of the proofs of Watched and Clocked, one behind the other. -/
import Derived.Test.YtnjlbgolnbdkaaaGreatM19
import Derived.Test.YtnjlbgolnbdkaaaGreatM11
import Derived.Test.YtnjlbgolnbdkaaaGreatM09
import Derived.Deep.WholeRow
import Derived.Conc.SmallLaws
/- The program's machine: Inject; the kernel's Tick and Inject. -/
namespace Go.Proofs.YtnjlbgolnbdkaaaGreat
open Go.RowKit Go.Shelf

theorem mTick_any (L : MLay) (g : Nat) (st : RSt) (F : Fl) (n : Int) (w : World) (h : Mo w L g st F) (hrun : StRun st) (hnow : st.now + 1000 ≤ 1000000000000) :
    Calls Tryz.prog 37 #[.pointer (some ⟨L.mb, 0, none⟩), .int .i64 n] w fun e w' => e = .returned (.tuple #[.int .i64 (tickCall n (st, F)).1.1, .int .i64 (tickCall n (st, F)).1.2]) ∧ Mo w' L g (tickCall n (st, F)).2.1 (tickCall n (st, F)).2.2 ∧ Touch (Dm L g st) w w' := by
  unfold tickCall
  by_cases h1 : n < 0 ∨ 1000 < n
  · rw [if_pos h1]
    exact mTick_no L g st F n w h h1
  · rw [if_neg h1]
    cases hd : st.dead
    · rw [if_neg (by simp)]
      have := mTick_go L g st F n.toNat w h hrun (by omega) hd hnow
      rw [show ((n.toNat : Nat) : Int) = n by omega] at this
      exact this
    · rw [if_pos rfl]
      exact mTick_dead L g st F n w h h1 hd
end Go.Proofs.YtnjlbgolnbdkaaaGreat
/- Texts of the proof of Boots, one behind the other. -/
namespace Go.Proofs.YtnjlbgolnbdkaaaGreat
open Go.RowKit
attribute [-go_sem] Instr.storeAt

theorem stateCells_len (l : List RProc) : (l.flatMap stateCells).length = l.length * 3 := by
  induction l with
  | nil => rfl
  | cons a l ih => rw [List.flatMap_cons, List.length_append, ih]; show 3 + _ = _; simp; omega
theorem stateCells_one (l : List RProc) : ∀ u ∈ l.flatMap stateCells, u.oneCell' = true := by
  intro u hu
  obtain ⟨p, _, hp⟩ := List.mem_flatMap.1 hu
  simp [stateCells] at hp
  rcases hp with rfl | rfl | rfl <;> rfl
theorem intCells_one (l : List Int) : ∀ u ∈ l.map (Value.int .i64), u.oneCell' = true := by
  intro u hu
  obtain ⟨z, _, rfl⟩ := List.mem_map.1 hu
  rfl
theorem Tryz.size43 : (Tryz.prog.info? 43).map (·.size) = some 4 := by kernel_rfl

set_option maxRecDepth 100000 in
set_option maxHeartbeats 40000000 in
theorem view_any (L : MLay) (g : Nat) (st : RSt) (i : Nat) (rs : Int) (w : World) (hm : MachAt w L g st) (hok : StOk st) (hi : i < st.parts.length) :
    Calls Tryz.prog 74 #[.pointer (some ⟨L.pb, i * 14, none⟩), .int .i64 rs] w fun e w' => ∃ y1 c1 y2 c2, e = .returned (.agg #[.int .i64 (st.parts.getD i default).mode, .int .i64 rs, .slice (some ⟨y1, 0, none⟩) (st.parts.getD i default).words.length c1, .slice (some ⟨y2, 0, none⟩) (st.parts.getD i default).procs.length c2]) ∧
      w'.ownsRow w.heap.size 3 1 (.slice (some ⟨y1, 0, none⟩) (st.parts.getD i default).words.length c1) (st.parts.getD i default).words.length ((st.parts.getD i default).words.map (Value.int .i64)) ∧ w'.ownsRow w.heap.size 47 3 (.slice (some ⟨y2, 0, none⟩) (st.parts.getD i default).procs.length c2) (st.parts.getD i default).procs.length ((st.parts.getD i default).procs.flatMap stateCells) ∧ Below w.heap.size w w' := by
  obtain ⟨w2, hw2⟩ : ∃ w2, w2 = (w.alloc (.cells #[.pointer (some ⟨L.pb, i * 14, none⟩)] 158)).alloc (.cells #[.int .i64 0, .int .i64 0, .slice none 0 0, .slice none 0 0] 43) := ⟨_, rfl⟩
  have hs2 : w2.heap.size = w.heap.size + 2 := by rw [hw2]; simp
  have hb2 : Below w.heap.size w w2 := by rw [hw2]; exact ((Below.refl _ _).alloc (Nat.le_refl _) _).alloc (by simp) _
  have hA2 : w2.heap[w.heap.size]? = some (.cells #[.pointer (some ⟨L.pb, i * 14, none⟩)] 158 (0, 0)) := by rw [hw2, Below.heap_alloc _ _ _ (by simp)]; exact heap_at rfl
  have hR2 : w2.heap[w.heap.size + 1]? = some (.cells #[.int .i64 0, .int .i64 0, .slice none 0 0, .slice none 0 0] 43 (0, 0)) := by rw [hw2]; exact heap_at (by simp)
  have q0 : w2.cell? ⟨w.heap.size, 0, none⟩ = some (.pointer (some ⟨L.pb, i * 14, none⟩)) := by rw [cell_of_row _ _ _ _ _ _ hA2]; rfl
  have hm2 := hm.below hb2
  have q1 : w2.cell? ⟨L.pb, i * 14 + 11, none⟩ = some (.slice (some ⟨L.pr i, 0, none⟩) (st.parts.getD i default).procs.length (st.parts.getD i default).procs.length) := by rw [hm2.cellP i 11 hi (by omega)]; rfl
  have HLN := hide (procLen_any (L.pr i) (st.parts.getD i default).procs.length w2)
  have HST : Hid (∀ W, Below w2.heap.size w2 W → Calls Tryz.prog 108 #[.int .i64 (st.parts.getD i default).procs.length, .func (.func 110) #[] #[.pointer (some ⟨w.heap.size, 0, none⟩)]] W fun e w' => ∃ y, e = .returned (.agg #[.slice (some ⟨y, 0, none⟩) (st.parts.getD i default).procs.length (st.parts.getD i default).procs.length]) ∧ W.heap.size ≤ y ∧ w'.heap[y]? = some (.cells ((st.parts.getD i default).procs.flatMap stateCells).toArray 47 (0, 0)) ∧ Below W.heap.size W w') := fun W hW => states_any w.heap.size L g st i W (hm2.below hW) hok hi ((cell_same (hW.block _ (lt_of_heap hA2)) 0).trans q0)
  have hnp := hok.np i hi
  have hnw := hok.nw i hi
  have HC : Hid (∀ W, Below w2.heap.size w2 W → W.cell? ⟨L.pb, i * 14 + 9, none⟩ = some (.int .i64 (st.parts.getD i default).mode) ∧ W.cell? ⟨L.pb, i * 14 + 10, none⟩ = some (.slice (some ⟨L.wd i, 0, none⟩) (st.parts.getD i default).words.length (st.parts.getD i default).words.length) ∧ W.heap[L.wd i]? = some (.cells ((st.parts.getD i default).words.map (Value.int .i64)).toArray 3 (0, 0))) := fun W hW => ⟨by rw [(hm2.below hW).cellP i 9 hi (by omega)]; rfl, by rw [(hm2.below hW).cellP i 10 hi (by omega)]; rfl, (hm2.below hW).words i hi⟩
  have HB2 := hide hb2
  have HA2 := hide hA2
  have HR2 := hide hR2
  have HW2 := hide hw2
  have q1w : w.cell? ⟨L.pb, i * 14 + 11, none⟩ = some (.slice (some ⟨L.pr i, 0, none⟩) (st.parts.getD i default).procs.length (st.parts.getD i default).procs.length) := by rw [hm.cellP i 11 hi (by omega)]; rfl
  have hlp := lt_of_cell q1w
  clear hm hm2 hok hb2 hA2 hR2 hw2
  have hll : (st.parts.getD i default).words.length = (st.parts.getD i default).words.length := rfl
  generalize (st.parts.getD i default).mode = mo at *
  generalize hwl : (st.parts.getD i default).words = ws at *
  generalize hpl : (st.parts.getD i default).procs = ps at *
  have HWL := hide hwl
  have HPL := hide hpl
  clear hwl hpl hll hi
  generalize hnw' : ws.length = nw at *
  generalize hnp' : ps.length = np at *
  have HNW := hide hnw'
  have HNP := hide hnp'
  generalize i * 14 = o at *
  generalize L.pb = pb at *
  generalize L.wd i = xw at *
  generalize L.pr i = xp at *
  clear hnw' hnp'
  go_enter Tryz.func74, Tryz.ntmps74
  go_wp2_with fail
  rw [← HW2.out]
  refine HLN.out.mono ?_
  rintro e w3 ⟨rfl, hb3⟩
  have HB3 := hide hb3
  have HS3 := hide (HST.out w3 hb3)
  clear hb3 HLN HST
  go_wp2_with fail
  refine HS3.out.mono ?_
  rintro e w4 ⟨ys, rfl, hy, hys, hb4⟩
  have hb24 : Below w2.heap.size w2 w4 := HB3.out.trans (hb4.mono HB3.out.size)
  obtain ⟨sb, hsb⟩ : ∃ sb, sb = w4.heap.size := ⟨_, rfl⟩
  obtain ⟨w5, hw5⟩ : ∃ w5, w5 = w4.alloc (.cells #[.slice (some ⟨ys, 0, none⟩) np np] 213) := ⟨_, rfl⟩
  have hb45 : Below w4.heap.size w4 w5 := by rw [hw5]; exact (Below.refl _ _).alloc (Nat.le_refl _) _
  have hb25 : Below w2.heap.size w2 w5 := hb24.trans (hb45.mono hb24.size)
  have hsb5 : w5.heap[sb]? = some (.cells #[.slice (some ⟨ys, 0, none⟩) np np] 213 (0, 0)) := by rw [hw5]; exact heap_at hsb
  obtain ⟨P, hP⟩ : ∃ P : World → Prop, P = fun W => Below w5.heap.size w5 W := ⟨_, rfl⟩
  have HP5 : Hid (P w5) := by show P w5; rw [hP]; exact Below.refl _ _
  have HPb : Hid (∀ W, P W → Below w5.heap.size w5 W) := fun W h => by rw [hP] at h; exact h
  have HPk : Hid (∀ W W', P W → Below W.heap.size W W' → P W') := fun W W' h hb => by rw [hP] at h ⊢; exact h.trans (hb.mono h.size)
  have HPd : Hid (∀ W, P W → P W.drew) := fun W h => by rw [hP] at h ⊢; exact h.drew
  have HP2 : Hid (∀ W, P W → Below w2.heap.size w2 W) := fun W hW => hb25.trans ((HPb.out W hW).mono hb25.size)
  have HPC : Hid (∀ W, P W → W.cell? ⟨w.heap.size, 0, none⟩ = some (.pointer (some ⟨pb, o, none⟩)) ∧ W.cell? ⟨pb, o + 9, none⟩ = some (.int .i64 mo) ∧ W.cell? ⟨pb, o + 10, none⟩ = some (.slice (some ⟨xw, 0, none⟩) nw nw) ∧ W.cell? ⟨sb, 0, none⟩ = some (.slice (some ⟨ys, 0, none⟩) np np)) := fun W hW => ⟨by rw [cell_of_row _ _ _ _ _ _ (keepB (HP2.out W hW) HA2.out)]; rfl, (HC.out W (HP2.out W hW)).1, (HC.out W (HP2.out W hW)).2.1, by rw [cell_of_row _ _ _ _ _ _ (keepB (HPb.out W hW) hsb5)]; rfl⟩
  have HCW : Hid (∀ W, P W → Calls Tryz.prog 111 #[.agg #[.slice (some ⟨xw, 0, none⟩) nw nw]] W fun e w' => ∃ y cap, e = .returned (.slice (some ⟨y, 0, none⟩) nw cap) ∧ w'.ownsRow W.heap.size 3 1 (.slice (some ⟨y, 0, none⟩) nw cap) nw (ws.map (Value.int .i64)) ∧ Below W.heap.size W w' ∧ P w') := fun W hW => (copyInts_any xw nw _ W (by rw [List.length_map, HNW.out]; omega) (intCells_one ws) hnw.1 hnw.2 (HC.out W (HP2.out W hW)).2.2).mono (fun e w' ⟨y, cap, he, ho, hb⟩ => ⟨y, cap, he, ho, hb, HPk.out W w' hW hb⟩)
  have HCS : Hid (∀ W, P W → Calls Tryz.prog 112 #[.agg #[.slice (some ⟨ys, 0, none⟩) np np]] W fun e w' => ∃ y cap, e = .returned (.slice (some ⟨y, 0, none⟩) np cap) ∧ w'.ownsRow W.heap.size 47 3 (.slice (some ⟨y, 0, none⟩) np cap) np (ps.flatMap stateCells) ∧ Below W.heap.size W w' ∧ P w') := fun W hW => (copyStates_any ys np _ W (by rw [stateCells_len, HNP.out]) (stateCells_one ps) hnp.1 (by omega) (keepB (HPb.out W hW) (keepB hb45 hys))).mono (fun e w' ⟨y, cap, he, ho, hb⟩ => ⟨y, cap, he, ho, hb, HPk.out W w' hW hb⟩)
  have HRB : Hid (∀ W, P W → W.heap[w.heap.size + 1]? = some (.cells #[.int .i64 0, .int .i64 0, .slice none 0 0, .slice none 0 0] 43 (0, 0))) := fun W hW => keepB (HP2.out W hW) HR2.out
  have HPW : Hid (∀ W, P W → Below w.heap.size w W) := fun W hW => HB2.out.trans ((HP2.out W hW).mono (by omega))
  have HW5 := hide hw5
  have HSB := hide hsb
  have HPS : Hid (∀ W, P W → w2.heap.size ≤ W.heap.size) := fun W hW => (HP2.out W hW).size
  have HSBL : Hid (sb < w5.heap.size ∧ w.heap.size + 1 < sb) := ⟨lt_of_heap hsb5, by have := hb24.size; omega⟩
  clear hy hys hb4 hb24 hsb hw5 hb45 hb25 hsb5 hP HS3
  obtain ⟨F, hF⟩ : ∃ F : World → Nat → Nat → Nat → Nat → World, F = fun W y1 c1 y2 c2 => W.setCells (w.heap.size + 1) 0 [.int .i64 mo, .int .i64 rs, .slice (some ⟨y1, 0, none⟩) nw c1, .slice (some ⟨y2, 0, none⟩) np c2] := ⟨_, rfl⟩
  have HSTO : Hid (∀ W y1 c1 y2 c2, P W → (Instr.storeAt 43 (.pointer (some ⟨w.heap.size + 1, 0, none⟩)) (.agg #[.int .i64 mo, .int .i64 rs, .slice (some ⟨y1, 0, none⟩) nw c1, .slice (some ⟨y2, 0, none⟩) np c2])).run Tryz.prog W = .ok () (F W y1 c1 y2 c2)) := fun W y1 c1 y2 c2 hW => by
    rw [hF]
    exact run_storeAt_mid (P := Tryz.prog) W (w.heap.size + 1) 0 43 _ (there_of_block (HRB.out W hW) 4 (by decide)) (by rw [Tryz.size43]; rfl) (by simp [Value.oneCell'])
  have HF : Hid (∀ W y1 c1 y2 c2, P W → (F W y1 c1 y2 c2).heap[w.heap.size + 1]? = some (.cells #[.int .i64 mo, .int .i64 rs, .slice (some ⟨y1, 0, none⟩) nw c1, .slice (some ⟨y2, 0, none⟩) np c2] 43 (0, 0)) ∧ Touch (· = w.heap.size + 1) W (F W y1 c1 y2 c2)) := fun W y1 c1 y2 c2 hW => by
    rw [hF]
    exact ⟨setCells_whole _ (HRB.out W hW) rfl, touch_setCells _ _ _ _⟩
  have HFC : Hid (∀ W y1 c1 y2 c2, P W → (F W y1 c1 y2 c2).cell? ⟨w.heap.size, 0, none⟩ = some (.pointer (some ⟨pb, o, none⟩)) ∧ (F W y1 c1 y2 c2).cell? ⟨pb, o + 9, none⟩ = some (.int .i64 mo) ∧ (F W y1 c1 y2 c2).cell? ⟨pb, o + 10, none⟩ = some (.slice (some ⟨xw, 0, none⟩) nw nw) ∧ (F W y1 c1 y2 c2).cell? ⟨sb, 0, none⟩ = some (.slice (some ⟨ys, 0, none⟩) np np)) := fun W y1 c1 y2 c2 hW => by
    obtain ⟨a0, a1, a2, a3⟩ := HPC.out W hW
    have t := (HF.out W y1 c1 y2 c2 hW).2
    have hne : pb ≠ w.heap.size + 1 := by
      rintro rfl
      have h1 := (HC.out w2 (Below.refl _ _)).1
      rw [cell_of_row _ _ _ _ _ _ HR2.out] at h1
      have := (Array.getElem?_eq_some_iff.1 h1).1
      simp at this
      omega
    exact ⟨(cell_same (t.block _ (lt_of_cell a0) (by omega)) _).trans a0, (cell_same (t.block _ (lt_of_cell a1) hne) _).trans a1, (cell_same (t.block _ (lt_of_cell a1) hne) _).trans a2, (cell_same (t.block _ (lt_of_cell a3) (by have := HSBL.out; omega)) _).trans a3⟩
  have hsto : (Instr.storeAt 213 (.pointer (some ⟨w4.heap.size, 0, none⟩)) (.agg #[.slice (some ⟨ys, 0, none⟩) np np])).run Tryz.prog (w4.alloc (.cells #[.slice none 0 0] 213)) = .ok () (w4.alloc (.cells #[.slice (some ⟨ys, 0, none⟩) np np] 213)) := run_storeAt_new w4 213 _ _ (by kernel_rfl) rfl (by simp [Value.oneCell'])
  clear hF
  obtain ⟨r0, r1, r2, r3⟩ := HPC.out _ HP5.out
  go_wp2_with fail
  rw [← HW5.out, ← HSB.out]
  go_region_held3 (fun w' => w'.cell? ⟨w.heap.size, 0, none⟩ = some (.pointer (some ⟨pb, o, none⟩)) ∧ w'.cell? ⟨pb, o + 9, none⟩ = some (.int .i64 mo) ∧ w'.cell? ⟨pb, o + 10, none⟩ = some (.slice (some ⟨xw, 0, none⟩) nw nw) ∧ w'.cell? ⟨sb, 0, none⟩ = some (.slice (some ⟨ys, 0, none⟩) np np))
    ((first | exact HPC.out _ HP5.out | exact HPC.out _ (HPd.out _ HP5.out) | exact HPC.out _ (by assumption) | exact HFC.out _ _ _ _ _ (by assumption)))
    (first
      | (go_at_call 111; refine (HCW.out _ (by first | assumption | exact HPd.out _ HP5.out)).mono ?_; rintro e uw ⟨y1, c1, rfl, hw1, hw2, hw6⟩)
      | (go_at_call 112; refine (HCS.out _ (by first | assumption | exact HPd.out _ HP5.out)).mono ?_; rintro e us ⟨y2, c2, rfl, hs1, hs2', hs6⟩; have hstU := fun a b c d => HSTO.out us a b c d hs6))
  all_goals
    go_wp2
    obtain ⟨hf1, hf2⟩ := HF.out us y1 c1 y2 c2 hs6
    have hb6 := HPW.out us hs6
    have hz := HPS.out us hs6
    have hzw := HPS.out uw hw6
    have hz5 := HPS.out _ (HPd.out _ HP5.out)
    refine bodyPost_ret (v := .agg #[.int .i64 mo, .int .i64 rs, .slice (some ⟨y1, 0, none⟩) nw c1, .slice (some ⟨y2, 0, none⟩) np c2]) (res_cell Tryz.results74 _ _ _ (by rfl) hf1 Tryz.underlying43 (by rw [Tryz.size43]; rfl)) rfl ?_
    refine ⟨y1, c1, y2, c2, rfl, ?_, ?_, hb6.trans (hf2.below hb6.size (fun k hk => by omega))⟩
    · refine own_low (own_keep (own_keep hw1 (fun b e => hs2'.block b (World.ownsRow.lt hw1 b e).2)) (fun b e => hf2.block b (Nat.lt_of_lt_of_le (World.ownsRow.lt hw1 b e).2 hs2'.size) (by have := (World.ownsRow.lt hw1 b e).1; omega))) (by omega)
    · refine own_low (own_keep hs1 (fun b e => hf2.block b (World.ownsRow.lt hs1 b e).2 (by have := (World.ownsRow.lt hs1 b e).1; omega))) (by omega)
end Go.Proofs.YtnjlbgolnbdkaaaGreat
namespace Go.Proofs.YtnjlbgolnbdkaaaGreat
open Go.RowKit
attribute [local go_sem] run_store_chan

set_option maxHeartbeats 1000000 in
theorem winOne_any (cb x n c j : Nat) (a0 a1 a2 : Int) (w : World) (hj : j < n) (h0 : w.cell? ⟨cb, 3, none⟩ = some (.slice (some ⟨x, 0, none⟩) n c)) (h1 : w.cell? ⟨x, j * 3, none⟩ = some (.int .i64 a0)) (h2 : w.cell? ⟨x, j * 3 + 1, none⟩ = some (.int .i64 a1)) (h3 : w.cell? ⟨x, j * 3 + 2, none⟩ = some (.int .i64 a2)) :
    Calls Tryz.prog 54 #[.int .i64 j, .pointer (some ⟨cb, 0, none⟩)] w fun e w' => e = .returned (.agg #[.int .i64 a0, .int .i64 a1, .int .i64 a2]) ∧ Below w.heap.size w w' := by
  have hl0 := lt_of_cell h0
  have hl1 := lt_of_cell h1
  go_enter Tryz.func54, Tryz.ntmps54
  go_wp2
  exact bodyPost_ret (v := .agg #[.int .i64 a0, .int .i64 a1, .int .i64 a2]) (by simp [results, Tryz.results54, go_sem]) rfl ⟨rfl, (Below.refl _ _).alloc (Nat.le_refl _) _⟩

set_option maxHeartbeats 1000000 in
theorem open_any (s t d : Int) (w : World) (hd : 1 ≤ d ∧ d ≤ 4) :
    Calls Tryz.prog 57 #[.agg #[.int .i64 s, .int .i64 t, .int .i64 d]] w fun e w' => ∃ x, e = .returned (.agg #[.int .i64 s, .int .i64 t, .chan (some x)]) ∧ w.heap.size ≤ x ∧ w'.heap[x]? = some (.chan d.toNat #[] false 0 0 false) ∧ Below w.heap.size w w' := by
  have hmc : ∀ W : World, (Instr.makeChan 137 (.int .i64 d)).run Tryz.prog W = .ok (.chan (some W.heap.size)) (W.alloc (.chan d.toNat #[] false 0 0 false)) := by
    intro W
    obtain ⟨n, rfl⟩ := Int.eq_ofNat_of_zero_le (show 0 ≤ d by omega)
    obtain ⟨i0, hi, hz0, hz1, hz2⟩ := info_parts Tryz.info3
    exact Go.Conc.run_makeChan (P := Tryz.prog) (w := W) Tryz.underlying137 hi .i64 n (by omega) (by rw [hz2]; omega)
  have HT : Hid (Below w.heap.size w ((w.alloc (.cells #[.int .i64 s, .int .i64 t, .int .i64 d] 142)).alloc (.cells #[.int .i64 s, .int .i64 t, .chan (some (w.heap.size + 1 + 1))] 139))) := ((Below.refl _ _).alloc (Nat.le_refl _) _).alloc (by simp) _
  go_enter Tryz.func57, Tryz.ntmps57
  go_wp2_with fail
  go_region
  all_goals
    go_wp2
    refine bodyPost_ret (v := .agg #[.int .i64 s, .int .i64 t, .chan (some (w.heap.size + 1 + 1))]) (by simp [results, Tryz.results57, go_sem]) rfl ?_
    exact ⟨_, rfl, by omega, heap_at (by simp), (HT.out.alloc (by simp; omega) _).drew⟩
set_option maxHeartbeats 1000000 in
theorem chanOne_any (cb x n c j : Nat) (a0 a1 a2 : Int) (w : World) (hd : 1 ≤ a2 ∧ a2 ≤ 4) (hj : j < n) (h0 : w.cell? ⟨cb, 4, none⟩ = some (.slice (some ⟨x, 0, none⟩) n c)) (h1 : w.cell? ⟨x, j * 3, none⟩ = some (.int .i64 a0)) (h2 : w.cell? ⟨x, j * 3 + 1, none⟩ = some (.int .i64 a1)) (h3 : w.cell? ⟨x, j * 3 + 2, none⟩ = some (.int .i64 a2)) :
    Calls Tryz.prog 56 #[.int .i64 j, .pointer (some ⟨cb, 0, none⟩)] w fun e w' => ∃ y, e = .returned (.agg #[.int .i64 a0, .int .i64 a1, .chan (some y)]) ∧ w.heap.size ≤ y ∧ w'.heap[y]? = some (.chan a2.toNat #[] false 0 0 false) ∧ Below w.heap.size w w' := by
  have hl0 := lt_of_cell h0
  have hl1 := lt_of_cell h1
  have HO := hide (open_any a0 a1 a2 (w.alloc (.cells #[.int .i64 0, .int .i64 0, .chan none] 139)) hd)
  go_enter Tryz.func56, Tryz.ntmps56
  go_wp2_with fail
  refine HO.out.mono ?_
  rintro e w1 ⟨y, rfl, hy, hb, hB⟩
  have hs1 := hB.size
  simp at hs1 hy
  have hr1 : w1.heap[w.heap.size]? = some (.cells #[.int .i64 0, .int .i64 0, .chan none] 139 (0, 0)) := (hB.block _ (by simp)).trans (heap_at rfl)
  have z0 : w1.cell? ⟨w.heap.size, 0, none⟩ = some (.int .i64 0) := by rw [cell_of_row _ _ _ _ _ _ hr1]; rfl
  have z1 : w1.cell? ⟨w.heap.size, 1, none⟩ = some (.int .i64 0) := by rw [cell_of_row _ _ _ _ _ _ hr1]; rfl
  have z2 : w1.cell? ⟨w.heap.size, 2, none⟩ = some (.chan none) := by rw [cell_of_row _ _ _ _ _ _ hr1]; rfl
  have f0 := free_of_block hr1 0
  have f1 := free_of_block hr1 1
  have f2 := free_of_block hr1 2
  have hlt : w.heap.size < w1.heap.size := by omega
  obtain ⟨wF, hwF⟩ : ∃ wF, wF = ((w1.setCell ⟨w.heap.size, 0, none⟩ (.int .i64 a0)).setCell ⟨w.heap.size, 1, none⟩ (.int .i64 a1)).setCell ⟨w.heap.size, 2, none⟩ (.chan (some y)) := ⟨_, rfl⟩
  have HFB : Hid (wF.heap[w.heap.size]? = some (.cells #[.int .i64 a0, .int .i64 a1, .chan (some y)] 139 (0, 0))) := by show _ = _; rw [hwF]; exact block_set (block_set (block_set hr1 0 _) 1 _) 2 _
  have HEND : Hid (w.heap.size ≤ y ∧ wF.heap[y]? = some (.chan a2.toNat #[] false 0 0 false) ∧ Below w.heap.size w wF) := by
    have t : Touch (· = w.heap.size) w1 wF := by rw [hwF]; exact ((Touch.ofSet (S := (· = w.heap.size)) w1 _ 0 _ rfl).thenSet _ _ rfl).thenSet _ _ rfl
    refine ⟨by omega, (t.block y (lt_of_heap hb) (by omega)).trans hb, ?_⟩
    exact (((Below.refl _ _).alloc (Nat.le_refl _) _).trans (hB.mono (by simp))).trans (t.below (by omega) (fun k hk => by omega))
  have HWF := hide hwF
  clear hB hb hr1 hwF HO
  go_wp2
  rw [← HWF.out]
  exact bodyPost_ret (v := .agg #[.int .i64 a0, .int .i64 a1, .chan (some y)]) (res_cell Tryz.results56 _ _ _ (by rfl) HFB.out Tryz.underlying139 (by kernel_rfl)) rfl ⟨y, rfl, HEND.out⟩

theorem wins_any (cb x c : Nat) (l : List Wn) (w : World) (hl : l.length ≤ 8) (hcb : cb < w.heap.size) (h0 : w.cell? ⟨cb, 3, none⟩ = some (.slice (some ⟨x, 0, none⟩) l.length c))
    (hq : ∀ k p, l[k]? = some p → x < w.heap.size ∧ w.cell? ⟨x, k * 3, none⟩ = some (.int .i64 p.part) ∧ w.cell? ⟨x, k * 3 + 1, none⟩ = some (.int .i64 p.first) ∧ w.cell? ⟨x, k * 3 + 2, none⟩ = some (.int .i64 p.many)) :
    Calls Tryz.prog 53 #[.int .i64 l.length, .func (.func 54) #[] #[.pointer (some ⟨cb, 0, none⟩)]] w fun e w' => ∃ y, e = .returned (.agg #[.slice (some ⟨y, 0, none⟩) l.length l.length]) ∧ w.heap.size ≤ y ∧ w'.heap[y]? = some (.cells (l.flatMap mwinCells).toArray 131 (0, 0)) ∧ Below w.heap.size w w' := by
  refine (makeWin_any cb l.length (by omega) (fun _ => False) w (fun _ h => h.elim) (fun j r W => r.flatMap mkwC = (l.take j).flatMap mwinCells ∧ Touch (fun b => w.heap.size ≤ b) w W) (fun j r W W' hI t => ⟨hI.1, hI.2.trans t (fun i hi => .inl hi.1)⟩) (fun j r W hj hI hsW => ?_) ⟨by simp, Touch.refl _ _⟩).mono ?_
  · obtain ⟨hx, c0, c1, c2⟩ := hq j l[j] (List.getElem?_eq_getElem hj)
    have hk := hI.2.block x hx (by omega)
    refine (winOne_any cb x l.length c j _ _ _ W hj ((cell_same (hI.2.block cb hcb (by omega)) 3).trans h0) ((cell_same hk _).trans c0) ((cell_same hk _).trans c1) ((cell_same hk _).trans c2)).mono ?_
    rintro e w' ⟨rfl, hb⟩
    refine ⟨⟨fun | 0 => (l[j]).part | 1 => (l[j]).first | _ => (l[j]).many, false, fun _ => none, fun _ => 0, fun _ => 0, none⟩, rfl, ⟨?_, hI.2.trans (Touch.ofBelow (S := fun _ => False) hb) (fun _ h => h.elim)⟩, Touch.ofBelow hb⟩
    rw [List.flatMap_append, hI.1, List.take_add_one, List.getElem?_eq_getElem hj, List.flatMap_append]
    rfl
  · rintro e w' ⟨y, r, rfl, ⟨hr, ht⟩, _, hown⟩
    obtain ⟨h1, h2⟩ := own_cells hown
    refine ⟨y, rfl, h1, ?_, ht.below (Nat.le_refl _) (fun k hk => hk)⟩
    rw [h2, show mkwsC r = _ from hr, List.take_length]
theorem chans_any (cb c : Nat) (x : Option Addr) (l : List Ch) (w : World) (hl : l.length ≤ 4) (hd : ∀ p ∈ l, 1 ≤ p.depth ∧ p.depth ≤ 4) (hcb : cb < w.heap.size) (h0 : w.cell? ⟨cb, 4, none⟩ = some (.slice x l.length c))
    (hq : ∀ k p, l[k]? = some p → ∃ g, x = some ⟨g, 0, none⟩ ∧ g < w.heap.size ∧ w.cell? ⟨g, k * 3, none⟩ = some (.int .i64 p.src) ∧ w.cell? ⟨g, k * 3 + 1, none⟩ = some (.int .i64 p.dst) ∧ w.cell? ⟨g, k * 3 + 2, none⟩ = some (.int .i64 p.depth)) :
    Calls Tryz.prog 55 #[.int .i64 l.length, .func (.func 56) #[] #[.pointer (some ⟨cb, 0, none⟩)]] w fun e w' => ∃ (y : Nat) (ch : Nat → Nat), e = .returned (.agg #[.slice (some ⟨y, 0, none⟩) l.length l.length]) ∧ w.heap.size ≤ y ∧ w'.heap[y]? = some (.cells (rowsL l.length fun j => [.int .i64 (l.getD j default).src, .int .i64 (l.getD j default).dst, .chan (some (ch j))]).toArray 139 (0, 0)) ∧ (∀ j, j < l.length → w.heap.size ≤ ch j ∧ w'.heap[ch j]? = some (.chan (l.getD j default).depth.toNat #[] false 0 0 false)) ∧ (∀ i j, i < l.length → j < l.length → ch i = ch j → i = j) ∧ Below w.heap.size w w' := by
  refine (makeChan_any cb l.length (by omega) (fun _ => False) w (fun _ h => h.elim) (fun j r W => ∃ ch : Nat → Nat, r.flatMap mkcC = rowsL j (fun j => [.int .i64 (l.getD j default).src, .int .i64 (l.getD j default).dst, .chan (some (ch j))]) ∧ (∀ i, i < j → w.heap.size + 3 ≤ ch i ∧ W.heap[ch i]? = some (.chan (l.getD i default).depth.toNat #[] false 0 0 false)) ∧ (∀ i k, i < j → k < j → ch i = ch k → i = k) ∧ Touch (fun b => w.heap.size ≤ b) w W) ?_ (fun j r W hj hI hsW => ?_) ⟨fun _ => 0, by simp [rowsL], fun i hi => by omega, fun i k hi => by omega, Touch.refl _ _⟩).mono ?_
  · rintro j r W W' ⟨ch, h1, h2, h3, h4⟩ t
    exact ⟨ch, h1, fun i hi => ⟨(h2 i hi).1, (t.block _ (lt_of_heap (h2 i hi).2) (by have := (h2 i hi).1; omega)).trans (h2 i hi).2⟩, h3, h4.trans t (fun i hi => .inl hi.1)⟩
  · obtain ⟨ch, h1, h2, h3, h4⟩ := hI
    obtain ⟨g, rfl, hx, c0, c1, c2⟩ := hq j l[j] (List.getElem?_eq_getElem hj)
    have hk := h4.block g hx (by omega)
    refine (chanOne_any cb g l.length c j _ _ _ W (hd _ (List.getElem_mem hj)) hj ((cell_same (h4.block cb hcb (by omega)) 4).trans h0) ((cell_same hk _).trans c0) ((cell_same hk _).trans c1) ((cell_same hk _).trans c2)).mono ?_
    rintro e w' ⟨y, rfl, hy, hyb, hb⟩
    have hdj : l.getD j default = l[j] := by rw [List.getD_eq_getElem?_getD, List.getElem?_eq_getElem hj]; rfl
    refine ⟨⟨fun | 0 => (l[j]).src | _ => (l[j]).dst, false, fun _ => none, fun _ => 0, fun _ => 0, some y⟩, rfl, ⟨fun i => if i = j then y else ch i, ?_, fun i hi => ?_, fun i k hi hk' he => ?_, h4.trans (Touch.ofBelow (S := fun _ => False) hb) (fun _ h => h.elim)⟩, Touch.ofBelow hb⟩
    · rw [List.flatMap_append, h1, rowsL_succ]
      congr 1
      · exact rowsL_congr _ _ _ (fun i hi => by simp only [if_neg (show ¬ i = j by omega)])
      · simp only [if_pos]
        rw [hdj]
        rfl
    · by_cases hij : i = j
      · subst hij
        simp only [if_pos]
        exact ⟨by omega, by rw [hdj]; exact hyb⟩
      · simp only [if_neg hij]
        exact ⟨(h2 i (by omega)).1, keepB hb (h2 i (by omega)).2⟩
    · have lt : ∀ i, i < j → ch i < W.heap.size := fun i hi => lt_of_heap (h2 i hi).2
      by_cases hij : i = j
      · by_cases hkj : k = j
        · omega
        · simp only [if_pos hij, if_neg hkj] at he
          have := lt k (by omega)
          omega
      · by_cases hkj : k = j
        · simp only [if_neg hij, if_pos hkj] at he
          have := lt i (by omega)
          omega
        · simp only [if_neg hij, if_neg hkj] at he
          exact h3 i k (by omega) (by omega) he
  · rintro e w' ⟨y, r, rfl, ⟨ch, hr, h2, h3, ht⟩, _, hown⟩
    obtain ⟨h1, h4⟩ := own_cells hown
    exact ⟨y, ch, rfl, h1, by rw [h4, show mkcsC r = _ from hr], fun j hj => ⟨by have := (h2 j hj).1; omega, (h2 j hj).2⟩, h3, ht.below (Nat.le_refl _) (fun k hk => hk)⟩
end Go.Proofs.YtnjlbgolnbdkaaaGreat
namespace Go.Proofs.YtnjlbgolnbdkaaaGreat
open Go.RowKit
attribute [-go_sem] Instr.storeAt

set_option maxRecDepth 100000 in
set_option maxHeartbeats 40000000 in
theorem startOne_any (cb lb x np cp j : Nat) (sy : Bool) (wn : Nat) (li a0 a1 a2 a3 a4 a5 : Int) (q c : Nat) (l : List (Pr × Value)) (prio : Nat → Int) (base : Nat) (v : Value) (log : List (Nat → Int)) (w : World) (hj : j < np) (hwn : wn ≤ 16) (hlog : log.length ≤ 100) (hv : RecsV base v log w) (hpa : ProcsAt w q c l prio)
    (hc : w.cell? ⟨cb, 2, none⟩ = some (.slice (some ⟨x, 0, none⟩) np cp) ∧ w.cell? ⟨lb, 0, none⟩ = some v ∧ w.cell? ⟨x, j * 10, none⟩ = some (.bool sy) ∧ w.cell? ⟨x, j * 10 + 1, none⟩ = some (.int .i64 wn) ∧ w.cell? ⟨x, j * 10 + 2, none⟩ = some (.int .i64 li) ∧ w.cell? ⟨x, j * 10 + 3, none⟩ = some (.int .i64 a0) ∧ w.cell? ⟨x, j * 10 + 4, none⟩ = some (.int .i64 a1) ∧ w.cell? ⟨x, j * 10 + 5, none⟩ = some (.int .i64 a2) ∧ w.cell? ⟨x, j * 10 + 6, none⟩ = some (.int .i64 a3) ∧ w.cell? ⟨x, j * 10 + 7, none⟩ = some (.int .i64 a4) ∧ w.cell? ⟨x, j * 10 + 8, none⟩ = some (.int .i64 a5) ∧ w.cell? ⟨x, j * 10 + 9, none⟩ = some (.slice (some ⟨q, 0, none⟩) l.length c)) :
    Calls Tryz.prog 50 #[.int .i64 j, .pointer (some ⟨cb, 0, none⟩), .pointer (some ⟨lb, 0, none⟩)] w fun e w' => ∃ xw xp xt, e = .returned (.agg #[.int .i64 j, .bool sy, .int .i64 li, .int .i64 a0, .int .i64 a1, .int .i64 a2, .int .i64 a3, .int .i64 a4, .int .i64 a5, .int .i64 (modeOf log j), .slice (some ⟨xw, 0, none⟩) wn wn, .slice (some ⟨xp, 0, none⟩) l.length l.length, .slice (some ⟨xt, 0, none⟩) l.length l.length, .int .i64 0]) ∧ (w.heap.size ≤ xw ∧ w.heap.size ≤ xp ∧ w.heap.size ≤ xt ∧ xw ≠ xt) ∧ w'.heap[xw]? = some (.cells ((List.replicate wn (0 : Int)).map (Value.int .i64)).toArray 3 (0, 0)) ∧ w'.heap[xp]? = some (.cells (l.flatMap fun p => mprocCells p.2 proc0).toArray 166 (0, 0)) ∧ w'.heap[xt]? = some (.cells ((turnI l.length prio).map (Value.int .i64)).toArray 3 (0, 0)) ∧ Below w.heap.size w w' := by
  obtain ⟨w1, hw1⟩ : ∃ w1, w1 = w.alloc (.cells #[.int .i64 0, .bool false, .int .i64 0, .int .i64 0, .int .i64 0, .int .i64 0, .int .i64 0, .int .i64 0, .int .i64 0, .int .i64 0, .slice none 0 0, .slice none 0 0, .slice none 0 0, .int .i64 0] 120) := ⟨_, rfl⟩
  have hs1 : w1.heap.size = w.heap.size + 1 := by rw [hw1]; simp
  have hb1 : Below w.heap.size w w1 := by rw [hw1]; exact (Below.refl _ _).alloc (Nat.le_refl _) _
  have hR1 : w1.heap[w.heap.size]? = some (.cells #[.int .i64 0, .bool false, .int .i64 0, .int .i64 0, .int .i64 0, .int .i64 0, .int .i64 0, .int .i64 0, .int .i64 0, .int .i64 0, .slice none 0 0, .slice none 0 0, .slice none 0 0, .int .i64 0] 120 (0, 0)) := by rw [hw1]; exact heap_at rfl
  obtain ⟨lad, lc, rfl, _⟩ := recs_read2 hv
  obtain ⟨P, hP⟩ : ∃ P : World → Prop, P = fun W => Below w1.heap.size w1 W := ⟨_, rfl⟩
  have HP1 : Hid (P w1) := by show P w1; rw [hP]; exact Below.refl _ _
  have HPb : Hid (∀ W, P W → Below w1.heap.size w1 W) := fun W h => by rw [hP] at h; exact h
  have HPk : Hid (∀ W W', P W → Below W.heap.size W W' → P W') := fun W W' h hb => by rw [hP] at h ⊢; exact h.trans (hb.mono h.size)
  have HPd : Hid (∀ W, P W → P W.drew) := fun W h => by rw [hP] at h ⊢; exact h.drew
  have HPS : Hid (∀ W : World, (∀ b, b < w.heap.size → W.heap[b]? = w.heap[b]?) → W.cell? ⟨cb, 2, none⟩ = some (.slice (some ⟨x, 0, none⟩) np cp) ∧ W.cell? ⟨lb, 0, none⟩ = some (.slice lad log.length lc) ∧ W.cell? ⟨x, j * 10, none⟩ = some (.bool sy) ∧ W.cell? ⟨x, j * 10 + 1, none⟩ = some (.int .i64 wn) ∧ W.cell? ⟨x, j * 10 + 2, none⟩ = some (.int .i64 li) ∧ W.cell? ⟨x, j * 10 + 3, none⟩ = some (.int .i64 a0) ∧ W.cell? ⟨x, j * 10 + 4, none⟩ = some (.int .i64 a1) ∧ W.cell? ⟨x, j * 10 + 5, none⟩ = some (.int .i64 a2) ∧ W.cell? ⟨x, j * 10 + 6, none⟩ = some (.int .i64 a3) ∧ W.cell? ⟨x, j * 10 + 7, none⟩ = some (.int .i64 a4) ∧ W.cell? ⟨x, j * 10 + 8, none⟩ = some (.int .i64 a5) ∧ W.cell? ⟨x, j * 10 + 9, none⟩ = some (.slice (some ⟨q, 0, none⟩) l.length c)) := fun W hW => by
    obtain ⟨h0, h1, r0, r1, r2, r3, r4, r5, r6, r7, r8, r9⟩ := hc
    exact ⟨(cell_same (hW cb (lt_of_cell h0)) _).trans h0, (cell_same (hW lb (lt_of_cell h1)) _).trans h1, (cell_same (hW x (lt_of_cell r0)) _).trans r0, (cell_same (hW x (lt_of_cell r0)) _).trans r1, (cell_same (hW x (lt_of_cell r0)) _).trans r2, (cell_same (hW x (lt_of_cell r0)) _).trans r3, (cell_same (hW x (lt_of_cell r0)) _).trans r4, (cell_same (hW x (lt_of_cell r0)) _).trans r5, (cell_same (hW x (lt_of_cell r0)) _).trans r6, (cell_same (hW x (lt_of_cell r0)) _).trans r7, (cell_same (hW x (lt_of_cell r0)) _).trans r8, (cell_same (hW x (lt_of_cell r0)) _).trans r9⟩
  have HPW : Hid (∀ W, P W → Below w.heap.size w W) := fun W hW => hb1.trans ((HPb.out W hW).mono (by omega))
  have HPC : Hid (∀ W, P W → W.cell? ⟨cb, 2, none⟩ = some (.slice (some ⟨x, 0, none⟩) np cp) ∧ W.cell? ⟨lb, 0, none⟩ = some (.slice lad log.length lc) ∧ W.cell? ⟨x, j * 10, none⟩ = some (.bool sy) ∧ W.cell? ⟨x, j * 10 + 1, none⟩ = some (.int .i64 wn) ∧ W.cell? ⟨x, j * 10 + 2, none⟩ = some (.int .i64 li) ∧ W.cell? ⟨x, j * 10 + 3, none⟩ = some (.int .i64 a0) ∧ W.cell? ⟨x, j * 10 + 4, none⟩ = some (.int .i64 a1) ∧ W.cell? ⟨x, j * 10 + 5, none⟩ = some (.int .i64 a2) ∧ W.cell? ⟨x, j * 10 + 6, none⟩ = some (.int .i64 a3) ∧ W.cell? ⟨x, j * 10 + 7, none⟩ = some (.int .i64 a4) ∧ W.cell? ⟨x, j * 10 + 8, none⟩ = some (.int .i64 a5) ∧ W.cell? ⟨x, j * 10 + 9, none⟩ = some (.slice (some ⟨q, 0, none⟩) l.length c)) := fun W hW => HPS.out W (fun b hb => (HPW.out W hW).block b hb)
  have HMB : Hid (∀ W, P W → Calls Tryz.prog 52 #[.slice lad log.length lc, .int .i64 j] W fun e w' => e = .returned (.int .i64 (modeOf log j)) ∧ P w') := fun W hW =>
    (modeBehind_any base _ log j W hlog (own_keep hv (fun b e => (HPW.out W hW).block b (World.ownsRow.lt hv b e).2))).mono (fun e w' ⟨he, hb⟩ => ⟨he, HPk.out W w' hW hb⟩)
  have HSA : Hid (∀ W mo, P W → Calls Tryz.prog 51 #[.int .i64 j, .agg #[.bool sy, .int .i64 wn, .int .i64 li, .int .i64 a0, .int .i64 a1, .int .i64 a2, .int .i64 a3, .int .i64 a4, .int .i64 a5, .slice (some ⟨q, 0, none⟩) l.length c], .int .i64 mo] W fun e w' => ∃ xw xp xt, e = .returned (.agg #[.int .i64 j, .bool sy, .int .i64 li, .int .i64 a0, .int .i64 a1, .int .i64 a2, .int .i64 a3, .int .i64 a4, .int .i64 a5, .int .i64 mo, .slice (some ⟨xw, 0, none⟩) wn wn, .slice (some ⟨xp, 0, none⟩) l.length l.length, .slice (some ⟨xt, 0, none⟩) l.length l.length, .int .i64 0]) ∧ (w.heap.size < xw ∧ w.heap.size < xp ∧ w.heap.size < xt ∧ xw ≠ xt) ∧ w'.heap[xw]? = some (.cells ((List.replicate wn (0 : Int)).map (Value.int .i64)).toArray 3 (0, 0)) ∧ w'.heap[xp]? = some (.cells (l.flatMap fun p => mprocCells p.2 proc0).toArray 166 (0, 0)) ∧ w'.heap[xt]? = some (.cells ((turnI l.length prio).map (Value.int .i64)).toArray 3 (0, 0)) ∧ P w') := fun W mo hW =>
    (start_any j sy wn li a0 a1 a2 a3 a4 a5 mo q c l prio W hwn (hpa.keep (HPW.out W hW).size ((HPW.out W hW).block q hpa.lt))).mono (fun e w' ⟨xw, xp, xt, he, ⟨h1, h2, h3, h4⟩, h5, h6, h7, hb⟩ => ⟨xw, xp, xt, he, by have := (HPb.out W hW).size; exact ⟨by omega, by omega, by omega, h4⟩, h5, h6, h7, HPk.out W w' hW hb⟩)
  have HRB : Hid (∀ W, P W → W.heap[w.heap.size]? = some (.cells #[.int .i64 0, .bool false, .int .i64 0, .int .i64 0, .int .i64 0, .int .i64 0, .int .i64 0, .int .i64 0, .int .i64 0, .int .i64 0, .slice none 0 0, .slice none 0 0, .slice none 0 0, .int .i64 0] 120 (0, 0))) := fun W hW => ((HPb.out W hW).block _ (by omega)).trans hR1
  have HW1 := hide hw1
  have HS1 := hide hs1
  generalize modeOf log j = mo at *
  clear hw1 hb1 hR1 hP hs1 hc hv hpa
  obtain ⟨F, hF⟩ : ∃ F : World → Nat → Nat → Nat → World, F = fun W xw xp xt => W.setCells w.heap.size 0 [.int .i64 j, .bool sy, .int .i64 li, .int .i64 a0, .int .i64 a1, .int .i64 a2, .int .i64 a3, .int .i64 a4, .int .i64 a5, .int .i64 mo, .slice (some ⟨xw, 0, none⟩) wn wn, .slice (some ⟨xp, 0, none⟩) l.length l.length, .slice (some ⟨xt, 0, none⟩) l.length l.length, .int .i64 0] := ⟨_, rfl⟩
  have HST : Hid (∀ W xw xp xt, P W → (Instr.storeAt 120 (.pointer (some ⟨w.heap.size, 0, none⟩)) (.agg #[.int .i64 j, .bool sy, .int .i64 li, .int .i64 a0, .int .i64 a1, .int .i64 a2, .int .i64 a3, .int .i64 a4, .int .i64 a5, .int .i64 mo, .slice (some ⟨xw, 0, none⟩) wn wn, .slice (some ⟨xp, 0, none⟩) l.length l.length, .slice (some ⟨xt, 0, none⟩) l.length l.length, .int .i64 0])).run Tryz.prog W = .ok () (F W xw xp xt)) := fun W xw xp xt hW => by
    rw [hF]
    exact run_storeAt_mid (P := Tryz.prog) W w.heap.size 0 120 _ (there_of_block (HRB.out W hW) 14 (by decide)) (by rw [Tryz.size120]; rfl) (by simp [Value.oneCell'])
  have HF : Hid (∀ W xw xp xt, P W → (F W xw xp xt).heap[w.heap.size]? = some (.cells #[.int .i64 j, .bool sy, .int .i64 li, .int .i64 a0, .int .i64 a1, .int .i64 a2, .int .i64 a3, .int .i64 a4, .int .i64 a5, .int .i64 mo, .slice (some ⟨xw, 0, none⟩) wn wn, .slice (some ⟨xp, 0, none⟩) l.length l.length, .slice (some ⟨xt, 0, none⟩) l.length l.length, .int .i64 0] 120 (0, 0)) ∧ Touch (· = w.heap.size) W (F W xw xp xt)) := fun W xw xp xt hW => by
    rw [hF]
    exact ⟨setCells_whole _ (HRB.out W hW) rfl, touch_setCells _ _ _ _⟩
  have HFC : Hid (∀ W xw xp xt, P W → (F W xw xp xt).cell? ⟨cb, 2, none⟩ = some (.slice (some ⟨x, 0, none⟩) np cp) ∧ (F W xw xp xt).cell? ⟨lb, 0, none⟩ = some (.slice lad log.length lc) ∧ (F W xw xp xt).cell? ⟨x, j * 10, none⟩ = some (.bool sy) ∧ (F W xw xp xt).cell? ⟨x, j * 10 + 1, none⟩ = some (.int .i64 wn) ∧ (F W xw xp xt).cell? ⟨x, j * 10 + 2, none⟩ = some (.int .i64 li) ∧ (F W xw xp xt).cell? ⟨x, j * 10 + 3, none⟩ = some (.int .i64 a0) ∧ (F W xw xp xt).cell? ⟨x, j * 10 + 4, none⟩ = some (.int .i64 a1) ∧ (F W xw xp xt).cell? ⟨x, j * 10 + 5, none⟩ = some (.int .i64 a2) ∧ (F W xw xp xt).cell? ⟨x, j * 10 + 6, none⟩ = some (.int .i64 a3) ∧ (F W xw xp xt).cell? ⟨x, j * 10 + 7, none⟩ = some (.int .i64 a4) ∧ (F W xw xp xt).cell? ⟨x, j * 10 + 8, none⟩ = some (.int .i64 a5) ∧ (F W xw xp xt).cell? ⟨x, j * 10 + 9, none⟩ = some (.slice (some ⟨q, 0, none⟩) l.length c)) := fun W xw xp xt hW => HPS.out _ (fun b hb => ((HF.out W xw xp xt hW).2.block b (by have := (HPW.out W hW).size; omega) (by omega)).trans ((HPW.out W hW).block b hb))
  clear hF
  generalize (Obj.cells ((List.replicate wn (0 : Int)).map (Value.int .i64)).toArray 3 (0, 0)) = OW at *
  generalize (Obj.cells (l.flatMap fun p => mprocCells p.2 proc0).toArray 166 (0, 0)) = OP at *
  generalize (Obj.cells ((turnI l.length prio).map (Value.int .i64)).toArray 3 (0, 0)) = OT at *
  obtain ⟨q0, q1, r0, r1, r2, r3, r4, r5, r6, r7, r8, r9⟩ := HPC.out _ HP1.out
  go_enter Tryz.func50, Tryz.ntmps50
  go_wp2_with fail
  rw [← HW1.out]
  go_region_held3 (fun w' => w'.cell? ⟨cb, 2, none⟩ = some (.slice (some ⟨x, 0, none⟩) np cp) ∧ w'.cell? ⟨lb, 0, none⟩ = some (.slice lad log.length lc) ∧ w'.cell? ⟨x, j * 10, none⟩ = some (.bool sy) ∧ w'.cell? ⟨x, j * 10 + 1, none⟩ = some (.int .i64 wn) ∧ w'.cell? ⟨x, j * 10 + 2, none⟩ = some (.int .i64 li) ∧ w'.cell? ⟨x, j * 10 + 3, none⟩ = some (.int .i64 a0) ∧ w'.cell? ⟨x, j * 10 + 4, none⟩ = some (.int .i64 a1) ∧ w'.cell? ⟨x, j * 10 + 5, none⟩ = some (.int .i64 a2) ∧ w'.cell? ⟨x, j * 10 + 6, none⟩ = some (.int .i64 a3) ∧ w'.cell? ⟨x, j * 10 + 7, none⟩ = some (.int .i64 a4) ∧ w'.cell? ⟨x, j * 10 + 8, none⟩ = some (.int .i64 a5) ∧ w'.cell? ⟨x, j * 10 + 9, none⟩ = some (.slice (some ⟨q, 0, none⟩) l.length c))
    ((first | exact HPC.out _ HP1.out | exact HPC.out _ (HPd.out _ HP1.out) | exact HPC.out _ (by assumption) | exact HFC.out _ _ _ _ (by assumption)))
    (first
      | (go_at_call 52; refine (HMB.out _ (by first | assumption | exact HPd.out _ HP1.out)).mono ?_; rintro e um ⟨rfl, hm6⟩)
      | (go_at_call 51; refine (HSA.out _ _ (by first | assumption | exact HPd.out _ HP1.out)).mono ?_; rintro e us ⟨xw, xp, xt, rfl, hs1, hs2, hs3, hs4, hs6⟩; have hstU := fun a b c => HST.out us a b c hs6))
  all_goals
    go_wp2
    have hz1 := HS1.out
    obtain ⟨hf1, hf2⟩ := HF.out us xw xp xt hs6
    have hb6 := HPW.out us hs6
    refine bodyPost_ret (v := .agg #[.int .i64 j, .bool sy, .int .i64 li, .int .i64 a0, .int .i64 a1, .int .i64 a2, .int .i64 a3, .int .i64 a4, .int .i64 a5, .int .i64 mo, .slice (some ⟨xw, 0, none⟩) wn wn, .slice (some ⟨xp, 0, none⟩) l.length l.length, .slice (some ⟨xt, 0, none⟩) l.length l.length, .int .i64 0]) (res_cell Tryz.results50 _ _ _ (by rfl) hf1 Tryz.underlying120 (by rw [Tryz.size120]; rfl)) rfl ?_
    exact ⟨xw, xp, xt, rfl, ⟨by omega, by omega, by omega, hs1.2.2.2⟩, (hf2.block xw (lt_of_heap hs2) (by omega)).trans hs2, (hf2.block xp (lt_of_heap hs3) (by omega)).trans hs3, (hf2.block xt (lt_of_heap hs4) (by omega)).trans hs4, hb6.trans (hf2.below (hb6.size) (fun k hk => by omega))⟩
end Go.Proofs.YtnjlbgolnbdkaaaGreat
