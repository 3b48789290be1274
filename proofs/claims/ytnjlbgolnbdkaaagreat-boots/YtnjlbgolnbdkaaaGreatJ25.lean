/- Texts of the proof of Boots, one behind the other. -/
import Derived.Test.YtnjlbgolnbdkaaaGreatJ24
import Derived.Deep.RegionHeld3
import Derived.Deep.MidRow
import Derived.Test.YtnjlbgolnbdkaaaGreatJ09
import Derived.Test.YtnjlbgolnbdkaaaGreatJ10
import Derived.Test.YtnjlbgolnbdkaaaGreatJ23
import Derived.Test.YtnjlbgolnbdkaaaGreatJ07
/- The program's start: a partition, whole. -/
namespace Go.Proofs.YtnjlbgolnbdkaaaGreat
open Go.RowKit
attribute [-go_sem] Instr.storeAt
theorem Tryz.size120 : (Tryz.prog.info? 120).map (·.size) = some 14 := by kernel_rfl

/- the processes of a partition, as Parse gave them -/
structure ProcsAt (w : World) (q c : Nat) (l : List (Pr × Value)) (prio : Nat → Int) : Prop where
  few : l.length = 1 ∨ l.length = 2
  lt : q < w.heap.size
  cell : ∀ k p, l[k]? = some p → (∃ a m cc, p.2 = .slice a m cc) ∧ w.cell? ⟨q, k * 2, none⟩ = some (.int .i64 (prio k)) ∧ w.cell? ⟨q, k * 2 + 1, none⟩ = some p.2
theorem ProcsAt.keep {w w' : World} {q c : Nat} {l : List (Pr × Value)} {prio : Nat → Int} (h : ProcsAt w q c l prio) (hs : w.heap.size ≤ w'.heap.size) (hb : w'.heap[q]? = w.heap[q]?) : ProcsAt w' q c l prio :=
  ⟨h.few, Nat.lt_of_lt_of_le h.lt hs, fun k p hp => ⟨(h.cell k p hp).1, (cell_same hb _).trans (h.cell k p hp).2.1, (cell_same hb _).trans (h.cell k p hp).2.2⟩⟩
theorem turns_any (q c : Nat) (l : List (Pr × Value)) (prio : Nat → Int) (w : World) (h : ProcsAt w q c l prio) :
    Calls Tryz.prog 95 #[.slice (some ⟨q, 0, none⟩) l.length c] w fun e w' => ∃ x, e = .returned (.agg #[.slice (some ⟨x, 0, none⟩) l.length l.length]) ∧ w.heap.size ≤ x ∧ w'.heap[x]? = some (.cells ((turnI l.length prio).map (Value.int .i64)).toArray 3 (0, 0)) ∧ Below w.heap.size w w' := by
  have key : ∀ k, k < l.length → w.cell? ⟨q, k * 2, none⟩ = some (.int .i64 (prio k)) := fun k hk => (h.cell k l[k] (List.getElem?_eq_getElem hk)).2.1
  rcases h.few with hn | hn
  · rw [hn] at key ⊢
    refine (turns1_any q c prio w key).mono ?_
    rintro e w' ⟨x, rfl, hown, hb⟩
    obtain ⟨h1, h2⟩ := own_cells hown
    exact ⟨x, rfl, h1, h2, hb⟩
  · rw [hn] at key ⊢
    refine (turns2_any q c prio w key).mono ?_
    rintro e w' ⟨x, rfl, hown, hb⟩
    obtain ⟨h1, h2⟩ := own_cells hown
    exact ⟨x, rfl, h1, h2, hb⟩

set_option maxRecDepth 100000 in
set_option maxHeartbeats 40000000 in
theorem start_any (i : Int) (sy : Bool) (wn : Nat) (li a0 a1 a2 a3 a4 a5 mo : Int) (q c : Nat) (l : List (Pr × Value)) (prio : Nat → Int) (w : World) (hwn : wn ≤ 16) (h : ProcsAt w q c l prio) :
    Calls Tryz.prog 51 #[.int .i64 i, .agg #[.bool sy, .int .i64 wn, .int .i64 li, .int .i64 a0, .int .i64 a1, .int .i64 a2, .int .i64 a3, .int .i64 a4, .int .i64 a5, .slice (some ⟨q, 0, none⟩) l.length c], .int .i64 mo] w fun e w' => ∃ xw xp xt, e = .returned (.agg #[.int .i64 i, .bool sy, .int .i64 li, .int .i64 a0, .int .i64 a1, .int .i64 a2, .int .i64 a3, .int .i64 a4, .int .i64 a5, .int .i64 mo, .slice (some ⟨xw, 0, none⟩) wn wn, .slice (some ⟨xp, 0, none⟩) l.length l.length, .slice (some ⟨xt, 0, none⟩) l.length l.length, .int .i64 0]) ∧ (w.heap.size ≤ xw ∧ w.heap.size ≤ xp ∧ w.heap.size ≤ xt ∧ xw ≠ xt) ∧ w'.heap[xw]? = some (.cells ((List.replicate wn (0 : Int)).map (Value.int .i64)).toArray 3 (0, 0)) ∧ w'.heap[xp]? = some (.cells (l.flatMap fun p => mprocCells p.2 proc0).toArray 166 (0, 0)) ∧ w'.heap[xt]? = some (.cells ((turnI l.length prio).map (Value.int .i64)).toArray 3 (0, 0)) ∧ Below w.heap.size w w' := by
  obtain ⟨w2, hw2⟩ : ∃ w2, w2 = (w.alloc (.cells #[.bool sy, .int .i64 wn, .int .i64 li, .int .i64 a0, .int .i64 a1, .int .i64 a2, .int .i64 a3, .int .i64 a4, .int .i64 a5, .slice (some ⟨q, 0, none⟩) l.length c] 124)).alloc (.cells #[.int .i64 0, .bool false, .int .i64 0, .int .i64 0, .int .i64 0, .int .i64 0, .int .i64 0, .int .i64 0, .int .i64 0, .int .i64 0, .slice none 0 0, .slice none 0 0, .slice none 0 0, .int .i64 0] 120) := ⟨_, rfl⟩
  have hs2 : w2.heap.size = w.heap.size + 2 := by rw [hw2]; simp
  have hb2 : Below w.heap.size w w2 := by rw [hw2]; exact ((Below.refl _ _).alloc (Nat.le_refl _) _).alloc (by simp) _
  have hA2 : w2.heap[w.heap.size]? = some (.cells #[.bool sy, .int .i64 wn, .int .i64 li, .int .i64 a0, .int .i64 a1, .int .i64 a2, .int .i64 a3, .int .i64 a4, .int .i64 a5, .slice (some ⟨q, 0, none⟩) l.length c] 124 (0, 0)) := by rw [hw2, Below.heap_alloc _ _ _ (by simp)]; exact heap_at rfl
  have hR2 : w2.heap[w.heap.size + 1]? = some (.cells #[.int .i64 0, .bool false, .int .i64 0, .int .i64 0, .int .i64 0, .int .i64 0, .int .i64 0, .int .i64 0, .int .i64 0, .int .i64 0, .slice none 0 0, .slice none 0 0, .slice none 0 0, .int .i64 0] 120 (0, 0)) := by rw [hw2]; exact heap_at (by simp)
  obtain ⟨P, hP⟩ : ∃ P : World → Prop, P = fun W => Below w2.heap.size w2 W := ⟨_, rfl⟩
  have HP2 : Hid (P w2) := by show P w2; rw [hP]; exact Below.refl _ _
  have HPb : Hid (∀ W, P W → Below w2.heap.size w2 W) := fun W h => by rw [hP] at h; exact h
  have HPk : Hid (∀ W W', P W → Below W.heap.size W W' → P W') := fun W W' h hb => by rw [hP] at h ⊢; exact h.trans (hb.mono h.size)
  have HPd : Hid (∀ W, P W → P W.drew) := fun W h => by rw [hP] at h ⊢; exact h.drew
  have HPS : Hid (∀ W : World, W.heap[w.heap.size]? = some (.cells #[.bool sy, .int .i64 wn, .int .i64 li, .int .i64 a0, .int .i64 a1, .int .i64 a2, .int .i64 a3, .int .i64 a4, .int .i64 a5, .slice (some ⟨q, 0, none⟩) l.length c] 124 (0, 0)) → W.cell? ⟨w.heap.size, 0, none⟩ = some (.bool sy) ∧ W.cell? ⟨w.heap.size, 1, none⟩ = some (.int .i64 wn) ∧ W.cell? ⟨w.heap.size, 2, none⟩ = some (.int .i64 li) ∧ W.cell? ⟨w.heap.size, 3, none⟩ = some (.int .i64 a0) ∧ W.cell? ⟨w.heap.size, 4, none⟩ = some (.int .i64 a1) ∧ W.cell? ⟨w.heap.size, 5, none⟩ = some (.int .i64 a2) ∧ W.cell? ⟨w.heap.size, 6, none⟩ = some (.int .i64 a3) ∧ W.cell? ⟨w.heap.size, 7, none⟩ = some (.int .i64 a4) ∧ W.cell? ⟨w.heap.size, 8, none⟩ = some (.int .i64 a5) ∧ W.cell? ⟨w.heap.size, 9, none⟩ = some (.slice (some ⟨q, 0, none⟩) l.length c)) := fun W a => by
    refine ⟨?_, ?_, ?_, ?_, ?_, ?_, ?_, ?_, ?_, ?_⟩ <;> (rw [cell_of_row _ _ _ _ _ _ a]; rfl)
  have HPC : Hid (∀ W, P W → W.cell? ⟨w.heap.size, 0, none⟩ = some (.bool sy) ∧ W.cell? ⟨w.heap.size, 1, none⟩ = some (.int .i64 wn) ∧ W.cell? ⟨w.heap.size, 2, none⟩ = some (.int .i64 li) ∧ W.cell? ⟨w.heap.size, 3, none⟩ = some (.int .i64 a0) ∧ W.cell? ⟨w.heap.size, 4, none⟩ = some (.int .i64 a1) ∧ W.cell? ⟨w.heap.size, 5, none⟩ = some (.int .i64 a2) ∧ W.cell? ⟨w.heap.size, 6, none⟩ = some (.int .i64 a3) ∧ W.cell? ⟨w.heap.size, 7, none⟩ = some (.int .i64 a4) ∧ W.cell? ⟨w.heap.size, 8, none⟩ = some (.int .i64 a5) ∧ W.cell? ⟨w.heap.size, 9, none⟩ = some (.slice (some ⟨q, 0, none⟩) l.length c)) := fun W hW => HPS.out W (((HPb.out W hW).block _ (by omega)).trans hA2)
  have HPA : Hid (∀ W, P W → ProcsAt W q c l prio) := fun W hW => h.keep (Nat.le_trans hb2.size (HPb.out W hW).size) (((HPb.out W hW).block q (by have := h.lt; omega)).trans (hb2.block q h.lt))
  have HWD : Hid (∀ W, P W → Calls Tryz.prog 91 #[.int .i64 wn, .func (.func 92) #[] #[]] W fun e w' => ∃ x, e = .returned (.agg #[.slice (some ⟨x, 0, none⟩) wn wn]) ∧ w2.heap.size ≤ x ∧ W.heap.size ≤ x ∧ x < w'.heap.size ∧ w'.heap[x]? = some (.cells ((List.replicate wn (0 : Int)).map (Value.int .i64)).toArray 3 (0, 0)) ∧ Below W.heap.size W w' ∧ P w') := fun W hW =>
    (words_any wn (by omega) W).mono (fun e w' ⟨x, he, h1, h2, h3⟩ => ⟨x, he, Nat.le_trans (HPb.out W hW).size h1, h1, lt_of_block h2, h2, h3, HPk.out W w' hW h3⟩)
  have HPR : Hid (∀ W, P W → Calls Tryz.prog 93 #[.int .i64 l.length, .func (.func 94) #[] #[.pointer (some ⟨w.heap.size, 0, none⟩)]] W fun e w' => ∃ x, e = .returned (.agg #[.slice (some ⟨x, 0, none⟩) l.length l.length]) ∧ w2.heap.size ≤ x ∧ W.heap.size ≤ x ∧ x < w'.heap.size ∧ w'.heap[x]? = some (.cells (l.flatMap fun p => mprocCells p.2 proc0).toArray 166 (0, 0)) ∧ Below W.heap.size W w' ∧ P w') := fun W hW =>
    (procs_any w.heap.size q c l W (by have := h.few; omega) (by have := (HPb.out W hW).size; omega) (HPA.out W hW).lt (HPC.out W hW).2.2.2.2.2.2.2.2.2 (fun k p hp => ⟨((HPA.out W hW).cell k p hp).1, ((HPA.out W hW).cell k p hp).2.2⟩)).mono (fun e w' ⟨x, he, h1, h2, h3⟩ => ⟨x, he, Nat.le_trans (HPb.out W hW).size h1, h1, lt_of_block h2, h2, h3, HPk.out W w' hW h3⟩)
  have HTN : Hid (∀ W, P W → Calls Tryz.prog 95 #[.slice (some ⟨q, 0, none⟩) l.length c] W fun e w' => ∃ x, e = .returned (.agg #[.slice (some ⟨x, 0, none⟩) l.length l.length]) ∧ w2.heap.size ≤ x ∧ W.heap.size ≤ x ∧ x < w'.heap.size ∧ w'.heap[x]? = some (.cells ((turnI l.length prio).map (Value.int .i64)).toArray 3 (0, 0)) ∧ Below W.heap.size W w' ∧ P w') := fun W hW =>
    (turns_any q c l prio W (HPA.out W hW)).mono (fun e w' ⟨x, he, h1, h2, h3⟩ => ⟨x, he, Nat.le_trans (HPb.out W hW).size h1, h1, lt_of_block h2, h2, h3, HPk.out W w' hW h3⟩)
  have HRB : Hid (∀ W, P W → W.heap[w.heap.size + 1]? = some (.cells #[.int .i64 0, .bool false, .int .i64 0, .int .i64 0, .int .i64 0, .int .i64 0, .int .i64 0, .int .i64 0, .int .i64 0, .int .i64 0, .slice none 0 0, .slice none 0 0, .slice none 0 0, .int .i64 0] 120 (0, 0)) ∧ Below w.heap.size w W ∧ w2.heap.size ≤ W.heap.size) := fun W hW => ⟨((HPb.out W hW).block _ (by omega)).trans hR2, hb2.trans ((HPb.out W hW).mono (by omega)), (HPb.out W hW).size⟩
  have HW2 := hide hw2
  have HA2 := hide hA2
  have HS2 := hide hs2
  have hfew : l.length ≤ 2 := by have := h.few; omega
  clear h hw2 hb2 hA2 hR2 hP hs2
  obtain ⟨F, hF⟩ : ∃ F : World → Nat → Nat → Nat → World, F = fun W xw xp xt => W.setCells (w.heap.size + 1) 0 [.int .i64 i, .bool sy, .int .i64 li, .int .i64 a0, .int .i64 a1, .int .i64 a2, .int .i64 a3, .int .i64 a4, .int .i64 a5, .int .i64 mo, .slice (some ⟨xw, 0, none⟩) wn wn, .slice (some ⟨xp, 0, none⟩) l.length l.length, .slice (some ⟨xt, 0, none⟩) l.length l.length, .int .i64 0] := ⟨_, rfl⟩
  have hst : ∀ W xw xp xt, P W → (Instr.storeAt 120 (.pointer (some ⟨w.heap.size + 1, 0, none⟩)) (.agg #[.int .i64 i, .bool sy, .int .i64 li, .int .i64 a0, .int .i64 a1, .int .i64 a2, .int .i64 a3, .int .i64 a4, .int .i64 a5, .int .i64 mo, .slice (some ⟨xw, 0, none⟩) wn wn, .slice (some ⟨xp, 0, none⟩) l.length l.length, .slice (some ⟨xt, 0, none⟩) l.length l.length, .int .i64 0])).run Tryz.prog W = .ok () (F W xw xp xt) := fun W xw xp xt hW => by
    rw [hF]
    exact run_storeAt_mid (P := Tryz.prog) W (w.heap.size + 1) 0 120 _ (there_of_block (HRB.out W hW).1 14 (by decide)) (by rw [Tryz.size120]; rfl) (by simp [Value.oneCell'])
  have HF : Hid (∀ W xw xp xt, P W → (F W xw xp xt).heap[w.heap.size + 1]? = some (.cells #[.int .i64 i, .bool sy, .int .i64 li, .int .i64 a0, .int .i64 a1, .int .i64 a2, .int .i64 a3, .int .i64 a4, .int .i64 a5, .int .i64 mo, .slice (some ⟨xw, 0, none⟩) wn wn, .slice (some ⟨xp, 0, none⟩) l.length l.length, .slice (some ⟨xt, 0, none⟩) l.length l.length, .int .i64 0] 120 (0, 0)) ∧ Touch (· = w.heap.size + 1) W (F W xw xp xt)) := fun W xw xp xt hW => by
    rw [hF]
    exact ⟨setCells_whole _ (HRB.out W hW).1 rfl, touch_setCells _ _ _ _⟩
  have HFC : Hid (∀ W xw xp xt, P W → (F W xw xp xt).cell? ⟨w.heap.size, 0, none⟩ = some (.bool sy) ∧ (F W xw xp xt).cell? ⟨w.heap.size, 1, none⟩ = some (.int .i64 wn) ∧ (F W xw xp xt).cell? ⟨w.heap.size, 2, none⟩ = some (.int .i64 li) ∧ (F W xw xp xt).cell? ⟨w.heap.size, 3, none⟩ = some (.int .i64 a0) ∧ (F W xw xp xt).cell? ⟨w.heap.size, 4, none⟩ = some (.int .i64 a1) ∧ (F W xw xp xt).cell? ⟨w.heap.size, 5, none⟩ = some (.int .i64 a2) ∧ (F W xw xp xt).cell? ⟨w.heap.size, 6, none⟩ = some (.int .i64 a3) ∧ (F W xw xp xt).cell? ⟨w.heap.size, 7, none⟩ = some (.int .i64 a4) ∧ (F W xw xp xt).cell? ⟨w.heap.size, 8, none⟩ = some (.int .i64 a5) ∧ (F W xw xp xt).cell? ⟨w.heap.size, 9, none⟩ = some (.slice (some ⟨q, 0, none⟩) l.length c)) := fun W xw xp xt hW => HPS.out _ (((HF.out W xw xp xt hW).2.block w.heap.size (by have := (HRB.out W hW).2.2; have := HS2.out; omega) (by omega)).trans (((HPb.out W hW).block _ (by have := HS2.out; omega)).trans HA2.out))
  have HST := hide hst
  clear hF hst
  generalize (Obj.cells ((List.replicate wn (0 : Int)).map (Value.int .i64)).toArray 3 (0, 0)) = OW at *
  generalize (Obj.cells (l.flatMap fun p => mprocCells p.2 proc0).toArray 166 (0, 0)) = OP at *
  generalize (Obj.cells ((turnI l.length prio).map (Value.int .i64)).toArray 3 (0, 0)) = OT at *
  obtain ⟨q0, q1, q2, q3, q4, q5, q6, q7, q8, q9⟩ := HPC.out _ HP2.out
  go_enter Tryz.func51, Tryz.ntmps51
  go_wp2_with fail
  rw [← HW2.out]
  go_region_held3 (fun w' => w'.cell? ⟨w.heap.size, 0, none⟩ = some (.bool sy) ∧ w'.cell? ⟨w.heap.size, 1, none⟩ = some (.int .i64 wn) ∧ w'.cell? ⟨w.heap.size, 2, none⟩ = some (.int .i64 li) ∧ w'.cell? ⟨w.heap.size, 3, none⟩ = some (.int .i64 a0) ∧ w'.cell? ⟨w.heap.size, 4, none⟩ = some (.int .i64 a1) ∧ w'.cell? ⟨w.heap.size, 5, none⟩ = some (.int .i64 a2) ∧ w'.cell? ⟨w.heap.size, 6, none⟩ = some (.int .i64 a3) ∧ w'.cell? ⟨w.heap.size, 7, none⟩ = some (.int .i64 a4) ∧ w'.cell? ⟨w.heap.size, 8, none⟩ = some (.int .i64 a5) ∧ w'.cell? ⟨w.heap.size, 9, none⟩ = some (.slice (some ⟨q, 0, none⟩) l.length c))
    ((first | exact HPC.out _ HP2.out | exact HPC.out _ (HPd.out _ HP2.out) | exact HPC.out _ (by assumption) | exact HFC.out _ _ _ _ (by assumption)))
    (first
      | (go_at_call 91; refine (HWD.out _ (by first | assumption | exact HPd.out _ HP2.out)).mono ?_; rintro e uw ⟨xw, rfl, hw1, hw2, hw3, hw4, hw5, hw6⟩)
      | (go_at_call 93; refine (HPR.out _ (by first | assumption | exact HPd.out _ HP2.out)).mono ?_; rintro e up ⟨xp, rfl, hp1, hp2, hp3, hp4, hp5, hp6⟩)
      | (go_at_call 95; refine (HTN.out _ (by first | assumption | exact HPd.out _ HP2.out)).mono ?_; rintro e ut ⟨xt, rfl, ht1, ht2, ht3, ht4, ht5, ht6⟩; have hstU := fun a b c => HST.out ut a b c ht6))
  all_goals
    go_wp2
    have hs2 := HS2.out
    obtain ⟨hf1, hf2⟩ := HF.out ut xw xp xt ht6
    obtain ⟨_, hb6, hz6⟩ := HRB.out ut ht6
    refine bodyPost_ret (v := .agg #[.int .i64 i, .bool sy, .int .i64 li, .int .i64 a0, .int .i64 a1, .int .i64 a2, .int .i64 a3, .int .i64 a4, .int .i64 a5, .int .i64 mo, .slice (some ⟨xw, 0, none⟩) wn wn, .slice (some ⟨xp, 0, none⟩) l.length l.length, .slice (some ⟨xt, 0, none⟩) l.length l.length, .int .i64 0]) (res_cell Tryz.results51 _ _ _ (by rfl) hf1 Tryz.underlying120 (by rw [Tryz.size120]; rfl)) rfl ?_
    exact ⟨xw, xp, xt, rfl, ⟨by omega, by omega, by omega, by omega⟩, (hf2.block xw (by have := lt_of_heap (keepB ht5 (keepB hp5 hw4)); omega) (by omega)).trans (keepB ht5 (keepB hp5 hw4)), (hf2.block xp (by have := lt_of_heap (keepB ht5 hp4); omega) (by omega)).trans (keepB ht5 hp4), (hf2.block xt (by omega) (by omega)).trans ht4, hb6.trans (hf2.below (by omega) (fun k hk => by omega))⟩
end Go.Proofs.YtnjlbgolnbdkaaaGreat
/- The program's lists of a fixed length: Make of windows, channels, states. -/
namespace Go.Proofs.YtnjlbgolnbdkaaaGreat
open Go.RowKit

def mkwC (x : El) : List Value := [.int .i64 (x.i 0), .int .i64 (x.i 1), .int .i64 (x.i 2)]
def mkwsC (l : List El) : List Value := l.flatMap mkwC
theorem mkwsC_length (l : List El) : (mkwsC l).length = l.length * 3 := by
  induction l with
  | nil => rfl
  | cons a l ih => show (mkwC a ++ mkwsC l).length = _; rw [List.length_append, ih]; show 3 + _ = _; simp; omega
theorem mkw_fill (l : List El) (e : El) (rest : List Value) (hr : 3 ≤ rest.length) : setL (mkwsC l ++ rest) (l.length * 3) (mkwC e) = mkwsC (l ++ [e]) ++ rest.drop 3 := by
  apply List.ext_getElem?
  intro j
  have h1 := mkwsC_length l
  have hx : (mkwC e).length = 3 := rfl
  rw [setL_get _ _ _ (by rw [List.length_append, h1, hx]; omega), hx, show mkwsC (l ++ [e]) = mkwsC l ++ mkwC e from by simp [mkwsC], List.append_assoc]
  by_cases ha : j < l.length * 3
  · rw [if_neg (by omega), List.getElem?_append_left (by omega), List.getElem?_append_left (by omega)]
  · by_cases hb : j < l.length * 3 + 3
    · rw [if_pos (by omega), List.getElem?_append_right (by omega), h1, List.getElem?_append_left (by rw [hx]; omega)]
    · rw [if_neg (by omega), List.getElem?_append_right (by omega), List.getElem?_append_right (by omega), h1, List.getElem?_append_right (by rw [hx]; omega), hx, List.getElem?_drop]
      congr 1
      omega
set_option maxRecDepth 100000 in
set_option maxHeartbeats 4000000 in
theorem makeWin_any (cb : Nat) (many : Nat) (hm : many ≤ 255) (S : Nat → Prop) (w : World) (hS : ∀ b, S b → b < w.heap.size) (I : Nat → List El → World → Prop)
    (hkeep : ∀ j l wr w', I j l wr → Touch (fun b => w.heap.size ≤ b ∧ b < w.heap.size + 3) wr w' → I j l w')
    (hstep : ∀ j l wr, j < many → I j l wr → w.heap.size + 3 ≤ wr.heap.size → Calls Tryz.prog 54 #[.int .i64 j, .pointer (some ⟨cb, 0, none⟩)] wr fun e w' => ∃ x : El, e = .returned (.agg #[.int .i64 (x.i 0), .int .i64 (x.i 1), .int .i64 (x.i 2)]) ∧ I (j + 1) (l ++ [x]) w' ∧ Touch S wr w')
    (h0 : I 0 [] w) : Calls Tryz.prog 53 #[.int .i64 many, .func (.func 54) #[] #[.pointer (some ⟨cb, 0, none⟩)]] w fun e w' => ∃ x l, e = .returned (.agg #[.slice (some ⟨x, 0, none⟩) many many]) ∧ I many l w' ∧ l.length = many ∧ w'.ownsRow w.heap.size 131 3 (.slice (some ⟨x, 0, none⟩) many many) many (mkwsC l) := by
  obtain ⟨i0, hi, hz0, hz1, hz2⟩ := info_parts Tryz.info131
  have hmk : ∀ W : World, (Instr.makeSlice 68 (.int .i64 (many : Int)) (.int .i64 (many : Int))).run Tryz.prog W = .ok (.slice (some ⟨W.heap.size, 0, none⟩) many many) (W.alloc (.cells (madeCells #[.int .i64 0, .int .i64 0, .int .i64 0] (many * 3)) 131)) := by
    intro W
    have := run_make (P := Tryz.prog) (w := W) 68 131 i0 _ Tryz.underlying68 hi hz0 .i64 .i64 (many : Int) (many : Int) (by omega) (by omega) (by rw [hz2]; omega) (by omega)
    simpa [hz1, Value.cells] using this
  generalize hM : madeCells #[.int .i64 0, .int .i64 0, .int .i64 0] (many * 3) = M at hmk
  have hMs : M.size = many * 3 := by rw [← hM]; simp [madeCells]
  have HK := hide hkeep
  have HS := hide hS
  have HST := hide hstep
  have H0 := hide h0
  clear hkeep hS hstep h0 hM
  have HINIT : Hid (∀ W, W = (((w.alloc (.cells #[.slice none 0 0] 128)).alloc (.cells M 131)).alloc (.cells #[.slice (some ⟨w.heap.size + 1, 0, none⟩) many many] 128)) → Touch (fun _ => False) w W ∧ W.heap.size = w.heap.size + 3 ∧ W.heap[w.heap.size]? = some (.cells #[.slice none 0 0] 128 (0, 0)) ∧ W.heap[w.heap.size + 2]? = some (.cells #[.slice (some ⟨w.heap.size + 1, 0, none⟩) many many] 128 (0, 0)) ∧ W.ownsRow w.heap.size 131 3 (.slice (some ⟨w.heap.size + 1, 0, none⟩) many many) many M.toList) := by
    rintro W rfl
    have s1 : (w.alloc (.cells #[.slice none 0 0] 128)).heap.size = w.heap.size + 1 := by simp
    have s2 : ((w.alloc (.cells #[.slice none 0 0] 128)).alloc (.cells M 131)).heap.size = w.heap.size + 2 := by simp
    refine ⟨Touch.trans (Touch.trans (Touch.alloc _ _) (Touch.alloc _ _) (fun _ h => .inl h)) (Touch.alloc _ _) (fun _ h => .inl h), by simp, ?_, ?_, ?_⟩
    · rw [Below.heap_alloc _ _ _ (by omega), Below.heap_alloc _ _ _ (by omega)]; exact heap_alloc_new w _
    · have := heap_alloc_new ((w.alloc (.cells #[.slice none 0 0] 128)).alloc (.cells M 131)) (.cells #[.slice (some ⟨w.heap.size + 1, 0, none⟩) many many] 128)
      rwa [s2] at this
    · have hb : (((w.alloc (.cells #[.slice none 0 0] 128)).alloc (.cells M 131)).alloc (.cells #[.slice (some ⟨w.heap.size + 1, 0, none⟩) many many] 128)).heap[w.heap.size + 1]? = some (.cells M 131 (0, 0)) := by
        rw [Below.heap_alloc _ _ _ (by omega)]
        have := heap_alloc_new (w.alloc (.cells #[.slice none 0 0] 128)) (.cells M 131)
        rwa [s1] at this
      exact ⟨by simp [hMs], .inr ⟨w.heap.size + 1, many, M, rfl, by omega, hb, Nat.le_refl _, by unfold maxLen; omega, hMs, by rw [List.take_of_length_le (by simp [hMs])]⟩⟩
  go_enter Tryz.func53, Tryz.ntmps53
  go_wp2
  go_loopw [13] (fun t wr => ∃ (k : Nat) (l : List El) (rest : List Value), k ≤ many ∧ t = .int .i64 k ∧ l.length = k ∧ I k l wr ∧ w.heap.size + 3 ≤ wr.heap.size ∧ wr.heap[w.heap.size]? = some (.cells #[.slice none 0 0] 128 (0, 0)) ∧ wr.heap[w.heap.size + 2]? = some (.cells #[.slice (some ⟨w.heap.size + 1, 0, none⟩) many many] 128 (0, 0)) ∧ wr.ownsRow w.heap.size 131 3 (.slice (some ⟨w.heap.size + 1, 0, none⟩) many many) many (mkwsC l ++ rest) ∧ rest.length = (many - k) * 3) (fun t _ => many - (intOf t).toNat)
  case atStart =>
    obtain ⟨h1, h2, h3, h4, h5⟩ := HINIT.out _ rfl
    exact ⟨0, [], M.toList, by omega, rfl, rfl, HK.out _ _ _ _ H0.out (h1.mono (fun _ h => h.elim)), by omega, h3, h4, h5, by simp [hMs]⟩
  case round =>
    obtain ⟨k, l, rest, hk, rfl, hl, hI, hsz, hres, hbox, hrow, hrest⟩ := hrel
    have bx : wr.cell? ⟨w.heap.size + 2, 0, none⟩ = some (.slice (some ⟨w.heap.size + 1, 0, none⟩) many many) := by rw [cell_of_row _ _ _ _ _ _ hbox]; rfl
    by_cases hlt : k < many
    · have HB := hide (HST.out k l wr.drew hlt (HK.out _ _ _ _ hI ⟨rfl, rfl, rfl, Nat.le_refl _, fun _ _ _ => rfl⟩) (by show w.heap.size + 3 ≤ wr.heap.size; omega))
      have HAF : Hid (∀ (x : El) (w2 : World), I (k + 1) (l ++ [x]) w2 → Touch S wr.drew w2 → w2.cell? ⟨w.heap.size + 2, 0, none⟩ = some (.slice (some ⟨w.heap.size + 1, 0, none⟩) many many) ∧ (∃ u : Nat → Value, ∀ o, o < 3 → w2.cell? ⟨w.heap.size + 1, k * 3 + o, none⟩ = some (u o)) ∧ (∀ o, w2.frozen? ⟨w.heap.size + 1, o, none⟩ = false) ∧
          (I (k + 1) (l ++ [x]) (setW w2 (w.heap.size + 1) (k * 3) (mkwC x)) ∧ w.heap.size + 3 ≤ (setW w2 (w.heap.size + 1) (k * 3) (mkwC x)).heap.size ∧ (setW w2 (w.heap.size + 1) (k * 3) (mkwC x)).heap[w.heap.size]? = some (.cells #[.slice none 0 0] 128 (0, 0)) ∧ (setW w2 (w.heap.size + 1) (k * 3) (mkwC x)).heap[w.heap.size + 2]? = some (.cells #[.slice (some ⟨w.heap.size + 1, 0, none⟩) many many] 128 (0, 0)) ∧ (setW w2 (w.heap.size + 1) (k * 3) (mkwC x)).ownsRow w.heap.size 131 3 (.slice (some ⟨w.heap.size + 1, 0, none⟩) many many) many (mkwsC (l ++ [x]) ++ rest.drop 3))) := by
        intro x w2 hI2 ht
        have ht2 : Touch S wr w2 := ⟨ht.os, ht.tape, ht.output, ht.size, ht.block⟩
        have hs2 := ht2.size
        have hbox2 := (ht2.block _ (by omega) (fun hs => by have := HS.out _ hs; omega)).trans hbox
        have hrow2 : w2.ownsRow w.heap.size 131 3 (.slice (some ⟨w.heap.size + 1, 0, none⟩) many many) many (mkwsC l ++ rest) := own_keep hrow (fun b e => ht2.block b (World.ownsRow.lt hrow b e).2 (fun hs => by have := HS.out _ hs; have := (World.ownsRow.lt hrow b e).1; omega))
        obtain ⟨cur, hcur, hcs⟩ : ∃ cur : Array Value, w2.heap[w.heap.size + 1]? = some (.cells cur 131 (0, 0)) ∧ cur.size = many * 3 := by
          rcases hrow2.2 with ⟨h, _⟩ | ⟨g', cap', cur, hv, _, hh, _, _, hs', _⟩
          · cases h
          · simp at hv
            obtain ⟨rfl, rfl⟩ := hv
            exact ⟨cur, hh, hs'⟩
        have t := touch_setW (w.heap.size + 1) (mkwC x) w2 (k * 3)
        have hres2 := (ht2.block _ (by omega) (fun hs => by have := HS.out _ hs; omega)).trans hres
        refine ⟨by rw [cell_of_row _ _ _ _ _ _ hbox2]; rfl, ⟨fun o => cur[k * 3 + o]?.getD default, fun o ho => ?_⟩, fun o => free_of_block hcur o, HK.out _ _ _ _ hI2 (t.mono (fun b hb => by rw [hb]; omega)), by have := t.size; omega, (t.block _ (by omega) (by omega)).trans hres2, (t.block _ (by omega) (by omega)).trans hbox2, ?_⟩
        · have hlt' : k * 3 + o < cur.size := by omega
          show _ = some (cur[k * 3 + o]?.getD default)
          rw [cell_of_row _ _ _ _ _ _ hcur]
          simp [hlt']
        · have := own_setW (mkwC x) w2 _ (k * 3) hrow2 (by show k * 3 + 3 ≤ many * 3; omega)
          rw [← hl, mkw_fill l x rest (by rw [hrest]; omega)] at this
          rw [← hl]
          exact this
      have HR6 : Hid ((rest.drop 3).length = (many - (k + 1)) * 3) := by show _ = _; rw [List.length_drop, hrest]; omega
      have HLL : Hid (∀ x : El, (l ++ [x]).length = k + 1) := fun x => by rw [List.length_append, hl]; rfl
      clear hI hres hbox hrow hl hrest
      go_wp2_with fail
      go_region_law (go_simp; (with_reducible show Calls Tryz.prog 54 _ _ _); refine HB.out.mono ?_; rintro e w2 ⟨x, rfl, hI2, ht2⟩; obtain ⟨bx2, ⟨u, hu⟩, hff, h5⟩ := HAF.out x w2 hI2 ht2; have H5 := hide h5; have q0 : w2.cell? ⟨w.heap.size + 1, k * 3, none⟩ = some (u 0) := hu 0 (by omega); have q1 := hu 1 (by omega); have q2 := hu 2 (by omega); have f0 := hff (k * 3); have f1 := hff (k * 3 + 1); have f2 := hff (k * 3 + 2); clear hI2 ht2 hu hff h5)
      all_goals (
        go_wp2
        go_roundw
        case rel => exact ⟨k + 1, l ++ [x], rest.drop 3, by omega, by go_num, HLL.out x, H5.out.1, H5.out.2.1, H5.out.2.2.1, H5.out.2.2.2.1, H5.out.2.2.2.2, HR6.out⟩
        case measure => simp [intOf]; omega)
    · obtain rfl : k = many := by omega
      obtain rfl : rest = [] := List.eq_nil_of_length_eq_zero (by rw [hrest, Nat.sub_self, Nat.zero_mul])
      rw [List.append_nil] at hrow
      have r0 : wr.cell? ⟨w.heap.size, 0, none⟩ = some (.slice none 0 0) := by rw [cell_of_row _ _ _ _ _ _ hres]; rfl
      have fr0 := free_of_block hres 0
      obtain ⟨wF, hwF⟩ : ∃ wF, wF = wr.setCell ⟨w.heap.size, 0, none⟩ (.slice (some ⟨w.heap.size + 1, 0, none⟩) k k) := ⟨_, rfl⟩
      have hFB : wF.heap[w.heap.size]? = some (.cells #[.slice (some ⟨w.heap.size + 1, 0, none⟩) k k] 128 (0, 0)) := by rw [hwF]; exact block_set hres 0 _
      have y0 : wF.cell? ⟨w.heap.size, 0, none⟩ = some (.slice (some ⟨w.heap.size + 1, 0, none⟩) k k) := by rw [cell_of_row _ _ _ _ _ _ hFB]; rfl
      have tF : Touch (· = w.heap.size) wr wF := by rw [hwF]; exact Touch.ofSet _ _ _ _ rfl
      have HEND : Hid (I k l wF ∧ l.length = k ∧ wF.ownsRow w.heap.size 131 3 (.slice (some ⟨w.heap.size + 1, 0, none⟩) k k) k (mkwsC l)) := ⟨HK.out _ _ _ _ hI (tF.mono (fun b hb => by rw [hb]; omega)), hl, own_keep hrow (fun b e => tF.block b (World.ownsRow.lt hrow b e).2 (by simp [Value.ownBlock] at e; omega))⟩
      have HWF := hide hwF
      clear hI hres hbox hrow hl hrest hFB tF hwF
      go_wp2
      rw [← HWF.out]
      refine bodyPost_ret (v := .agg #[.slice (some ⟨w.heap.size + 1, 0, none⟩) k k]) (by simp [results, Tryz.results53, go_sem, y0]) rfl ?_
      exact ⟨_, l, rfl, HEND.out⟩
theorem run_store_chan (P : Program) (w : World) (a : Addr) (m : Mode) (r : Option Nat) : (store a (.chan r) m).run P w = stored P w a (.chan r) m := run_store P w a _ m rfl
attribute [local go_sem] run_store_chan
theorem Tryz.info139 : (Tryz.prog.info? 139).map (fun i => (i.zero, i.size, i.bytes)) = some (some (.agg #[.int .i64 0, .int .i64 0, .chan none]), 3, 24) := by kernel_rfl
def mkcC (x : El) : List Value := [.int .i64 (x.i 0), .int .i64 (x.i 1), .chan x.ch]
def mkcsC (l : List El) : List Value := l.flatMap mkcC
theorem mkcsC_length (l : List El) : (mkcsC l).length = l.length * 3 := by
  induction l with
  | nil => rfl
  | cons a l ih => show (mkcC a ++ mkcsC l).length = _; rw [List.length_append, ih]; show 3 + _ = _; simp; omega
theorem mkc_fill (l : List El) (e : El) (rest : List Value) (hr : 3 ≤ rest.length) : setL (mkcsC l ++ rest) (l.length * 3) (mkcC e) = mkcsC (l ++ [e]) ++ rest.drop 3 := by
  apply List.ext_getElem?
  intro j
  have h1 := mkcsC_length l
  have hx : (mkcC e).length = 3 := rfl
  rw [setL_get _ _ _ (by rw [List.length_append, h1, hx]; omega), hx, show mkcsC (l ++ [e]) = mkcsC l ++ mkcC e from by simp [mkcsC], List.append_assoc]
  by_cases ha : j < l.length * 3
  · rw [if_neg (by omega), List.getElem?_append_left (by omega), List.getElem?_append_left (by omega)]
  · by_cases hb : j < l.length * 3 + 3
    · rw [if_pos (by omega), List.getElem?_append_right (by omega), h1, List.getElem?_append_left (by rw [hx]; omega)]
    · rw [if_neg (by omega), List.getElem?_append_right (by omega), List.getElem?_append_right (by omega), h1, List.getElem?_append_right (by rw [hx]; omega), hx, List.getElem?_drop]
      congr 1
      omega
set_option maxRecDepth 100000 in
set_option maxHeartbeats 4000000 in
theorem makeChan_any (cb : Nat) (many : Nat) (hm : many ≤ 255) (S : Nat → Prop) (w : World) (hS : ∀ b, S b → b < w.heap.size) (I : Nat → List El → World → Prop)
    (hkeep : ∀ j l wr w', I j l wr → Touch (fun b => w.heap.size ≤ b ∧ b < w.heap.size + 3) wr w' → I j l w')
    (hstep : ∀ j l wr, j < many → I j l wr → w.heap.size + 3 ≤ wr.heap.size → Calls Tryz.prog 56 #[.int .i64 j, .pointer (some ⟨cb, 0, none⟩)] wr fun e w' => ∃ x : El, e = .returned (.agg #[.int .i64 (x.i 0), .int .i64 (x.i 1), .chan x.ch]) ∧ I (j + 1) (l ++ [x]) w' ∧ Touch S wr w')
    (h0 : I 0 [] w) : Calls Tryz.prog 55 #[.int .i64 many, .func (.func 56) #[] #[.pointer (some ⟨cb, 0, none⟩)]] w fun e w' => ∃ x l, e = .returned (.agg #[.slice (some ⟨x, 0, none⟩) many many]) ∧ I many l w' ∧ l.length = many ∧ w'.ownsRow w.heap.size 139 3 (.slice (some ⟨x, 0, none⟩) many many) many (mkcsC l) := by
  obtain ⟨i0, hi, hz0, hz1, hz2⟩ := info_parts Tryz.info139
  have hmk : ∀ W : World, (Instr.makeSlice 133 (.int .i64 (many : Int)) (.int .i64 (many : Int))).run Tryz.prog W = .ok (.slice (some ⟨W.heap.size, 0, none⟩) many many) (W.alloc (.cells (madeCells #[.int .i64 0, .int .i64 0, .chan none] (many * 3)) 139)) := by
    intro W
    have := run_make (P := Tryz.prog) (w := W) 133 139 i0 _ Tryz.underlying133 hi hz0 .i64 .i64 (many : Int) (many : Int) (by omega) (by omega) (by rw [hz2]; omega) (by omega)
    simpa [hz1, Value.cells] using this
  generalize hM : madeCells #[.int .i64 0, .int .i64 0, .chan none] (many * 3) = M at hmk
  have hMs : M.size = many * 3 := by rw [← hM]; simp [madeCells]
  have HK := hide hkeep
  have HS := hide hS
  have HST := hide hstep
  have H0 := hide h0
  clear hkeep hS hstep h0 hM
  have HINIT : Hid (∀ W, W = (((w.alloc (.cells #[.slice none 0 0] 135)).alloc (.cells M 139)).alloc (.cells #[.slice (some ⟨w.heap.size + 1, 0, none⟩) many many] 135)) → Touch (fun _ => False) w W ∧ W.heap.size = w.heap.size + 3 ∧ W.heap[w.heap.size]? = some (.cells #[.slice none 0 0] 135 (0, 0)) ∧ W.heap[w.heap.size + 2]? = some (.cells #[.slice (some ⟨w.heap.size + 1, 0, none⟩) many many] 135 (0, 0)) ∧ W.ownsRow w.heap.size 139 3 (.slice (some ⟨w.heap.size + 1, 0, none⟩) many many) many M.toList) := by
    rintro W rfl
    have s1 : (w.alloc (.cells #[.slice none 0 0] 135)).heap.size = w.heap.size + 1 := by simp
    have s2 : ((w.alloc (.cells #[.slice none 0 0] 135)).alloc (.cells M 139)).heap.size = w.heap.size + 2 := by simp
    refine ⟨Touch.trans (Touch.trans (Touch.alloc _ _) (Touch.alloc _ _) (fun _ h => .inl h)) (Touch.alloc _ _) (fun _ h => .inl h), by simp, ?_, ?_, ?_⟩
    · rw [Below.heap_alloc _ _ _ (by omega), Below.heap_alloc _ _ _ (by omega)]; exact heap_alloc_new w _
    · have := heap_alloc_new ((w.alloc (.cells #[.slice none 0 0] 135)).alloc (.cells M 139)) (.cells #[.slice (some ⟨w.heap.size + 1, 0, none⟩) many many] 135)
      rwa [s2] at this
    · have hb : (((w.alloc (.cells #[.slice none 0 0] 135)).alloc (.cells M 139)).alloc (.cells #[.slice (some ⟨w.heap.size + 1, 0, none⟩) many many] 135)).heap[w.heap.size + 1]? = some (.cells M 139 (0, 0)) := by
        rw [Below.heap_alloc _ _ _ (by omega)]
        have := heap_alloc_new (w.alloc (.cells #[.slice none 0 0] 135)) (.cells M 139)
        rwa [s1] at this
      exact ⟨by simp [hMs], .inr ⟨w.heap.size + 1, many, M, rfl, by omega, hb, Nat.le_refl _, by unfold maxLen; omega, hMs, by rw [List.take_of_length_le (by simp [hMs])]⟩⟩
  go_enter Tryz.func55, Tryz.ntmps55
  go_wp2
  go_loopw [13] (fun t wr => ∃ (k : Nat) (l : List El) (rest : List Value), k ≤ many ∧ t = .int .i64 k ∧ l.length = k ∧ I k l wr ∧ w.heap.size + 3 ≤ wr.heap.size ∧ wr.heap[w.heap.size]? = some (.cells #[.slice none 0 0] 135 (0, 0)) ∧ wr.heap[w.heap.size + 2]? = some (.cells #[.slice (some ⟨w.heap.size + 1, 0, none⟩) many many] 135 (0, 0)) ∧ wr.ownsRow w.heap.size 139 3 (.slice (some ⟨w.heap.size + 1, 0, none⟩) many many) many (mkcsC l ++ rest) ∧ rest.length = (many - k) * 3) (fun t _ => many - (intOf t).toNat)
  case atStart =>
    obtain ⟨h1, h2, h3, h4, h5⟩ := HINIT.out _ rfl
    exact ⟨0, [], M.toList, by omega, rfl, rfl, HK.out _ _ _ _ H0.out (h1.mono (fun _ h => h.elim)), by omega, h3, h4, h5, by simp [hMs]⟩
  case round =>
    obtain ⟨k, l, rest, hk, rfl, hl, hI, hsz, hres, hbox, hrow, hrest⟩ := hrel
    have bx : wr.cell? ⟨w.heap.size + 2, 0, none⟩ = some (.slice (some ⟨w.heap.size + 1, 0, none⟩) many many) := by rw [cell_of_row _ _ _ _ _ _ hbox]; rfl
    by_cases hlt : k < many
    · have HB := hide (HST.out k l wr.drew hlt (HK.out _ _ _ _ hI ⟨rfl, rfl, rfl, Nat.le_refl _, fun _ _ _ => rfl⟩) (by show w.heap.size + 3 ≤ wr.heap.size; omega))
      have HAF : Hid (∀ (x : El) (w2 : World), I (k + 1) (l ++ [x]) w2 → Touch S wr.drew w2 → w2.cell? ⟨w.heap.size + 2, 0, none⟩ = some (.slice (some ⟨w.heap.size + 1, 0, none⟩) many many) ∧ (∃ u : Nat → Value, ∀ o, o < 3 → w2.cell? ⟨w.heap.size + 1, k * 3 + o, none⟩ = some (u o)) ∧ (∀ o, w2.frozen? ⟨w.heap.size + 1, o, none⟩ = false) ∧
          (I (k + 1) (l ++ [x]) (setW w2 (w.heap.size + 1) (k * 3) (mkcC x)) ∧ w.heap.size + 3 ≤ (setW w2 (w.heap.size + 1) (k * 3) (mkcC x)).heap.size ∧ (setW w2 (w.heap.size + 1) (k * 3) (mkcC x)).heap[w.heap.size]? = some (.cells #[.slice none 0 0] 135 (0, 0)) ∧ (setW w2 (w.heap.size + 1) (k * 3) (mkcC x)).heap[w.heap.size + 2]? = some (.cells #[.slice (some ⟨w.heap.size + 1, 0, none⟩) many many] 135 (0, 0)) ∧ (setW w2 (w.heap.size + 1) (k * 3) (mkcC x)).ownsRow w.heap.size 139 3 (.slice (some ⟨w.heap.size + 1, 0, none⟩) many many) many (mkcsC (l ++ [x]) ++ rest.drop 3))) := by
        intro x w2 hI2 ht
        have ht2 : Touch S wr w2 := ⟨ht.os, ht.tape, ht.output, ht.size, ht.block⟩
        have hs2 := ht2.size
        have hbox2 := (ht2.block _ (by omega) (fun hs => by have := HS.out _ hs; omega)).trans hbox
        have hrow2 : w2.ownsRow w.heap.size 139 3 (.slice (some ⟨w.heap.size + 1, 0, none⟩) many many) many (mkcsC l ++ rest) := own_keep hrow (fun b e => ht2.block b (World.ownsRow.lt hrow b e).2 (fun hs => by have := HS.out _ hs; have := (World.ownsRow.lt hrow b e).1; omega))
        obtain ⟨cur, hcur, hcs⟩ : ∃ cur : Array Value, w2.heap[w.heap.size + 1]? = some (.cells cur 139 (0, 0)) ∧ cur.size = many * 3 := by
          rcases hrow2.2 with ⟨h, _⟩ | ⟨g', cap', cur, hv, _, hh, _, _, hs', _⟩
          · cases h
          · simp at hv
            obtain ⟨rfl, rfl⟩ := hv
            exact ⟨cur, hh, hs'⟩
        have t := touch_setW (w.heap.size + 1) (mkcC x) w2 (k * 3)
        have hres2 := (ht2.block _ (by omega) (fun hs => by have := HS.out _ hs; omega)).trans hres
        refine ⟨by rw [cell_of_row _ _ _ _ _ _ hbox2]; rfl, ⟨fun o => cur[k * 3 + o]?.getD default, fun o ho => ?_⟩, fun o => free_of_block hcur o, HK.out _ _ _ _ hI2 (t.mono (fun b hb => by rw [hb]; omega)), by have := t.size; omega, (t.block _ (by omega) (by omega)).trans hres2, (t.block _ (by omega) (by omega)).trans hbox2, ?_⟩
        · have hlt' : k * 3 + o < cur.size := by omega
          show _ = some (cur[k * 3 + o]?.getD default)
          rw [cell_of_row _ _ _ _ _ _ hcur]
          simp [hlt']
        · have := own_setW (mkcC x) w2 _ (k * 3) hrow2 (by show k * 3 + 3 ≤ many * 3; omega)
          rw [← hl, mkc_fill l x rest (by rw [hrest]; omega)] at this
          rw [← hl]
          exact this
      have HR6 : Hid ((rest.drop 3).length = (many - (k + 1)) * 3) := by show _ = _; rw [List.length_drop, hrest]; omega
      have HLL : Hid (∀ x : El, (l ++ [x]).length = k + 1) := fun x => by rw [List.length_append, hl]; rfl
      clear hI hres hbox hrow hl hrest
      go_wp2_with fail
      go_region_law (go_simp; (with_reducible show Calls Tryz.prog 56 _ _ _); refine HB.out.mono ?_; rintro e w2 ⟨x, rfl, hI2, ht2⟩; obtain ⟨bx2, ⟨u, hu⟩, hff, h5⟩ := HAF.out x w2 hI2 ht2; have H5 := hide h5; have q0 : w2.cell? ⟨w.heap.size + 1, k * 3, none⟩ = some (u 0) := hu 0 (by omega); have q1 := hu 1 (by omega); have q2 := hu 2 (by omega); have f0 := hff (k * 3); have f1 := hff (k * 3 + 1); have f2 := hff (k * 3 + 2); clear hI2 ht2 hu hff h5)
      all_goals (
        go_wp2
        go_roundw
        case rel => exact ⟨k + 1, l ++ [x], rest.drop 3, by omega, by go_num, HLL.out x, H5.out.1, H5.out.2.1, H5.out.2.2.1, H5.out.2.2.2.1, H5.out.2.2.2.2, HR6.out⟩
        case measure => simp [intOf]; omega)
    · obtain rfl : k = many := by omega
      obtain rfl : rest = [] := List.eq_nil_of_length_eq_zero (by rw [hrest, Nat.sub_self, Nat.zero_mul])
      rw [List.append_nil] at hrow
      have r0 : wr.cell? ⟨w.heap.size, 0, none⟩ = some (.slice none 0 0) := by rw [cell_of_row _ _ _ _ _ _ hres]; rfl
      have fr0 := free_of_block hres 0
      obtain ⟨wF, hwF⟩ : ∃ wF, wF = wr.setCell ⟨w.heap.size, 0, none⟩ (.slice (some ⟨w.heap.size + 1, 0, none⟩) k k) := ⟨_, rfl⟩
      have hFB : wF.heap[w.heap.size]? = some (.cells #[.slice (some ⟨w.heap.size + 1, 0, none⟩) k k] 135 (0, 0)) := by rw [hwF]; exact block_set hres 0 _
      have y0 : wF.cell? ⟨w.heap.size, 0, none⟩ = some (.slice (some ⟨w.heap.size + 1, 0, none⟩) k k) := by rw [cell_of_row _ _ _ _ _ _ hFB]; rfl
      have tF : Touch (· = w.heap.size) wr wF := by rw [hwF]; exact Touch.ofSet _ _ _ _ rfl
      have HEND : Hid (I k l wF ∧ l.length = k ∧ wF.ownsRow w.heap.size 139 3 (.slice (some ⟨w.heap.size + 1, 0, none⟩) k k) k (mkcsC l)) := ⟨HK.out _ _ _ _ hI (tF.mono (fun b hb => by rw [hb]; omega)), hl, own_keep hrow (fun b e => tF.block b (World.ownsRow.lt hrow b e).2 (by simp [Value.ownBlock] at e; omega))⟩
      have HWF := hide hwF
      clear hI hres hbox hrow hl hrest hFB tF hwF
      go_wp2
      rw [← HWF.out]
      refine bodyPost_ret (v := .agg #[.slice (some ⟨w.heap.size + 1, 0, none⟩) k k]) (by simp [results, Tryz.results55, go_sem, y0]) rfl ?_
      exact ⟨_, l, rfl, HEND.out⟩
def mksC (x : El) : List Value := [.int .i64 (x.i 0), .int .i64 (x.i 1), .bool x.b]
def mkssC (l : List El) : List Value := l.flatMap mksC
theorem mkssC_length (l : List El) : (mkssC l).length = l.length * 3 := by
  induction l with
  | nil => rfl
  | cons a l ih => show (mksC a ++ mkssC l).length = _; rw [List.length_append, ih]; show 3 + _ = _; simp; omega
theorem mks_fill (l : List El) (e : El) (rest : List Value) (hr : 3 ≤ rest.length) : setL (mkssC l ++ rest) (l.length * 3) (mksC e) = mkssC (l ++ [e]) ++ rest.drop 3 := by
  apply List.ext_getElem?
  intro j
  have h1 := mkssC_length l
  have hx : (mksC e).length = 3 := rfl
  rw [setL_get _ _ _ (by rw [List.length_append, h1, hx]; omega), hx, show mkssC (l ++ [e]) = mkssC l ++ mksC e from by simp [mkssC], List.append_assoc]
  by_cases ha : j < l.length * 3
  · rw [if_neg (by omega), List.getElem?_append_left (by omega), List.getElem?_append_left (by omega)]
  · by_cases hb : j < l.length * 3 + 3
    · rw [if_pos (by omega), List.getElem?_append_right (by omega), h1, List.getElem?_append_left (by rw [hx]; omega)]
    · rw [if_neg (by omega), List.getElem?_append_right (by omega), List.getElem?_append_right (by omega), h1, List.getElem?_append_right (by rw [hx]; omega), hx, List.getElem?_drop]
      congr 1
      omega
set_option maxRecDepth 100000 in
set_option maxHeartbeats 4000000 in
theorem makeState_any (cb : Nat) (many : Nat) (hm : many ≤ 255) (S : Nat → Prop) (w : World) (hS : ∀ b, S b → b < w.heap.size) (I : Nat → List El → World → Prop)
    (hkeep : ∀ j l wr w', I j l wr → Touch (fun b => w.heap.size ≤ b ∧ b < w.heap.size + 3) wr w' → I j l w')
    (hstep : ∀ j l wr, j < many → I j l wr → w.heap.size + 3 ≤ wr.heap.size → Calls Tryz.prog 110 #[.int .i64 j, .pointer (some ⟨cb, 0, none⟩)] wr fun e w' => ∃ x : El, e = .returned (.agg #[.int .i64 (x.i 0), .int .i64 (x.i 1), .bool x.b]) ∧ I (j + 1) (l ++ [x]) w' ∧ Touch S wr w')
    (h0 : I 0 [] w) : Calls Tryz.prog 108 #[.int .i64 many, .func (.func 110) #[] #[.pointer (some ⟨cb, 0, none⟩)]] w fun e w' => ∃ x l, e = .returned (.agg #[.slice (some ⟨x, 0, none⟩) many many]) ∧ I many l w' ∧ l.length = many ∧ w'.ownsRow w.heap.size 47 3 (.slice (some ⟨x, 0, none⟩) many many) many (mkssC l) := by
  obtain ⟨i0, hi, hz0, hz1, hz2⟩ := info_parts Tryz.info47
  have hmk : ∀ W : World, (Instr.makeSlice 41 (.int .i64 (many : Int)) (.int .i64 (many : Int))).run Tryz.prog W = .ok (.slice (some ⟨W.heap.size, 0, none⟩) many many) (W.alloc (.cells (madeCells #[.int .i64 0, .int .i64 0, .bool false] (many * 3)) 47)) := by
    intro W
    have := run_make (P := Tryz.prog) (w := W) 41 47 i0 _ Tryz.underlying41 hi hz0 .i64 .i64 (many : Int) (many : Int) (by omega) (by omega) (by rw [hz2]; omega) (by omega)
    simpa [hz1, Value.cells] using this
  generalize hM : madeCells #[.int .i64 0, .int .i64 0, .bool false] (many * 3) = M at hmk
  have hMs : M.size = many * 3 := by rw [← hM]; simp [madeCells]
  have HK := hide hkeep
  have HS := hide hS
  have HST := hide hstep
  have H0 := hide h0
  clear hkeep hS hstep h0 hM
  have HINIT : Hid (∀ W, W = (((w.alloc (.cells #[.slice none 0 0] 213)).alloc (.cells M 47)).alloc (.cells #[.slice (some ⟨w.heap.size + 1, 0, none⟩) many many] 213)) → Touch (fun _ => False) w W ∧ W.heap.size = w.heap.size + 3 ∧ W.heap[w.heap.size]? = some (.cells #[.slice none 0 0] 213 (0, 0)) ∧ W.heap[w.heap.size + 2]? = some (.cells #[.slice (some ⟨w.heap.size + 1, 0, none⟩) many many] 213 (0, 0)) ∧ W.ownsRow w.heap.size 47 3 (.slice (some ⟨w.heap.size + 1, 0, none⟩) many many) many M.toList) := by
    rintro W rfl
    have s1 : (w.alloc (.cells #[.slice none 0 0] 213)).heap.size = w.heap.size + 1 := by simp
    have s2 : ((w.alloc (.cells #[.slice none 0 0] 213)).alloc (.cells M 47)).heap.size = w.heap.size + 2 := by simp
    refine ⟨Touch.trans (Touch.trans (Touch.alloc _ _) (Touch.alloc _ _) (fun _ h => .inl h)) (Touch.alloc _ _) (fun _ h => .inl h), by simp, ?_, ?_, ?_⟩
    · rw [Below.heap_alloc _ _ _ (by omega), Below.heap_alloc _ _ _ (by omega)]; exact heap_alloc_new w _
    · have := heap_alloc_new ((w.alloc (.cells #[.slice none 0 0] 213)).alloc (.cells M 47)) (.cells #[.slice (some ⟨w.heap.size + 1, 0, none⟩) many many] 213)
      rwa [s2] at this
    · have hb : (((w.alloc (.cells #[.slice none 0 0] 213)).alloc (.cells M 47)).alloc (.cells #[.slice (some ⟨w.heap.size + 1, 0, none⟩) many many] 213)).heap[w.heap.size + 1]? = some (.cells M 47 (0, 0)) := by
        rw [Below.heap_alloc _ _ _ (by omega)]
        have := heap_alloc_new (w.alloc (.cells #[.slice none 0 0] 213)) (.cells M 47)
        rwa [s1] at this
      exact ⟨by simp [hMs], .inr ⟨w.heap.size + 1, many, M, rfl, by omega, hb, Nat.le_refl _, by unfold maxLen; omega, hMs, by rw [List.take_of_length_le (by simp [hMs])]⟩⟩
  go_enter Tryz.func108, Tryz.ntmps108
  go_wp2
  go_loopw [13] (fun t wr => ∃ (k : Nat) (l : List El) (rest : List Value), k ≤ many ∧ t = .int .i64 k ∧ l.length = k ∧ I k l wr ∧ w.heap.size + 3 ≤ wr.heap.size ∧ wr.heap[w.heap.size]? = some (.cells #[.slice none 0 0] 213 (0, 0)) ∧ wr.heap[w.heap.size + 2]? = some (.cells #[.slice (some ⟨w.heap.size + 1, 0, none⟩) many many] 213 (0, 0)) ∧ wr.ownsRow w.heap.size 47 3 (.slice (some ⟨w.heap.size + 1, 0, none⟩) many many) many (mkssC l ++ rest) ∧ rest.length = (many - k) * 3) (fun t _ => many - (intOf t).toNat)
  case atStart =>
    obtain ⟨h1, h2, h3, h4, h5⟩ := HINIT.out _ rfl
    exact ⟨0, [], M.toList, by omega, rfl, rfl, HK.out _ _ _ _ H0.out (h1.mono (fun _ h => h.elim)), by omega, h3, h4, h5, by simp [hMs]⟩
  case round =>
    obtain ⟨k, l, rest, hk, rfl, hl, hI, hsz, hres, hbox, hrow, hrest⟩ := hrel
    have bx : wr.cell? ⟨w.heap.size + 2, 0, none⟩ = some (.slice (some ⟨w.heap.size + 1, 0, none⟩) many many) := by rw [cell_of_row _ _ _ _ _ _ hbox]; rfl
    by_cases hlt : k < many
    · have HB := hide (HST.out k l wr.drew hlt (HK.out _ _ _ _ hI ⟨rfl, rfl, rfl, Nat.le_refl _, fun _ _ _ => rfl⟩) (by show w.heap.size + 3 ≤ wr.heap.size; omega))
      have HAF : Hid (∀ (x : El) (w2 : World), I (k + 1) (l ++ [x]) w2 → Touch S wr.drew w2 → w2.cell? ⟨w.heap.size + 2, 0, none⟩ = some (.slice (some ⟨w.heap.size + 1, 0, none⟩) many many) ∧ (∃ u : Nat → Value, ∀ o, o < 3 → w2.cell? ⟨w.heap.size + 1, k * 3 + o, none⟩ = some (u o)) ∧ (∀ o, w2.frozen? ⟨w.heap.size + 1, o, none⟩ = false) ∧
          (I (k + 1) (l ++ [x]) (setW w2 (w.heap.size + 1) (k * 3) (mksC x)) ∧ w.heap.size + 3 ≤ (setW w2 (w.heap.size + 1) (k * 3) (mksC x)).heap.size ∧ (setW w2 (w.heap.size + 1) (k * 3) (mksC x)).heap[w.heap.size]? = some (.cells #[.slice none 0 0] 213 (0, 0)) ∧ (setW w2 (w.heap.size + 1) (k * 3) (mksC x)).heap[w.heap.size + 2]? = some (.cells #[.slice (some ⟨w.heap.size + 1, 0, none⟩) many many] 213 (0, 0)) ∧ (setW w2 (w.heap.size + 1) (k * 3) (mksC x)).ownsRow w.heap.size 47 3 (.slice (some ⟨w.heap.size + 1, 0, none⟩) many many) many (mkssC (l ++ [x]) ++ rest.drop 3))) := by
        intro x w2 hI2 ht
        have ht2 : Touch S wr w2 := ⟨ht.os, ht.tape, ht.output, ht.size, ht.block⟩
        have hs2 := ht2.size
        have hbox2 := (ht2.block _ (by omega) (fun hs => by have := HS.out _ hs; omega)).trans hbox
        have hrow2 : w2.ownsRow w.heap.size 47 3 (.slice (some ⟨w.heap.size + 1, 0, none⟩) many many) many (mkssC l ++ rest) := own_keep hrow (fun b e => ht2.block b (World.ownsRow.lt hrow b e).2 (fun hs => by have := HS.out _ hs; have := (World.ownsRow.lt hrow b e).1; omega))
        obtain ⟨cur, hcur, hcs⟩ : ∃ cur : Array Value, w2.heap[w.heap.size + 1]? = some (.cells cur 47 (0, 0)) ∧ cur.size = many * 3 := by
          rcases hrow2.2 with ⟨h, _⟩ | ⟨g', cap', cur, hv, _, hh, _, _, hs', _⟩
          · cases h
          · simp at hv
            obtain ⟨rfl, rfl⟩ := hv
            exact ⟨cur, hh, hs'⟩
        have t := touch_setW (w.heap.size + 1) (mksC x) w2 (k * 3)
        have hres2 := (ht2.block _ (by omega) (fun hs => by have := HS.out _ hs; omega)).trans hres
        refine ⟨by rw [cell_of_row _ _ _ _ _ _ hbox2]; rfl, ⟨fun o => cur[k * 3 + o]?.getD default, fun o ho => ?_⟩, fun o => free_of_block hcur o, HK.out _ _ _ _ hI2 (t.mono (fun b hb => by rw [hb]; omega)), by have := t.size; omega, (t.block _ (by omega) (by omega)).trans hres2, (t.block _ (by omega) (by omega)).trans hbox2, ?_⟩
        · have hlt' : k * 3 + o < cur.size := by omega
          show _ = some (cur[k * 3 + o]?.getD default)
          rw [cell_of_row _ _ _ _ _ _ hcur]
          simp [hlt']
        · have := own_setW (mksC x) w2 _ (k * 3) hrow2 (by show k * 3 + 3 ≤ many * 3; omega)
          rw [← hl, mks_fill l x rest (by rw [hrest]; omega)] at this
          rw [← hl]
          exact this
      have HR6 : Hid ((rest.drop 3).length = (many - (k + 1)) * 3) := by show _ = _; rw [List.length_drop, hrest]; omega
      have HLL : Hid (∀ x : El, (l ++ [x]).length = k + 1) := fun x => by rw [List.length_append, hl]; rfl
      clear hI hres hbox hrow hl hrest
      go_wp2_with fail
      go_region_law (go_simp; (with_reducible show Calls Tryz.prog 110 _ _ _); refine HB.out.mono ?_; rintro e w2 ⟨x, rfl, hI2, ht2⟩; obtain ⟨bx2, ⟨u, hu⟩, hff, h5⟩ := HAF.out x w2 hI2 ht2; have H5 := hide h5; have q0 : w2.cell? ⟨w.heap.size + 1, k * 3, none⟩ = some (u 0) := hu 0 (by omega); have q1 := hu 1 (by omega); have q2 := hu 2 (by omega); have f0 := hff (k * 3); have f1 := hff (k * 3 + 1); have f2 := hff (k * 3 + 2); clear hI2 ht2 hu hff h5)
      all_goals (
        go_wp2
        go_roundw
        case rel => exact ⟨k + 1, l ++ [x], rest.drop 3, by omega, by go_num, HLL.out x, H5.out.1, H5.out.2.1, H5.out.2.2.1, H5.out.2.2.2.1, H5.out.2.2.2.2, HR6.out⟩
        case measure => simp [intOf]; omega)
    · obtain rfl : k = many := by omega
      obtain rfl : rest = [] := List.eq_nil_of_length_eq_zero (by rw [hrest, Nat.sub_self, Nat.zero_mul])
      rw [List.append_nil] at hrow
      have r0 : wr.cell? ⟨w.heap.size, 0, none⟩ = some (.slice none 0 0) := by rw [cell_of_row _ _ _ _ _ _ hres]; rfl
      have fr0 := free_of_block hres 0
      obtain ⟨wF, hwF⟩ : ∃ wF, wF = wr.setCell ⟨w.heap.size, 0, none⟩ (.slice (some ⟨w.heap.size + 1, 0, none⟩) k k) := ⟨_, rfl⟩
      have hFB : wF.heap[w.heap.size]? = some (.cells #[.slice (some ⟨w.heap.size + 1, 0, none⟩) k k] 213 (0, 0)) := by rw [hwF]; exact block_set hres 0 _
      have y0 : wF.cell? ⟨w.heap.size, 0, none⟩ = some (.slice (some ⟨w.heap.size + 1, 0, none⟩) k k) := by rw [cell_of_row _ _ _ _ _ _ hFB]; rfl
      have tF : Touch (· = w.heap.size) wr wF := by rw [hwF]; exact Touch.ofSet _ _ _ _ rfl
      have HEND : Hid (I k l wF ∧ l.length = k ∧ wF.ownsRow w.heap.size 47 3 (.slice (some ⟨w.heap.size + 1, 0, none⟩) k k) k (mkssC l)) := ⟨HK.out _ _ _ _ hI (tF.mono (fun b hb => by rw [hb]; omega)), hl, own_keep hrow (fun b e => tF.block b (World.ownsRow.lt hrow b e).2 (by simp [Value.ownBlock] at e; omega))⟩
      have HWF := hide hwF
      clear hI hres hbox hrow hl hrest hFB tF hwF
      go_wp2
      rw [← HWF.out]
      refine bodyPost_ret (v := .agg #[.slice (some ⟨w.heap.size + 1, 0, none⟩) k k]) (by simp [results, Tryz.results108, go_sem, y0]) rfl ?_
      exact ⟨_, l, rfl, HEND.out⟩
end Go.Proofs.YtnjlbgolnbdkaaaGreat
/- A configuration that was read without a fault is one that may be. Plain. -/
namespace Go.Proofs.YtnjlbgolnbdkaaaGreat

structure PrGood (p : Pr) : Prop where
  prio : 0 ≤ p.prio ∧ p.prio ≤ 9
  len : 1 ≤ p.code.length ∧ p.code.length ≤ 20
  code : ∀ c ∈ p.code, (0 ≤ c.1 ∧ c.1 ≤ 13) ∧ (0 ≤ c.2 ∧ c.2 ≤ 255) ∧ (c.1 = 4 → c.2 < p.code.length)
structure PtGood (p : Pt) : Prop where
  words : 1 ≤ p.words ∧ p.words ≤ 16
  limit : 0 ≤ p.limit ∧ p.limit ≤ 9
  six : p.acts.length = 6
  acts : ∀ a ∈ p.acts, 1 ≤ a ∧ a ≤ 7
  last : p.acts.getD 5 0 ≠ 2 ∧ p.acts.getD 5 0 ≠ 3
  few : 1 ≤ p.procs.length ∧ p.procs.length ≤ 2
  procs : ∀ q ∈ p.procs, PrGood q
structure CfGood (cf : Cf) : Prop where
  frame : 1 ≤ cf.frame ∧ cf.frame ≤ 64
  watch : 0 ≤ cf.watch ∧ cf.watch ≤ 200
  few : 1 ≤ cf.parts.length ∧ cf.parts.length ≤ 4
  parts : ∀ p ∈ cf.parts, PtGood p
  nwins : 1 ≤ cf.wins.length ∧ cf.wins.length ≤ 8
  wins : ∀ x ∈ cf.wins, (0 ≤ x.part ∧ x.part < cf.parts.length) ∧ 0 ≤ x.first ∧ 1 ≤ x.many ∧ x.first + x.many ≤ cf.frame
  order : cf.wins.Pairwise fun a b => a.first + a.many ≤ b.first
  nchans : cf.chans.length ≤ 4
  chans : ∀ x ∈ cf.chans, (0 ≤ x.src ∧ x.src < cf.parts.length) ∧ (0 ≤ x.dst ∧ x.dst < cf.parts.length) ∧ x.src ≠ x.dst ∧ 1 ≤ x.depth ∧ x.depth ≤ 4

theorem rdTo_all {α : Type} (f : Rd → α × Rd) (G : α → Prop) (hf : ∀ r, (f r).2.err = 0 → r.err = 0 ∧ G (f r).1) (k : Nat) (r : Rd) (h : (rdTo f k r).2.err = 0) : r.err = 0 ∧ (rdTo f k r).1.length = k ∧ ∀ x ∈ (rdTo f k r).1, G x := by
  induction k with
  | zero => exact ⟨h, rfl, fun x hx => by simp [rdTo] at hx⟩
  | succ k ih =>
    by_cases he : (rdTo f k r).2.err = 0
    · rw [rdTo_go f k r he] at h ⊢
      obtain ⟨h1, h2, h3⟩ := ih he
      obtain ⟨_, h5⟩ := hf _ h
      refine ⟨h1, by simp [h2], fun x hx => ?_⟩
      rcases List.mem_append.1 hx with hx | hx
      · exact h3 x hx
      · rw [List.mem_singleton.1 hx]; exact h5
    · rw [rdTo_stop f k r he (k + 1) (by omega)] at h
      exact absurd h he
theorem rdB_rng (zs : List Int) (lo hi : Int) (r : Rd) (h : (rdB zs lo hi r).2.err = 0) : r.err = 0 ∧ lo ≤ (rdB zs lo hi r).1 ∧ (rdB zs lo hi r).1 ≤ hi := by
  obtain ⟨h1, _, h3, h4, h5, _⟩ := rdB_ok zs lo hi r h
  exact ⟨h1, by omega, by omega⟩
theorem rdNot_ok (v bad : Int) (r : Rd) (h : (rdNot v bad r).err = 0) : r.err = 0 ∧ v ≠ bad := by
  unfold rdNot at h
  split at h
  · simp at h
  · rename_i hc
    exact ⟨h, fun e => hc ⟨h, e⟩⟩
theorem rdProc_good (zs : List Int) (r : Rd) (h : (rdProc zs r).2.err = 0) : r.err = 0 ∧ PrGood (rdProc zs r).1 := by
  unfold rdProc at h ⊢
  simp only at h ⊢
  obtain ⟨h1, h2, h3⟩ := rdTo_all (rdIns zs _) (fun c => (0 ≤ c.1 ∧ c.1 ≤ 13) ∧ (0 ≤ c.2 ∧ c.2 ≤ 255) ∧ (c.1 = 4 → c.2 < (rdB zs 1 20 (rdB zs 0 9 r).2).1)) (fun r' hr => by
    unfold rdIns at hr ⊢
    simp only at hr ⊢
    obtain ⟨a1, a2, a3⟩ := rdB_rng _ _ _ _ hr
    obtain ⟨b1, b2, b3⟩ := rdB_rng _ _ _ _ a1
    refine ⟨b1, ⟨b2, b3⟩, ⟨a2, ?_⟩, fun he => ?_⟩
    · split at a3
      · rename_i he
        have hv := (rdB_val zs 1 20 (rdB zs 0 9 r).2 (by omega)).2
        rw [if_pos he]
        omega
      · rename_i he
        rw [if_neg he]
        exact a3
    · rw [if_pos he] at a3 ⊢
      omega) _ _ h
  obtain ⟨c1, c2, c3⟩ := rdB_rng _ _ _ _ h1
  obtain ⟨d1, d2, d3⟩ := rdB_rng _ _ _ _ c1
  refine ⟨d1, ⟨d2, d3⟩, by rw [h2]; omega, fun c hc => ?_⟩
  obtain ⟨e1, e2, e3⟩ := h3 c hc
  refine ⟨e1, e2, fun he => ?_⟩
  rw [h2]
  have := e3 he
  omega
theorem rdActs_ok (zs : List Int) (k : Nat) (r : Rd) (hk : k ≤ 6) (h : (rdActs zs k r).2.err = 0) : r.err = 0 ∧ (∀ a ∈ (rdActs zs k r).1, 1 ≤ a ∧ a ≤ 7) ∧ (6 ≤ k → (rdActs zs k r).1.getD 5 0 ≠ 2 ∧ (rdActs zs k r).1.getD 5 0 ≠ 3) := by
  induction k with
  | zero => exact ⟨h, fun a ha => by simp [rdActs] at ha, fun h => by omega⟩
  | succ k ih =>
    have hs : rdActs zs (k + 1) r = ((rdActs zs k r).1 ++ [(rdAct zs k (rdActs zs k r).2).1], (rdAct zs k (rdActs zs k r).2).2) := rfl
    rw [hs] at h ⊢
    simp only at h ⊢
    have key : (rdB zs 1 7 (rdActs zs k r).2).2.err = 0 ∧ (k = 5 → (rdB zs 1 7 (rdActs zs k r).2).1 ≠ 2 ∧ (rdB zs 1 7 (rdActs zs k r).2).1 ≠ 3) := by
      unfold rdAct at h
      simp only at h
      by_cases h5 : k = 5
      · rw [if_pos h5] at h
        obtain ⟨x1, x2⟩ := rdNot_ok _ _ _ h
        obtain ⟨y1, y2⟩ := rdNot_ok _ _ _ x1
        exact ⟨y1, fun _ => ⟨y2, x2⟩⟩
      · rw [if_neg h5] at h
        exact ⟨h, fun h6 => absurd h6 h5⟩
    obtain ⟨a1, a2, a3⟩ := rdB_rng _ _ _ _ key.1
    obtain ⟨b1, b2, _⟩ := ih (by omega) a1
    have hv : (rdAct zs k (rdActs zs k r).2).1 = (rdB zs 1 7 (rdActs zs k r).2).1 := rfl
    refine ⟨b1, fun a ha => ?_, fun h6 => ?_⟩
    · rcases List.mem_append.1 ha with ha | ha
      · exact b2 a ha
      · rw [List.mem_singleton.1 ha, hv]; omega
    · obtain rfl : k = 5 := by omega
      have hl := rdActs_length zs 5 r
      rw [List.getD_eq_getElem?_getD, List.getElem?_append_right (by omega), hl, hv]
      exact key.2 rfl
theorem rdPart_good (zs : List Int) (r : Rd) (h : (rdPart zs r).2.err = 0) : r.err = 0 ∧ PtGood (rdPart zs r).1 := by
  unfold rdPart at h ⊢
  simp only at h ⊢
  obtain ⟨h1, h2, h3⟩ := rdTo_all (rdProc zs) PrGood (rdProc_good zs) _ _ h
  obtain ⟨a1, a2, a3⟩ := rdB_rng _ _ _ _ h1
  obtain ⟨b1, b2, b3⟩ := rdActs_ok zs 6 _ (by omega) a1
  obtain ⟨c1, c2, c3⟩ := rdB_rng _ _ _ _ b1
  obtain ⟨d1, d2, d3⟩ := rdB_rng _ _ _ _ c1
  obtain ⟨e1, _, _⟩ := rdB_rng _ _ _ _ d1
  exact ⟨e1, ⟨d2, d3⟩, ⟨c2, c3⟩, rdActs_length zs 6 _, b2, b3 (Nat.le_refl _), by rw [h2]; omega, h3⟩
theorem rdWins_good (zs : List Int) (n frame : Int) (k : Nat) (r : Rd) (h0 : 0 ≤ r.fin) (h : (rdTo (rdWin zs n frame) k r).2.err = 0) :
    r.err = 0 ∧ (rdTo (rdWin zs n frame) k r).1.length = k ∧ r.fin ≤ (rdTo (rdWin zs n frame) k r).2.fin ∧ (∀ x ∈ (rdTo (rdWin zs n frame) k r).1, ((0 ≤ x.part ∧ x.part < n) ∧ 0 ≤ x.first ∧ 1 ≤ x.many ∧ x.first + x.many ≤ frame) ∧ x.first + x.many ≤ (rdTo (rdWin zs n frame) k r).2.fin) ∧ (rdTo (rdWin zs n frame) k r).1.Pairwise fun a b => a.first + a.many ≤ b.first := by
  induction k with
  | zero => exact ⟨h, rfl, Int.le_refl _, fun x hx => by simp [rdTo] at hx, List.Pairwise.nil⟩
  | succ k ih =>
    by_cases he : (rdTo (rdWin zs n frame) k r).2.err = 0
    · rw [rdTo_go _ k r he] at h ⊢
      obtain ⟨h1, h2, h3, h4, h5⟩ := ih he
      generalize rdTo (rdWin zs n frame) k r = s at *
      simp only at h ⊢
      have hw : (rdWin zs n frame s.2).1.first + (rdWin zs n frame s.2).1.many = (rdWin zs n frame s.2).2.fin := rfl
      have hk : ((0 ≤ (rdWin zs n frame s.2).1.part ∧ (rdWin zs n frame s.2).1.part < n) ∧ s.2.fin ≤ (rdWin zs n frame s.2).1.first ∧ 1 ≤ (rdWin zs n frame s.2).1.many ∧ (rdWin zs n frame s.2).1.first + (rdWin zs n frame s.2).1.many ≤ frame) := by
        unfold rdWin at h ⊢
        simp only at h ⊢
        obtain ⟨a1, a2, a3⟩ := rdB_rng _ _ _ _ h
        obtain ⟨b1, b2, b3⟩ := rdB_rng _ _ _ _ a1
        obtain ⟨c1, c2, c3⟩ := rdB_rng _ _ _ _ b1
        exact ⟨⟨c2, by omega⟩, b2, a2, by omega⟩
      generalize rdWin zs n frame s.2 = x at *
      refine ⟨h1, by simp [h2], by omega, fun y hy => ?_, ?_⟩
      · rcases List.mem_append.1 hy with hy | hy
        · obtain ⟨g1, g2⟩ := h4 y hy
          exact ⟨g1, by omega⟩
        · rw [List.mem_singleton.1 hy]
          exact ⟨⟨hk.1, by omega, hk.2.2.1, hk.2.2.2⟩, by omega⟩
      · refine List.pairwise_append.2 ⟨h5, List.pairwise_singleton _ _, fun a ha b hb => ?_⟩
        rw [List.mem_singleton.1 hb]
        have := (h4 a ha).2
        omega
    · rw [rdTo_stop _ k r he (k + 1) (by omega)] at h
      exact absurd h he
theorem conf_good (zs : List Int) (h : (rdConf zs).2.err = 0) : CfGood (rdConf zs).1 := by
  unfold rdConf at h ⊢
  simp only at h ⊢
  obtain ⟨h1, h2, h3⟩ := rdTo_all (rdChan zs _) (fun x => (0 ≤ x.src ∧ x.src < (rdB zs 1 4 (rdB zs 72 72 ⟨0, 0, 0, 0⟩).2).1) ∧ (0 ≤ x.dst ∧ x.dst < (rdB zs 1 4 (rdB zs 72 72 ⟨0, 0, 0, 0⟩).2).1) ∧ x.src ≠ x.dst ∧ 1 ≤ x.depth ∧ x.depth ≤ 4) (fun r hr => by
    unfold rdChan at hr ⊢
    simp only at hr ⊢
    obtain ⟨a1, a2, a3⟩ := rdB_rng _ _ _ _ hr
    obtain ⟨b1, b2⟩ := rdNot_ok _ _ _ a1
    obtain ⟨c1, c2, c3⟩ := rdB_rng _ _ _ _ b1
    obtain ⟨d1, d2, d3⟩ := rdB_rng _ _ _ _ c1
    exact ⟨d1, ⟨d2, by omega⟩, ⟨c2, by omega⟩, fun e => b2 e.symm, a2, a3⟩) _ _ h
  obtain ⟨a1, a2, a3⟩ := rdB_rng _ _ _ _ h1
  obtain ⟨b1, b2, _, b4, b5⟩ := rdWins_good zs _ _ _ _ (Int.le_refl _) a1
  obtain ⟨c1, c2, c3⟩ := rdB_rng _ _ _ _ b1
  obtain ⟨d1, d2, d3⟩ := rdTo_all (rdPart zs) PtGood (rdPart_good zs) _ _ c1
  obtain ⟨e1, e2, e3⟩ := rdB_rng _ _ _ _ d1
  obtain ⟨f1, f2, f3⟩ := rdB_rng _ _ _ _ e1
  obtain ⟨g1, g2, g3⟩ := rdB_rng _ _ _ _ f1
  refine ⟨⟨f2, f3⟩, ⟨e2, e3⟩, by rw [d2]; omega, d3, by rw [b2]; omega, fun x hx => ?_, b5, by rw [h2]; omega, fun x hx => ?_⟩
  · obtain ⟨⟨i1, i2⟩, i3⟩ := (b4 x hx).1
    exact ⟨⟨i1, by rw [d2]; omega⟩, i3⟩
  · obtain ⟨⟨i1, i2⟩, ⟨j1, j2⟩, k⟩ := h3 x hx
    exact ⟨⟨i1, by rw [d2]; omega⟩, ⟨j1, by rw [d2]; omega⟩, k⟩
theorem parse_good (zs : List Int) (h : (parseOf zs).2.2 = 0) : CfGood (parseOf zs).1 := by
  unfold parseOf at h ⊢
  simp only at h ⊢
  split at h
  · rename_i h1; exact absurd h h1
  · rename_i h1
    rw [if_neg h1]
    split at h
    · simp at h
    · rename_i h2
      rw [if_neg h2]
      split at h
      · simp at h
      · rename_i h3
        rw [if_neg h3]
        split at h
        · simp at h
        · rename_i h4
          rw [if_neg h4]
          exact conf_good zs (by simpa using h1)
end Go.Proofs.YtnjlbgolnbdkaaaGreat
