/- Texts of the proofs of Watched and Clocked, one behind the other. -/
import Derived.Test.YtnjlbgolnbdkaaaGreatM10
import Derived.Deep.RegionHeld3
import Derived.Deep.MidRow
import Derived.Test.YtnjlbgolnbdkaaaGreatM03
import Derived.Test.YtnjlbgolnbdkaaaGreatM04
import Derived.Test.YtnjlbgolnbdkaaaGreatM02
import Derived.Deep.AppendLies
import Derived.Test.YtnjlbgolnbdkaaaGreatM00
/- Texts of the proof of Boots, one behind the other. -/
namespace Go.Proofs.YtnjlbgolnbdkaaaGreat
open Go.RowKit
attribute [-go_sem] Instr.storeAt
theorem Tryz.size120 : (Tryz.prog.info? 120).map (·.size) = some 14 := by kernel_rfl

structure ProcsAt (w : World) (q c : Nat) (l : List (Pr × Value)) (prio : Nat → Int) : Prop where
  few : l.length = 1 ∨ l.length = 2
  lt : q < w.heap.size
  cell : ∀ k p, l[k]? = some p → (∃ a m cc, p.2 = .slice a m cc) ∧ w.cell? ⟨q, k * 2, none⟩ = some (.int .i64 (prio k)) ∧ w.cell? ⟨q, k * 2 + 1, none⟩ = some p.2
theorem ProcsAt.keep {w w' : World} {q c : Nat} {l : List (Pr × Value)} {prio : Nat → Int} (h : ProcsAt w q c l prio) (hs : w.heap.size ≤ w'.heap.size) (hb : w'.heap[q]? = w.heap[q]?) : ProcsAt w' q c l prio :=
  ⟨h.few, Nat.lt_of_lt_of_le h.lt hs, fun k p hp => ⟨(h.cell k p hp).1, (cell_same hb _).trans (h.cell k p hp).2.1, (cell_same hb _).trans (h.cell k p hp).2.2⟩⟩
theorem turns_any (q c : Nat) (l : List (Pr × Value)) (prio : Nat → Int) (w : World) (h : ProcsAt w q c l prio) :
    Calls Tryz.prog 95 #[.slice (some ⟨q, 0, none⟩) l.length c] w fun e w' => ∃ x, e = .returned (.agg #[.slice (some ⟨x, 0, none⟩) l.length l.length]) ∧ w.heap.size ≤ x ∧ w'.heap[x]? = some (.cells ((turnI l.length prio).map (Value.int .i64)).toArray 3 (0, 0)) ∧ Below w.heap.size w w' := by
  have key : ∀ k, k < l.length → w.cell? ⟨q, k * 2, none⟩ = some (.int .i64 (prio k)) := fun k hk => (h.cell k l[k] (List.getElem?_eq_getElem hk)).2.1
  rcases h.few with hn | hn
  · rw [hn] at key ⊢
    refine (turns1_any q c prio w key).mono ?_
    rintro e w' ⟨x, rfl, hown, hb⟩
    obtain ⟨h1, h2⟩ := own_cells hown
    exact ⟨x, rfl, h1, h2, hb⟩
  · rw [hn] at key ⊢
    refine (turns2_any q c prio w key).mono ?_
    rintro e w' ⟨x, rfl, hown, hb⟩
    obtain ⟨h1, h2⟩ := own_cells hown
    exact ⟨x, rfl, h1, h2, hb⟩

set_option maxRecDepth 100000 in
set_option maxHeartbeats 40000000 in
theorem start_any (i : Int) (sy : Bool) (wn : Nat) (li a0 a1 a2 a3 a4 a5 mo : Int) (q c : Nat) (l : List (Pr × Value)) (prio : Nat → Int) (w : World) (hwn : wn ≤ 16) (h : ProcsAt w q c l prio) :
    Calls Tryz.prog 51 #[.int .i64 i, .agg #[.bool sy, .int .i64 wn, .int .i64 li, .int .i64 a0, .int .i64 a1, .int .i64 a2, .int .i64 a3, .int .i64 a4, .int .i64 a5, .slice (some ⟨q, 0, none⟩) l.length c], .int .i64 mo] w fun e w' => ∃ xw xp xt, e = .returned (.agg #[.int .i64 i, .bool sy, .int .i64 li, .int .i64 a0, .int .i64 a1, .int .i64 a2, .int .i64 a3, .int .i64 a4, .int .i64 a5, .int .i64 mo, .slice (some ⟨xw, 0, none⟩) wn wn, .slice (some ⟨xp, 0, none⟩) l.length l.length, .slice (some ⟨xt, 0, none⟩) l.length l.length, .int .i64 0]) ∧ (w.heap.size ≤ xw ∧ w.heap.size ≤ xp ∧ w.heap.size ≤ xt ∧ xw ≠ xt) ∧ w'.heap[xw]? = some (.cells ((List.replicate wn (0 : Int)).map (Value.int .i64)).toArray 3 (0, 0)) ∧ w'.heap[xp]? = some (.cells (l.flatMap fun p => mprocCells p.2 proc0).toArray 166 (0, 0)) ∧ w'.heap[xt]? = some (.cells ((turnI l.length prio).map (Value.int .i64)).toArray 3 (0, 0)) ∧ Below w.heap.size w w' := by
  obtain ⟨w2, hw2⟩ : ∃ w2, w2 = (w.alloc (.cells #[.bool sy, .int .i64 wn, .int .i64 li, .int .i64 a0, .int .i64 a1, .int .i64 a2, .int .i64 a3, .int .i64 a4, .int .i64 a5, .slice (some ⟨q, 0, none⟩) l.length c] 124)).alloc (.cells #[.int .i64 0, .bool false, .int .i64 0, .int .i64 0, .int .i64 0, .int .i64 0, .int .i64 0, .int .i64 0, .int .i64 0, .int .i64 0, .slice none 0 0, .slice none 0 0, .slice none 0 0, .int .i64 0] 120) := ⟨_, rfl⟩
  have hs2 : w2.heap.size = w.heap.size + 2 := by rw [hw2]; simp
  have hb2 : Below w.heap.size w w2 := by rw [hw2]; exact ((Below.refl _ _).alloc (Nat.le_refl _) _).alloc (by simp) _
  have hA2 : w2.heap[w.heap.size]? = some (.cells #[.bool sy, .int .i64 wn, .int .i64 li, .int .i64 a0, .int .i64 a1, .int .i64 a2, .int .i64 a3, .int .i64 a4, .int .i64 a5, .slice (some ⟨q, 0, none⟩) l.length c] 124 (0, 0)) := by rw [hw2, Below.heap_alloc _ _ _ (by simp)]; exact heap_at rfl
  have hR2 : w2.heap[w.heap.size + 1]? = some (.cells #[.int .i64 0, .bool false, .int .i64 0, .int .i64 0, .int .i64 0, .int .i64 0, .int .i64 0, .int .i64 0, .int .i64 0, .int .i64 0, .slice none 0 0, .slice none 0 0, .slice none 0 0, .int .i64 0] 120 (0, 0)) := by rw [hw2]; exact heap_at (by simp)
  obtain ⟨P, hP⟩ : ∃ P : World → Prop, P = fun W => Below w2.heap.size w2 W := ⟨_, rfl⟩
  have HP2 : Hid (P w2) := by show P w2; rw [hP]; exact Below.refl _ _
  have HPb : Hid (∀ W, P W → Below w2.heap.size w2 W) := fun W h => by rw [hP] at h; exact h
  have HPk : Hid (∀ W W', P W → Below W.heap.size W W' → P W') := fun W W' h hb => by rw [hP] at h ⊢; exact h.trans (hb.mono h.size)
  have HPd : Hid (∀ W, P W → P W.drew) := fun W h => by rw [hP] at h ⊢; exact h.drew
  have HPS : Hid (∀ W : World, W.heap[w.heap.size]? = some (.cells #[.bool sy, .int .i64 wn, .int .i64 li, .int .i64 a0, .int .i64 a1, .int .i64 a2, .int .i64 a3, .int .i64 a4, .int .i64 a5, .slice (some ⟨q, 0, none⟩) l.length c] 124 (0, 0)) → W.cell? ⟨w.heap.size, 0, none⟩ = some (.bool sy) ∧ W.cell? ⟨w.heap.size, 1, none⟩ = some (.int .i64 wn) ∧ W.cell? ⟨w.heap.size, 2, none⟩ = some (.int .i64 li) ∧ W.cell? ⟨w.heap.size, 3, none⟩ = some (.int .i64 a0) ∧ W.cell? ⟨w.heap.size, 4, none⟩ = some (.int .i64 a1) ∧ W.cell? ⟨w.heap.size, 5, none⟩ = some (.int .i64 a2) ∧ W.cell? ⟨w.heap.size, 6, none⟩ = some (.int .i64 a3) ∧ W.cell? ⟨w.heap.size, 7, none⟩ = some (.int .i64 a4) ∧ W.cell? ⟨w.heap.size, 8, none⟩ = some (.int .i64 a5) ∧ W.cell? ⟨w.heap.size, 9, none⟩ = some (.slice (some ⟨q, 0, none⟩) l.length c)) := fun W a => by
    refine ⟨?_, ?_, ?_, ?_, ?_, ?_, ?_, ?_, ?_, ?_⟩ <;> (rw [cell_of_row _ _ _ _ _ _ a]; rfl)
  have HPC : Hid (∀ W, P W → W.cell? ⟨w.heap.size, 0, none⟩ = some (.bool sy) ∧ W.cell? ⟨w.heap.size, 1, none⟩ = some (.int .i64 wn) ∧ W.cell? ⟨w.heap.size, 2, none⟩ = some (.int .i64 li) ∧ W.cell? ⟨w.heap.size, 3, none⟩ = some (.int .i64 a0) ∧ W.cell? ⟨w.heap.size, 4, none⟩ = some (.int .i64 a1) ∧ W.cell? ⟨w.heap.size, 5, none⟩ = some (.int .i64 a2) ∧ W.cell? ⟨w.heap.size, 6, none⟩ = some (.int .i64 a3) ∧ W.cell? ⟨w.heap.size, 7, none⟩ = some (.int .i64 a4) ∧ W.cell? ⟨w.heap.size, 8, none⟩ = some (.int .i64 a5) ∧ W.cell? ⟨w.heap.size, 9, none⟩ = some (.slice (some ⟨q, 0, none⟩) l.length c)) := fun W hW => HPS.out W (((HPb.out W hW).block _ (by omega)).trans hA2)
  have HPA : Hid (∀ W, P W → ProcsAt W q c l prio) := fun W hW => h.keep (Nat.le_trans hb2.size (HPb.out W hW).size) (((HPb.out W hW).block q (by have := h.lt; omega)).trans (hb2.block q h.lt))
  have HWD : Hid (∀ W, P W → Calls Tryz.prog 91 #[.int .i64 wn, .func (.func 92) #[] #[]] W fun e w' => ∃ x, e = .returned (.agg #[.slice (some ⟨x, 0, none⟩) wn wn]) ∧ w2.heap.size ≤ x ∧ W.heap.size ≤ x ∧ x < w'.heap.size ∧ w'.heap[x]? = some (.cells ((List.replicate wn (0 : Int)).map (Value.int .i64)).toArray 3 (0, 0)) ∧ Below W.heap.size W w' ∧ P w') := fun W hW =>
    (words_any wn (by omega) W).mono (fun e w' ⟨x, he, h1, h2, h3⟩ => ⟨x, he, Nat.le_trans (HPb.out W hW).size h1, h1, lt_of_block h2, h2, h3, HPk.out W w' hW h3⟩)
  have HPR : Hid (∀ W, P W → Calls Tryz.prog 93 #[.int .i64 l.length, .func (.func 94) #[] #[.pointer (some ⟨w.heap.size, 0, none⟩)]] W fun e w' => ∃ x, e = .returned (.agg #[.slice (some ⟨x, 0, none⟩) l.length l.length]) ∧ w2.heap.size ≤ x ∧ W.heap.size ≤ x ∧ x < w'.heap.size ∧ w'.heap[x]? = some (.cells (l.flatMap fun p => mprocCells p.2 proc0).toArray 166 (0, 0)) ∧ Below W.heap.size W w' ∧ P w') := fun W hW =>
    (procs_any w.heap.size q c l W (by have := h.few; omega) (by have := (HPb.out W hW).size; omega) (HPA.out W hW).lt (HPC.out W hW).2.2.2.2.2.2.2.2.2 (fun k p hp => ⟨((HPA.out W hW).cell k p hp).1, ((HPA.out W hW).cell k p hp).2.2⟩)).mono (fun e w' ⟨x, he, h1, h2, h3⟩ => ⟨x, he, Nat.le_trans (HPb.out W hW).size h1, h1, lt_of_block h2, h2, h3, HPk.out W w' hW h3⟩)
  have HTN : Hid (∀ W, P W → Calls Tryz.prog 95 #[.slice (some ⟨q, 0, none⟩) l.length c] W fun e w' => ∃ x, e = .returned (.agg #[.slice (some ⟨x, 0, none⟩) l.length l.length]) ∧ w2.heap.size ≤ x ∧ W.heap.size ≤ x ∧ x < w'.heap.size ∧ w'.heap[x]? = some (.cells ((turnI l.length prio).map (Value.int .i64)).toArray 3 (0, 0)) ∧ Below W.heap.size W w' ∧ P w') := fun W hW =>
    (turns_any q c l prio W (HPA.out W hW)).mono (fun e w' ⟨x, he, h1, h2, h3⟩ => ⟨x, he, Nat.le_trans (HPb.out W hW).size h1, h1, lt_of_block h2, h2, h3, HPk.out W w' hW h3⟩)
  have HRB : Hid (∀ W, P W → W.heap[w.heap.size + 1]? = some (.cells #[.int .i64 0, .bool false, .int .i64 0, .int .i64 0, .int .i64 0, .int .i64 0, .int .i64 0, .int .i64 0, .int .i64 0, .int .i64 0, .slice none 0 0, .slice none 0 0, .slice none 0 0, .int .i64 0] 120 (0, 0)) ∧ Below w.heap.size w W ∧ w2.heap.size ≤ W.heap.size) := fun W hW => ⟨((HPb.out W hW).block _ (by omega)).trans hR2, hb2.trans ((HPb.out W hW).mono (by omega)), (HPb.out W hW).size⟩
  have HW2 := hide hw2
  have HA2 := hide hA2
  have HS2 := hide hs2
  have hfew : l.length ≤ 2 := by have := h.few; omega
  clear h hw2 hb2 hA2 hR2 hP hs2
  obtain ⟨F, hF⟩ : ∃ F : World → Nat → Nat → Nat → World, F = fun W xw xp xt => W.setCells (w.heap.size + 1) 0 [.int .i64 i, .bool sy, .int .i64 li, .int .i64 a0, .int .i64 a1, .int .i64 a2, .int .i64 a3, .int .i64 a4, .int .i64 a5, .int .i64 mo, .slice (some ⟨xw, 0, none⟩) wn wn, .slice (some ⟨xp, 0, none⟩) l.length l.length, .slice (some ⟨xt, 0, none⟩) l.length l.length, .int .i64 0] := ⟨_, rfl⟩
  have hst : ∀ W xw xp xt, P W → (Instr.storeAt 120 (.pointer (some ⟨w.heap.size + 1, 0, none⟩)) (.agg #[.int .i64 i, .bool sy, .int .i64 li, .int .i64 a0, .int .i64 a1, .int .i64 a2, .int .i64 a3, .int .i64 a4, .int .i64 a5, .int .i64 mo, .slice (some ⟨xw, 0, none⟩) wn wn, .slice (some ⟨xp, 0, none⟩) l.length l.length, .slice (some ⟨xt, 0, none⟩) l.length l.length, .int .i64 0])).run Tryz.prog W = .ok () (F W xw xp xt) := fun W xw xp xt hW => by
    rw [hF]
    exact run_storeAt_mid (P := Tryz.prog) W (w.heap.size + 1) 0 120 _ (there_of_block (HRB.out W hW).1 14 (by decide)) (by rw [Tryz.size120]; rfl) (by simp [Value.oneCell'])
  have HF : Hid (∀ W xw xp xt, P W → (F W xw xp xt).heap[w.heap.size + 1]? = some (.cells #[.int .i64 i, .bool sy, .int .i64 li, .int .i64 a0, .int .i64 a1, .int .i64 a2, .int .i64 a3, .int .i64 a4, .int .i64 a5, .int .i64 mo, .slice (some ⟨xw, 0, none⟩) wn wn, .slice (some ⟨xp, 0, none⟩) l.length l.length, .slice (some ⟨xt, 0, none⟩) l.length l.length, .int .i64 0] 120 (0, 0)) ∧ Touch (· = w.heap.size + 1) W (F W xw xp xt)) := fun W xw xp xt hW => by
    rw [hF]
    exact ⟨setCells_whole _ (HRB.out W hW).1 rfl, touch_setCells _ _ _ _⟩
  have HFC : Hid (∀ W xw xp xt, P W → (F W xw xp xt).cell? ⟨w.heap.size, 0, none⟩ = some (.bool sy) ∧ (F W xw xp xt).cell? ⟨w.heap.size, 1, none⟩ = some (.int .i64 wn) ∧ (F W xw xp xt).cell? ⟨w.heap.size, 2, none⟩ = some (.int .i64 li) ∧ (F W xw xp xt).cell? ⟨w.heap.size, 3, none⟩ = some (.int .i64 a0) ∧ (F W xw xp xt).cell? ⟨w.heap.size, 4, none⟩ = some (.int .i64 a1) ∧ (F W xw xp xt).cell? ⟨w.heap.size, 5, none⟩ = some (.int .i64 a2) ∧ (F W xw xp xt).cell? ⟨w.heap.size, 6, none⟩ = some (.int .i64 a3) ∧ (F W xw xp xt).cell? ⟨w.heap.size, 7, none⟩ = some (.int .i64 a4) ∧ (F W xw xp xt).cell? ⟨w.heap.size, 8, none⟩ = some (.int .i64 a5) ∧ (F W xw xp xt).cell? ⟨w.heap.size, 9, none⟩ = some (.slice (some ⟨q, 0, none⟩) l.length c)) := fun W xw xp xt hW => HPS.out _ (((HF.out W xw xp xt hW).2.block w.heap.size (by have := (HRB.out W hW).2.2; have := HS2.out; omega) (by omega)).trans (((HPb.out W hW).block _ (by have := HS2.out; omega)).trans HA2.out))
  have HST := hide hst
  clear hF hst
  generalize (Obj.cells ((List.replicate wn (0 : Int)).map (Value.int .i64)).toArray 3 (0, 0)) = OW at *
  generalize (Obj.cells (l.flatMap fun p => mprocCells p.2 proc0).toArray 166 (0, 0)) = OP at *
  generalize (Obj.cells ((turnI l.length prio).map (Value.int .i64)).toArray 3 (0, 0)) = OT at *
  obtain ⟨q0, q1, q2, q3, q4, q5, q6, q7, q8, q9⟩ := HPC.out _ HP2.out
  go_enter Tryz.func51, Tryz.ntmps51
  go_wp2_with fail
  rw [← HW2.out]
  go_region_held3 (fun w' => w'.cell? ⟨w.heap.size, 0, none⟩ = some (.bool sy) ∧ w'.cell? ⟨w.heap.size, 1, none⟩ = some (.int .i64 wn) ∧ w'.cell? ⟨w.heap.size, 2, none⟩ = some (.int .i64 li) ∧ w'.cell? ⟨w.heap.size, 3, none⟩ = some (.int .i64 a0) ∧ w'.cell? ⟨w.heap.size, 4, none⟩ = some (.int .i64 a1) ∧ w'.cell? ⟨w.heap.size, 5, none⟩ = some (.int .i64 a2) ∧ w'.cell? ⟨w.heap.size, 6, none⟩ = some (.int .i64 a3) ∧ w'.cell? ⟨w.heap.size, 7, none⟩ = some (.int .i64 a4) ∧ w'.cell? ⟨w.heap.size, 8, none⟩ = some (.int .i64 a5) ∧ w'.cell? ⟨w.heap.size, 9, none⟩ = some (.slice (some ⟨q, 0, none⟩) l.length c))
    ((first | exact HPC.out _ HP2.out | exact HPC.out _ (HPd.out _ HP2.out) | exact HPC.out _ (by assumption) | exact HFC.out _ _ _ _ (by assumption)))
    (first
      | (go_at_call 91; refine (HWD.out _ (by first | assumption | exact HPd.out _ HP2.out)).mono ?_; rintro e uw ⟨xw, rfl, hw1, hw2, hw3, hw4, hw5, hw6⟩)
      | (go_at_call 93; refine (HPR.out _ (by first | assumption | exact HPd.out _ HP2.out)).mono ?_; rintro e up ⟨xp, rfl, hp1, hp2, hp3, hp4, hp5, hp6⟩)
      | (go_at_call 95; refine (HTN.out _ (by first | assumption | exact HPd.out _ HP2.out)).mono ?_; rintro e ut ⟨xt, rfl, ht1, ht2, ht3, ht4, ht5, ht6⟩; have hstU := fun a b c => HST.out ut a b c ht6))
  all_goals
    go_wp2
    have hs2 := HS2.out
    obtain ⟨hf1, hf2⟩ := HF.out ut xw xp xt ht6
    obtain ⟨_, hb6, hz6⟩ := HRB.out ut ht6
    refine bodyPost_ret (v := .agg #[.int .i64 i, .bool sy, .int .i64 li, .int .i64 a0, .int .i64 a1, .int .i64 a2, .int .i64 a3, .int .i64 a4, .int .i64 a5, .int .i64 mo, .slice (some ⟨xw, 0, none⟩) wn wn, .slice (some ⟨xp, 0, none⟩) l.length l.length, .slice (some ⟨xt, 0, none⟩) l.length l.length, .int .i64 0]) (res_cell Tryz.results51 _ _ _ (by rfl) hf1 Tryz.underlying120 (by rw [Tryz.size120]; rfl)) rfl ?_
    exact ⟨xw, xp, xt, rfl, ⟨by omega, by omega, by omega, by omega⟩, (hf2.block xw (by have := lt_of_heap (keepB ht5 (keepB hp5 hw4)); omega) (by omega)).trans (keepB ht5 (keepB hp5 hw4)), (hf2.block xp (by have := lt_of_heap (keepB ht5 hp4); omega) (by omega)).trans (keepB ht5 hp4), (hf2.block xt (by omega) (by omega)).trans ht4, hb6.trans (hf2.below (by omega) (fun k hk => by omega))⟩
end Go.Proofs.YtnjlbgolnbdkaaaGreat
namespace Go.Proofs.YtnjlbgolnbdkaaaGreat
open Go.RowKit

def mkwC (x : El) : List Value := [.int .i64 (x.i 0), .int .i64 (x.i 1), .int .i64 (x.i 2)]
def mkwsC (l : List El) : List Value := l.flatMap mkwC
set_option maxRecDepth 100000 in
set_option maxHeartbeats 4000000 in
theorem makeWin_any (cb : Nat) (many : Nat) (hm : many ≤ 255) (S : Nat → Prop) (w : World) (hS : ∀ b, S b → b < w.heap.size) (I : Nat → List El → World → Prop)
    (hkeep : ∀ j l wr w', I j l wr → Touch (fun b => w.heap.size ≤ b ∧ b < w.heap.size + 3) wr w' → I j l w')
    (hstep : ∀ j l wr, j < many → I j l wr → w.heap.size + 3 ≤ wr.heap.size → Calls Tryz.prog 54 #[.int .i64 j, .pointer (some ⟨cb, 0, none⟩)] wr fun e w' => ∃ x : El, e = .returned (.agg #[.int .i64 (x.i 0), .int .i64 (x.i 1), .int .i64 (x.i 2)]) ∧ I (j + 1) (l ++ [x]) w' ∧ Touch S wr w')
    (h0 : I 0 [] w) : Calls Tryz.prog 53 #[.int .i64 many, .func (.func 54) #[] #[.pointer (some ⟨cb, 0, none⟩)]] w fun e w' => ∃ x l, e = .returned (.agg #[.slice (some ⟨x, 0, none⟩) many many]) ∧ I many l w' ∧ l.length = many ∧ w'.ownsRow w.heap.size 131 3 (.slice (some ⟨x, 0, none⟩) many many) many (mkwsC l) := by
  obtain ⟨i0, hi, hz0, hz1, hz2⟩ := info_parts Tryz.info131
  have hmk : ∀ W : World, (Instr.makeSlice 68 (.int .i64 (many : Int)) (.int .i64 (many : Int))).run Tryz.prog W = .ok (.slice (some ⟨W.heap.size, 0, none⟩) many many) (W.alloc (.cells (madeCells #[.int .i64 0, .int .i64 0, .int .i64 0] (many * 3)) 131)) := by
    intro W
    have := run_make (P := Tryz.prog) (w := W) 68 131 i0 _ Tryz.underlying68 hi hz0 .i64 .i64 (many : Int) (many : Int) (by omega) (by omega) (by rw [hz2]; omega) (by omega)
    simpa [hz1, Value.cells] using this
  generalize hM : madeCells #[.int .i64 0, .int .i64 0, .int .i64 0] (many * 3) = M at hmk
  have hMs : M.size = many * 3 := by rw [← hM]; simp [madeCells]
  have HK := hide hkeep
  have HS := hide hS
  have HST := hide hstep
  have H0 := hide h0
  clear hkeep hS hstep h0 hM
  have HINIT := hide (mk_init w 128 131 3 many M hm hMs)
  go_enter Tryz.func53, Tryz.ntmps53
  go_wp2
  go_loopw [13] (fun t wr => ∃ (k : Nat) (l : List El) (rest : List Value), k ≤ many ∧ t = .int .i64 k ∧ l.length = k ∧ I k l wr ∧ w.heap.size + 3 ≤ wr.heap.size ∧ wr.heap[w.heap.size]? = some (.cells #[.slice none 0 0] 128 (0, 0)) ∧ wr.heap[w.heap.size + 2]? = some (.cells #[.slice (some ⟨w.heap.size + 1, 0, none⟩) many many] 128 (0, 0)) ∧ wr.ownsRow w.heap.size 131 3 (.slice (some ⟨w.heap.size + 1, 0, none⟩) many many) many (mkwsC l ++ rest) ∧ rest.length = (many - k) * 3) (fun t _ => many - (intOf t).toNat)
  case atStart =>
    obtain ⟨h1, h2, h3, h4, h5⟩ := HINIT.out _ rfl
    exact ⟨0, [], M.toList, by omega, rfl, rfl, HK.out _ _ _ _ H0.out (h1.mono (fun _ h => h.elim)), by omega, h3, h4, h5, by simp [hMs]⟩
  case round =>
    obtain ⟨k, l, rest, hk, rfl, hl, hI, hsz, hres, hbox, hrow, hrest⟩ := hrel
    have bx : wr.cell? ⟨w.heap.size + 2, 0, none⟩ = some (.slice (some ⟨w.heap.size + 1, 0, none⟩) many many) := by rw [cell_of_row _ _ _ _ _ _ hbox]; rfl
    by_cases hlt : k < many
    · have HB := hide (HST.out k l wr.drew hlt (HK.out _ _ _ _ hI ⟨rfl, rfl, rfl, Nat.le_refl _, fun _ _ _ => rfl⟩) (by show w.heap.size + 3 ≤ wr.heap.size; omega))
      have HAF := hide (mk_after mkwC 3 (fun _ => rfl) 128 131 w many k S HS.out I HK.out l rest wr hlt hl hsz hres hbox hrow hrest)
      have HR6 : Hid ((rest.drop 3).length = (many - (k + 1)) * 3) := by show _ = _; rw [List.length_drop, hrest]; omega
      have HLL : Hid (∀ x : El, (l ++ [x]).length = k + 1) := fun x => by rw [List.length_append, hl]; rfl
      clear hI hres hbox hrow hl hrest
      go_wp2_with fail
      go_region_law (go_simp; (with_reducible show Calls Tryz.prog 54 _ _ _); refine HB.out.mono ?_; rintro e w2 ⟨x, rfl, hI2, ht2⟩; obtain ⟨bx2, ⟨u, hu⟩, hff, h5⟩ := HAF.out x w2 hI2 ht2; have H5 := hide h5; have q0 : w2.cell? ⟨w.heap.size + 1, k * 3, none⟩ = some (u 0) := hu 0 (by omega); have q1 := hu 1 (by omega); have q2 := hu 2 (by omega); have f0 := hff (k * 3); have f1 := hff (k * 3 + 1); have f2 := hff (k * 3 + 2); clear hI2 ht2 hu hff h5)
      all_goals (
        go_wp2
        go_roundw
        case rel => exact ⟨k + 1, l ++ [x], rest.drop 3, by omega, by go_num, HLL.out x, H5.out.1, H5.out.2.1, H5.out.2.2.1, H5.out.2.2.2.1, H5.out.2.2.2.2, HR6.out⟩
        case measure => simp [intOf]; omega)
    · obtain rfl : k = many := by omega
      obtain rfl : rest = [] := List.eq_nil_of_length_eq_zero (by rw [hrest, Nat.sub_self, Nat.zero_mul])
      rw [List.append_nil] at hrow
      have r0 : wr.cell? ⟨w.heap.size, 0, none⟩ = some (.slice none 0 0) := by rw [cell_of_row _ _ _ _ _ _ hres]; rfl
      have fr0 := free_of_block hres 0
      obtain ⟨wF, hwF⟩ : ∃ wF, wF = wr.setCell ⟨w.heap.size, 0, none⟩ (.slice (some ⟨w.heap.size + 1, 0, none⟩) k k) := ⟨_, rfl⟩
      have hFB : wF.heap[w.heap.size]? = some (.cells #[.slice (some ⟨w.heap.size + 1, 0, none⟩) k k] 128 (0, 0)) := by rw [hwF]; exact block_set hres 0 _
      have y0 : wF.cell? ⟨w.heap.size, 0, none⟩ = some (.slice (some ⟨w.heap.size + 1, 0, none⟩) k k) := by rw [cell_of_row _ _ _ _ _ _ hFB]; rfl
      have tF : Touch (· = w.heap.size) wr wF := by rw [hwF]; exact Touch.ofSet _ _ _ _ rfl
      have HEND : Hid (I k l wF ∧ l.length = k ∧ wF.ownsRow w.heap.size 131 3 (.slice (some ⟨w.heap.size + 1, 0, none⟩) k k) k (mkwsC l)) := ⟨HK.out _ _ _ _ hI (tF.mono (fun b hb => by rw [hb]; omega)), hl, own_keep hrow (fun b e => tF.block b (World.ownsRow.lt hrow b e).2 (by simp [Value.ownBlock] at e; omega))⟩
      have HWF := hide hwF
      clear hI hres hbox hrow hl hrest hFB tF hwF
      go_wp2
      rw [← HWF.out]
      refine bodyPost_ret (v := .agg #[.slice (some ⟨w.heap.size + 1, 0, none⟩) k k]) (by simp [results, Tryz.results53, go_sem, y0]) rfl ?_
      exact ⟨_, l, rfl, HEND.out⟩
theorem run_store_chan (P : Program) (w : World) (a : Addr) (m : Mode) (r : Option Nat) : (store a (.chan r) m).run P w = stored P w a (.chan r) m := run_store P w a _ m rfl
attribute [local go_sem] run_store_chan
theorem Tryz.info139 : (Tryz.prog.info? 139).map (fun i => (i.zero, i.size, i.bytes)) = some (some (.agg #[.int .i64 0, .int .i64 0, .chan none]), 3, 24) := by kernel_rfl
def mkcC (x : El) : List Value := [.int .i64 (x.i 0), .int .i64 (x.i 1), .chan x.ch]
def mkcsC (l : List El) : List Value := l.flatMap mkcC
set_option maxRecDepth 100000 in
set_option maxHeartbeats 4000000 in
theorem makeChan_any (cb : Nat) (many : Nat) (hm : many ≤ 255) (S : Nat → Prop) (w : World) (hS : ∀ b, S b → b < w.heap.size) (I : Nat → List El → World → Prop)
    (hkeep : ∀ j l wr w', I j l wr → Touch (fun b => w.heap.size ≤ b ∧ b < w.heap.size + 3) wr w' → I j l w')
    (hstep : ∀ j l wr, j < many → I j l wr → w.heap.size + 3 ≤ wr.heap.size → Calls Tryz.prog 56 #[.int .i64 j, .pointer (some ⟨cb, 0, none⟩)] wr fun e w' => ∃ x : El, e = .returned (.agg #[.int .i64 (x.i 0), .int .i64 (x.i 1), .chan x.ch]) ∧ I (j + 1) (l ++ [x]) w' ∧ Touch S wr w')
    (h0 : I 0 [] w) : Calls Tryz.prog 55 #[.int .i64 many, .func (.func 56) #[] #[.pointer (some ⟨cb, 0, none⟩)]] w fun e w' => ∃ x l, e = .returned (.agg #[.slice (some ⟨x, 0, none⟩) many many]) ∧ I many l w' ∧ l.length = many ∧ w'.ownsRow w.heap.size 139 3 (.slice (some ⟨x, 0, none⟩) many many) many (mkcsC l) := by
  obtain ⟨i0, hi, hz0, hz1, hz2⟩ := info_parts Tryz.info139
  have hmk : ∀ W : World, (Instr.makeSlice 133 (.int .i64 (many : Int)) (.int .i64 (many : Int))).run Tryz.prog W = .ok (.slice (some ⟨W.heap.size, 0, none⟩) many many) (W.alloc (.cells (madeCells #[.int .i64 0, .int .i64 0, .chan none] (many * 3)) 139)) := by
    intro W
    have := run_make (P := Tryz.prog) (w := W) 133 139 i0 _ Tryz.underlying133 hi hz0 .i64 .i64 (many : Int) (many : Int) (by omega) (by omega) (by rw [hz2]; omega) (by omega)
    simpa [hz1, Value.cells] using this
  generalize hM : madeCells #[.int .i64 0, .int .i64 0, .chan none] (many * 3) = M at hmk
  have hMs : M.size = many * 3 := by rw [← hM]; simp [madeCells]
  have HK := hide hkeep
  have HS := hide hS
  have HST := hide hstep
  have H0 := hide h0
  clear hkeep hS hstep h0 hM
  have HINIT := hide (mk_init w 135 139 3 many M hm hMs)
  go_enter Tryz.func55, Tryz.ntmps55
  go_wp2
  go_loopw [13] (fun t wr => ∃ (k : Nat) (l : List El) (rest : List Value), k ≤ many ∧ t = .int .i64 k ∧ l.length = k ∧ I k l wr ∧ w.heap.size + 3 ≤ wr.heap.size ∧ wr.heap[w.heap.size]? = some (.cells #[.slice none 0 0] 135 (0, 0)) ∧ wr.heap[w.heap.size + 2]? = some (.cells #[.slice (some ⟨w.heap.size + 1, 0, none⟩) many many] 135 (0, 0)) ∧ wr.ownsRow w.heap.size 139 3 (.slice (some ⟨w.heap.size + 1, 0, none⟩) many many) many (mkcsC l ++ rest) ∧ rest.length = (many - k) * 3) (fun t _ => many - (intOf t).toNat)
  case atStart =>
    obtain ⟨h1, h2, h3, h4, h5⟩ := HINIT.out _ rfl
    exact ⟨0, [], M.toList, by omega, rfl, rfl, HK.out _ _ _ _ H0.out (h1.mono (fun _ h => h.elim)), by omega, h3, h4, h5, by simp [hMs]⟩
  case round =>
    obtain ⟨k, l, rest, hk, rfl, hl, hI, hsz, hres, hbox, hrow, hrest⟩ := hrel
    have bx : wr.cell? ⟨w.heap.size + 2, 0, none⟩ = some (.slice (some ⟨w.heap.size + 1, 0, none⟩) many many) := by rw [cell_of_row _ _ _ _ _ _ hbox]; rfl
    by_cases hlt : k < many
    · have HB := hide (HST.out k l wr.drew hlt (HK.out _ _ _ _ hI ⟨rfl, rfl, rfl, Nat.le_refl _, fun _ _ _ => rfl⟩) (by show w.heap.size + 3 ≤ wr.heap.size; omega))
      have HAF := hide (mk_after mkcC 3 (fun _ => rfl) 135 139 w many k S HS.out I HK.out l rest wr hlt hl hsz hres hbox hrow hrest)
      have HR6 : Hid ((rest.drop 3).length = (many - (k + 1)) * 3) := by show _ = _; rw [List.length_drop, hrest]; omega
      have HLL : Hid (∀ x : El, (l ++ [x]).length = k + 1) := fun x => by rw [List.length_append, hl]; rfl
      clear hI hres hbox hrow hl hrest
      go_wp2_with fail
      go_region_law (go_simp; (with_reducible show Calls Tryz.prog 56 _ _ _); refine HB.out.mono ?_; rintro e w2 ⟨x, rfl, hI2, ht2⟩; obtain ⟨bx2, ⟨u, hu⟩, hff, h5⟩ := HAF.out x w2 hI2 ht2; have H5 := hide h5; have q0 : w2.cell? ⟨w.heap.size + 1, k * 3, none⟩ = some (u 0) := hu 0 (by omega); have q1 := hu 1 (by omega); have q2 := hu 2 (by omega); have f0 := hff (k * 3); have f1 := hff (k * 3 + 1); have f2 := hff (k * 3 + 2); clear hI2 ht2 hu hff h5)
      all_goals (
        go_wp2
        go_roundw
        case rel => exact ⟨k + 1, l ++ [x], rest.drop 3, by omega, by go_num, HLL.out x, H5.out.1, H5.out.2.1, H5.out.2.2.1, H5.out.2.2.2.1, H5.out.2.2.2.2, HR6.out⟩
        case measure => simp [intOf]; omega)
    · obtain rfl : k = many := by omega
      obtain rfl : rest = [] := List.eq_nil_of_length_eq_zero (by rw [hrest, Nat.sub_self, Nat.zero_mul])
      rw [List.append_nil] at hrow
      have r0 : wr.cell? ⟨w.heap.size, 0, none⟩ = some (.slice none 0 0) := by rw [cell_of_row _ _ _ _ _ _ hres]; rfl
      have fr0 := free_of_block hres 0
      obtain ⟨wF, hwF⟩ : ∃ wF, wF = wr.setCell ⟨w.heap.size, 0, none⟩ (.slice (some ⟨w.heap.size + 1, 0, none⟩) k k) := ⟨_, rfl⟩
      have hFB : wF.heap[w.heap.size]? = some (.cells #[.slice (some ⟨w.heap.size + 1, 0, none⟩) k k] 135 (0, 0)) := by rw [hwF]; exact block_set hres 0 _
      have y0 : wF.cell? ⟨w.heap.size, 0, none⟩ = some (.slice (some ⟨w.heap.size + 1, 0, none⟩) k k) := by rw [cell_of_row _ _ _ _ _ _ hFB]; rfl
      have tF : Touch (· = w.heap.size) wr wF := by rw [hwF]; exact Touch.ofSet _ _ _ _ rfl
      have HEND : Hid (I k l wF ∧ l.length = k ∧ wF.ownsRow w.heap.size 139 3 (.slice (some ⟨w.heap.size + 1, 0, none⟩) k k) k (mkcsC l)) := ⟨HK.out _ _ _ _ hI (tF.mono (fun b hb => by rw [hb]; omega)), hl, own_keep hrow (fun b e => tF.block b (World.ownsRow.lt hrow b e).2 (by simp [Value.ownBlock] at e; omega))⟩
      have HWF := hide hwF
      clear hI hres hbox hrow hl hrest hFB tF hwF
      go_wp2
      rw [← HWF.out]
      refine bodyPost_ret (v := .agg #[.slice (some ⟨w.heap.size + 1, 0, none⟩) k k]) (by simp [results, Tryz.results55, go_sem, y0]) rfl ?_
      exact ⟨_, l, rfl, HEND.out⟩
def mksC (x : El) : List Value := [.int .i64 (x.i 0), .int .i64 (x.i 1), .bool x.b]
def mkssC (l : List El) : List Value := l.flatMap mksC
set_option maxRecDepth 100000 in
set_option maxHeartbeats 4000000 in
theorem makeState_any (cb : Nat) (many : Nat) (hm : many ≤ 255) (S : Nat → Prop) (w : World) (hS : ∀ b, S b → b < w.heap.size) (I : Nat → List El → World → Prop)
    (hkeep : ∀ j l wr w', I j l wr → Touch (fun b => w.heap.size ≤ b ∧ b < w.heap.size + 3) wr w' → I j l w')
    (hstep : ∀ j l wr, j < many → I j l wr → w.heap.size + 3 ≤ wr.heap.size → Calls Tryz.prog 110 #[.int .i64 j, .pointer (some ⟨cb, 0, none⟩)] wr fun e w' => ∃ x : El, e = .returned (.agg #[.int .i64 (x.i 0), .int .i64 (x.i 1), .bool x.b]) ∧ I (j + 1) (l ++ [x]) w' ∧ Touch S wr w')
    (h0 : I 0 [] w) : Calls Tryz.prog 108 #[.int .i64 many, .func (.func 110) #[] #[.pointer (some ⟨cb, 0, none⟩)]] w fun e w' => ∃ x l, e = .returned (.agg #[.slice (some ⟨x, 0, none⟩) many many]) ∧ I many l w' ∧ l.length = many ∧ w'.ownsRow w.heap.size 47 3 (.slice (some ⟨x, 0, none⟩) many many) many (mkssC l) := by
  obtain ⟨i0, hi, hz0, hz1, hz2⟩ := info_parts Tryz.info47
  have hmk : ∀ W : World, (Instr.makeSlice 41 (.int .i64 (many : Int)) (.int .i64 (many : Int))).run Tryz.prog W = .ok (.slice (some ⟨W.heap.size, 0, none⟩) many many) (W.alloc (.cells (madeCells #[.int .i64 0, .int .i64 0, .bool false] (many * 3)) 47)) := by
    intro W
    have := run_make (P := Tryz.prog) (w := W) 41 47 i0 _ Tryz.underlying41 hi hz0 .i64 .i64 (many : Int) (many : Int) (by omega) (by omega) (by rw [hz2]; omega) (by omega)
    simpa [hz1, Value.cells] using this
  generalize hM : madeCells #[.int .i64 0, .int .i64 0, .bool false] (many * 3) = M at hmk
  have hMs : M.size = many * 3 := by rw [← hM]; simp [madeCells]
  have HK := hide hkeep
  have HS := hide hS
  have HST := hide hstep
  have H0 := hide h0
  clear hkeep hS hstep h0 hM
  have HINIT := hide (mk_init w 213 47 3 many M hm hMs)
  go_enter Tryz.func108, Tryz.ntmps108
  go_wp2
  go_loopw [13] (fun t wr => ∃ (k : Nat) (l : List El) (rest : List Value), k ≤ many ∧ t = .int .i64 k ∧ l.length = k ∧ I k l wr ∧ w.heap.size + 3 ≤ wr.heap.size ∧ wr.heap[w.heap.size]? = some (.cells #[.slice none 0 0] 213 (0, 0)) ∧ wr.heap[w.heap.size + 2]? = some (.cells #[.slice (some ⟨w.heap.size + 1, 0, none⟩) many many] 213 (0, 0)) ∧ wr.ownsRow w.heap.size 47 3 (.slice (some ⟨w.heap.size + 1, 0, none⟩) many many) many (mkssC l ++ rest) ∧ rest.length = (many - k) * 3) (fun t _ => many - (intOf t).toNat)
  case atStart =>
    obtain ⟨h1, h2, h3, h4, h5⟩ := HINIT.out _ rfl
    exact ⟨0, [], M.toList, by omega, rfl, rfl, HK.out _ _ _ _ H0.out (h1.mono (fun _ h => h.elim)), by omega, h3, h4, h5, by simp [hMs]⟩
  case round =>
    obtain ⟨k, l, rest, hk, rfl, hl, hI, hsz, hres, hbox, hrow, hrest⟩ := hrel
    have bx : wr.cell? ⟨w.heap.size + 2, 0, none⟩ = some (.slice (some ⟨w.heap.size + 1, 0, none⟩) many many) := by rw [cell_of_row _ _ _ _ _ _ hbox]; rfl
    by_cases hlt : k < many
    · have HB := hide (HST.out k l wr.drew hlt (HK.out _ _ _ _ hI ⟨rfl, rfl, rfl, Nat.le_refl _, fun _ _ _ => rfl⟩) (by show w.heap.size + 3 ≤ wr.heap.size; omega))
      have HAF := hide (mk_after mksC 3 (fun _ => rfl) 213 47 w many k S HS.out I HK.out l rest wr hlt hl hsz hres hbox hrow hrest)
      have HR6 : Hid ((rest.drop 3).length = (many - (k + 1)) * 3) := by show _ = _; rw [List.length_drop, hrest]; omega
      have HLL : Hid (∀ x : El, (l ++ [x]).length = k + 1) := fun x => by rw [List.length_append, hl]; rfl
      clear hI hres hbox hrow hl hrest
      go_wp2_with fail
      go_region_law (go_simp; (with_reducible show Calls Tryz.prog 110 _ _ _); refine HB.out.mono ?_; rintro e w2 ⟨x, rfl, hI2, ht2⟩; obtain ⟨bx2, ⟨u, hu⟩, hff, h5⟩ := HAF.out x w2 hI2 ht2; have H5 := hide h5; have q0 : w2.cell? ⟨w.heap.size + 1, k * 3, none⟩ = some (u 0) := hu 0 (by omega); have q1 := hu 1 (by omega); have q2 := hu 2 (by omega); have f0 := hff (k * 3); have f1 := hff (k * 3 + 1); have f2 := hff (k * 3 + 2); clear hI2 ht2 hu hff h5)
      all_goals (
        go_wp2
        go_roundw
        case rel => exact ⟨k + 1, l ++ [x], rest.drop 3, by omega, by go_num, HLL.out x, H5.out.1, H5.out.2.1, H5.out.2.2.1, H5.out.2.2.2.1, H5.out.2.2.2.2, HR6.out⟩
        case measure => simp [intOf]; omega)
    · obtain rfl : k = many := by omega
      obtain rfl : rest = [] := List.eq_nil_of_length_eq_zero (by rw [hrest, Nat.sub_self, Nat.zero_mul])
      rw [List.append_nil] at hrow
      have r0 : wr.cell? ⟨w.heap.size, 0, none⟩ = some (.slice none 0 0) := by rw [cell_of_row _ _ _ _ _ _ hres]; rfl
      have fr0 := free_of_block hres 0
      obtain ⟨wF, hwF⟩ : ∃ wF, wF = wr.setCell ⟨w.heap.size, 0, none⟩ (.slice (some ⟨w.heap.size + 1, 0, none⟩) k k) := ⟨_, rfl⟩
      have hFB : wF.heap[w.heap.size]? = some (.cells #[.slice (some ⟨w.heap.size + 1, 0, none⟩) k k] 213 (0, 0)) := by rw [hwF]; exact block_set hres 0 _
      have y0 : wF.cell? ⟨w.heap.size, 0, none⟩ = some (.slice (some ⟨w.heap.size + 1, 0, none⟩) k k) := by rw [cell_of_row _ _ _ _ _ _ hFB]; rfl
      have tF : Touch (· = w.heap.size) wr wF := by rw [hwF]; exact Touch.ofSet _ _ _ _ rfl
      have HEND : Hid (I k l wF ∧ l.length = k ∧ wF.ownsRow w.heap.size 47 3 (.slice (some ⟨w.heap.size + 1, 0, none⟩) k k) k (mkssC l)) := ⟨HK.out _ _ _ _ hI (tF.mono (fun b hb => by rw [hb]; omega)), hl, own_keep hrow (fun b e => tF.block b (World.ownsRow.lt hrow b e).2 (by simp [Value.ownBlock] at e; omega))⟩
      have HWF := hide hwF
      clear hI hres hbox hrow hl hrest hFB tF hwF
      go_wp2
      rw [← HWF.out]
      refine bodyPost_ret (v := .agg #[.slice (some ⟨w.heap.size + 1, 0, none⟩) k k]) (by simp [results, Tryz.results108, go_sem, y0]) rfl ?_
      exact ⟨_, l, rfl, HEND.out⟩
end Go.Proofs.YtnjlbgolnbdkaaaGreat
namespace Go.Proofs.YtnjlbgolnbdkaaaGreat

structure PrGood (p : Pr) : Prop where
  prio : 0 ≤ p.prio ∧ p.prio ≤ 9
  len : 1 ≤ p.code.length ∧ p.code.length ≤ 20
  code : ∀ c ∈ p.code, (0 ≤ c.1 ∧ c.1 ≤ 13) ∧ (0 ≤ c.2 ∧ c.2 ≤ 255) ∧ (c.1 = 4 → c.2 < p.code.length)
structure PtGood (p : Pt) : Prop where
  words : 1 ≤ p.words ∧ p.words ≤ 16
  limit : 0 ≤ p.limit ∧ p.limit ≤ 9
  six : p.acts.length = 6
  acts : ∀ a ∈ p.acts, 1 ≤ a ∧ a ≤ 7
  last : p.acts.getD 5 0 ≠ 2 ∧ p.acts.getD 5 0 ≠ 3
  few : 1 ≤ p.procs.length ∧ p.procs.length ≤ 2
  procs : ∀ q ∈ p.procs, PrGood q
structure CfGood (cf : Cf) : Prop where
  frame : 1 ≤ cf.frame ∧ cf.frame ≤ 64
  watch : 0 ≤ cf.watch ∧ cf.watch ≤ 200
  few : 1 ≤ cf.parts.length ∧ cf.parts.length ≤ 4
  parts : ∀ p ∈ cf.parts, PtGood p
  nwins : 1 ≤ cf.wins.length ∧ cf.wins.length ≤ 8
  wins : ∀ x ∈ cf.wins, (0 ≤ x.part ∧ x.part < cf.parts.length) ∧ 0 ≤ x.first ∧ 1 ≤ x.many ∧ x.first + x.many ≤ cf.frame
  order : cf.wins.Pairwise fun a b => a.first + a.many ≤ b.first
  nchans : cf.chans.length ≤ 4
  chans : ∀ x ∈ cf.chans, (0 ≤ x.src ∧ x.src < cf.parts.length) ∧ (0 ≤ x.dst ∧ x.dst < cf.parts.length) ∧ x.src ≠ x.dst ∧ 1 ≤ x.depth ∧ x.depth ≤ 4

theorem rdTo_all {α : Type} (f : Rd → α × Rd) (G : α → Prop) (hf : ∀ r, (f r).2.err = 0 → r.err = 0 ∧ G (f r).1) (k : Nat) (r : Rd) (h : (rdTo f k r).2.err = 0) : r.err = 0 ∧ (rdTo f k r).1.length = k ∧ ∀ x ∈ (rdTo f k r).1, G x := by
  induction k with
  | zero => exact ⟨h, rfl, fun x hx => by simp [rdTo] at hx⟩
  | succ k ih =>
    by_cases he : (rdTo f k r).2.err = 0
    · rw [rdTo_go f k r he] at h ⊢
      obtain ⟨h1, h2, h3⟩ := ih he
      obtain ⟨_, h5⟩ := hf _ h
      refine ⟨h1, by simp [h2], fun x hx => ?_⟩
      rcases List.mem_append.1 hx with hx | hx
      · exact h3 x hx
      · rw [List.mem_singleton.1 hx]; exact h5
    · rw [rdTo_stop f k r he (k + 1) (by omega)] at h
      exact absurd h he
theorem rdB_rng (zs : List Int) (lo hi : Int) (r : Rd) (h : (rdB zs lo hi r).2.err = 0) : r.err = 0 ∧ lo ≤ (rdB zs lo hi r).1 ∧ (rdB zs lo hi r).1 ≤ hi := by
  obtain ⟨h1, _, h3, h4, h5, _⟩ := rdB_ok zs lo hi r h
  exact ⟨h1, by omega, by omega⟩
theorem rdNot_ok (v bad : Int) (r : Rd) (h : (rdNot v bad r).err = 0) : r.err = 0 ∧ v ≠ bad := by
  unfold rdNot at h
  split at h
  · simp at h
  · rename_i hc
    exact ⟨h, fun e => hc ⟨h, e⟩⟩
theorem rdProc_good (zs : List Int) (r : Rd) (h : (rdProc zs r).2.err = 0) : r.err = 0 ∧ PrGood (rdProc zs r).1 := by
  unfold rdProc at h ⊢
  simp only at h ⊢
  obtain ⟨h1, h2, h3⟩ := rdTo_all (rdIns zs _) (fun c => (0 ≤ c.1 ∧ c.1 ≤ 13) ∧ (0 ≤ c.2 ∧ c.2 ≤ 255) ∧ (c.1 = 4 → c.2 < (rdB zs 1 20 (rdB zs 0 9 r).2).1)) (fun r' hr => by
    unfold rdIns at hr ⊢
    simp only at hr ⊢
    obtain ⟨a1, a2, a3⟩ := rdB_rng _ _ _ _ hr
    obtain ⟨b1, b2, b3⟩ := rdB_rng _ _ _ _ a1
    refine ⟨b1, ⟨b2, b3⟩, ⟨a2, ?_⟩, fun he => ?_⟩
    · split at a3
      · rename_i he
        have hv := (rdB_val zs 1 20 (rdB zs 0 9 r).2 (by omega)).2
        rw [if_pos he]
        omega
      · rename_i he
        rw [if_neg he]
        exact a3
    · rw [if_pos he] at a3 ⊢
      omega) _ _ h
  obtain ⟨c1, c2, c3⟩ := rdB_rng _ _ _ _ h1
  obtain ⟨d1, d2, d3⟩ := rdB_rng _ _ _ _ c1
  refine ⟨d1, ⟨d2, d3⟩, by rw [h2]; omega, fun c hc => ?_⟩
  obtain ⟨e1, e2, e3⟩ := h3 c hc
  refine ⟨e1, e2, fun he => ?_⟩
  rw [h2]
  have := e3 he
  omega
theorem rdActs_ok (zs : List Int) (k : Nat) (r : Rd) (hk : k ≤ 6) (h : (rdActs zs k r).2.err = 0) : r.err = 0 ∧ (∀ a ∈ (rdActs zs k r).1, 1 ≤ a ∧ a ≤ 7) ∧ (6 ≤ k → (rdActs zs k r).1.getD 5 0 ≠ 2 ∧ (rdActs zs k r).1.getD 5 0 ≠ 3) := by
  induction k with
  | zero => exact ⟨h, fun a ha => by simp [rdActs] at ha, fun h => by omega⟩
  | succ k ih =>
    have hs : rdActs zs (k + 1) r = ((rdActs zs k r).1 ++ [(rdAct zs k (rdActs zs k r).2).1], (rdAct zs k (rdActs zs k r).2).2) := rfl
    rw [hs] at h ⊢
    simp only at h ⊢
    have key : (rdB zs 1 7 (rdActs zs k r).2).2.err = 0 ∧ (k = 5 → (rdB zs 1 7 (rdActs zs k r).2).1 ≠ 2 ∧ (rdB zs 1 7 (rdActs zs k r).2).1 ≠ 3) := by
      unfold rdAct at h
      simp only at h
      by_cases h5 : k = 5
      · rw [if_pos h5] at h
        obtain ⟨x1, x2⟩ := rdNot_ok _ _ _ h
        obtain ⟨y1, y2⟩ := rdNot_ok _ _ _ x1
        exact ⟨y1, fun _ => ⟨y2, x2⟩⟩
      · rw [if_neg h5] at h
        exact ⟨h, fun h6 => absurd h6 h5⟩
    obtain ⟨a1, a2, a3⟩ := rdB_rng _ _ _ _ key.1
    obtain ⟨b1, b2, _⟩ := ih (by omega) a1
    have hv : (rdAct zs k (rdActs zs k r).2).1 = (rdB zs 1 7 (rdActs zs k r).2).1 := rfl
    refine ⟨b1, fun a ha => ?_, fun h6 => ?_⟩
    · rcases List.mem_append.1 ha with ha | ha
      · exact b2 a ha
      · rw [List.mem_singleton.1 ha, hv]; omega
    · obtain rfl : k = 5 := by omega
      have hl := rdActs_length zs 5 r
      rw [List.getD_eq_getElem?_getD, List.getElem?_append_right (by omega), hl, hv]
      exact key.2 rfl
theorem rdPart_good (zs : List Int) (r : Rd) (h : (rdPart zs r).2.err = 0) : r.err = 0 ∧ PtGood (rdPart zs r).1 := by
  unfold rdPart at h ⊢
  simp only at h ⊢
  obtain ⟨h1, h2, h3⟩ := rdTo_all (rdProc zs) PrGood (rdProc_good zs) _ _ h
  obtain ⟨a1, a2, a3⟩ := rdB_rng _ _ _ _ h1
  obtain ⟨b1, b2, b3⟩ := rdActs_ok zs 6 _ (by omega) a1
  obtain ⟨c1, c2, c3⟩ := rdB_rng _ _ _ _ b1
  obtain ⟨d1, d2, d3⟩ := rdB_rng _ _ _ _ c1
  obtain ⟨e1, _, _⟩ := rdB_rng _ _ _ _ d1
  exact ⟨e1, ⟨d2, d3⟩, ⟨c2, c3⟩, rdActs_length zs 6 _, b2, b3 (Nat.le_refl _), by rw [h2]; omega, h3⟩
theorem rdWins_good (zs : List Int) (n frame : Int) (k : Nat) (r : Rd) (h0 : 0 ≤ r.fin) (h : (rdTo (rdWin zs n frame) k r).2.err = 0) :
    r.err = 0 ∧ (rdTo (rdWin zs n frame) k r).1.length = k ∧ r.fin ≤ (rdTo (rdWin zs n frame) k r).2.fin ∧ (∀ x ∈ (rdTo (rdWin zs n frame) k r).1, ((0 ≤ x.part ∧ x.part < n) ∧ 0 ≤ x.first ∧ 1 ≤ x.many ∧ x.first + x.many ≤ frame) ∧ x.first + x.many ≤ (rdTo (rdWin zs n frame) k r).2.fin) ∧ (rdTo (rdWin zs n frame) k r).1.Pairwise fun a b => a.first + a.many ≤ b.first := by
  induction k with
  | zero => exact ⟨h, rfl, Int.le_refl _, fun x hx => by simp [rdTo] at hx, List.Pairwise.nil⟩
  | succ k ih =>
    by_cases he : (rdTo (rdWin zs n frame) k r).2.err = 0
    · rw [rdTo_go _ k r he] at h ⊢
      obtain ⟨h1, h2, h3, h4, h5⟩ := ih he
      generalize rdTo (rdWin zs n frame) k r = s at *
      simp only at h ⊢
      have hw : (rdWin zs n frame s.2).1.first + (rdWin zs n frame s.2).1.many = (rdWin zs n frame s.2).2.fin := rfl
      have hk : ((0 ≤ (rdWin zs n frame s.2).1.part ∧ (rdWin zs n frame s.2).1.part < n) ∧ s.2.fin ≤ (rdWin zs n frame s.2).1.first ∧ 1 ≤ (rdWin zs n frame s.2).1.many ∧ (rdWin zs n frame s.2).1.first + (rdWin zs n frame s.2).1.many ≤ frame) := by
        unfold rdWin at h ⊢
        simp only at h ⊢
        obtain ⟨a1, a2, a3⟩ := rdB_rng _ _ _ _ h
        obtain ⟨b1, b2, b3⟩ := rdB_rng _ _ _ _ a1
        obtain ⟨c1, c2, c3⟩ := rdB_rng _ _ _ _ b1
        exact ⟨⟨c2, by omega⟩, b2, a2, by omega⟩
      generalize rdWin zs n frame s.2 = x at *
      refine ⟨h1, by simp [h2], by omega, fun y hy => ?_, ?_⟩
      · rcases List.mem_append.1 hy with hy | hy
        · obtain ⟨g1, g2⟩ := h4 y hy
          exact ⟨g1, by omega⟩
        · rw [List.mem_singleton.1 hy]
          exact ⟨⟨hk.1, by omega, hk.2.2.1, hk.2.2.2⟩, by omega⟩
      · refine List.pairwise_append.2 ⟨h5, List.pairwise_singleton _ _, fun a ha b hb => ?_⟩
        rw [List.mem_singleton.1 hb]
        have := (h4 a ha).2
        omega
    · rw [rdTo_stop _ k r he (k + 1) (by omega)] at h
      exact absurd h he
theorem conf_good (zs : List Int) (h : (rdConf zs).2.err = 0) : CfGood (rdConf zs).1 := by
  unfold rdConf at h ⊢
  simp only at h ⊢
  obtain ⟨h1, h2, h3⟩ := rdTo_all (rdChan zs _) (fun x => (0 ≤ x.src ∧ x.src < (rdB zs 1 4 (rdB zs 72 72 ⟨0, 0, 0, 0⟩).2).1) ∧ (0 ≤ x.dst ∧ x.dst < (rdB zs 1 4 (rdB zs 72 72 ⟨0, 0, 0, 0⟩).2).1) ∧ x.src ≠ x.dst ∧ 1 ≤ x.depth ∧ x.depth ≤ 4) (fun r hr => by
    unfold rdChan at hr ⊢
    simp only at hr ⊢
    obtain ⟨a1, a2, a3⟩ := rdB_rng _ _ _ _ hr
    obtain ⟨b1, b2⟩ := rdNot_ok _ _ _ a1
    obtain ⟨c1, c2, c3⟩ := rdB_rng _ _ _ _ b1
    obtain ⟨d1, d2, d3⟩ := rdB_rng _ _ _ _ c1
    exact ⟨d1, ⟨d2, by omega⟩, ⟨c2, by omega⟩, fun e => b2 e.symm, a2, a3⟩) _ _ h
  obtain ⟨a1, a2, a3⟩ := rdB_rng _ _ _ _ h1
  obtain ⟨b1, b2, _, b4, b5⟩ := rdWins_good zs _ _ _ _ (Int.le_refl _) a1
  obtain ⟨c1, c2, c3⟩ := rdB_rng _ _ _ _ b1
  obtain ⟨d1, d2, d3⟩ := rdTo_all (rdPart zs) PtGood (rdPart_good zs) _ _ c1
  obtain ⟨e1, e2, e3⟩ := rdB_rng _ _ _ _ d1
  obtain ⟨f1, f2, f3⟩ := rdB_rng _ _ _ _ e1
  obtain ⟨g1, g2, g3⟩ := rdB_rng _ _ _ _ f1
  refine ⟨⟨f2, f3⟩, ⟨e2, e3⟩, by rw [d2]; omega, d3, by rw [b2]; omega, fun x hx => ?_, b5, by rw [h2]; omega, fun x hx => ?_⟩
  · obtain ⟨⟨i1, i2⟩, i3⟩ := (b4 x hx).1
    exact ⟨⟨i1, by rw [d2]; omega⟩, i3⟩
  · obtain ⟨⟨i1, i2⟩, ⟨j1, j2⟩, k⟩ := h3 x hx
    exact ⟨⟨i1, by rw [d2]; omega⟩, ⟨j1, by rw [d2]; omega⟩, k⟩
theorem parse_good (zs : List Int) (h : (parseOf zs).2.2 = 0) : CfGood (parseOf zs).1 := by
  unfold parseOf at h ⊢
  simp only at h ⊢
  split at h
  · rename_i h1; exact absurd h h1
  · rename_i h1
    rw [if_neg h1]
    split at h
    · simp at h
    · rename_i h2
      rw [if_neg h2]
      split at h
      · simp at h
      · rename_i h3
        rw [if_neg h3]
        split at h
        · simp at h
        · rename_i h4
          rw [if_neg h4]
          exact conf_good zs (by simpa using h1)
end Go.Proofs.YtnjlbgolnbdkaaaGreat
/- Texts of the proof of Boots, one behind the other. -/
namespace Go.Proofs.YtnjlbgolnbdkaaaGreat
open Go.RowKit

instance : Inhabited Pt := ⟨⟨false, 0, 0, [], []⟩⟩
instance : Inhabited Pr := ⟨⟨0, []⟩⟩
instance : Inhabited Ch := ⟨⟨0, 0, 0⟩⟩
instance : Inhabited RProc := ⟨proc0⟩
instance : Inhabited RPart := ⟨⟨0, [], [], 0⟩⟩

def rowsL (n : Nat) (f : Nat → List Value) : List Value := (List.range n).flatMap f
theorem rowsL_succ (n : Nat) (f : Nat → List Value) : rowsL (n + 1) f = rowsL n f ++ f n := by
  unfold rowsL
  rw [List.range_succ, List.flatMap_append]
  simp
theorem rowsL_length (n sz : Nat) (f : Nat → List Value) (hf : ∀ i, i < n → (f i).length = sz) : (rowsL n f).length = n * sz := by
  induction n with
  | zero => simp [rowsL]
  | succ n ih => rw [rowsL_succ, List.length_append, ih (fun i hi => hf i (by omega)), hf n (by omega), Nat.add_mul]; omega
theorem rowsL_get (n sz : Nat) (f : Nat → List Value) (hf : ∀ i, i < n → (f i).length = sz) (i k : Nat) (hi : i < n) (hk : k < sz) : (rowsL n f)[i * sz + k]? = (f i)[k]? := by
  induction n with
  | zero => omega
  | succ n ih =>
    have hl := rowsL_length n sz f (fun i hi => hf i (by omega))
    rw [rowsL_succ]
    by_cases h : i < n
    · have h1 : (i + 1) * sz ≤ n * sz := Nat.mul_le_mul_right sz h
      rw [Nat.add_mul] at h1
      rw [List.getElem?_append_left (by omega)]
      exact ih (fun i hi => hf i (by omega)) h
    · obtain rfl : i = n := by omega
      rw [List.getElem?_append_right (by omega), hl, show i * sz + k - i * sz = k from by omega]
theorem rowsL_congr (n : Nat) (f g : Nat → List Value) (h : ∀ i, i < n → f i = g i) : rowsL n f = rowsL n g := by
  induction n with
  | zero => rfl
  | succ n ih => rw [rowsL_succ, rowsL_succ, ih (fun i hi => h i (by omega)), h n (by omega)]
theorem rowsL_set (n sz : Nat) (f : Nat → List Value) (hf : ∀ i, i < n → (f i).length = sz) (i k : Nat) (v : Value) (hi : i < n) (hk : k < sz) : (rowsL n f).set (i * sz + k) v = rowsL n (fun j => if j = i then (f i).set k v else f j) := by
  have hg : ∀ j, j < n → (if j = i then (f i).set k v else f j).length = sz := fun j hj => by
    split
    · rw [List.length_set]; exact hf i hi
    · exact hf j hj
  apply List.ext_getElem?
  intro a
  by_cases ha : a < n * sz
  · have hsz : 0 < sz := by omega
    have e : a = a / sz * sz + a % sz := by have := Nat.div_add_mod a sz; rw [Nat.mul_comm] at this; omega
    have h1 : a / sz < n := Nat.div_lt_of_lt_mul (by rw [Nat.mul_comm]; exact ha)
    have h2 : a % sz < sz := Nat.mod_lt _ hsz
    generalize a / sz = p at e h1
    generalize a % sz = q at e h2
    subst e
    rw [rowsL_get n sz _ hg p q h1 h2]
    by_cases hp : p = i
    · subst hp
      rw [if_pos rfl]
      by_cases hq : q = k
      · subst hq
        rw [List.getElem?_set_self (by rw [rowsL_length n sz f hf]; exact ha), List.getElem?_set_self (by rw [hf p hi]; exact hk)]
      · rw [List.getElem?_set_ne (by omega), List.getElem?_set_ne (by omega), rowsL_get n sz f hf p q h1 h2]
    · rw [if_neg hp, List.getElem?_set_ne, rowsL_get n sz f hf p q h1 h2]
      intro he
      rcases Nat.lt_or_ge p i with hlt | hge
      · have : (p + 1) * sz ≤ i * sz := Nat.mul_le_mul_right sz hlt
        rw [Nat.add_mul] at this; omega
      · have : (i + 1) * sz ≤ p * sz := Nat.mul_le_mul_right sz (by omega)
        rw [Nat.add_mul] at this; omega
  · rw [List.getElem?_eq_none (by rw [List.length_set, rowsL_length n sz f hf]; omega), List.getElem?_eq_none (by rw [rowsL_length n sz _ hg]; omega)]

structure MLay where
  mb : Nat
  pb : Nat
  wb : Nat
  cb : Nat
  wd : Nat → Nat
  pr : Nat → Nat
  tn : Nat → Nat
  code : Nat → Nat → Value
  ch : Nat → Nat
def prioOf (p : Pt) (k : Nat) : Int := (p.procs.getD k default).prio
def mpartC (a b d : Nat) (i : Nat) (c : Pt) (p : RPart) : List Value :=
  [.int .i64 i, .bool c.sys, .int .i64 c.limit, .int .i64 (c.acts.getD 0 0), .int .i64 (c.acts.getD 1 0), .int .i64 (c.acts.getD 2 0), .int .i64 (c.acts.getD 3 0), .int .i64 (c.acts.getD 4 0), .int .i64 (c.acts.getD 5 0), .int .i64 p.mode,
    .slice (some ⟨a, 0, none⟩) p.words.length p.words.length, .slice (some ⟨b, 0, none⟩) p.procs.length p.procs.length, .slice (some ⟨d, 0, none⟩) p.procs.length p.procs.length, .int .i64 p.watch]
abbrev mpartCells (L : MLay) (i : Nat) (c : Pt) (p : RPart) : List Value := mpartC (L.wd i) (L.pr i) (L.tn i) i c p
def mchanCells (L : MLay) (j : Nat) (c : Ch) : List Value := [.int .i64 c.src, .int .i64 c.dst, .chan (some (L.ch j))]
def mwinCells (x : Wn) : List Value := [.int .i64 x.part, .int .i64 x.first, .int .i64 x.many]
def machObj (L : MLay) (g : Nat) (st : RSt) : Obj := .cells #[.pointer (some ⟨g, 0, none⟩), .int .i64 st.cf.frame, .int .i64 st.cf.watch, .slice (some ⟨L.pb, 0, none⟩) st.parts.length st.parts.length, .slice (some ⟨L.wb, 0, none⟩) st.cf.wins.length st.cf.wins.length, .slice (some ⟨L.cb, 0, none⟩) st.cf.chans.length st.cf.chans.length, .int .i64 st.now, .bool st.dead] 145 (0, 0)
structure MachAt (w : World) (L : MLay) (g : Nat) (st : RSt) : Prop where
  mach : w.heap[L.mb]? = some (machObj L g st)
  parts : w.heap[L.pb]? = some (.cells (rowsL st.parts.length fun i => mpartCells L i (st.cf.parts.getD i default) (st.parts.getD i default)).toArray 120 (0, 0))
  words : ∀ i, i < st.parts.length → w.heap[L.wd i]? = some (.cells ((st.parts.getD i default).words.map (Value.int .i64)).toArray 3 (0, 0))
  procs : ∀ i, i < st.parts.length → w.heap[L.pr i]? = some (.cells (rowsL (st.parts.getD i default).procs.length fun k => mprocCells (L.code i k) ((st.parts.getD i default).procs.getD k default)).toArray 166 (0, 0))
  turns : ∀ i, i < st.parts.length → w.heap[L.tn i]? = some (.cells ((turnI (st.parts.getD i default).procs.length (prioOf (st.cf.parts.getD i default))).map (Value.int .i64)).toArray 3 (0, 0))
  wins : w.heap[L.wb]? = some (.cells (st.cf.wins.flatMap mwinCells).toArray 131 (0, 0))
  chans : w.heap[L.cb]? = some (.cells (rowsL st.cf.chans.length fun j => mchanCells L j (st.cf.chans.getD j default)).toArray 139 (0, 0))
  queue : ∀ j, j < st.cf.chans.length → ∃ s r, w.heap[L.ch j]? = some (.chan (st.cf.chans.getD j default).depth.toNat ((st.queues.getD j []).map (Value.int .i64)).toArray false s r false)
  code : ∀ i k, i < st.parts.length → k < (st.parts.getD i default).procs.length → CodeV 0 (L.code i k) ((st.cf.parts.getD i default).procs.getD k default).code w
theorem MachAt.keep {w w' : World} {L : MLay} {g : Nat} {st : RSt} (h : MachAt w L g st) (hk : ∀ (b : Nat) (o : Obj), w.heap[b]? = some o → w'.heap[b]? = some o) : MachAt w' L g st := by
  refine ⟨hk _ _ h.mach, hk _ _ h.parts, fun i hi => hk _ _ (h.words i hi), fun i hi => hk _ _ (h.procs i hi), fun i hi => hk _ _ (h.turns i hi), hk _ _ h.wins, hk _ _ h.chans, fun j hj => ?_, fun i k hi hj => ?_⟩
  · obtain ⟨s, r, hc⟩ := h.queue j hj
    exact ⟨s, r, hk _ _ hc⟩
  · refine own_keep (h.code i k hi hj) (fun b e => ?_)
    obtain ⟨cur, hc⟩ := own_of (h.code i k hi hj) e
    rw [hc]
    exact hk _ _ hc
structure LayOk (L : MLay) (n m : Nat) : Prop where
  wdwd : ∀ i j, i < n → j < n → L.wd i = L.wd j → i = j
  prpr : ∀ i j, i < n → j < n → L.pr i = L.pr j → i = j
  wdtn : ∀ i j, i < n → j < n → L.wd i ≠ L.tn j
  chch : ∀ i j, i < m → j < m → L.ch i = L.ch j → i = j
structure StOk (st : RSt) : Prop where
  good : CfGood st.cf
  len : st.parts.length = st.cf.parts.length
  part : ∀ i, i < st.parts.length → (st.parts.getD i default).words.length = (st.cf.parts.getD i default).words.toNat ∧ (st.parts.getD i default).procs.length = (st.cf.parts.getD i default).procs.length
  qlen : st.queues.length = st.cf.chans.length
end Go.Proofs.YtnjlbgolnbdkaaaGreat
namespace Go.Proofs.YtnjlbgolnbdkaaaGreat
open Go.RowKit

set_option maxHeartbeats 1000000 in
theorem partAt_any (x n i : Nat) (w : World) (hi : i < n) :
    Calls Tryz.prog 73 #[.agg #[.slice (some ⟨x, 0, none⟩) n n], .int .i64 i] w fun e w' => e = .returned (.pointer (some ⟨x, i * 14, none⟩)) ∧ Below w.heap.size w w' := by
  have HB : Hid (Below w.heap.size w (w.alloc (.cells #[.slice (some ⟨x, 0, none⟩) n n] 111))) := (Below.refl _ _).alloc (Nat.le_refl _) _
  go_enter Tryz.func73, Tryz.ntmps73
  go_wp2
  go_ret
  exact ⟨by simp, HB.out⟩
set_option maxHeartbeats 1000000 in
theorem partHas_any (x n : Nat) (i : Int) (w : World) :
    Calls Tryz.prog 72 #[.agg #[.slice (some ⟨x, 0, none⟩) n n], .int .i64 i] w fun e w' => e = .returned (.bool (decide (0 ≤ i) && decide (i < n))) ∧ Below w.heap.size w w' := by
  have HB : Hid (Below w.heap.size w (w.alloc (.cells #[.slice (some ⟨x, 0, none⟩) n n] 111))) := (Below.refl _ _).alloc (Nat.le_refl _) _
  by_cases h : 0 ≤ i
  · go_enter Tryz.func72, Tryz.ntmps72
    go_wp2
    go_ret
    exact ⟨by simp [h], HB.out⟩
  · go_enter Tryz.func72, Tryz.ntmps72
    go_wp2
    go_ret
    exact ⟨by rw [decide_eq_false (show ¬ 0 ≤ i by omega)]; rfl, HB.out⟩
set_option maxHeartbeats 1000000 in
theorem procAt_any (x n i : Nat) (w : World) (hi : i < n) :
    Calls Tryz.prog 79 #[.agg #[.slice (some ⟨x, 0, none⟩) n n], .int .i64 i] w fun e w' => e = .returned (.pointer (some ⟨x, i * 6, none⟩)) ∧ Below w.heap.size w w' := by
  have HB : Hid (Below w.heap.size w (w.alloc (.cells #[.slice (some ⟨x, 0, none⟩) n n] 118))) := (Below.refl _ _).alloc (Nat.le_refl _) _
  go_enter Tryz.func79, Tryz.ntmps79
  go_wp2
  go_ret
  exact ⟨by simp, HB.out⟩
set_option maxHeartbeats 1000000 in
theorem procLen_any (x n : Nat) (w : World) :
    Calls Tryz.prog 109 #[.agg #[.slice (some ⟨x, 0, none⟩) n n]] w fun e w' => e = .returned (.int .i64 n) ∧ Below w.heap.size w w' := by
  have HB : Hid (Below w.heap.size w (w.alloc (.cells #[.slice (some ⟨x, 0, none⟩) n n] 118))) := (Below.refl _ _).alloc (Nat.le_refl _) _
  go_enter Tryz.func109, Tryz.ntmps109
  go_wp2
  go_ret
  exact ⟨by simp, HB.out⟩

set_option maxRecDepth 100000 in
set_option maxHeartbeats 2000000 in
theorem cloneInts_any (x n : Nat) (vs : List Value) (w : World) (hn : vs.length = n * 1) (hone : ∀ u ∈ vs, u.oneCell' = true) (h1 : 1 ≤ n) (h2 : n ≤ 16) (hx : w.heap[x]? = some (.cells vs.toArray 3 (0, 0))) :
    Calls Tryz.prog 150 #[.slice (some ⟨x, 0, none⟩) n n] w fun e w' => ∃ y cap, e = .returned (.slice (some ⟨y, 0, none⟩) n cap) ∧ w'.ownsRow w.heap.size 3 1 (.slice (some ⟨y, 0, none⟩) n cap) n vs ∧ Below w.heap.size w w' := by
  obtain ⟨i0, hi, hz0, hz1, hz2⟩ := info_parts Tryz.info3
  have he : ∀ W : World, (binOp .eql 40 (.slice (some ⟨x, 0, none⟩) n n) (.slice none 0 0)).run Tryz.prog W = .ok (.bool false) W := fun _ => by rfl
  have HX := hide hx
  have HN := hide hn
  have HO : Hid ((w.alloc (.cells #[] 3)).ownsRow w.heap.size 3 1 (.slice (some ⟨w.heap.size, 0, none⟩) 0 0) 0 []) := ⟨rfl, .inr ⟨w.heap.size, 0, #[], rfl, Nat.le_refl _, heap_alloc_new w _, Nat.le_refl _, by decide, rfl, rfl⟩⟩
  have hlx := lt_of_heap hx
  clear hx hn
  go_enter Tryz.func150, Tryz.ntmps150
  go_wp2_with (at_builtin; go_must (refine wpList_append_lies _ rfl (.tmp 5) (.tmp 6) 40 rfl w.heap.size 3 i0 (.int .i64 0) 1 8 Tryz.underlying40 hi hz0 hz1 hz2 rfl (by decide) (.slice (some ⟨w.heap.size, 0, none⟩) 0 0) 0 [] rfl HO.out ⟨x, 0, none⟩ n n vs (by rfl) HN.out (fun j u hu => ?_) hone (by omega) (by unfold maxLen; omega) (by omega) (by simp) _ rfl ?_))
  · rw [Addr.add_mid, Nat.zero_add, cell_same (Below.heap_alloc w _ x hlx) j, cell_of_row _ _ _ _ _ _ HX.out]
    simpa using hu
  · intro y cap w1 hown1 hgrow _ _
    have H1 : Hid (w1.ownsRow w.heap.size 3 1 (.slice (some ⟨y, 0, none⟩) n cap) n vs) := (by simpa using hown1 : w1.ownsRow w.heap.size 3 1 (.slice (some ⟨y, 0, none⟩) n cap) n vs)
    have H2 : Hid (Below w.heap.size w w1) := (Below.refl _ _).grown (grown_alloc hgrow) (Nat.le_refl _) (by simp [Value.ownBlock])
    clear hown1 hgrow
    go_wp2
    go_ret
    exact ⟨y, cap, by simp, H1.out, H2.out⟩
set_option maxRecDepth 100000 in
set_option maxHeartbeats 2000000 in
theorem cloneStates_any (x n : Nat) (vs : List Value) (w : World) (hn : vs.length = n * 3) (hone : ∀ u ∈ vs, u.oneCell' = true) (h1 : 1 ≤ n) (h2 : n ≤ 16) (hx : w.heap[x]? = some (.cells vs.toArray 47 (0, 0))) :
    Calls Tryz.prog 151 #[.slice (some ⟨x, 0, none⟩) n n] w fun e w' => ∃ y cap, e = .returned (.slice (some ⟨y, 0, none⟩) n cap) ∧ w'.ownsRow w.heap.size 47 3 (.slice (some ⟨y, 0, none⟩) n cap) n vs ∧ Below w.heap.size w w' := by
  obtain ⟨i0, hi, hz0, hz1, hz2⟩ := info_parts Tryz.info47
  have he : ∀ W : World, (binOp .eql 41 (.slice (some ⟨x, 0, none⟩) n n) (.slice none 0 0)).run Tryz.prog W = .ok (.bool false) W := fun _ => by rfl
  have HX := hide hx
  have HN := hide hn
  have HO : Hid ((w.alloc (.cells #[] 47)).ownsRow w.heap.size 47 3 (.slice (some ⟨w.heap.size, 0, none⟩) 0 0) 0 []) := ⟨rfl, .inr ⟨w.heap.size, 0, #[], rfl, Nat.le_refl _, heap_alloc_new w _, Nat.le_refl _, by decide, rfl, rfl⟩⟩
  have hlx := lt_of_heap hx
  clear hx hn
  go_enter Tryz.func151, Tryz.ntmps151
  go_wp2_with (at_builtin; go_must (refine wpList_append_lies _ rfl (.tmp 5) (.tmp 6) 41 rfl w.heap.size 47 i0 _ 3 24 Tryz.underlying41 hi hz0 hz1 hz2 rfl (by decide) (.slice (some ⟨w.heap.size, 0, none⟩) 0 0) 0 [] rfl HO.out ⟨x, 0, none⟩ n n vs (by rfl) HN.out (fun j u hu => ?_) hone (by omega) (by unfold maxLen; omega) (by omega) (by simp) _ rfl ?_))
  · rw [Addr.add_mid, Nat.zero_add, cell_same (Below.heap_alloc w _ x hlx) j, cell_of_row _ _ _ _ _ _ HX.out]
    simpa using hu
  · intro y cap w1 hown1 hgrow _ _
    have H1 : Hid (w1.ownsRow w.heap.size 47 3 (.slice (some ⟨y, 0, none⟩) n cap) n vs) := (by simpa using hown1 : w1.ownsRow w.heap.size 47 3 (.slice (some ⟨y, 0, none⟩) n cap) n vs)
    have H2 : Hid (Below w.heap.size w w1) := (Below.refl _ _).grown (grown_alloc hgrow) (Nat.le_refl _) (by simp [Value.ownBlock])
    clear hown1 hgrow
    go_wp2
    go_ret
    exact ⟨y, cap, by simp, H1.out, H2.out⟩
set_option maxHeartbeats 1000000 in
theorem copyInts_any (x n : Nat) (vs : List Value) (w : World) (hn : vs.length = n * 1) (hone : ∀ u ∈ vs, u.oneCell' = true) (h1 : 1 ≤ n) (h2 : n ≤ 16) (hx : w.heap[x]? = some (.cells vs.toArray 3 (0, 0))) :
    Calls Tryz.prog 111 #[.agg #[.slice (some ⟨x, 0, none⟩) n n]] w fun e w' => ∃ y cap, e = .returned (.slice (some ⟨y, 0, none⟩) n cap) ∧ w'.ownsRow w.heap.size 3 1 (.slice (some ⟨y, 0, none⟩) n cap) n vs ∧ Below w.heap.size w w' := by
  have hb : Below w.heap.size w (w.alloc (.cells #[.slice (some ⟨x, 0, none⟩) n n] 115)) := (Below.refl _ _).alloc (Nat.le_refl _) _
  have HC := hide (cloneInts_any x n vs _ hn hone h1 h2 (keepB hb hx))
  have HB := hide hb
  clear hx hb hone
  go_enter Tryz.func111, Tryz.ntmps111
  go_wp2_with fail
  refine HC.out.mono ?_
  rintro e w1 ⟨y, cap, rfl, ho, hb1⟩
  have HE : Hid (w1.ownsRow w.heap.size 3 1 (.slice (some ⟨y, 0, none⟩) n cap) n vs ∧ Below w.heap.size w w1) := ⟨own_low ho (by simp), HB.out.trans (hb1.mono (by simp))⟩
  clear ho hb1 HC
  go_wp2
  go_ret
  exact ⟨y, cap, rfl, HE.out⟩
set_option maxHeartbeats 1000000 in
theorem copyStates_any (x n : Nat) (vs : List Value) (w : World) (hn : vs.length = n * 3) (hone : ∀ u ∈ vs, u.oneCell' = true) (h1 : 1 ≤ n) (h2 : n ≤ 16) (hx : w.heap[x]? = some (.cells vs.toArray 47 (0, 0))) :
    Calls Tryz.prog 112 #[.agg #[.slice (some ⟨x, 0, none⟩) n n]] w fun e w' => ∃ y cap, e = .returned (.slice (some ⟨y, 0, none⟩) n cap) ∧ w'.ownsRow w.heap.size 47 3 (.slice (some ⟨y, 0, none⟩) n cap) n vs ∧ Below w.heap.size w w' := by
  have hb : Below w.heap.size w (w.alloc (.cells #[.slice (some ⟨x, 0, none⟩) n n] 213)) := (Below.refl _ _).alloc (Nat.le_refl _) _
  have HC := hide (cloneStates_any x n vs _ hn hone h1 h2 (keepB hb hx))
  have HB := hide hb
  clear hx hb hone
  go_enter Tryz.func112, Tryz.ntmps112
  go_wp2_with fail
  refine HC.out.mono ?_
  rintro e w1 ⟨y, cap, rfl, ho, hb1⟩
  have HE : Hid (w1.ownsRow w.heap.size 47 3 (.slice (some ⟨y, 0, none⟩) n cap) n vs ∧ Below w.heap.size w w1) := ⟨own_low ho (by simp), HB.out.trans (hb1.mono (by simp))⟩
  clear ho hb1 HC
  go_wp2
  go_ret
  exact ⟨y, cap, rfl, HE.out⟩
end Go.Proofs.YtnjlbgolnbdkaaaGreat
namespace Go.Proofs.YtnjlbgolnbdkaaaGreat
open Go.RowKit

theorem getD_at {α : Type} (l : List α) (d : α) (i : Nat) (h : i < l.length) : l.getD i d = l[i] := by rw [List.getD_eq_getElem?_getD, List.getElem?_eq_getElem h]; rfl
section
variable {w w' : World} {L : MLay} {g : Nat} {st : RSt}
theorem MachAt.cellP (h : MachAt w L g st) (i k : Nat) (hi : i < st.parts.length) (hk : k < 14) : w.cell? ⟨L.pb, i * 14 + k, none⟩ = (mpartCells L i (st.cf.parts.getD i default) (st.parts.getD i default))[k]? := by
  rw [cell_of_row _ _ _ _ _ _ h.parts, List.getElem?_toArray]
  exact rowsL_get _ 14 _ (fun _ _ => rfl) i k hi hk
theorem MachAt.cellQ (h : MachAt w L g st) (i k f : Nat) (hi : i < st.parts.length) (hk : k < (st.parts.getD i default).procs.length) (hf : f < 6) : w.cell? ⟨L.pr i, k * 6 + f, none⟩ = (mprocCells (L.code i k) ((st.parts.getD i default).procs.getD k default))[f]? := by
  rw [cell_of_row _ _ _ _ _ _ (h.procs i hi), List.getElem?_toArray]
  exact rowsL_get _ 6 _ (fun _ _ => rfl) k f hk hf
theorem MachAt.below (h : MachAt w L g st) (hb : Below w.heap.size w w') : MachAt w' L g st := h.keep (fun _ _ hb' => keepB hb hb')
theorem StOk.few (h : StOk st) : 1 ≤ st.parts.length ∧ st.parts.length ≤ 4 := by rw [h.len]; exact h.good.few
theorem StOk.getD (h : StOk st) (i : Nat) (hi : i < st.parts.length) : PtGood (st.cf.parts.getD i default) := by
  rw [h.len] at hi
  rw [List.getD_eq_getElem?_getD, List.getElem?_eq_getElem hi]
  exact h.good.parts _ (List.getElem_mem hi)
theorem StOk.np (h : StOk st) (i : Nat) (hi : i < st.parts.length) : 1 ≤ (st.parts.getD i default).procs.length ∧ (st.parts.getD i default).procs.length ≤ 2 := by
  rw [(h.part i hi).2]; exact (h.getD i hi).few
theorem StOk.nw (h : StOk st) (i : Nat) (hi : i < st.parts.length) : 1 ≤ (st.parts.getD i default).words.length ∧ (st.parts.getD i default).words.length ≤ 16 := by
  have := (h.getD i hi).words
  rw [(h.part i hi).1]; omega
end

def stateCells (p : RProc) : List Value := [.int .i64 p.next, .int .i64 p.acc, .bool p.stopped]
def elS (p : RProc) : El := ⟨fun | 0 => p.next | _ => p.acc, p.stopped, fun _ => none, fun _ => 0, fun _ => 0, none⟩
set_option maxHeartbeats 2000000 in
theorem viewOne_any (cb : Nat) (L : MLay) (g : Nat) (st : RSt) (i k : Nat) (w : World) (hm : MachAt w L g st) (hok : StOk st) (hi : i < st.parts.length) (hk : k < (st.parts.getD i default).procs.length) (h0 : w.cell? ⟨cb, 0, none⟩ = some (.pointer (some ⟨L.pb, i * 14, none⟩))) :
    Calls Tryz.prog 110 #[.int .i64 k, .pointer (some ⟨cb, 0, none⟩)] w fun e w' => e = .returned (.agg #[.int .i64 ((st.parts.getD i default).procs.getD k default).next, .int .i64 ((st.parts.getD i default).procs.getD k default).acc, .bool ((st.parts.getD i default).procs.getD k default).stopped]) ∧ Below w.heap.size w w' := by
  have hnp := (hok.np i hi).2
  have c0 : w.cell? ⟨L.pb, i * 14 + 11, none⟩ = some (.slice (some ⟨L.pr i, 0, none⟩) (st.parts.getD i default).procs.length (st.parts.getD i default).procs.length) := by rw [hm.cellP i 11 hi (by omega)]; rfl
  have c1 : w.cell? ⟨L.pr i, k * 6 + 1, none⟩ = some (.int .i64 ((st.parts.getD i default).procs.getD k default).next) := by rw [hm.cellQ i k 1 hi hk (by omega)]; rfl
  have c2 : w.cell? ⟨L.pr i, k * 6 + 2, none⟩ = some (.int .i64 ((st.parts.getD i default).procs.getD k default).acc) := by rw [hm.cellQ i k 2 hi hk (by omega)]; rfl
  have c3 : w.cell? ⟨L.pr i, k * 6 + 3, none⟩ = some (.bool ((st.parts.getD i default).procs.getD k default).stopped) := by rw [hm.cellQ i k 3 hi hk (by omega)]; rfl
  have hl0 := lt_of_cell h0
  have hl1 := lt_of_cell c0
  have hl2 := lt_of_cell c1
  have hb : Below w.heap.size w (w.alloc (.cells #[.int .i64 0, .int .i64 0, .bool false] 47)) := (Below.refl _ _).alloc (Nat.le_refl _) _
  have HAT := hide (procAt_any (L.pr i) (st.parts.getD i default).procs.length k (w.alloc (.cells #[.int .i64 0, .int .i64 0, .bool false] 47)) hk)
  have HB := hide hb
  clear hm hok hb
  generalize (st.parts.getD i default).procs.length = np at *
  generalize ((st.parts.getD i default).procs.getD k default).next = a at *
  generalize ((st.parts.getD i default).procs.getD k default).acc = b at *
  generalize ((st.parts.getD i default).procs.getD k default).stopped = c at *
  go_enter Tryz.func110, Tryz.ntmps110
  go_wp2_with fail
  refine HAT.out.mono ?_
  rintro e w1 ⟨rfl, hb1⟩
  have hs1 := hb1.size
  simp at hs1
  have HB1 : Hid (Below w.heap.size w w1) := HB.out.trans (hb1.mono (by simp))
  have d1 := (HB1.out.cell (p := ⟨L.pr i, k * 6 + 1, none⟩) hl2).trans c1
  have d2 := (HB1.out.cell (p := ⟨L.pr i, k * 6 + 2, none⟩) hl2).trans c2
  have d3 := (HB1.out.cell (p := ⟨L.pr i, k * 6 + 3, none⟩) hl2).trans c3
  have hr1 : w1.heap[w.heap.size]? = some (.cells #[.int .i64 0, .int .i64 0, .bool false] 47 (0, 0)) := (hb1.block _ (by simp)).trans (heap_at rfl)
  have z0 : w1.cell? ⟨w.heap.size, 0, none⟩ = some (.int .i64 0) := by rw [cell_of_row _ _ _ _ _ _ hr1]; rfl
  have z1 : w1.cell? ⟨w.heap.size, 1, none⟩ = some (.int .i64 0) := by rw [cell_of_row _ _ _ _ _ _ hr1]; rfl
  have z2 : w1.cell? ⟨w.heap.size, 2, none⟩ = some (.bool false) := by rw [cell_of_row _ _ _ _ _ _ hr1]; rfl
  have f0 := free_of_block hr1 0
  have f1 := free_of_block hr1 1
  have f2 := free_of_block hr1 2
  obtain ⟨wF, hwF⟩ : ∃ wF, wF = ((w1.setCell ⟨w.heap.size, 0, none⟩ (.int .i64 a)).setCell ⟨w.heap.size, 1, none⟩ (.int .i64 b)).setCell ⟨w.heap.size, 2, none⟩ (.bool c) := ⟨_, rfl⟩
  have HFB : Hid (wF.heap[w.heap.size]? = some (.cells #[.int .i64 a, .int .i64 b, .bool c] 47 (0, 0))) := by show _ = _; rw [hwF]; exact block_set (block_set (block_set hr1 0 _) 1 _) 2 _
  have HEND : Hid (Below w.heap.size w wF) := by
    show Below _ _ _
    rw [hwF]
    iterate 3 refine Below.thenSet ?_ (Nat.le_refl _) _ _
    exact HB1.out
  have HWF := hide hwF
  clear hb1 hr1 hwF HAT
  go_wp2
  rw [← HWF.out]
  exact bodyPost_ret (v := .agg #[.int .i64 a, .int .i64 b, .bool c]) (res_cell Tryz.results110 _ _ _ (by rfl) HFB.out Tryz.underlying47 (by kernel_rfl)) rfl ⟨rfl, HEND.out⟩
theorem states_any (cb : Nat) (L : MLay) (g : Nat) (st : RSt) (i : Nat) (w : World) (hm : MachAt w L g st) (hok : StOk st) (hi : i < st.parts.length) (h0 : w.cell? ⟨cb, 0, none⟩ = some (.pointer (some ⟨L.pb, i * 14, none⟩))) :
    Calls Tryz.prog 108 #[.int .i64 (st.parts.getD i default).procs.length, .func (.func 110) #[] #[.pointer (some ⟨cb, 0, none⟩)]] w fun e w' => ∃ y, e = .returned (.agg #[.slice (some ⟨y, 0, none⟩) (st.parts.getD i default).procs.length (st.parts.getD i default).procs.length]) ∧ w.heap.size ≤ y ∧ w'.heap[y]? = some (.cells ((st.parts.getD i default).procs.flatMap stateCells).toArray 47 (0, 0)) ∧ Below w.heap.size w w' := by
  have hnp := (hok.np i hi).2
  refine (makeState_any cb (st.parts.getD i default).procs.length (by omega) (fun _ => False) w (fun _ h => h.elim) (fun j r W => r.flatMap mksC = ((st.parts.getD i default).procs.take j).flatMap stateCells ∧ Touch (fun b => w.heap.size ≤ b) w W) (fun j r W W' hI t => ⟨hI.1, hI.2.trans t (fun i hi => .inl hi.1)⟩) (fun j r W hj hI hsW => ?_) ⟨by simp, Touch.refl _ _⟩).mono ?_
  · have hB : Below w.heap.size w W := hI.2.below (Nat.le_refl _) (fun k hk => hk)
    refine (viewOne_any cb L g st i j W (hm.below hB) hok hi hj ((cell_same (hB.block cb (lt_of_cell h0)) 0).trans h0)).mono ?_
    rintro e w' ⟨rfl, hb⟩
    refine ⟨elS ((st.parts.getD i default).procs.getD j default), rfl, ⟨?_, hI.2.trans (Touch.ofBelow (S := fun _ => False) hb) (fun _ h => h.elim)⟩, Touch.ofBelow hb⟩
    have hd : (st.parts.getD i default).procs.getD j default = (st.parts.getD i default).procs[j] := getD_at _ _ _ hj
    rw [List.flatMap_append, hI.1, List.take_add_one, List.getElem?_eq_getElem hj, List.flatMap_append, hd]
    rfl
  · rintro e w' ⟨y, r, rfl, ⟨hr, ht⟩, _, hown⟩
    obtain ⟨h1, h2⟩ := own_cells hown
    refine ⟨y, rfl, h1, ?_, ht.below (Nat.le_refl _) (fun k hk => hk)⟩
    rw [h2, show mkssC r = _ from hr, List.take_length]
end Go.Proofs.YtnjlbgolnbdkaaaGreat
/- A kernel and its flash, as plain values: what the calls do. Plain. -/
namespace Go.Proofs.YtnjlbgolnbdkaaaGreat
open Go.RowKit

def andB {S : Type} (r : Bool × S) (f : S → Bool × S) : Bool × S := if r.1 = true then f r.2 else r
def loopB {S : Type} (f : Nat → S → Bool × S) : Nat → S → Bool × S
  | 0, s => (true, s)
  | k + 1, s => andB (loopB f k s) (f k)
theorem andB_no {S : Type} (s : S) (f : S → Bool × S) : andB (false, s) f = (false, s) := rfl
theorem andB_yes {S : Type} (s : S) (f : S → Bool × S) : andB (true, s) f = f s := rfl
theorem loopB_stop {S : Type} (f : Nat → S → Bool × S) (s : S) (k n : Nat) (h : k ≤ n) (hk : (loopB f k s).1 = false) : loopB f n s = loopB f k s := by
  induction n with
  | zero =>
    obtain rfl : k = 0 := by omega
    rfl
  | succ n ih =>
    by_cases e : k = n + 1
    · subst e; rfl
    · show andB (loopB f n s) (f n) = _
      rw [ih (by omega)]
      unfold andB
      rw [hk]
      simp
structure Fl where
  bs : List Int
  left : Int
  res : Int
  dead : Bool
  done : Int
abbrev FlAt (w : World) (g : Nat) (F : Fl) : Prop := FlashAt w g F.bs F.left F.res F.dead F.done
structure FlOk (F : Fl) : Prop where
  len : F.bs.length = 256
  bytes : Bytes F.bs
  left : -1 ≤ F.left ∧ F.left ≤ 1000000
  res : 0 ≤ F.res ∧ F.res ≤ 255
def band8 (x y : Int) : Int := bits .and .u8 x y
def bor8 (x y : Int) : Int := bits .or .u8 x y
theorem wrap8_rng (x : Int) : 0 ≤ IntKind.u8.wrap x ∧ IntKind.u8.wrap x ≤ 255 := by
  have h : IntKind.u8.wrap x = x % 256 := by simp [IntKind.wrap, IntKind.signed, IntKind.bits]
  rw [h]
  omega
theorem band8_rng (x y : Int) : 0 ≤ band8 x y ∧ band8 x y ≤ 255 := by
  unfold band8 bits
  exact wrap8_rng _
theorem bor8_rng (x y : Int) : 0 ≤ bor8 x y ∧ bor8 x y ≤ 255 := by
  unfold bor8 bits
  exact wrap8_rng _
def Fl.tally (F : Fl) : Fl := { F with done := IntKind.i64.wrap (F.done + 1), left := if 0 < F.left then F.left - 1 else F.left }
def Fl.prog (F : Fl) (a : Nat) (v : Int) : Bool × Fl :=
  if F.dead = true then (false, F)
  else if F.left = 0 then (false, { F with bs := F.bs.set a (band8 (F.bs.getD a 0) (bor8 v F.res)), dead := true })
  else (true, ({ F with bs := F.bs.set a (band8 (F.bs.getD a 0) v) } : Fl).tally)
def eraTo (f : Int → Int) (a : Nat) (bs : List Int) : Nat → List Int
  | 0 => bs
  | k + 1 => (eraTo f a bs k).set (a + k) (f ((eraTo f a bs k).getD (a + k) 0))
def Fl.erase (F : Fl) (s : Nat) : Bool × Fl :=
  if F.dead = true then (false, F)
  else if F.left = 0 then (false, { F with bs := eraTo (fun x => bor8 x F.res) (128 * s) F.bs 128, dead := true })
  else (true, ({ F with bs := eraTo (fun _ => 255) (128 * s) F.bs 128 } : Fl).tally)
def Fl.lay (F : Fl) (a : Nat) (sl : List Int) : Bool × Fl := andB (loopB (fun k F => F.prog (a + (k + 1)) (sl.getD (k + 1) 0)) 15 F) (fun F => F.prog a (sl.getD 0 0))
theorem Bytes.set {bs : List Int} (h : Bytes bs) (a : Nat) (v : Int) (hv : 0 ≤ v ∧ v ≤ 255) : Bytes (bs.set a v) := by
  intro z hz
  rcases List.mem_or_eq_of_mem_set hz with hz | rfl
  · exact h z hz
  · omega
theorem FlOk.tally {F : Fl} (h : FlOk F) : FlOk F.tally := by
  refine ⟨h.len, h.bytes, ?_, h.res⟩
  have := h.left
  simp only [Fl.tally]
  split <;> omega
theorem FlOk.prog {F : Fl} (h : FlOk F) (a : Nat) (v : Int) : FlOk (F.prog a v).2 := by
  unfold Fl.prog
  split
  · exact h
  · split
    · exact ⟨by simp [h.len], h.bytes.set _ _ (band8_rng _ _), h.left, h.res⟩
    · exact FlOk.tally ⟨by simp [h.len], h.bytes.set _ _ (band8_rng _ _), h.left, h.res⟩
theorem eraTo_ok (f : Int → Int) (hf : ∀ x, 0 ≤ f x ∧ f x ≤ 255) (a : Nat) (bs : List Int) (h : Bytes bs) (k : Nat) : (eraTo f a bs k).length = bs.length ∧ Bytes (eraTo f a bs k) := by
  induction k with
  | zero => exact ⟨rfl, h⟩
  | succ k ih => exact ⟨by rw [eraTo, List.length_set, ih.1], ih.2.set _ _ (hf _)⟩
theorem FlOk.erase {F : Fl} (h : FlOk F) (s : Nat) : FlOk (F.erase s).2 := by
  have h1 := eraTo_ok (fun x => bor8 x F.res) (fun x => bor8_rng _ _) (128 * s) F.bs h.bytes 128
  have h2 := eraTo_ok (fun _ => 255) (fun x => ⟨by decide, by decide⟩) (128 * s) F.bs h.bytes 128
  unfold Fl.erase
  generalize eraTo (fun x => bor8 x F.res) (128 * s) F.bs 128 = A at *
  generalize eraTo (fun _ => 255) (128 * s) F.bs 128 = B at *
  split
  · exact h
  · split
    · exact ⟨h1.1.trans h.len, h1.2, h.left, h.res⟩
    · exact FlOk.tally ⟨h2.1.trans h.len, h2.2, h.left, h.res⟩
theorem andB_ok {S : Type} (P : S → Prop) {r : Bool × S} {f : S → Bool × S} (h : P r.2) (hf : ∀ s, P s → P (f s).2) : P (andB r f).2 := by
  unfold andB
  split
  · exact hf _ h
  · exact h
theorem loopB_ok {S : Type} (P : S → Prop) (f : Nat → S → Bool × S) (hf : ∀ k s, P s → P (f k s).2) (k : Nat) (s : S) (h : P s) : P (loopB f k s).2 := by
  induction k with
  | zero => exact h
  | succ k ih => exact andB_ok P ih (hf k)
theorem FlOk.lay {F : Fl} (h : FlOk F) (a : Nat) (sl : List Int) : FlOk (F.lay a sl).2 :=
  andB_ok FlOk (loopB_ok FlOk _ (fun _ _ hF => hF.prog _ _) 15 F h) (fun _ hF => hF.prog _ _)
def greatOf (l : List (Nat → Int)) : Int := l.foldl (fun n r => max n (r 3)) 0
def freeTo (bs : List Int) (s : Nat) : Nat → Nat
  | 0 => 0
  | k + 1 => if kindAt bs s k = 0 then freeTo bs s k else k + 1
def freeOf (bs : List Int) (s : Nat) : Nat := freeTo bs s 8
def allRest (bs : List Int) : Int := 16777216 * restartsOf bs 0 + 65536 * restartsOf bs 1 + 256 * restartsOf bs 2 + restartsOf bs 3
def Fl.app (F : Fl) (part code act : Int) : Bool × Fl :=
  if headB F.bs (actOf F.bs).1 = true ∧ freeOf F.bs (actOf F.bs).1 < 8 then F.lay (128 * (actOf F.bs).1 + 16 * freeOf F.bs (actOf F.bs).1) (slotOf 1 part code (greatOf (logOf F.bs) + 1) act)
  else andB (F.erase (actOf F.bs).2) fun F1 => andB (F1.lay (128 * (actOf F.bs).2) (slotOf 2 0 0 (hdrOf F.bs (actOf F.bs).1 3 + 1) (allRest F.bs))) fun F2 => F2.lay (128 * (actOf F.bs).2 + 16) (slotOf 1 part code (greatOf (logOf F.bs) + 1) act)
theorem FlOk.app {F : Fl} (h : FlOk F) (part code act : Int) : FlOk (F.app part code act).2 := by
  unfold Fl.app
  split
  · exact h.lay _ _
  · exact andB_ok FlOk (h.erase _) fun _ h1 => andB_ok FlOk (h1.lay _ _) fun _ h2 => h2.lay _ _
abbrev SF := RSt × Fl
def RSt.part (st : RSt) (i : Nat) : RPart := st.parts.getD i default
def RSt.proc (st : RSt) (i n : Nat) : RProc := (st.part i).procs.getD n default
def RSt.cpart (st : RSt) (i : Nat) : Pt := st.cf.parts.getD i default
def RSt.codeOf (st : RSt) (i n : Nat) : List (Int × Int) := ((st.cpart i).procs.getD n default).code
def RSt.setPart (st : RSt) (i : Nat) (p : RPart) : RSt := { st with parts := st.parts.set i p }
def RSt.setProc (st : RSt) (i n : Nat) (x : RProc) : RSt := st.setPart i { st.part i with procs := (st.part i).procs.set n x }
def restartP (mode now : Int) (p : RPart) : RPart := ⟨mode, if mode = 1 then List.replicate p.words.length 0 else p.words, List.replicate p.procs.length proc0, now⟩
def RSt.restart (st : RSt) (i : Nat) (mode : Int) : RSt := st.setPart i (restartP mode st.now (st.part i))
def RSt.reset (st : RSt) : RSt := { st with parts := st.parts.map fun p => if p.mode = 3 then p else restartP 1 st.now p }
def actionOf (st : RSt) (bs : List Int) (i code : Nat) : Int :=
  if ((st.cpart i).acts.getD code 0 = 4 ∨ (st.cpart i).acts.getD code 0 = 5) ∧ (st.cpart i).limit ≤ restartsOf bs i then 6 else (st.cpart i).acts.getD code 0
def RSt.act (st : RSt) (i n : Nat) (a : Int) : RSt :=
  if a = 2 then st.setProc i n { st.proc i n with stopped := true }
  else if a = 3 then st.setProc i n proc0
  else if a = 4 then st.restart i 2
  else if a = 5 then st.restart i 1
  else if a = 6 then st.setPart i { st.part i with mode := 3 }
  else if a = 7 then st.reset
  else st
def faultS (i n code : Nat) (s : SF) : Bool × SF :=
  if (s.2.app i code (actionOf s.1 s.2.bs i code)).1 = true then (true, s.1.act i n (actionOf s.1 s.2.bs i code), (s.2.app i code (actionOf s.1 s.2.bs i code)).2)
  else (false, s.1, (s.2.app i code (actionOf s.1 s.2.bs i code)).2)
def lateS (i n : Nat) (s : SF) : Bool × SF :=
  if (s.1.part i).mode = 3 ∨ (s.1.proc i n).stopped = true ∨ (s.1.proc i n).dl < 0 ∨ s.1.now < (s.1.proc i n).dl then (true, s)
  else faultS i n 2 (s.1.setProc i n { s.1.proc i n with dl := -1 }, s.2)
def latesS (i : Nat) (s : SF) : Bool × SF := loopB (lateS i) (s.1.part i).procs.length s
def deadS (s : SF) : Bool × SF := loopB latesS s.1.parts.length s
def watchS (i : Nat) (s : SF) : Bool × SF :=
  if (s.1.part i).mode = 3 ∨ s.1.now - (s.1.part i).watch < s.1.cf.watch then (true, s)
  else faultS i 0 5 (s.1.setPart i { s.1.part i with watch := s.1.now }, s.2)
def watchesS (s : SF) : Bool × SF := if s.1.cf.watch = 0 then (true, s) else loopB watchS s.1.parts.length s
def mineTo (st : RSt) (i : Nat) (c : Int) : Bool := decide (c < st.cf.chans.length ∧ (st.cf.chans.getD c.toNat default).dst = i)
def mineFrom (st : RSt) (i : Nat) (c : Int) : Bool := decide (c < st.cf.chans.length ∧ (st.cf.chans.getD c.toNat default).src = i)
def insOf (st : RSt) (i n : Nat) : Int × Int := (st.codeOf i n).getD (st.proc i n).next.toNat (0, 0)
def readyS (st : RSt) (i n : Nat) : Bool :=
  decide (¬ ((st.part i).mode = 3 ∨ (st.proc i n).stopped = true ∨ st.now < (st.proc i n).til)) && (decide ((insOf st i n).1 ≠ 7) || !mineTo st i (insOf st i n).2 || decide (0 < (st.queues.getD (insOf st i n).2.toNat []).length))
def quot64 (a b : Int) : Int := IntKind.i64.wrap (Int.tdiv a b)
def RSt.follow (st : RSt) (i n : Nat) (nx : Int) : RProc := { st.proc i n with next := nx, stopped := decide (((st.codeOf i n).length : Int) ≤ nx) }
def countOf (l : List (Nat → Int)) (a : Int) : Int := l.foldl (fun n r => if r 1 = a then n + 1 else n) 0
def stepS (bs : List Int) (i n : Nat) (st : RSt) : Int × RSt :=
  let op := (insOf st i n).1
  let a := (insOf st i n).2
  let x : RProc := st.follow i n (if op = 4 ∧ (st.proc i n).acc ≠ 0 then a else (st.proc i n).next + 1)
  let st1 := st.setProc i n x
  if op = 1 then (-1, st.setProc i n { x with acc := IntKind.i64.wrap (x.acc + (if a > 127 then a - 256 else a)) })
  else if op = 2 then if a < (st.part i).words.length then (-1, st1.setPart i { st1.part i with words := (st.part i).words.set a.toNat x.acc }) else (0, st1)
  else if op = 3 then if a < (st.part i).words.length then (-1, st.setProc i n { x with acc := (st.part i).words.getD a.toNat 0 }) else (0, st1)
  else if op = 12 then if a < (st.part i).words.length then (if (st.part i).words.getD a.toNat 0 = 0 then (1, st1) else (-1, st.setProc i n { x with acc := quot64 x.acc ((st.part i).words.getD a.toNat 0) })) else (0, st1)
  else if op = 5 then (-1, st.setProc i n { x with til := st.now + a })
  else if op = 6 then if mineFrom st i a = true then (-1, { st1 with queues := if ((st.queues.getD a.toNat []).length : Int) < (st.cf.chans.getD a.toNat default).depth then st.queues.set a.toNat (st.queues.getD a.toNat [] ++ [x.acc]) else st.queues }) else (4, st1)
  else if op = 7 then if mineTo st i a = true then (-1, { st.setProc i n { x with acc := (st.queues.getD a.toNat []).headD 0 } with queues := st.queues.set a.toNat (st.queues.getD a.toNat []).tail }) else (4, st1)
  else if op = 8 then (3, st1)
  else if op = 9 then (-1, st1.setPart i { st1.part i with watch := st.now })
  else if op = 10 then (-1, st.setProc i n { x with stopped := true })
  else if op = 11 then (-1, st.setProc i n { x with dl := if a = 0 then -1 else st.now + a })
  else if op = 13 then if (st.cpart i).sys = true then (-1, st.setProc i n { x with acc := countOf (logOf bs) a }) else (4, st1)
  else (-1, st1)
def bestTo (st : RSt) (i : Nat) : Nat → Option Nat
  | 0 => none
  | k + 1 => if (readyS st i k && (match bestTo st i k with | none => true | some b => decide (prioOf (st.cpart i) b < prioOf (st.cpart i) k))) = true then some k else bestTo st i k
def bestS (st : RSt) (i : Nat) : Option Nat := bestTo st i (st.cpart i).procs.length
def turnS (i : Nat) (s : SF) : Bool × SF :=
  match bestS s.1 i with
  | none => (true, s)
  | some n => if (stepS s.2.bs i n s.1).1 < 0 then (true, (stepS s.2.bs i n s.1).2, s.2) else faultS i n (stepS s.2.bs i n s.1).1.toNat ((stepS s.2.bs i n s.1).2, s.2)
def inWin (now : Int) (fr : Int) (x : Wn) : Bool := decide (x.first ≤ now % fr ∧ now % fr < x.first + x.many)
def winS (s : SF) : Bool × SF :=
  match s.1.cf.wins.find? (inWin s.1.now s.1.cf.frame) with
  | none => (true, s)
  | some x => turnS x.part.toNat s
def tick1 (s : SF) : Bool × SF := andB (andB (deadS s) watchesS) winS
def tickS (s : SF) : Bool × SF := andB (tick1 s) fun s => (true, { s.1 with now := s.1.now + 1 }, s.2)
def ticksTo : Nat → SF → Bool × SF := loopB (fun _ => tickS)
def doneTo (s : SF) : Nat → Nat
  | 0 => 0
  | k + 1 => if (ticksTo (k + 1) s).1 = true then k + 1 else doneTo s k
def withDead (r : Bool × SF) : SF := ({ r.2.1 with dead := !r.1 }, r.2.2)
def tickCall (n : Int) (s : SF) : (Int × Int) × SF :=
  if n < 0 ∨ 1000 < n then ((0, 1), s)
  else if s.1.dead = true then ((0, 6), s)
  else ((doneTo s n.toNat, if (ticksTo n.toNat s).1 = true then 0 else 6), withDead (ticksTo n.toNat s))
end Go.Proofs.YtnjlbgolnbdkaaaGreat
/- The keeper's pick, check and number: what they answer. -/
namespace Go.Proofs.YtnjlbgolnbdkaaaGreat
open Go.RowKit

set_option maxHeartbeats 400000 in
theorem kpick_any (c n : Int) (w : World) (h1 : -9223372036854775808 ≤ c) (h2 : c ≤ 9223372036854775807) (hn : 1 ≤ n) (hn2 : n ≤ 1099511627776) :
    Calls Tryz.prog 17 #[.int .i64 c, .int .i64 n] w fun e w' => e = .returned (.int .i64 (pickOf c n)) ∧ w' = w := by
  by_cases h : c < 0
  · have HP : Hid (-((c + 1).tmod n) = pickOf c n) := by
      show _ = _
      unfold pickOf
      rw [if_pos h, ← Int.neg_tmod, Int.tmod_eq_emod_of_nonneg (by omega)]
    go_enter Tryz.func17, Tryz.ntmps17
    go_wp2
    go_ret
    exact ⟨ret_int HP.out, rfl⟩
  · have HP : Hid (c % n = pickOf c n) := by
      show _ = _
      unfold pickOf
      rw [if_neg h]
    go_enter Tryz.func17, Tryz.ntmps17
    go_wp2
    go_ret
    exact ⟨ret_int HP.out, rfl⟩

theorem kc_odd (x : Nat) (hx : x < 4294967296) (h : x % 2 = 1) : bits .xor .i64 ((x : Int) / 2) 3988292384 = ((crcBit x : Nat) : Int) := by
  have := i64_xor_nat (x / 2) 3988292384 (by omega) (by omega)
  unfold crcBit
  rw [if_pos h]
  simpa using this
theorem kc_even (x : Nat) (h : ¬ x % 2 = 1) : (x : Int) / 2 = ((crcBit x : Nat) : Int) := by
  unfold crcBit
  rw [if_neg h]
  omega

set_option maxHeartbeats 1000000 in
theorem kcheck_any (b off cap : Nat) (zs : List Int) (w : World) (hz : Bytes zs) (hr : Row w b off zs) (hn : zs.length ≤ 9223372036854775807) :
    Calls Tryz.prog 69 #[.slice (some ⟨b, off, none⟩) zs.length cap] w fun e w' => e = .returned (.slice (some ⟨w.heap.size, 0, none⟩) 4 4) ∧ w' = w.alloc (.cells (vals (be4 (crcOf zs))).toArray 5) := by
  go_enter Tryz.func69, Tryz.ntmps69
  go_wp2
  go_loop [3, 4] (fun t i => ∃ k : Nat, k ≤ zs.length ∧ i = .int .i64 k ∧ t = .int .i64 (crcFrom 4294967295 (zs.take k) : Nat)) (fun _ i => zs.length - (intOf i).toNat)
  case atStart => exact ⟨0, by omega, rfl, rfl⟩
  case round =>
    obtain ⟨k, hk, rfl, rfl⟩ := hrel
    have hl := crcFrom_lt (zs.take k) 4294967295 (by omega) (hz.take k)
    by_cases hlt : k < zs.length
    · have hc := hr k hlt
      have hb := hz.getD k
      have HS : Hid (crcFrom 4294967295 (zs.take (k + 1)) = crcByte (crcFrom 4294967295 (zs.take k)) (zs.getD k 0).toNat) := by
        show _ = _
        rw [take_snoc zs k hlt, crcFrom_snoc]
      generalize crcFrom 4294967295 (zs.take k) = c at *
      generalize zs.getD k 0 = z at *
      obtain ⟨d, rfl⟩ := Int.eq_ofNat_of_zero_le hb.1
      have hd : d < 256 := by omega
      simp only [Int.toNat_natCast] at HS
      have hx0 := i64_xor_nat c d hl (by omega)
      go_wp2
      go_loop [3, 5] (fun t i => ∃ j : Nat, j ≤ 8 ∧ i = .int .i64 j ∧ t = .int .i64 (crcBits j (c ^^^ d) : Nat)) (fun _ i => 8 - (intOf i).toNat)
      case atStart => exact ⟨0, by omega, rfl, int_eq rfl⟩
      case round =>
        obtain ⟨j, hj, rfl, rfl⟩ := hrel
        have hv := crcBits_lt j (c ^^^ d) (Nat.xor_lt_two_pow (n := 32) (by omega) (by omega))
        have HV : Hid (crcBits (j + 1) (c ^^^ d) = crcBit (crcBits j (c ^^^ d))) := rfl
        have H8 : Hid (crcBits 8 (c ^^^ d) = crcByte c d) := rfl
        by_cases hj8 : j < 8
        · generalize crcBits j (c ^^^ d) = x at hv HV ⊢
          go_wp2
          · have hp : (x : Int) % 2 = 1 := beq_iff_eq.1 ‹_›
            go_round
            case rel => exact ⟨j + 1, by omega, by go_num, int_eq (by rw [HV.out]; exact kc_odd x hv (by omega))⟩
            case measure => simp [intOf]; omega
          · have hp : ¬ (x : Int) % 2 = 1 := beq_eq_false_iff_ne.1 ‹_›
            go_round
            case rel => exact ⟨j + 1, by omega, by go_num, int_eq (by rw [HV.out]; exact kc_even x (by omega))⟩
            case measure => simp [intOf]; omega
        · obtain rfl : j = 8 := by omega
          have HX := hide (H8.out)
          go_wp2
          go_round
          case rel => exact ⟨k + 1, by omega, by go_num, int_eq (by rw [HS.out, ← HX.out])⟩
          case measure => simp [intOf]; omega
    · have HE : Hid (crcOf zs = 4294967295 - crcFrom 4294967295 (zs.take k)) := by
        show _ = _
        rw [List.take_of_length_le (by omega)]
        rfl
      have HB := hide (vals_be4 (crcOf zs) (crcOf_lt zs))
      have hlz := crcOf_lt zs
      generalize crcFrom 4294967295 (zs.take k) = c at *
      have hvi : (4294967295 : Int) - (c : Nat) = (crcOf zs : Nat) := by have := HE.out; omega
      obtain ⟨v, hv⟩ : ∃ v, v = crcOf zs := ⟨_, rfl⟩
      have HV := hide hv
      rw [← hv] at HB hlz hvi
      clear HE hv
      go_wp2
      go_ret
      refine ⟨rfl, ?_⟩
      rw [← HV.out, HB.out]
end Go.Proofs.YtnjlbgolnbdkaaaGreat
