/- Texts of the proof of Boots, one behind the other. -/
import Derived.Test.YtnjlbgolnbdkaaaGreatJ18
import Derived.BigQuiet
/- The journal: the program's log is the document's. Plain. -/
namespace Go.Proofs.YtnjlbgolnbdkaaaGreat
open Go.RowKit

theorem pfTo_succ (bs : List Int) (s k : Nat) (hk : k < 8) : pfTo bs s (upto 8 (k + 1)) = pfTo bs s (upto 8 k) ++ if headB bs s && isFault bs s k then [recOf bs s k] else [] := by
  rw [upto_succ 8 k hk]
  unfold pfTo
  rw [List.flatMap_append]
  simp
theorem fault_not_head (bs : List Int) (s : Nat) (h : headB bs s = true) : isFault bs s 0 = false := by
  unfold headB at h
  unfold isFault
  simp at h
  simp [h.1, h.2]
theorem pfTo_headed (bs : List Int) (s : Nat) (h : headB bs s = true) : ∀ k, k ≤ 7 → pfTo bs s (upto 8 (k + 1)) = faultsTo bs s k
  | 0, _ => by rw [pfTo_succ bs s 0 (by omega), h, fault_not_head bs s h]; rfl
  | k + 1, hk => by rw [pfTo_succ bs s (k + 1) (by omega), pfTo_headed bs s h k (by omega), h]; simp only [Bool.true_and]; rfl
theorem pfTo_not (bs : List Int) (s : Nat) (h : headB bs s = false) (l : List (Fin 8)) : pfTo bs s l = [] := by
  unfold pfTo
  simp [h]
theorem pfOf_headed (bs : List Int) (s : Nat) (h : headB bs s = true) : pfOf bs s = faultsOf bs (s : Int) := by
  unfold pfOf
  rw [pfTo_headed bs s h 7 (by omega)]
  unfold faultsOf
  rw [if_neg (by omega)]
  rfl
theorem pfOf_not (bs : List Int) (s : Nat) (h : headB bs s = false) : pfOf bs s = [] := pfTo_not bs s h _
theorem genOf_headed (bs : List Int) (s : Nat) (h : headB bs s = true) : genOf bs s = genB bs s := by
  unfold genOf hdrOf genB
  rw [if_pos h]
theorem genOf_rng (bs : List Int) (hb : Bytes bs) (s : Nat) : 0 ≤ genOf bs s ∧ genOf bs s < 4294967296 := by
  unfold genOf hdrOf
  split
  · exact rec_num bs s 0 3 hb
  · omega

/- the active sector, the other one: as the program takes them -/
def actOf (bs : List Int) : Nat × Nat := if headB bs 0 && (!headB bs 1 || decide (genOf bs 1 ≤ genOf bs 0)) then (0, 1) else (1, 0)
theorem faultsOf_none (bs : List Int) : faultsOf bs (-1) = [] := rfl

theorem plog_same (bs : List Int) (hb : Bytes bs) : plogOf bs (actOf bs).1 (actOf bs).2 = logOf bs := by
  have r0 := genOf_rng bs hb 0
  have r1 := genOf_rng bs hb 1
  unfold logOf sectorsOf
  rcases hX : headB bs 0 with _ | _ <;> rcases hY : headB bs 1 with _ | _
  · have ha : actOf bs = (1, 0) := by unfold actOf; rw [hX]; rfl
    rw [ha]
    show plogOf bs 1 0 = _
    unfold plogOf
    rw [hY]
    exact pfOf_not bs 1 hY
  · have ha : actOf bs = (1, 0) := by unfold actOf; rw [hX]; rfl
    rw [ha]
    show plogOf bs 1 0 = _
    unfold plogOf
    rw [hX, hY]
    exact pfOf_headed bs 1 hY
  · have ha : actOf bs = (0, 1) := by unfold actOf; rw [hX, hY]; rfl
    rw [ha]
    show plogOf bs 0 1 = _
    unfold plogOf
    rw [hX, hY]
    exact pfOf_headed bs 0 hX
  · have g0 := genOf_headed bs 0 hX
    have g1 := genOf_headed bs 1 hY
    by_cases hle : genOf bs 1 ≤ genOf bs 0
    · have ha : actOf bs = (0, 1) := by unfold actOf; rw [hX, hY, decide_eq_true hle]; rfl
      rw [ha]
      show plogOf bs 0 1 = _
      unfold plogOf
      rw [hX, hY, show IntKind.i64.wrap (genOf bs 0 - 1) = genOf bs 0 - 1 from by rw [IntKind.wrap_i64]; omega]
      by_cases he : genB bs 0 = genB bs 1 + 1
      · rw [sect_a _ _ he, if_pos (by simp; omega), pfOf_headed bs 0 hX, pfOf_headed bs 1 hY]
        rfl
      · rw [sect_c _ _ he (by omega) (by omega), if_neg (by simp; omega), pfOf_headed bs 0 hX]
        rfl
    · have ha : actOf bs = (1, 0) := by unfold actOf; rw [hX, hY, decide_eq_false hle]; rfl
      rw [ha]
      show plogOf bs 1 0 = _
      unfold plogOf
      rw [hX, hY, show IntKind.i64.wrap (genOf bs 1 - 1) = genOf bs 1 - 1 from by rw [IntKind.wrap_i64]; omega]
      by_cases he : genB bs 1 = genB bs 0 + 1
      · rw [sect_b _ _ (by omega) he, if_pos (by simp; omega), pfOf_headed bs 0 hX, pfOf_headed bs 1 hY]
        rfl
      · rw [sect_d _ _ (by omega) he (by omega), if_neg (by simp; omega), pfOf_headed bs 1 hY]
        rfl
end Go.Proofs.YtnjlbgolnbdkaaaGreat
/- Regions whose order is drawn, walked once over a class of worlds. -/
namespace Go.Proofs.YtnjlbgolnbdkaaaGreat
open Go.RowKit

theorem region_class {P : Program} {id : Nat} {Q : Exit → Act → World → Prop} {a : Act} {w : World} {l : List Oper} {ι : Type} (f : ι → World) (hm : P.follows .mixedOrders = true) (hB : Region.lexB .any l.toArray = true) (h0 : ∃ i, w.drew = f i)
    (h : wpQuiet P l.toArray (fun w' => ∃ i, w' = f i) (fun a' => ∀ w', (∃ i, w' = f i) → Q .normal a' w') l a) : (Code.region id l.toArray true).wp P Q a w :=
  wp_region_quiet (C := fun w' => ∃ i, w' = f i) hm hB h0 (by simpa using h)
theorem heap_at {w : World} {o : Obj} {n : Nat} (h : n = w.heap.size) : (w.alloc o).heap[n]? = some o := by subst h; exact heap_alloc_new w o
theorem belowClass (w : World) : ∃ (ι : Type) (_ : Nonempty ι) (f : ι → World), (∀ i, Below w.heap.size w (f i)) ∧ (∀ W, Below w.heap.size w W → ∃ i, W = f i) :=
  ⟨{W // Below w.heap.size w W}, ⟨⟨w, Below.refl _ _⟩⟩, Subtype.val, fun i => i.2, fun W h => ⟨⟨W, h⟩, rfl⟩⟩
theorem Calls.inClass {P : Program} {F : FuncId} {args : Array Value} {w : World} {ι : Type} {f : ι → World} {v : Value} (hf : ∀ i, Below w.heap.size w (f i)) (hg : ∀ W, Below w.heap.size w W → ∃ i, W = f i) (i : ι)
    (h : Calls P F args (f i) fun e w' => e = .returned v ∧ Below (f i).heap.size (f i) w') : Calls P F args (f i) fun e w' => e = .returned v ∧ ∃ j, w' = f j :=
  h.mono fun _ _ ⟨he, hb⟩ => ⟨he, hg _ ((hf i).trans (hb.mono (hf i).size))⟩
end Go.Proofs.YtnjlbgolnbdkaaaGreat
