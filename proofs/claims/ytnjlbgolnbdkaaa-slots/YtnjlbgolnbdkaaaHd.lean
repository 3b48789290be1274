/- The hands: lists that came out, with their marks: notions, and how they stand behind an append. -/
import Derived.Test.YtnjlbgolnbdkaaaHc
namespace Go.Proofs.Ytnjlbgolnbdkaaa
open Go.RowKit

structure Kept where
  v : Value
  mark : Int

/- A family of lists: vB holds the lists, vM the marks; L tells whose a block is. -/
structure Fam (eB eM : TypeId) (mv : Int → Value) (C : World → Kept → Prop) (a : Nat) (L : Nat → Nat) (base : Nat) (vB vM : Value) (A M : List Kept) (w : World) : Prop where
  own : w.ownsRow base eB 1 vB A.length (A.map Kept.v)
  lab : ∀ b, vB.ownBlock = some b → L b = a + 1
  ownM : w.ownsRow base eM 1 vM M.length (M.map fun k => mv k.mark)
  labM : ∀ b, vM.ownBlock = some b → L b = a + 2
  kept : ∀ k ∈ A, (∀ b, k.v.ownBlock = some b → L b = a + 3 ∧ base ≤ b ∧ b < w.heap.size) ∧ C w k

def Local (C : World → Kept → Prop) : Prop := ∀ (w w' : World) (k : Kept), (∀ b, k.v.ownBlock = some b → w'.heap[b]? = w.heap[b]?) → C w k → C w' k

theorem own_same {w w' : World} {base : Nat} {e : TypeId} {v : Value} {n : Nat} {xs : List Value} (h : w.ownsRow base e 1 v n xs) (hs : ∀ b, v.ownBlock = some b → w'.heap[b]? = w.heap[b]?) : w'.ownsRow base e 1 v n xs := by
  obtain ⟨h1, h2⟩ := h
  rcases h2 with h2 | ⟨g, cap, cur, hv, hb, hh, r⟩
  · exact ⟨h1, .inl h2⟩
  · exact ⟨h1, .inr ⟨g, cap, cur, hv, hb, by rw [hs g (by rw [hv]; rfl)]; exact hh, r⟩⟩

variable {eB eM : TypeId} {mv : Int → Value} {C : World → Kept → Prop} {a : Nat} {L L' : Nat → Nat} {base : Nat} {vB vM : Value} {A M : List Kept} {w w' : World}

/- what is not of the family may turn -/
theorem Fam.touch {S : Nat → Prop} (h : Fam eB eM mv C a L base vB vM A M w) (hC : Local C) (t : Touch S w w') (hS : ∀ k, k < w.heap.size → S k → L k ≤ a ∨ a + 3 < L k) : Fam eB eM mv C a L base vB vM A M w' := by
  have same : ∀ b, b < w.heap.size → (L b = a + 1 ∨ L b = a + 2 ∨ L b = a + 3) → w'.heap[b]? = w.heap[b]? := fun b hb hl => t.block b hb (fun hs => by have := hS b hb hs; omega)
  refine ⟨own_same h.own fun b e => same b (h.own.lt b e).2 (.inl (h.lab b e)), h.lab, own_same h.ownM fun b e => same b (h.ownM.lt b e).2 (.inr (.inl (h.labM b e))), h.labM, ?_⟩
  intro k hk
  obtain ⟨h1, h2⟩ := h.kept k hk
  refine ⟨fun b e => ⟨(h1 b e).1, (h1 b e).2.1, Nat.lt_of_lt_of_le (h1 b e).2.2 t.size⟩, hC w w' k (fun b e => same b (h1 b e).2.2 (.inr (.inr (h1 b e).1))) h2⟩

/- .. and a list of the family's kind that is not held -/
theorem Fam.touch' {S : Nat → Prop} (h : Fam eB eM mv C a L base vB vM A M w) (hC : Local C) (t : Touch S w w') (hS : ∀ k, k < w.heap.size → S k → (L k ≠ a + 1 ∧ L k ≠ a + 2) ∧ ∀ e ∈ A, e.v.ownBlock ≠ some k) : Fam eB eM mv C a L base vB vM A M w' := by
  refine ⟨own_same h.own fun b e => t.block b (h.own.lt b e).2 (fun hs => (hS b (h.own.lt b e).2 hs).1.1 (h.lab b e)), h.lab, own_same h.ownM fun b e => t.block b (h.ownM.lt b e).2 (fun hs => (hS b (h.ownM.lt b e).2 hs).1.2 (h.labM b e)), h.labM, ?_⟩
  intro k hk
  obtain ⟨h1, h2⟩ := h.kept k hk
  exact ⟨fun b e => ⟨(h1 b e).1, (h1 b e).2.1, Nat.lt_of_lt_of_le (h1 b e).2.2 t.size⟩, hC w w' k (fun b e => t.block b (h1 b e).2.2 (fun hs => (hS b (h1 b e).2.2 hs).2 k hk e)) h2⟩

/- blocks that are not there yet may be told anew whose they are -/
theorem Fam.relabel (h : Fam eB eM mv C a L base vB vM A M w) (hL : ∀ k, k < w.heap.size → L' k = L k) : Fam eB eM mv C a L' base vB vM A M w :=
  ⟨h.own, fun b e => by rw [hL b (h.own.lt b e).2]; exact h.lab b e, h.ownM, fun b e => by rw [hL b (h.ownM.lt b e).2]; exact h.labM b e,
    fun k hk => ⟨fun b e => by rw [hL b ((h.kept k hk).1 b e).2.2]; exact (h.kept k hk).1 b e, (h.kept k hk).2⟩⟩

/- one list more is held: behind 'append' (o: the block of the one element; g: where it lies now) -/
theorem Fam.more {w1 : World} {o : Obj} {g cap : Nat} {k0 : Kept} (h : Fam eB eM mv C a L base vB vM A M w) (hC : Local C)
    (hk0 : (∀ b, k0.v.ownBlock = some b → L b = a + 3 ∧ base ≤ b ∧ b < w.heap.size) ∧ C w k0)
    (hown : w1.ownsRow base eB 1 (.slice (some ⟨g, 0, none⟩) (A.length + 1) cap) (A.length + 1) (A.map Kept.v ++ [k0.v])) (hg : (w.alloc o).grownBy w1 vB.ownBlock) (hat : vB.ownBlock = some g ∨ g = w.heap.size + 1) :
    ∃ L', (∀ k, k < w.heap.size → L' k = L k) ∧ Fam eB eM mv C a L' base (.slice (some ⟨g, 0, none⟩) (A.length + 1) cap) vM (A ++ [k0]) M w1 ∧ Touch (fun k => L k = a + 1) w w1 := by
  have t : Touch (fun k => L k = a + 1) w w1 := Touch.ofGrown (grown_alloc hg) (fun k e => .inl (h.lab k e))
  have hs : w.heap.size < w1.heap.size := by have := hg.size; simp at this; omega
  refine ⟨fun k => if k < w.heap.size then L k else a + 1, fun k hk => by simp [hk], ?_, t⟩
  have same : ∀ b, b < w.heap.size → (L b = a + 2 ∨ L b = a + 3) → w1.heap[b]? = w.heap[b]? := fun b hb hl => t.block b hb (fun hs => by omega)
  refine ⟨by simpa using hown, ?_, own_same h.ownM fun b e => same b (h.ownM.lt b e).2 (.inl (h.labM b e)), fun b e => by simp only [(h.ownM.lt b e).2, if_true]; exact h.labM b e, ?_⟩
  · intro b e
    simp [Value.ownBlock] at e
    subst e
    rcases hat with hat | hat
    · simp only [(h.own.lt g hat).2, if_true]; exact h.lab g hat
    · rw [if_neg (by omega)]
  · intro k hk
    have hkk : (∀ b, k.v.ownBlock = some b → L b = a + 3 ∧ base ≤ b ∧ b < w.heap.size) ∧ C w k := by
      rcases List.mem_append.1 hk with hk | hk
      · exact h.kept k hk
      · simp at hk; subst hk; exact hk0
    refine ⟨fun b e => ?_, hC w w1 k (fun b e => same b (hkk.1 b e).2.2 (.inr (hkk.1 b e).1)) hkk.2⟩
    have := hkk.1 b e
    exact ⟨by simp only [this.2.2, if_true]; exact this.1, this.2.1, by omega⟩

/- one mark more -/
theorem Fam.moreM {w1 : World} {o : Obj} {g cap : Nat} {k0 : Kept} (h : Fam eB eM mv C a L base vB vM A M w) (hC : Local C)
    (hown : w1.ownsRow base eM 1 (.slice (some ⟨g, 0, none⟩) (M.length + 1) cap) (M.length + 1) ((M.map fun k => mv k.mark) ++ [mv k0.mark])) (hg : (w.alloc o).grownBy w1 vM.ownBlock) (hat : vM.ownBlock = some g ∨ g = w.heap.size + 1) :
    ∃ L', (∀ k, k < w.heap.size → L' k = L k) ∧ Fam eB eM mv C a L' base vB (.slice (some ⟨g, 0, none⟩) (M.length + 1) cap) A (M ++ [k0]) w1 ∧ Touch (fun k => L k = a + 2) w w1 := by
  have t : Touch (fun k => L k = a + 2) w w1 := Touch.ofGrown (grown_alloc hg) (fun k e => .inl (h.labM k e))
  have hs : w.heap.size < w1.heap.size := by have := hg.size; simp at this; omega
  refine ⟨fun k => if k < w.heap.size then L k else a + 2, fun k hk => by simp [hk], ?_, t⟩
  have same : ∀ b, b < w.heap.size → (L b = a + 1 ∨ L b = a + 3) → w1.heap[b]? = w.heap[b]? := fun b hb hl => t.block b hb (fun hs => by omega)
  refine ⟨own_same h.own fun b e => same b (h.own.lt b e).2 (.inl (h.lab b e)), fun b e => by simp only [(h.own.lt b e).2, if_true]; exact h.lab b e, by simpa using hown, ?_, ?_⟩
  · intro b e
    simp [Value.ownBlock] at e
    subst e
    rcases hat with hat | hat
    · simp only [(h.ownM.lt g hat).2, if_true]; exact h.labM g hat
    · rw [if_neg (by omega)]
  · intro k hk
    obtain ⟨h1, h2⟩ := h.kept k hk
    refine ⟨fun b e => ?_, hC w w1 k (fun b e => same b (h1 b e).2.2 (.inr (h1 b e).1)) h2⟩
    have := h1 b e
    exact ⟨by simp only [this.2.2, if_true]; exact this.1, this.2.1, by omega⟩
end Go.Proofs.Ytnjlbgolnbdkaaa
