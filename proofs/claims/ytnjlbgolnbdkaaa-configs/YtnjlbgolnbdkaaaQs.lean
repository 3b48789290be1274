/- How a configuration lies in memory, its lists apart from each other. -/
import Derived.Test.YtnjlbgolnbdkaaaPe
namespace Go.Proofs.Ytnjlbgolnbdkaaa
open Go.RowKit

def Aparts (l : List (Pr × Value)) : Prop := l.Pairwise fun a b => ∀ x, a.2.ownBlock = some x → b.2.ownBlock ≠ some x
def ProcsIn (lo hi : Nat) (v : Value) (ps : List Pr) (w : World) : Prop := ∃ l : List (Pr × Value), l.map Prod.fst = ps ∧ w.ownsRow lo 104 2 v l.length (procCells l) ∧ (∀ b, v.ownBlock = some b → b < hi) ∧ (∀ p ∈ l, CodeV lo p.2 p.1.code w ∧ ∀ b, p.2.ownBlock = some b → b < hi) ∧ Aparts l
section
variable {lo hi lo' hi' bs bs' : Nat} {v vP vW vC : Value} {ps : List Pr} {pts : List Pt} {cf : Cf} {w w' : World}
theorem ProcsIn.procs (h : ProcsIn lo hi v ps w) : ProcsV lo v ps w := by
  obtain ⟨l, h1, h2, _, h4, _⟩ := h
  exact ⟨l, h1, h2, fun p hp => (h4 p hp).1⟩
theorem ProcsIn.keep (h : ProcsIn lo hi v ps w) (hs : ∀ b, lo ≤ b → b < hi → b < w.heap.size → OfType w b (fun t => t = 102 ∨ t = 104) → w'.heap[b]? = w.heap[b]?) : ProcsIn lo hi v ps w' := by
  obtain ⟨l, h1, h2, h3, h4, h5⟩ := h
  refine ⟨l, h1, own_keep h2 (fun b e => ?_), h3, fun p hp => ⟨own_keep (h4 p hp).1 (fun b e => ?_), (h4 p hp).2⟩, h5⟩
  · obtain ⟨cur, hc⟩ := own_of h2 e
    exact hs b (World.ownsRow.lt h2 b e).1 (h3 b e) (World.ownsRow.lt h2 b e).2 ⟨cur, 104, .inr rfl, hc⟩
  · obtain ⟨cur, hc⟩ := own_of (h4 p hp).1 e
    exact hs b (World.ownsRow.lt (h4 p hp).1 b e).1 ((h4 p hp).2 b e) (World.ownsRow.lt (h4 p hp).1 b e).2 ⟨cur, 102, .inl rfl, hc⟩
theorem ProcsIn.base (h : ProcsIn lo hi v ps w) (hb : lo' ≤ lo) : ProcsIn lo' hi v ps w := by
  obtain ⟨l, h1, h2, h3, h4, h5⟩ := h
  exact ⟨l, h1, own_low h2 hb, h3, fun p hp => ⟨(h4 p hp).1.base hb, (h4 p hp).2⟩, h5⟩
theorem ProcsIn.top (h : ProcsIn lo hi v ps w) (hb : hi ≤ hi') : ProcsIn lo hi' v ps w := by
  obtain ⟨l, h1, h2, h3, h4, h5⟩ := h
  exact ⟨l, h1, h2, fun b e => Nat.lt_of_lt_of_le (h3 b e) hb, fun p hp => ⟨(h4 p hp).1, fun b e => Nat.lt_of_lt_of_le ((h4 p hp).2 b e) hb⟩, h5⟩
theorem procs_in {l : List (Pr × Value)} (h2 : w.ownsRow lo 104 2 v l.length (procCells l)) (h3 : ∀ p ∈ l, CodeV lo p.2 p.1.code w) (h4 : Aparts l) : ProcsIn lo w.heap.size v (l.map Prod.fst) w :=
  ⟨l, rfl, h2, fun b e => (World.ownsRow.lt h2 b e).2, fun p hp => ⟨h3 p hp, fun b e => (World.ownsRow.lt (h3 p hp) b e).2⟩, h4⟩
theorem aparts_snoc {l : List (Pr × Value)} {p : Pr × Value} (h : Aparts l) (h1 : ∀ q ∈ l, CodeV lo q.2 q.1.code w) (h2 : CodeV w.heap.size p.2 p.1.code w') : Aparts (l ++ [p]) := by
  refine List.pairwise_append.2 ⟨h, List.pairwise_singleton _ _, fun a ha b hb x e1 e2 => ?_⟩
  obtain rfl := List.mem_singleton.1 hb
  have := (World.ownsRow.lt (h1 a ha) x e1).2
  have := (World.ownsRow.lt h2 x e2).1
  omega

def PartsS (bs : Nat) (v : Value) (ps : List Pt) (w : World) : Prop := ∃ (l : List (Pt × Value)) (c : Nat → Nat), l.map Prod.fst = ps ∧ w.ownsRow bs 90 10 v l.length (ptsCells l) ∧ (∀ i, bs ≤ c i) ∧ (∀ i, c i ≤ c (i + 1)) ∧ ∀ i p, l[i]? = some p → ProcsIn (c i) (c (i + 1)) p.2 p.1.procs w
theorem PartsS.parts (h : PartsS bs v pts w) : PartsV bs v pts w := by
  obtain ⟨l, c, h1, h2, h3, _, h5⟩ := h
  refine ⟨l, h1, h2, fun p hp => ?_⟩
  obtain ⟨i, hi⟩ := List.getElem?_of_mem hp
  exact (h5 i p hi).procs.base (h3 i)
theorem PartsS.keep (h : PartsS bs v pts w) (hs : ∀ b, bs ≤ b → b < w.heap.size → OfType w b (fun t => t = 90 ∨ t = 102 ∨ t = 104) → w'.heap[b]? = w.heap[b]?) : PartsS bs v pts w' := by
  obtain ⟨l, c, h1, h2, h3, h4, h5⟩ := h
  exact ⟨l, c, h1, own_type h2 (fun b hb hl ⟨cur, t, ht, hc⟩ => hs b hb hl ⟨cur, t, .inl ht, hc⟩), h3, h4, fun i p hp => (h5 i p hp).keep (fun b hb _ hl ⟨cur, t, ht, hc⟩ => hs b (Nat.le_trans (h3 i) hb) hl ⟨cur, t, .inr ht, hc⟩)⟩
theorem PartsS.base (h : PartsS bs v pts w) (hb : bs' ≤ bs) : PartsS bs' v pts w := by
  obtain ⟨l, c, h1, h2, h3, h4, h5⟩ := h
  exact ⟨l, c, h1, own_low h2 hb, fun i => Nat.le_trans hb (h3 i), h4, h5⟩
structure ConfS (bs : Nat) (vP vW vC : Value) (cf : Cf) (w : World) : Prop where
  parts : PartsS bs vP cf.parts w
  wins : WinsV bs vW cf.wins w
  chans : ChansV bs vC cf.chans w
theorem ConfS.conf (h : ConfS bs vP vW vC cf w) : ConfV bs vP vW vC cf w := ⟨h.parts.parts, h.wins, h.chans⟩
theorem ConfS.keep (h : ConfS bs vP vW vC cf w) (hs : ∀ b, bs ≤ b → b < w.heap.size → w'.heap[b]? = w.heap[b]?) : ConfS bs vP vW vC cf w' :=
  ⟨h.parts.keep (fun b h1 h2 _ => hs b h1 h2), own_type h.wins (fun b h1 h2 _ => hs b h1 h2), own_type h.chans (fun b h1 h2 _ => hs b h1 h2)⟩
theorem ConfS.base (h : ConfS bs vP vW vC cf w) (hb : bs' ≤ bs) : ConfS bs' vP vW vC cf w := ⟨h.parts.base hb, own_low h.wins hb, own_low h.chans hb⟩
theorem ConfS.low (h : ConfS bs vP vW vC cf w) {S : Nat → Prop} (t : Touch S w w') (hS : ∀ b, S b → b < bs) : ConfS bs vP vW vC cf w' := h.keep (fun b h1 h2 => t.block b h2 (fun hs => by have := hS b hs; omega))
theorem confS_nil (bs : Nat) (w : World) : ConfS bs (.slice none 0 0) (.slice none 0 0) (.slice none 0 0) noCf w := ⟨⟨[], fun _ => bs, rfl, World.ownsRow_nil _ _ _ _, fun _ => Nat.le_refl _, fun _ => Nat.le_refl _, fun i p h => by simp at h⟩, World.ownsRow_nil _ _ _ _, World.ownsRow_nil _ _ _ _⟩
end
/- the parts that have been read, while more are read -/
structure PartsAt (base : Nat) (l : List (Pt × Value)) (w : World) : Prop where
  ex : ∃ c : Nat → Nat, (∀ i, base ≤ c i) ∧ (∀ i, c i ≤ c (i + 1)) ∧ c l.length ≤ w.heap.size ∧ ∀ i p, l[i]? = some p → ProcsIn (c i) (c (i + 1)) p.2 p.1.procs w
theorem PartsAt.nil (w : World) : PartsAt w.heap.size [] w := ⟨fun _ => w.heap.size, fun _ => Nat.le_refl _, fun _ => Nat.le_refl _, Nat.le_refl _, fun i p h => by simp at h⟩
theorem PartsAt.touch {base : Nat} {l : List (Pt × Value)} {w w' : World} {S : Nat → Prop} (h : PartsAt base l w) (t : Touch S w w') (hS : ∀ b, S b → b < base ∨ OfType w b (· = 90)) : PartsAt base l w' := by
  obtain ⟨c, h1, h2, h3, h4⟩ := h.ex
  refine ⟨c, h1, h2, Nat.le_trans h3 t.size, fun i p hp => (h4 i p hp).keep (fun b hb _ hl ⟨cur, x, hx, hc⟩ => t.block b hl (fun hs => ?_))⟩
  rcases hS b hs with h' | ⟨c2, t2, ht2, hc2⟩
  · have := h1 i; omega
  · subst ht2
    rw [hc] at hc2
    rcases hx with rfl | rfl <;> simp at hc2
theorem PartsAt.snoc {base : Nat} {l : List (Pt × Value)} {p : Pt × Value} {w w' : World} {S : Nat → Prop} (h : PartsAt base l w) (hb : base ≤ w.heap.size) (t : Touch S w w') (hS : ∀ b, S b → b < base) (hp : ProcsIn w.heap.size w'.heap.size p.2 p.1.procs w') : PartsAt base (l ++ [p]) w' := by
  obtain ⟨c, h1, h2, h3, h4⟩ := (h.touch t (fun b hb => .inl (hS b hb))).ex
  obtain ⟨c0, h10, h20, h30, h40⟩ := h.ex
  refine ⟨fun i => if i ≤ l.length then c0 i else w'.heap.size, fun i => ?_, fun i => ?_, ?_, fun i q hq => ?_⟩
  · show base ≤ if i ≤ l.length then c0 i else w'.heap.size
    split
    · exact h10 i
    · have := t.size; omega
  · show (if i ≤ l.length then c0 i else w'.heap.size) ≤ if i + 1 ≤ l.length then c0 (i + 1) else w'.heap.size
    by_cases e1 : i + 1 ≤ l.length
    · rw [if_pos (by omega), if_pos e1]; exact h20 i
    · rw [if_neg e1]
      split
      · obtain rfl : i = l.length := by omega
        have := t.size; omega
      · exact Nat.le_refl _
  · show (if (l ++ [p]).length ≤ l.length then c0 _ else w'.heap.size) ≤ w'.heap.size
    rw [if_neg (by simp)]; exact Nat.le_refl _
  · show ProcsIn (if i ≤ l.length then c0 i else w'.heap.size) (if i + 1 ≤ l.length then c0 (i + 1) else w'.heap.size) q.2 q.1.procs w'
    by_cases e1 : i < l.length
    · rw [if_pos (by omega), if_pos (by omega)]
      rw [List.getElem?_append_left e1] at hq
      exact (h40 i q hq).keep (fun b hb' _ hl _ => t.block b hl (fun hs => by have := hS b hs; have := h10 i; omega))
    · have hi : i = l.length := by
        have := (List.getElem?_eq_some_iff.1 hq).1
        simp at this; omega
      subst hi
      rw [List.getElem?_append_right (Nat.le_refl _)] at hq
      simp at hq
      subst hq
      rw [if_pos (Nat.le_refl _), if_neg (by omega)]
      exact hp.base h30
end Go.Proofs.Ytnjlbgolnbdkaaa
