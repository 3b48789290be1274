/- The hands: all nine families of kept lists at once. -/
import Derived.Test.YtnjlbgolnbdkaaaPe
namespace Go.Proofs.Ytnjlbgolnbdkaaa
open Go.RowKit

def reps (n : Nat) (x : List Value) : List Value := (List.replicate n ()).flatMap fun _ => x
theorem reps_succ (n : Nat) (x : List Value) : reps (n + 1) x = reps n x ++ x := by
  unfold reps
  rw [List.replicate_succ', List.flatMap_append]
  simp
theorem reps_length (n : Nat) (x : List Value) : (reps n x).length = n * x.length := by
  induction n with
  | zero => simp [reps]
  | succ n ih => rw [reps_succ, List.length_append, ih, Nat.add_mul, Nat.one_mul]
theorem reps_add (a b : Nat) (x : List Value) : reps (a + b) x = reps a x ++ reps b x := by
  unfold reps
  rw [← List.flatMap_append, List.replicate_append_replicate]
theorem reps_take {k n : Nat} (h : k ≤ n) (x : List Value) : (reps n x).take (k * x.length) = reps k x := by
  obtain ⟨d, rfl⟩ := Nat.exists_eq_add_of_le h
  rw [reps_add, ← reps_length k x, List.take_left']
  rfl
theorem reps_at (n : Nat) (x : List Value) (i c : Nat) (hi : i < n) (hc : c < x.length) : (reps n x)[i * x.length + c]? = x[c]? := by
  obtain ⟨d, rfl⟩ := Nat.exists_eq_add_of_le (show i + 1 ≤ n from hi)
  rw [reps_add, reps_succ, List.getElem?_append_left (by rw [List.length_append, reps_length]; omega), List.getElem?_append_right (by rw [reps_length]; omega), reps_length]
  congr 1
  omega

/- the types and the cells of the families: bytes, ints, records, states, partitions, processes, instructions, windows, channels -/
def eB : Nat → TypeId | 0 => 24 | 1 => 32 | 2 => 75 | 3 => 76 | 4 => 44 | 5 => 88 | 6 => 100 | 7 => 45 | _ => 46
def eM : Nat → TypeId | 0 => 5 | _ => 3
def mvK : Nat → Int → Value | 0 => Value.int .u8 | _ => Value.int .i64
def ety : Nat → TypeId | 0 => 5 | 1 => 3 | 2 => 23 | 3 => 78 | 4 => 90 | 5 => 104 | 6 => 102 | 7 => 93 | _ => 95
def esz : Nat → Nat | 0 => 1 | 1 => 1 | 2 => 5 | 3 => 3 | 4 => 10 | 5 => 2 | 6 => 2 | 7 => 3 | _ => 3
def elm (f : Nat) (m : Int) : List Value :=
  match f with
  | 0 => [.int .u8 m]
  | 1 => [.int .i64 m]
  | 2 => [.int .i64 m, .int .i64 0, .int .i64 0, .int .i64 0, .int .i64 0]
  | 3 => [.int .i64 0, .int .i64 m, .bool false]
  | 4 => [.bool false, .int .i64 m, .int .i64 0, .int .i64 0, .int .i64 0, .int .i64 0, .int .i64 0, .int .i64 0, .int .i64 0, .slice none 0 0]
  | 5 => [.int .i64 m, .slice none 0 0]
  | 6 => [.int .i64 m, .int .i64 0]
  | 7 => [.int .i64 m, .int .i64 0, .int .i64 0]
  | _ => [.int .i64 m, .int .i64 0, .int .i64 0]
theorem elm_length (f : Nat) (m : Int) : (elm f m).length = esz f := by
  rcases f with _ | _ | _ | _ | _ | _ | _ | _ | f <;> rfl
theorem esz_pos (f : Nat) : 0 < esz f := by
  rcases f with _ | _ | _ | _ | _ | _ | _ | _ | f <;> simp [esz]
theorem elm_one (f : Nat) (m : Int) : ∀ u ∈ elm f m, u.oneCell' = true := by
  have key : (elm f m).all (fun u => u.oneCell') = true := by rcases f with _ | _ | _ | _ | _ | _ | _ | _ | f <;> rfl
  exact fun u hu => List.all_eq_true.1 key u hu

def KC (f : Nat) (w : World) (k : Kept) : Prop := ∃ n, n ≤ 1000000 ∧ w.ownsRow 0 (ety f) (esz f) k.v n (reps n (elm f k.mark))
theorem kc_local (f : Nat) : Local (KC f) := fun _ _ _ hs ⟨n, hn, h⟩ => ⟨n, hn, own_keep h hs⟩

def Fams (L : Nat → Nat) (vs : Nat → Value) (A M : Nat → List Kept) (w : World) : Prop :=
  ∀ f, f < 9 → Fam (eB f) (eM f) (mvK f) (KC f) (3 * f) L 0 (vs (3 + 2 * f)) (vs (4 + 2 * f)) (A f) (M f) w
structure Hnd (L : Nat → Nat) (hb : Nat) (n : Int) (vs : Nat → Value) (A M : Nat → List Kept) (w : World) : Prop where
  blk : w.heap[hb]? = some (.cells (handCells (.slice none 0 0) (.slice none 0 0) n vs) 41 (0, 0))
  lab : L hb = 0
  fam : Fams L vs A M w
def upd1 (vs : Nat → Value) (i : Nat) (v : Value) : Nat → Value := fun j => if j = i then v else vs j
def updL (A : Nat → List Kept) (f : Nat) (l : List Kept) : Nat → List Kept := fun j => if j = f then l else A j
theorem updL_at (A : Nat → List Kept) (f : Nat) (l : List Kept) : updL A f l f = l := by simp [updL]
theorem updL_off (A : Nat → List Kept) {f g : Nat} (l : List Kept) (h : g ≠ f) : updL A f l g = A g := by simp [updL, h]

theorem hand_set (vI vW : Value) (n : Int) (vs : Nat → Value) (i : Nat) (v : Value) (h3 : 3 ≤ i) (h20 : i ≤ 20) : (handCells vI vW n vs).setIfInBounds i v = handCells vI vW n (upd1 vs i v) := by
  rcases (show i = 3 ∨ i = 4 ∨ i = 5 ∨ i = 6 ∨ i = 7 ∨ i = 8 ∨ i = 9 ∨ i = 10 ∨ i = 11 ∨ i = 12 ∨ i = 13 ∨ i = 14 ∨ i = 15 ∨ i = 16 ∨ i = 17 ∨ i = 18 ∨ i = 19 ∨ i = 20 from by omega) with rfl | rfl | rfl | rfl | rfl | rfl | rfl | rfl | rfl | rfl | rfl | rfl | rfl | rfl | rfl | rfl | rfl | rfl <;> rfl
theorem hand_get (vI vW : Value) (n : Int) (vs : Nat → Value) (i : Nat) (h3 : 3 ≤ i) (h20 : i ≤ 20) : (handCells vI vW n vs)[i]? = some (vs i) := by
  rcases (show i = 3 ∨ i = 4 ∨ i = 5 ∨ i = 6 ∨ i = 7 ∨ i = 8 ∨ i = 9 ∨ i = 10 ∨ i = 11 ∨ i = 12 ∨ i = 13 ∨ i = 14 ∨ i = 15 ∨ i = 16 ∨ i = 17 ∨ i = 18 ∨ i = 19 ∨ i = 20 from by omega) with rfl | rfl | rfl | rfl | rfl | rfl | rfl | rfl | rfl | rfl | rfl | rfl | rfl | rfl | rfl | rfl | rfl | rfl <;> rfl

theorem Fam.relabel2 {eB eM : TypeId} {mv : Int → Value} {C : World → Kept → Prop} {a : Nat} {L L' : Nat → Nat} {base : Nat} {vB vM : Value} {A M : List Kept} {w : World} (h : Fam eB eM mv C a L base vB vM A M w) (hL : ∀ k, k < w.heap.size → a + 1 ≤ L k → L k ≤ a + 3 → L' k = L k) : Fam eB eM mv C a L' base vB vM A M w := by
  refine ⟨h.own, fun b e => ?_, h.ownM, fun b e => ?_, fun k hk => ⟨fun b e => ?_, (h.kept k hk).2⟩⟩
  · have := h.lab b e
    rw [hL b (h.own.lt b e).2 (by omega) (by omega)]; exact this
  · have := h.labM b e
    rw [hL b (h.ownM.lt b e).2 (by omega) (by omega)]; exact this
  · have := (h.kept k hk).1 b e
    rw [hL b this.2.2 (by omega) (by omega)]; exact this

section
variable {L L' : Nat → Nat} {hb : Nat} {n : Int} {vs : Nat → Value} {A M : Nat → List Kept} {w w' : World}
theorem Fams.touch {S : Nat → Prop} (h : Fams L vs A M w) (t : Touch S w w') (hS : ∀ k, k < w.heap.size → S k → L k = 0 ∨ 28 ≤ L k) : Fams L vs A M w' :=
  fun f hf => (h f hf).touch (kc_local f) t (fun k hk hs => by have := hS k hk hs; omega)
theorem Fams.relabel (h : Fams L vs A M w) (hL : ∀ k, k < w.heap.size → 1 ≤ L k → L k ≤ 27 → L' k = L k) : Fams L' vs A M w :=
  fun f hf => (h f hf).relabel2 (fun k hk h1 h2 => hL k hk (by omega) (by omega))
theorem Hnd.touch {S : Nat → Prop} (h : Hnd L hb n vs A M w) (t : Touch S w w') (hS : ∀ k, k < w.heap.size → S k → 28 ≤ L k) : Hnd L hb n vs A M w' :=
  ⟨(t.block hb (lt_of_block h.blk) (fun hs => by have := hS hb (lt_of_block h.blk) hs; rw [h.lab] at this; omega)).trans h.blk, h.lab, h.fam.touch t (fun k hk hs => .inr (hS k hk hs))⟩
theorem Hnd.relabel (h : Hnd L hb n vs A M w) (hL : ∀ k, k < w.heap.size → L k ≤ 27 → L' k = L k) : Hnd L' hb n vs A M w :=
  ⟨h.blk, by rw [hL hb (lt_of_block h.blk) (by rw [h.lab]; omega)]; exact h.lab, h.fam.relabel (fun k hk _ h2 => hL k hk h2)⟩
theorem Hnd.cell (h : Hnd L hb n vs A M w) (i : Nat) (h3 : 3 ≤ i) (h20 : i ≤ 20) : w.cell? ⟨hb, i, none⟩ = some (vs i) := by rw [cell_of_row _ _ _ _ _ _ h.blk]; exact hand_get _ _ _ _ i h3 h20
theorem Hnd.free (h : Hnd L hb n vs A M w) (i : Nat) : w.frozen? ⟨hb, i, none⟩ = false := free_of_block h.blk i

/- the list that is being kept -/
structure Cur (f : Nat) (L : Nat → Nat) (A : Nat → List Kept) (w : World) (v : Value) (N : Nat) (m : Int) : Prop where
  own : w.ownsRow 0 (ety f) (esz f) v N (reps N (elm f m))
  lab : ∀ b, v.ownBlock = some b → L b = 3 * f + 3
  mine : ∀ k ∈ A f, ∀ b, v.ownBlock = some b → k.v.ownBlock = some b → k.mark = m ∧ ∃ nn cl, k.v = .slice (some ⟨b, 0, none⟩) nn cl ∧ v = .slice (some ⟨b, 0, none⟩) N cl ∧ nn ≤ N
variable {v : Value} {N f : Nat} {m : Int} {w1 : World} {g cap : Nat} {o : Obj}
theorem Cur.keep {A' : Nat → List Kept} (h : Cur f L A w v N m) (hs : ∀ b, v.ownBlock = some b → w'.heap[b]? = w.heap[b]? ∧ L' b = L b) (hA : A' f = A f) : Cur f L' A' w' v N m :=
  ⟨own_keep h.own (fun b e => (hs b e).1), fun b e => by rw [(hs b e).2]; exact h.lab b e, by rw [hA]; exact h.mine⟩
theorem Cur.lt (h : Cur f L A w v N m) : ∀ b, v.ownBlock = some b → b < w.heap.size := fun b e => (World.ownsRow.lt h.own b e).2

/- what a step of the family f turns -/
structure Step (f : Nat) (L L' : Nat → Nat) (w w' : World) : Prop where
  lab : ∀ k, k < w.heap.size → L' k = L k
  t : Touch (fun k => L k = 0 ∨ (3 * f + 1 ≤ L k ∧ L k ≤ 3 * f + 3)) w w'
theorem Cur.step {f' : Nat} {A' : Nat → List Kept} (h : Cur f L A w v N m) (s : Step f' L L' w w') (hne : f ≠ f') (hA : A' f = A f) : Cur f L' A' w' v N m :=
  h.keep (fun b e => ⟨s.t.block b (h.lt b e) (fun hs => by have := h.lab b e; omega), s.lab b (h.lt b e)⟩) hA
theorem Step.trans {L2 : Nat → Nat} {w2 : World} (s : Step f L L' w w') (s2 : Step f L' L2 w' w2) : Step f L L2 w w2 :=
  ⟨fun k hk => (s2.lab k (Nat.lt_of_lt_of_le hk s.t.size)).trans (s.lab k hk), s.t.trans s2.t (fun i hi => by
    by_cases h : i < w.heap.size
    · left; rw [s.lab i h] at hi; exact hi
    · right; omega)⟩

theorem Hnd.row (hf : f < 9) (h : Hnd L hb n vs A M w) (c : Cur f L A w v N m) (hN : N ≤ 1000000)
    (hown : w1.ownsRow 0 (eB f) 1 (.slice (some ⟨g, 0, none⟩) ((A f).length + 1) cap) ((A f).length + 1) ((A f).map Kept.v ++ [v])) (hg : (w.alloc o).grownBy w1 (vs (3 + 2 * f)).ownBlock) (hat : (vs (3 + 2 * f)).ownBlock = some g ∨ g = w.heap.size + 1) :
    w1.heap[hb]? = some (.cells (handCells (.slice none 0 0) (.slice none 0 0) n vs) 41 (0, 0)) ∧ ∃ L' vs' A', Hnd L' hb n vs' A' M (w1.setCell ⟨hb, 3 + 2 * f, none⟩ (.slice (some ⟨g, 0, none⟩) ((A f).length + 1) cap)) ∧
      Cur f L' A' (w1.setCell ⟨hb, 3 + 2 * f, none⟩ (.slice (some ⟨g, 0, none⟩) ((A f).length + 1) cap)) v N m ∧ A' = updL A f (A f ++ [⟨v, m⟩]) ∧ Step f L L' w (w1.setCell ⟨hb, 3 + 2 * f, none⟩ (.slice (some ⟨g, 0, none⟩) ((A f).length + 1) cap)) := by
  obtain ⟨L', hL', hF', ht⟩ := (h.fam f hf).more (k0 := ⟨v, m⟩) (kc_local f) ⟨fun b e => ⟨c.lab b e, Nat.zero_le _, c.lt b e⟩, N, hN, c.own⟩ hown hg hat
  have hbw := lt_of_block h.blk
  have hB1 : w1.heap[hb]? = some (.cells (handCells (.slice none 0 0) (.slice none 0 0) n vs) 41 (0, 0)) := (ht.block hb hbw (by rw [h.lab]; omega)).trans h.blk
  have ts : Touch (· = hb) w1 (w1.setCell ⟨hb, 3 + 2 * f, none⟩ (.slice (some ⟨g, 0, none⟩) ((A f).length + 1) cap)) := Touch.ofSet w1 hb _ _ rfl
  have hLb : L' hb = 0 := by rw [hL' hb hbw]; exact h.lab
  have hT : Touch (fun k => L k = 0 ∨ (3 * f + 1 ≤ L k ∧ L k ≤ 3 * f + 3)) w (w1.setCell ⟨hb, 3 + 2 * f, none⟩ (.slice (some ⟨g, 0, none⟩) ((A f).length + 1) cap)) := Touch.trans (ht.mono (fun k hk => .inr (by omega))) ts (fun i hi => .inl (.inl (by rw [hi]; exact h.lab)))
  refine ⟨hB1, L', upd1 vs (3 + 2 * f) (.slice (some ⟨g, 0, none⟩) ((A f).length + 1) cap), _, ⟨?_, hLb, ?_⟩, ?_, rfl, hL', hT⟩
  · rw [← hand_set _ _ _ _ _ _ (by omega) (by omega)]; exact block_set hB1 _ _
  · intro f' hf'
    by_cases e : f' = f
    · subst e
      rw [updL_at, show upd1 vs (3 + 2 * f') (.slice (some ⟨g, 0, none⟩) ((A f').length + 1) cap) (3 + 2 * f') = (.slice (some ⟨g, 0, none⟩) ((A f').length + 1) cap) from by simp [upd1], show upd1 vs (3 + 2 * f') (.slice (some ⟨g, 0, none⟩) ((A f').length + 1) cap) (4 + 2 * f') = vs (4 + 2 * f') from by simp [upd1]]
      exact hF'.touch (kc_local f') ts (fun k _ hk => .inl (by rw [hk, hLb]; omega))
    · rw [updL_off _ _ e, show upd1 vs (3 + 2 * f) (.slice (some ⟨g, 0, none⟩) ((A f).length + 1) cap) (3 + 2 * f') = vs (3 + 2 * f') from by simp [upd1]; omega, show upd1 vs (3 + 2 * f) (.slice (some ⟨g, 0, none⟩) ((A f).length + 1) cap) (4 + 2 * f') = vs (4 + 2 * f') from by simp [upd1]; omega]
      refine (((h.fam f' hf').relabel hL').touch (kc_local f') ht (fun k hk hs => ?_)).touch (kc_local f') ts (fun k _ hk => .inl (by rw [hk, hLb]; omega))
      rw [hL' k hk]; omega
  · refine ⟨own_keep c.own (fun b e => ?_), fun b e => by rw [hL' b (c.lt b e)]; exact c.lab b e, ?_⟩
    · have := c.lab b e
      exact (ts.block b (Nat.lt_of_lt_of_le (c.lt b e) ht.size) (fun hh => by rw [hh, h.lab] at this; omega)).trans (ht.block b (c.lt b e) (by omega))
    · rw [updL_at]
      intro k hk b e1 e2
      rcases List.mem_append.1 hk with hk | hk
      · exact c.mine k hk b e1 e2
      · obtain rfl := List.mem_singleton.1 hk
        refine ⟨rfl, ?_⟩
        rcases c.own.2 with ⟨h1, _⟩ | ⟨g', cap', cur, hv, _⟩
        · rw [h1] at e1; simp [Value.ownBlock] at e1
        · rw [hv] at e1; simp [Value.ownBlock] at e1; subst e1; exact ⟨N, cap', hv, hv, Nat.le_refl _⟩

theorem Hnd.mark (hf : f < 9) (h : Hnd L hb n vs A M w) (c : Cur f L A w v N m)
    (hown : w1.ownsRow 0 (eM f) 1 (.slice (some ⟨g, 0, none⟩) ((M f).length + 1) cap) ((M f).length + 1) (((M f).map fun k => mvK f k.mark) ++ [mvK f m])) (hg : (w.alloc o).grownBy w1 (vs (4 + 2 * f)).ownBlock) (hat : (vs (4 + 2 * f)).ownBlock = some g ∨ g = w.heap.size + 1) :
    w1.heap[hb]? = some (.cells (handCells (.slice none 0 0) (.slice none 0 0) n vs) 41 (0, 0)) ∧ ∃ L' vs' M', Hnd L' hb n vs' A M' (w1.setCell ⟨hb, 4 + 2 * f, none⟩ (.slice (some ⟨g, 0, none⟩) ((M f).length + 1) cap)) ∧
      Cur f L' A (w1.setCell ⟨hb, 4 + 2 * f, none⟩ (.slice (some ⟨g, 0, none⟩) ((M f).length + 1) cap)) v N m ∧ M' = updL M f (M f ++ [⟨v, m⟩]) ∧ Step f L L' w (w1.setCell ⟨hb, 4 + 2 * f, none⟩ (.slice (some ⟨g, 0, none⟩) ((M f).length + 1) cap)) := by
  obtain ⟨L', hL', hF', ht⟩ := (h.fam f hf).moreM (k0 := ⟨v, m⟩) (kc_local f) hown hg hat
  have hbw := lt_of_block h.blk
  have hB1 : w1.heap[hb]? = some (.cells (handCells (.slice none 0 0) (.slice none 0 0) n vs) 41 (0, 0)) := (ht.block hb hbw (by rw [h.lab]; omega)).trans h.blk
  have ts : Touch (· = hb) w1 (w1.setCell ⟨hb, 4 + 2 * f, none⟩ (.slice (some ⟨g, 0, none⟩) ((M f).length + 1) cap)) := Touch.ofSet w1 hb _ _ rfl
  have hLb : L' hb = 0 := by rw [hL' hb hbw]; exact h.lab
  have hT : Touch (fun k => L k = 0 ∨ (3 * f + 1 ≤ L k ∧ L k ≤ 3 * f + 3)) w (w1.setCell ⟨hb, 4 + 2 * f, none⟩ (.slice (some ⟨g, 0, none⟩) ((M f).length + 1) cap)) := Touch.trans (ht.mono (fun k hk => .inr (by omega))) ts (fun i hi => .inl (.inl (by rw [hi]; exact h.lab)))
  refine ⟨hB1, L', upd1 vs (4 + 2 * f) (.slice (some ⟨g, 0, none⟩) ((M f).length + 1) cap), _, ⟨?_, hLb, ?_⟩, ?_, rfl, hL', hT⟩
  · rw [← hand_set _ _ _ _ _ _ (by omega) (by omega)]; exact block_set hB1 _ _
  · intro f' hf'
    by_cases e : f' = f
    · subst e
      rw [updL_at, show upd1 vs (4 + 2 * f') (.slice (some ⟨g, 0, none⟩) ((M f').length + 1) cap) (3 + 2 * f') = vs (3 + 2 * f') from by simp [upd1], show upd1 vs (4 + 2 * f') (.slice (some ⟨g, 0, none⟩) ((M f').length + 1) cap) (4 + 2 * f') = (.slice (some ⟨g, 0, none⟩) ((M f').length + 1) cap) from by simp [upd1]]
      exact hF'.touch (kc_local f') ts (fun k _ hk => .inl (by rw [hk, hLb]; omega))
    · rw [updL_off _ _ e, show upd1 vs (4 + 2 * f) (.slice (some ⟨g, 0, none⟩) ((M f).length + 1) cap) (3 + 2 * f') = vs (3 + 2 * f') from by simp [upd1]; omega, show upd1 vs (4 + 2 * f) (.slice (some ⟨g, 0, none⟩) ((M f).length + 1) cap) (4 + 2 * f') = vs (4 + 2 * f') from by simp [upd1]; omega]
      refine (((h.fam f' hf').relabel hL').touch (kc_local f') ht (fun k hk hs => ?_)).touch (kc_local f') ts (fun k _ hk => .inl (by rw [hk, hLb]; omega))
      rw [hL' k hk]; omega
  · refine c.keep (fun b e => ⟨?_, hL' b (c.lt b e)⟩) rfl
    have := c.lab b e
    exact (ts.block b (Nat.lt_of_lt_of_le (c.lt b e) ht.size) (fun hh => by rw [hh, h.lab] at this; omega)).trans (ht.block b (c.lt b e) (by omega))

/- a longer row holds the shorter one -/
theorem own_shorter {base : Nat} {e : TypeId} {s : Nat} {xs : List Value} (h : w.ownsRow base e s (.slice (some ⟨g, 0, none⟩) N cap) N xs) (k : Nat) (hk : k ≤ N) : w.ownsRow base e s (.slice (some ⟨g, 0, none⟩) k cap) k (xs.take (k * s)) := by
  obtain ⟨h1, h2⟩ := h
  have hks : k * s ≤ N * s := Nat.mul_le_mul_right s hk
  rcases h2 with ⟨h2, _⟩ | ⟨g', cap', cur, hv, hb, hh, hc, hm, hs, ht⟩
  · cases h2
  · simp at hv
    obtain ⟨rfl, rfl⟩ := hv
    refine ⟨by rw [List.length_take, h1]; omega, .inr ⟨g, cap, cur, rfl, hb, hh, by omega, hm, hs, ?_⟩⟩
    rw [← ht, List.take_take, Nat.min_eq_left hks]

/- where a list lies that an append made longer -/
def Grew (w w' : World) (v : Value) (n g cap : Nat) : Prop := (v = .slice (some ⟨g, 0, none⟩) n cap ∧ w.grownBy w' (some g)) ∨ (w.heap.size ≤ g ∧ w.grownBy w' none)
/- the list is one element longer: where it lies, or in new memory -/
theorem Hnd.list (hf : f < 9) (h : Hnd L hb n vs A M w) (c : Cur f L A w v N m) {w0 : World} (hw0 : Touch (fun _ => False) w w0)
    (hown : w1.ownsRow 0 (ety f) (esz f) (.slice (some ⟨g, 0, none⟩) (N + 1) cap) (N + 1) (reps N (elm f m) ++ elm f m))
    (hg : Grew w0 w1 v N g cap) :
    ∃ L', Hnd L' hb n vs A M w1 ∧ Cur f L' A w1 (.slice (some ⟨g, 0, none⟩) (N + 1) cap) (N + 1) m ∧ Step f L L' w w1 := by
  rw [← reps_succ] at hown
  have hs0 := hw0.size
  rcases hg with ⟨rfl, hg⟩ | ⟨hge, hg⟩
  · have hlab := c.lab g rfl
    have hlt := c.lt g rfl
    have t : Touch (· = g) w w1 := Touch.trans (hw0.mono (fun _ h => h.elim)) (Touch.ofGrown hg (fun k e => .inl (by simpa using e.symm))) (fun i hi => .inl hi)
    refine ⟨L, ⟨(t.block hb (lt_of_block h.blk) (fun e => by rw [← e, h.lab] at hlab; omega)).trans h.blk, h.lab, ?_⟩, ⟨hown, fun b e => by simp [Value.ownBlock] at e; subst e; exact hlab, ?_⟩, fun _ _ => rfl, t.mono (fun k hk => .inr (by rw [hk, hlab]; omega))⟩
    · intro f' hf'
      by_cases e : f' = f
      · subst e
        have hF := h.fam f' hf'
        have far : ∀ b, b < w.heap.size → b ≠ g → w1.heap[b]? = w.heap[b]? := fun b hb hne => t.block b hb hne
        refine ⟨own_keep hF.own fun b e => far b (hF.own.lt b e).2 (fun hb => by have := hF.lab b e; rw [hb, hlab] at this; omega), hF.lab, own_keep hF.ownM fun b e => far b (hF.ownM.lt b e).2 (fun hb => by have := hF.labM b e; rw [hb, hlab] at this; omega), hF.labM, ?_⟩
        intro k hk
        obtain ⟨h1, h2⟩ := hF.kept k hk
        refine ⟨fun b e => ⟨(h1 b e).1, (h1 b e).2.1, Nat.lt_of_lt_of_le (h1 b e).2.2 t.size⟩, ?_⟩
        by_cases hgl : k.v.ownBlock = some g
        · obtain ⟨hmk, nn, cl, hv, hv2, hnn⟩ := c.mine k hk g rfl hgl
          simp at hv2
          subst hv2
          obtain ⟨n0, hn0, hr⟩ := h2
          have hlen : n0 = nn := by
            rcases hr.2 with ⟨e1, _⟩ | ⟨g', cap', cur, e1, _⟩
            · rw [hv] at e1; cases e1
            · rw [hv] at e1; simp at e1; exact e1.2.1.symm
          subst hlen
          refine ⟨n0, hn0, ?_⟩
          have := own_shorter hown n0 (by omega)
          rw [hv, hmk]
          rwa [← elm_length f' m, reps_take (by omega), elm_length] at this
        · exact kc_local f' w w1 k (fun b e => far b (h1 b e).2.2 (fun hb => hgl (by rw [e, hb]))) h2
      · exact (h.fam f' hf').touch (kc_local f') t (fun k _ hk => by rw [hk, hlab]; omega)
    · intro k hk b e1 e2
      simp [Value.ownBlock] at e1
      subst e1
      obtain ⟨h1, nn, cl, h2, h3, h4⟩ := c.mine k hk g rfl e2
      simp at h3
      subst h3
      exact ⟨h1, nn, cap, h2, rfl, by omega⟩
  · have t : Touch (fun _ => False) w w1 := Touch.trans hw0 (Touch.ofGrown hg (by simp)) (fun i hi => .inl hi)
    refine ⟨fun k => if k < w.heap.size then L k else 3 * f + 3, (h.relabel (L' := fun k => if k < w.heap.size then L k else 3 * f + 3) (fun k hk _ => if_pos hk)).touch t (fun _ _ h => h.elim), ⟨hown, fun b e => ?_, ?_⟩, fun k hk => if_pos hk, t.mono (fun _ h => h.elim)⟩
    · simp [Value.ownBlock] at e
      subst e
      exact if_neg (by omega)
    · intro k hk b e1 e2
      simp [Value.ownBlock] at e1
      subst e1
      have := ((h.fam f hf).kept k hk).1 g e2
      omega
end

theorem wpList_append_list {P : Program} {w : World} {ops : Array Oper} {rest : List Oper} {o : Oper} {a : Act} {Q : Exit → Act → World → Prop} (hgd : o.guard = none) (s x : Operand) (t : TypeId)
    (ho : o.op = Op.call { callee := Callee.builtin Builtin.append, args := #[s, x], argTypes := #[t, t] })
    (e : TypeId) (i : TypeInfo) (z : Value) (size bytes : Nat) (ht : P.underlying t = some (.slice e)) (hi : P.info? e = some i) (hz : i.zero = some z)
    (hsize : i.size = size) (hby : i.bytes = bytes) (hzs : z.cells.size = size) (hsz : 0 < size)
    (v : Value) (n : Nat) (xs : List Value) (hs : a.eval s = v) (hown : w.ownsRow 0 e size v n xs)
    (ad : Addr) (m c : Nat) (news : List Value) (hx : a.eval x = .slice (some ad) m c) (hl : news.length = m * size) (hnews : ∀ j u, news[j]? = some u → w.cell? (ad.add j) = some u) (h1 : ∀ u ∈ news, u.oneCell' = true)
    (hm : 0 < m) (h63 : n + m ≤ maxLen) (hbytes : (n + m) * bytes ≤ 140737488355328)
    (h : ∀ g cap w', w'.ownsRow 0 e size (.slice (some ⟨g, 0, none⟩) (n + m) cap) (n + m) (xs ++ news) → Grew w w' v n g cap → wpList P ops Q rest (a.put o.dst (.slice (some ⟨g, 0, none⟩) (n + m) cap)) w') : wpList P ops Q (o :: rest) a w := by
  have key : ∀ (ao : Option Addr) (cap : Nat), v = .slice ao n cap → (ao = none → n = 0 ∧ cap = 0) → (∀ b, ao = some b → ∀ j u, xs[j]? = some u → w.cell? (b.add j) = some u) → cap < n + m → wpList P ops Q (o :: rest) a w := by
    intro ao cap hv hnone hcells hfull
    refine wpList_append_grows w hgd s x t ho e i z size bytes ht hi hz hsize hby hzs hsz ao n cap xs (hs.trans hv) hnone hown.1 hcells ad m c news hx hl hnews h1 hfull h63 hbytes (fun v' w' hown' hg' => ?_)
    obtain ⟨g5, c5, rfl, hg5, hg5s⟩ := hown'.form (by omega)
    exact h g5 c5 w' (own_low hown' (Nat.zero_le _)) (.inr ⟨hg5, hg'⟩)
  rcases hown.2 with ⟨hv, hn⟩ | ⟨g, cap, cur, hv, _⟩
  · subst hn
    exact key none 0 hv (fun _ => ⟨rfl, rfl⟩) (fun b hb => by simp at hb) (by omega)
  · by_cases hroom : n + m ≤ cap
    · rw [hv] at hs hown
      exact wpList_append_fits w hgd s x t ho 0 e i size ht hi hsize g n cap xs hs hown ad m c news hx hl hnews h1 hroom (fun w' h2 h3 => h g cap w' h2 (.inl ⟨hv, h3⟩))
    · rw [hv] at hown
      exact key _ cap hv (fun hh => by simp at hh) (fun b hb j u hu => by obtain rfl : b = ⟨g, 0, none⟩ := (by simpa using hb.symm); exact hown.cells rfl j u hu) (by omega)
end Go.Proofs.Ytnjlbgolnbdkaaa
