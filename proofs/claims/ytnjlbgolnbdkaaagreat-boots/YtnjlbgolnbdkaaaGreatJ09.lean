/- Texts of the proof of Boots, one behind the other. -/
import Derived.Test.YtnjlbgolnbdkaaaGreatJ08
/- The hands: keepCode. -/
namespace Go.Proofs.YtnjlbgolnbdkaaaGreat
open Go.RowKit

theorem Tryz.info3 : (Tryz.prog.info? 3).map (fun i => (i.zero, i.size, i.bytes)) = some (some (.int .i64 0), 1, 8) := by kernel_rfl
theorem Tryz.info40 : (Tryz.prog.info? 40).map (fun i => (i.zero, i.size, i.bytes)) = some (some (.slice none 0 0), 1, 24) := by kernel_rfl
theorem Tryz.info49 : (Tryz.prog.info? 49).map (fun i => (i.zero, i.size, i.bytes)) = some (some (.slice none 0 0), 1, 24) := by kernel_rfl
theorem Tryz.info41 : (Tryz.prog.info? 41).map (fun i => (i.zero, i.size, i.bytes)) = some (some (.slice none 0 0), 1, 24) := by kernel_rfl
theorem Tryz.info52 : (Tryz.prog.info? 52).map (fun i => (i.zero, i.size, i.bytes)) = some (some (.agg #[.int .i64 0, .int .i64 0, .int .i64 0, .int .i64 0, .int .i64 0]), 5, 40) := by kernel_rfl
theorem Tryz.info47 : (Tryz.prog.info? 47).map (fun i => (i.zero, i.size, i.bytes)) = some (some (.agg #[.int .i64 0, .int .i64 0, .bool false]), 3, 24) := by kernel_rfl
theorem Tryz.info162 : (Tryz.prog.info? 162).map (fun i => (i.zero, i.size, i.bytes)) = some (some (.slice none 0 0), 1, 24) := by kernel_rfl
theorem Tryz.info122 : (Tryz.prog.info? 122).map (fun i => (i.zero, i.size, i.bytes)) = some (some (.slice none 0 0), 1, 24) := by kernel_rfl
theorem Tryz.info67 : (Tryz.prog.info? 67).map (fun i => (i.zero, i.size, i.bytes)) = some (some (.slice none 0 0), 1, 24) := by kernel_rfl
theorem Tryz.info68 : (Tryz.prog.info? 68).map (fun i => (i.zero, i.size, i.bytes)) = some (some (.slice none 0 0), 1, 24) := by kernel_rfl
theorem Tryz.info69 : (Tryz.prog.info? 69).map (fun i => (i.zero, i.size, i.bytes)) = some (some (.slice none 0 0), 1, 24) := by kernel_rfl

set_option maxHeartbeats 1000000 in
theorem mark_big (p : Nat → Value) (hb : Nat) (vI vW : Value) (n : Int) (vs : Nat → Value) (w : World) (hB : w.heap[hb]? = some (.cells (handCells p vI vW n vs) 94 (0, 0))) (h0 : 0 ≤ n) (h1 : n ≤ 1000000000000) :
    Calls Tryz.prog 139 #[.pointer (some ⟨hb, 5, none⟩)] w fun e w' => e = .returned (.int .i64 (-77000000 - (n + 1))) ∧ w'.heap[hb]? = some (.cells (handCells p vI vW (n + 1) vs) 94 (0, 0)) ∧ Touch (· = hb) w w' := by
  have c2 : w.cell? ⟨hb, 7, none⟩ = some (.int .i64 n) := by rw [cell_of_row _ _ _ _ _ _ hB]; rfl
  have f2 := free_of_block hB 7
  have HB := hide hB
  clear hB
  go_enter Tryz.func139, Tryz.ntmps139
  go_wp2
  go_ret
  exact ⟨rfl, block_set HB.out 7 _, Touch.ofSet w hb 7 _ rfl⟩

def setW (w : World) (g : Nat) : Nat → List Value → World
  | _, [] => w
  | o, u :: us => setW (w.setCell ⟨g, o, none⟩ u) g (o + 1) us
def setL (xs : List Value) : Nat → List Value → List Value
  | _, [] => xs
  | o, u :: us => setL (xs.set o u) (o + 1) us
theorem setL_length (xs : List Value) (o : Nat) (ys : List Value) : (setL xs o ys).length = xs.length := by
  induction ys generalizing xs o with
  | nil => rfl
  | cons u us ih => show (setL (xs.set o u) (o + 1) us).length = _; rw [ih, List.length_set]
theorem setL_get (xs : List Value) (o : Nat) (ys : List Value) (hl : o + ys.length ≤ xs.length) (j : Nat) : (setL xs o ys)[j]? = if o ≤ j ∧ j < o + ys.length then ys[j - o]? else xs[j]? := by
  induction ys generalizing xs o with
  | nil => rw [if_neg (by simp)]; rfl
  | cons u us ih =>
    show (setL (xs.set o u) (o + 1) us)[j]? = _
    rw [List.length_cons] at hl
    rw [ih (xs.set o u) (o + 1) (by rw [List.length_set]; omega)]
    by_cases h1 : o + 1 ≤ j ∧ j < o + 1 + us.length
    · rw [if_pos h1, if_pos (by simp; omega), show j - o = (j - (o + 1)) + 1 from by omega]; rfl
    · rw [if_neg h1]
      by_cases h2 : j = o
      · subst h2
        rw [if_pos (by simp), Nat.sub_self, List.getElem?_set_self (by omega)]; rfl
      · rw [if_neg (by simp; omega), List.getElem?_set_ne (by omega)]
theorem own_set {w : World} {base : Nat} {e : TypeId} {s g N cap : Nat} {xs : List Value} (h : w.ownsRow base e s (.slice (some ⟨g, 0, none⟩) N cap) N xs) (o : Nat) (u : Value) : (w.setCell ⟨g, o, none⟩ u).ownsRow base e s (.slice (some ⟨g, 0, none⟩) N cap) N (xs.set o u) := by
  obtain ⟨h1, h2⟩ := h
  rcases h2 with ⟨h2, _⟩ | ⟨g', cap', cur, hv, hb, hh, hc, hm, hs, ht⟩
  · cases h2
  · simp at hv
    obtain ⟨rfl, rfl⟩ := hv
    refine ⟨by rw [List.length_set]; exact h1, .inr ⟨g, cap, cur.setIfInBounds o u, rfl, hb, block_set hh o u, hc, hm, by simp [hs], ?_⟩⟩
    rw [← ht, Array.toList_setIfInBounds, List.take_set]
theorem own_setW {base : Nat} {e : TypeId} {s g N cap : Nat} (ys : List Value) : ∀ (w : World) (xs : List Value) (o : Nat), w.ownsRow base e s (.slice (some ⟨g, 0, none⟩) N cap) N xs → o + ys.length ≤ N * s → (setW w g o ys).ownsRow base e s (.slice (some ⟨g, 0, none⟩) N cap) N (setL xs o ys) := by
  induction ys with
  | nil => intro w xs o h _; exact h
  | cons u us ih =>
    intro w xs o h ho
    rw [List.length_cons] at ho
    exact ih _ _ _ (own_set h o u) (by omega)
theorem touch_setW (g : Nat) (ys : List Value) : ∀ (w : World) (o : Nat), Touch (· = g) w (setW w g o ys) := by
  induction ys with
  | nil => intro w o; exact Touch.refl _ _
  | cons u us ih => intro w o; exact Touch.trans (Touch.ofSet w g o u rfl) (ih _ _) (fun i hi => .inl hi)

/- a list that is being written full -/
structure Fill (f : Nat) (w1 : World) (v : Value) (N : Nat) (m : Int) (k : Nat) (wr : World) : Prop where
  ex : ∃ xs, wr.ownsRow 0 (ety f) (esz f) v N xs ∧ ∀ j, j < k * esz f → xs[j]? = (reps N (elm f m))[j]?
  t : Touch (fun b => v.ownBlock = some b) w1 wr
theorem Fill.start {f : Nat} {w1 : World} {v : Value} {N : Nat} {m : Int} {xs : List Value} (h : w1.ownsRow 0 (ety f) (esz f) v N xs) : Fill f w1 v N m 0 w1 := ⟨⟨xs, h, fun j hj => by simp at hj⟩, Touch.refl _ _⟩
theorem Fill.step {f : Nat} {w1 wr : World} {g N c : Nat} {m : Int} {k : Nat} (h : Fill f w1 (.slice (some ⟨g, 0, none⟩) N c) N m k wr) (hk : k < N) : Fill f w1 (.slice (some ⟨g, 0, none⟩) N c) N m (k + 1) (setW wr g (k * esz f) (elm f m)) := by
  obtain ⟨xs, h1, h2⟩ := h.ex
  have hks : (k + 1) * esz f ≤ N * esz f := Nat.mul_le_mul_right _ hk
  rw [Nat.add_mul, Nat.one_mul] at hks
  have hx := h1.1
  refine ⟨⟨_, own_setW (elm f m) wr xs _ h1 (by rw [elm_length]; exact hks), fun j hj => ?_⟩, Touch.trans h.t (touch_setW g _ wr _) (fun i hi => .inl (by rw [hi]; rfl))⟩
  rw [Nat.add_mul, Nat.one_mul] at hj
  rw [setL_get _ _ _ (by rw [elm_length, hx]; exact hks), elm_length]
  by_cases hlt : j < k * esz f
  · rw [if_neg (by omega)]; exact h2 j hlt
  · rw [if_pos (by omega)]
    have := reps_at N (elm f m) k (j - k * esz f) hk (by rw [elm_length]; omega)
    rw [elm_length, show k * esz f + (j - k * esz f) = j from by omega] at this
    exact this.symm
theorem Fill.full {f : Nat} {w1 wr : World} {v : Value} {N : Nat} {m : Int} (h : Fill f w1 v N m N wr) : wr.ownsRow 0 (ety f) (esz f) v N (reps N (elm f m)) := by
  obtain ⟨xs, h1, h2⟩ := h.ex
  have e : xs = reps N (elm f m) := by
    apply List.ext_getElem?
    intro j
    by_cases hj : j < N * esz f
    · exact h2 j hj
    · rw [List.getElem?_eq_none (by rw [h1.1]; omega), List.getElem?_eq_none (by rw [reps_length, elm_length]; omega)]
  rw [← e]; exact h1
/- the block of a list with an element -/
theorem Fill.at {f : Nat} {w1 wr : World} {ad : Option Addr} {N c : Nat} {m : Int} {k : Nat} (h : Fill f w1 (.slice ad N c) N m k wr) (hk : k < N) : ∃ (g : Nat) (u : Nat → Value), ad = some ⟨g, 0, none⟩ ∧ (∀ o, o < esz f → wr.cell? ⟨g, k * esz f + o, none⟩ = some (u o)) ∧ ∀ o, wr.frozen? ⟨g, o, none⟩ = false := by
  obtain ⟨xs, h1, _⟩ := h.ex
  rcases h1.2 with ⟨_, h2⟩ | ⟨g, cap, cur, hv, _, hh, hc, hm, hs, _⟩
  · omega
  · simp at hv
    have hks : (k + 1) * esz f ≤ cap * esz f := Nat.mul_le_mul_right _ (by omega)
    rw [Nat.add_mul, Nat.one_mul] at hks
    refine ⟨g, fun o => cur[k * esz f + o]?.getD default, hv.1, fun o ho => ?_, fun o => free_of_block hh o⟩
    have hlt : k * esz f + o < cur.size := by omega
    show _ = some (cur[k * esz f + o]?.getD default)
    rw [cell_of_row _ _ _ _ _ _ hh]
    simp [hlt]

/- how the hands stand when a list has been written full -/
def lab1 (L : Nat → Nat) (f : Nat) (v : Value) : Nat → Nat := fun k => if v.ownBlock = some k then 3 * f + 3 else L k
theorem Hnd.begin {f : Nat} {p : Nat → Value} {L : Nat → Nat} {hb : Nat} {n : Int} {vs : Nat → Value} {A : Nat → List Kept} {w1 wr : World} {v : Value} {N : Nat} {m : Int} (hf : f < 9) (h : Hnd p L hb n vs A A w1) (hL : ∀ b, v.ownBlock = some b → 100 ≤ L b) (hF : Fill f w1 v N m N wr) :
    Hnd p (lab1 L f v) hb n vs A A wr ∧ Cur f (lab1 L f v) A wr v N m := by
  have h2 : Hnd p L hb n vs A A wr := h.touch hF.t (fun k _ hk => by have := hL k hk; omega)
  refine ⟨h2.relabel (fun k _ hk => if_neg (fun e => by have := hL k e; omega)), hF.full, fun b e => if_pos e, fun k hk b e1 e2 => ?_⟩
  have := ((h2.fam f hf).kept k hk).1 b e2
  have := hL b e1
  omega

structure Keeping (p : Nat → Value) (f : Nat) (w : World) (L : Nat → Nat) (A : Nat → List Kept) (v0 : Value) (hb : Nat) (n : Int) (N : Nat) (m : Int) (j : Nat) (L' : Nat → Nat) (vs' : Nat → Value) (A' : Nat → List Kept) (v : Value) (wq : World) : Prop where
  h : Hnd p L' hb n vs' A' A' wq
  c : Cur f L' A' wq v (N + j) m
  len : ∀ i, (A' i).length = (A i).length + if i = f then j else 0
  lab : ∀ k, k < w.heap.size → L' k = lab1 L f v0 k
  t : Touch (fun k => L k ≤ 27 ∨ v0.ownBlock = some k) w wq

theorem Touch.alloc (w : World) (o : Obj) : Touch (fun _ => False) w (w.alloc o) := ⟨rfl, rfl, rfl, by simp, fun k hk _ => Below.heap_alloc w o k hk⟩
theorem Keeping.next {p : Nat → Value} {f : Nat} {w : World} {L : Nat → Nat} {A : Nat → List Kept} {v0 : Value} {hb : Nat} {n : Int} {N : Nat} {m : Int} {j : Nat} {L1 L5 : Nat → Nat} {vs1 vs5 : Nat → Value} {A1 A2 : Nat → List Kept} {v1 v5 : Value} {wr w5 : World} (hf : f < 9) (hK : Keeping p f w L A v0 hb n N m j L1 vs1 A1 v1 wr)
    (hA2 : A2 = updL A1 f (A1 f ++ [⟨v1, m⟩])) (hS : Step f L1 L5 wr w5) (hH : Hnd p L5 hb n vs5 A2 A2 w5) (hC : Cur f L5 A2 w5 v5 (N + j + 1) m) : Keeping p f w L A v0 hb n N m (j + 1) L5 vs5 A2 v5 w5 := by
  have hsz := hK.t.size
  refine ⟨hH, hC, fun i => ?_, fun k hk => (hS.lab k (by omega)).trans (hK.lab k hk), Touch.trans hK.t hS.t (fun i hi => ?_)⟩
  · have := hK.len i
    subst hA2
    by_cases e : i = f
    · subst e
      rw [updL_at, List.length_append, this, if_pos rfl, if_pos rfl]
      rfl
    · rw [updL_off _ _ e, this, if_neg e, if_neg e]
  · by_cases h : i < w.heap.size
    · left
      rw [hK.lab i h] at hi
      unfold lab1 at hi
      split at hi
      · exact .inr (by assumption)
      · left; omega
    · right; omega

end Go.Proofs.YtnjlbgolnbdkaaaGreat
/- The program's journal: a slot as Sort tells it; a sector as it is read. -/
namespace Go.Proofs.YtnjlbgolnbdkaaaGreat
open Go.RowKit

def entCells (e : Nat → Int) : List Value := [.int .i64 (e 0), .int .i64 (e 1), .int .i64 (e 2), .int .i64 (e 3), .int .i64 (e 4), .int .i64 (e 5)]
def entOf (bs : List Int) (s i : Nat) : Nat → Int
  | 0 => kindAt bs s i
  | k + 1 => recOf bs s i k
theorem own_rarg16 {w : World} {base x cap : Nat} {zs : List Int} (h : w.ownsRow base 5 1 (.slice (some ⟨x, 0, none⟩) 16 cap) 16 (vals zs)) : Row w x 0 zs ∧ 16 ≤ cap ∧ cap ≤ 9223372036854775807 := by
  rcases h.2 with ⟨h1, _⟩ | ⟨g, cap', cur, hv, _, _, hc, hm, _⟩
  · cases h1
  · simp at hv
    obtain ⟨rfl, rfl⟩ := hv
    exact ⟨row_of_own h, hc, by unfold maxLen at hm; omega⟩

set_option maxRecDepth 100000 in
set_option maxHeartbeats 2000000 in
theorem readOne_any (jb pb g : Nat) (bs : List Int) (left res : Int) (dead : Bool) (done : Int) (s i : Nat) (w : World) (hs : s < 2) (hi : i < 8) (h : FlashAt w g bs left res dead done)
    (hJ : w.heap[jb]? = some (.cells #[.pointer (some ⟨g, 0, none⟩)] 107 (0, 0))) (hP : w.heap[pb]? = some (.cells #[.int .i64 s] 3 (0, 0))) :
    Calls Tryz.prog 167 #[.int .i64 i, .pointer (some ⟨jb, 0, none⟩), .pointer (some ⟨pb, 0, none⟩)] w fun e w' => e = .returned (.agg #[.int .i64 (entOf bs s i 0), .int .i64 (entOf bs s i 1), .int .i64 (entOf bs s i 2), .int .i64 (entOf bs s i 3), .int .i64 (entOf bs s i 4), .int .i64 (entOf bs s i 5)]) ∧ Below w.heap.size w w' := by
  have cj : w.cell? ⟨jb, 0, none⟩ = some (.pointer (some ⟨g, 0, none⟩)) := by rw [cell_of_row _ _ _ _ _ _ hJ]; rfl
  have cp : w.cell? ⟨pb, 0, none⟩ = some (.int .i64 s) := by rw [cell_of_row _ _ _ _ _ _ hP]; rfl
  have hjl := lt_of_block hJ
  have hpl := lt_of_block hP
  have HB0 : Hid (∀ W : World, Below w.heap.size w W → Calls Tryz.prog 169 #[.agg #[.pointer (some ⟨g, 0, none⟩)], .int .i64 s, .int .i64 i] W fun e w' => ∃ x cap, e = .returned (.slice (some ⟨x, 0, none⟩) 16 cap) ∧ w'.ownsRow W.heap.size 5 1 (.slice (some ⟨x, 0, none⟩) 16 cap) 16 (vals (slotB bs s i)) ∧ Below W.heap.size W w') := fun W hW => jbytes_any g bs left res dead done s i W hs hi (h.below hW)
  have HLEN := hide (slotB_length bs s i h.len hs hi)
  have HBY : Hid (Bytes (slotB bs s i)) := (h.bytes.drop _).take _
  have HE : Hid (entOf bs s i 0 = sortKind (slotB bs s i) ∧ entOf bs s i 1 = sortRec (slotB bs s i) 0 ∧ entOf bs s i 2 = sortRec (slotB bs s i) 1 ∧ entOf bs s i 3 = sortRec (slotB bs s i) 2 ∧ entOf bs s i 4 = sortRec (slotB bs s i) 3 ∧ entOf bs s i 5 = sortRec (slotB bs s i) 4) := ⟨rfl, rfl, rfl, rfl, rfl, rfl⟩
  clear h hJ hP
  have HB1 := hide (HB0.out (w.alloc (.cells #[.int .i64 0, .int .i64 0, .int .i64 0, .int .i64 0, .int .i64 0, .int .i64 0] 259)) ((Below.refl _ _).alloc (Nat.le_refl _) _))
  clear HB0
  go_enter Tryz.func167, Tryz.ntmps167
  go_wp2_with fail
  refine HB1.out.mono ?_
  rintro e w1 ⟨x, cap, rfl, hown, hb1⟩
  obtain ⟨hr, hc1, hc2⟩ := own_rarg16 hown
  have HS := hide (sort16_any x 0 cap (slotB bs s i) w1 HLEN.out HBY.out hr hc1 hc2)
  have hs1 : w.heap.size + 1 ≤ w1.heap.size := by have := hb1.size; simp at this; exact this
  have hz1 : w1.heap[w.heap.size]? = some (.cells #[.int .i64 0, .int .i64 0, .int .i64 0, .int .i64 0, .int .i64 0, .int .i64 0] 259 (0, 0)) := (hb1.block _ (by simp)).trans (heap_alloc_new w _)
  have HB2 : Hid (Below w.heap.size w w1) := ((Below.refl _ _).alloc (Nat.le_refl _) _).trans (hb1.mono (by simp))
  have HZ1 := hide hz1
  clear hown hb1 hr hz1 HB1
  simp only [aggOf] at HS
  generalize sortKind (slotB bs s i) = kk at HS HE
  generalize sortRec (slotB bs s i) 0 = r0 at HS HE
  generalize sortRec (slotB bs s i) 1 = r1 at HS HE
  generalize sortRec (slotB bs s i) 2 = r2 at HS HE
  generalize sortRec (slotB bs s i) 3 = r3 at HS HE
  generalize sortRec (slotB bs s i) 4 = r4 at HS HE
  go_wp2_with fail
  refine HS.out.mono ?_
  rintro e w2 ⟨rfl, hb2⟩
  have hs2 := hb2.size
  have hz2 := (hb2.block _ (by omega)).trans HZ1.out
  have HB3 : Hid (Below w.heap.size w w2) := HB2.out.trans (hb2.mono (by omega))
  have z0 : w2.cell? ⟨w.heap.size, 0, none⟩ = some (.int .i64 0) := by rw [cell_of_row _ _ _ _ _ _ hz2]; rfl
  have z1 : w2.cell? ⟨w.heap.size, 1, none⟩ = some (.int .i64 0) := by rw [cell_of_row _ _ _ _ _ _ hz2]; rfl
  have z2 : w2.cell? ⟨w.heap.size, 2, none⟩ = some (.int .i64 0) := by rw [cell_of_row _ _ _ _ _ _ hz2]; rfl
  have z3 : w2.cell? ⟨w.heap.size, 3, none⟩ = some (.int .i64 0) := by rw [cell_of_row _ _ _ _ _ _ hz2]; rfl
  have z4 : w2.cell? ⟨w.heap.size, 4, none⟩ = some (.int .i64 0) := by rw [cell_of_row _ _ _ _ _ _ hz2]; rfl
  have z5 : w2.cell? ⟨w.heap.size, 5, none⟩ = some (.int .i64 0) := by rw [cell_of_row _ _ _ _ _ _ hz2]; rfl
  have f0 := free_of_block hz2 0
  have f1 := free_of_block hz2 1
  have f2 := free_of_block hz2 2
  have f3 := free_of_block hz2 3
  have f4 := free_of_block hz2 4
  have f5 := free_of_block hz2 5
  have hlt2 : w.heap.size < w2.heap.size := by omega
  obtain ⟨wF, hwF⟩ : ∃ wF, wF = World.alloc ((((((w2.setCell ⟨w.heap.size, 0, none⟩ (.int .i64 kk)).setCell ⟨w.heap.size, 1, none⟩ (.int .i64 r0)).setCell ⟨w.heap.size, 2, none⟩ (.int .i64 r1)).setCell ⟨w.heap.size, 3, none⟩ (.int .i64 r2)).setCell ⟨w.heap.size, 4, none⟩ (.int .i64 r3)).setCell ⟨w.heap.size, 5, none⟩ (.int .i64 r4)) (.cells #[.int .i64 r0, .int .i64 r1, .int .i64 r2, .int .i64 r3, .int .i64 r4] 52) := ⟨_, rfl⟩
  have hF : wF.heap[w.heap.size]? = some (.cells #[.int .i64 kk, .int .i64 r0, .int .i64 r1, .int .i64 r2, .int .i64 r3, .int .i64 r4] 259 (0, 0)) := by
    rw [hwF, Below.heap_alloc _ _ _ (by simp; omega)]
    exact block_set (block_set (block_set (block_set (block_set (block_set hz2 0 _) 1 _) 2 _) 3 _) 4 _) 5 _
  have y0 : wF.cell? ⟨w.heap.size, 0, none⟩ = some (.int .i64 kk) := by rw [cell_of_row _ _ _ _ _ _ hF]; rfl
  have y1 : wF.cell? ⟨w.heap.size, 1, none⟩ = some (.int .i64 r0) := by rw [cell_of_row _ _ _ _ _ _ hF]; rfl
  have y2 : wF.cell? ⟨w.heap.size, 2, none⟩ = some (.int .i64 r1) := by rw [cell_of_row _ _ _ _ _ _ hF]; rfl
  have y3 : wF.cell? ⟨w.heap.size, 3, none⟩ = some (.int .i64 r2) := by rw [cell_of_row _ _ _ _ _ _ hF]; rfl
  have y4 : wF.cell? ⟨w.heap.size, 4, none⟩ = some (.int .i64 r3) := by rw [cell_of_row _ _ _ _ _ _ hF]; rfl
  have y5 : wF.cell? ⟨w.heap.size, 5, none⟩ = some (.int .i64 r4) := by rw [cell_of_row _ _ _ _ _ _ hF]; rfl
  have HEND : Hid (Below w.heap.size w wF) := by
    show Below _ _ _
    rw [hwF]
    refine Below.alloc ?_ (by simp; omega) _
    iterate 6 refine Below.thenSet ?_ (Nat.le_refl _) _ _
    exact HB3.out
  have HWF := hide hwF
  clear hb2 hz2 HS hF hwF
  go_wp2
  rw [← HWF.out]
  refine bodyPost_ret (v := .agg #[.int .i64 kk, .int .i64 r0, .int .i64 r1, .int .i64 r2, .int .i64 r3, .int .i64 r4]) (by simp [results, Tryz.results167, go_sem, y0, y1, y2, y3, y4, y5]) rfl ?_
  obtain ⟨h0, h1, h2, h3, h4, h5⟩ := HE.out
  rw [h0, h1, h2, h3, h4, h5]
  exact ⟨rfl, HEND.out⟩

theorem Tryz.info259 : (Tryz.prog.info? 259).map (fun i => (i.zero, i.size, i.bytes)) = some (some (.agg #[.int .i64 0, .int .i64 0, .int .i64 0, .int .i64 0, .int .i64 0, .int .i64 0]), 6, 48) := by kernel_rfl
/- entries that are made one by one -/
def entsCells (l : List (Nat → Int)) : List Value := l.flatMap entCells
theorem entsCells_length (l : List (Nat → Int)) : (entsCells l).length = l.length * 6 := by
  induction l with
  | nil => rfl
  | cons a l ih => show (entCells a ++ entsCells l).length = _; rw [List.length_append, ih]; show 6 + _ = _; simp; omega
theorem setL_fill (l : List (Nat → Int)) (e : Nat → Int) (rest : List Value) (hr : 6 ≤ rest.length) : setL (entsCells l ++ rest) (l.length * 6) (entCells e) = entsCells (l ++ [e]) ++ rest.drop 6 := by
  apply List.ext_getElem?
  intro j
  have h1 := entsCells_length l
  have hx : (entCells e).length = 6 := rfl
  rw [setL_get _ _ _ (by rw [List.length_append, h1, hx]; omega), hx, show entsCells (l ++ [e]) = entsCells l ++ entCells e from by simp [entsCells], List.append_assoc]
  by_cases ha : j < l.length * 6
  · rw [if_neg (by omega), List.getElem?_append_left (by omega), List.getElem?_append_left (by omega)]
  · by_cases hb : j < l.length * 6 + 6
    · rw [if_pos (by omega), List.getElem?_append_right (by omega), h1, List.getElem?_append_left (by rw [hx]; omega)]
    · rw [if_neg (by omega), List.getElem?_append_right (by omega), List.getElem?_append_right (by omega), h1, List.getElem?_append_right (by rw [hx]; omega), hx, List.getElem?_drop]
      congr 1
      omega

set_option maxRecDepth 100000 in
set_option maxHeartbeats 4000000 in
theorem makeEnt_any (jb pb : Nat) (many : Nat) (hm : many ≤ 255) (S : Nat → Prop) (w : World) (hS : ∀ b, S b → b < w.heap.size) (I : Nat → List (Nat → Int) → World → Prop)
    (hkeep : ∀ j l wr w', I j l wr → Touch (fun b => w.heap.size ≤ b ∧ b < w.heap.size + 3) wr w' → I j l w')
    (hstep : ∀ j l wr, j < many → I j l wr → w.heap.size ≤ wr.heap.size → Calls Tryz.prog 167 #[.int .i64 j, .pointer (some ⟨jb, 0, none⟩), .pointer (some ⟨pb, 0, none⟩)] wr fun e w' => ∃ x : Nat → Int, e = .returned (.agg #[.int .i64 (x 0), .int .i64 (x 1), .int .i64 (x 2), .int .i64 (x 3), .int .i64 (x 4), .int .i64 (x 5)]) ∧ I (j + 1) (l ++ [x]) w' ∧ Touch S wr w')
    (h0 : I 0 [] w) : Calls Tryz.prog 166 #[.int .i64 many, .func (.func 167) #[] #[.pointer (some ⟨jb, 0, none⟩), .pointer (some ⟨pb, 0, none⟩)]] w fun e w' => ∃ x l, e = .returned (.agg #[.slice (some ⟨x, 0, none⟩) many many]) ∧ I many l w' ∧ l.length = many ∧ w'.ownsRow w.heap.size 259 6 (.slice (some ⟨x, 0, none⟩) many many) many (entsCells l) := by
  obtain ⟨i0, hi, hz0, hz1, hz2⟩ := info_parts Tryz.info259
  have hmk : ∀ W : World, (Instr.makeSlice 179 (.int .i64 (many : Int)) (.int .i64 (many : Int))).run Tryz.prog W = .ok (.slice (some ⟨W.heap.size, 0, none⟩) many many) (W.alloc (.cells (madeCells #[.int .i64 0, .int .i64 0, .int .i64 0, .int .i64 0, .int .i64 0, .int .i64 0] (many * 6)) 259)) := by
    intro W
    have := run_make (P := Tryz.prog) (w := W) 179 259 i0 _ Tryz.underlying179 hi hz0 .i64 .i64 (many : Int) (many : Int) (by omega) (by omega) (by rw [hz2]; omega) (by omega)
    simpa [hz1, Value.cells] using this
  generalize hM : madeCells #[.int .i64 0, .int .i64 0, .int .i64 0, .int .i64 0, .int .i64 0, .int .i64 0] (many * 6) = M at hmk
  have hMs : M.size = many * 6 := by rw [← hM]; simp [madeCells]
  have HK := hide hkeep
  have HS := hide hS
  have HST := hide hstep
  have H0 := hide h0
  clear hkeep hS hstep h0 hM
  have HINIT : Hid (∀ W, W = (((w.alloc (.cells #[.slice none 0 0] 181)).alloc (.cells M 259)).alloc (.cells #[.slice (some ⟨w.heap.size + 1, 0, none⟩) many many] 181)) → Touch (fun _ => False) w W ∧ W.heap.size = w.heap.size + 3 ∧ W.heap[w.heap.size]? = some (.cells #[.slice none 0 0] 181 (0, 0)) ∧ W.heap[w.heap.size + 2]? = some (.cells #[.slice (some ⟨w.heap.size + 1, 0, none⟩) many many] 181 (0, 0)) ∧ W.ownsRow w.heap.size 259 6 (.slice (some ⟨w.heap.size + 1, 0, none⟩) many many) many M.toList) := by
    rintro W rfl
    have s1 : (w.alloc (.cells #[.slice none 0 0] 181)).heap.size = w.heap.size + 1 := by simp
    have s2 : ((w.alloc (.cells #[.slice none 0 0] 181)).alloc (.cells M 259)).heap.size = w.heap.size + 2 := by simp
    refine ⟨Touch.trans (Touch.trans (Touch.alloc _ _) (Touch.alloc _ _) (fun _ h => .inl h)) (Touch.alloc _ _) (fun _ h => .inl h), by simp, ?_, ?_, ?_⟩
    · rw [Below.heap_alloc _ _ _ (by omega), Below.heap_alloc _ _ _ (by omega)]; exact heap_alloc_new w _
    · have := heap_alloc_new ((w.alloc (.cells #[.slice none 0 0] 181)).alloc (.cells M 259)) (.cells #[.slice (some ⟨w.heap.size + 1, 0, none⟩) many many] 181)
      rwa [s2] at this
    · have hb : (((w.alloc (.cells #[.slice none 0 0] 181)).alloc (.cells M 259)).alloc (.cells #[.slice (some ⟨w.heap.size + 1, 0, none⟩) many many] 181)).heap[w.heap.size + 1]? = some (.cells M 259 (0, 0)) := by
        rw [Below.heap_alloc _ _ _ (by omega)]
        have := heap_alloc_new (w.alloc (.cells #[.slice none 0 0] 181)) (.cells M 259)
        rwa [s1] at this
      exact ⟨by simp [hMs], .inr ⟨w.heap.size + 1, many, M, rfl, by omega, hb, Nat.le_refl _, by unfold maxLen; omega, hMs, by rw [List.take_of_length_le (by simp [hMs])]⟩⟩
  go_enter Tryz.func166, Tryz.ntmps166
  go_wp2
  go_loopw [13] (fun t wr => ∃ (k : Nat) (l : List (Nat → Int)) (rest : List Value), k ≤ many ∧ t = .int .i64 k ∧ l.length = k ∧ I k l wr ∧ w.heap.size + 3 ≤ wr.heap.size ∧ wr.heap[w.heap.size]? = some (.cells #[.slice none 0 0] 181 (0, 0)) ∧ wr.heap[w.heap.size + 2]? = some (.cells #[.slice (some ⟨w.heap.size + 1, 0, none⟩) many many] 181 (0, 0)) ∧ wr.ownsRow w.heap.size 259 6 (.slice (some ⟨w.heap.size + 1, 0, none⟩) many many) many (entsCells l ++ rest) ∧ rest.length = (many - k) * 6) (fun t _ => many - (intOf t).toNat)
  case atStart =>
    obtain ⟨h1, h2, h3, h4, h5⟩ := HINIT.out _ rfl
    exact ⟨0, [], M.toList, by omega, rfl, rfl, HK.out _ _ _ _ H0.out (h1.mono (fun _ h => h.elim)), by omega, h3, h4, h5, by simp [hMs]⟩
  case round =>
    obtain ⟨k, l, rest, hk, rfl, hl, hI, hsz, hres, hbox, hrow, hrest⟩ := hrel
    have bx : wr.cell? ⟨w.heap.size + 2, 0, none⟩ = some (.slice (some ⟨w.heap.size + 1, 0, none⟩) many many) := by rw [cell_of_row _ _ _ _ _ _ hbox]; rfl
    by_cases hlt : k < many
    · have HB := hide (HST.out k l wr.drew hlt (HK.out _ _ _ _ hI ⟨rfl, rfl, rfl, Nat.le_refl _, fun _ _ _ => rfl⟩) (by show w.heap.size ≤ wr.heap.size; omega))
      have HAF : Hid (∀ (x : Nat → Int) (w2 : World), I (k + 1) (l ++ [x]) w2 → Touch S wr.drew w2 → w2.cell? ⟨w.heap.size + 2, 0, none⟩ = some (.slice (some ⟨w.heap.size + 1, 0, none⟩) many many) ∧ (∃ u : Nat → Value, ∀ o, o < 6 → w2.cell? ⟨w.heap.size + 1, k * 6 + o, none⟩ = some (u o)) ∧ (∀ o, w2.frozen? ⟨w.heap.size + 1, o, none⟩ = false) ∧
          (I (k + 1) (l ++ [x]) (setW w2 (w.heap.size + 1) (k * 6) (entCells x)) ∧ w.heap.size + 3 ≤ (setW w2 (w.heap.size + 1) (k * 6) (entCells x)).heap.size ∧ (setW w2 (w.heap.size + 1) (k * 6) (entCells x)).heap[w.heap.size]? = some (.cells #[.slice none 0 0] 181 (0, 0)) ∧ (setW w2 (w.heap.size + 1) (k * 6) (entCells x)).heap[w.heap.size + 2]? = some (.cells #[.slice (some ⟨w.heap.size + 1, 0, none⟩) many many] 181 (0, 0)) ∧ (setW w2 (w.heap.size + 1) (k * 6) (entCells x)).ownsRow w.heap.size 259 6 (.slice (some ⟨w.heap.size + 1, 0, none⟩) many many) many (entsCells (l ++ [x]) ++ rest.drop 6))) := by
        intro x w2 hI2 ht
        have ht2 : Touch S wr w2 := ⟨ht.os, ht.tape, ht.output, ht.size, ht.block⟩
        have hs2 := ht2.size
        have hbox2 := (ht2.block _ (by omega) (fun hs => by have := HS.out _ hs; omega)).trans hbox
        have hrow2 : w2.ownsRow w.heap.size 259 6 (.slice (some ⟨w.heap.size + 1, 0, none⟩) many many) many (entsCells l ++ rest) := own_keep hrow (fun b e => ht2.block b (World.ownsRow.lt hrow b e).2 (fun hs => by have := HS.out _ hs; have := (World.ownsRow.lt hrow b e).1; omega))
        obtain ⟨cur, hcur, hcs⟩ : ∃ cur : Array Value, w2.heap[w.heap.size + 1]? = some (.cells cur 259 (0, 0)) ∧ cur.size = many * 6 := by
          rcases hrow2.2 with ⟨h, _⟩ | ⟨g', cap', cur, hv, _, hh, _, _, hs', _⟩
          · cases h
          · simp at hv
            obtain ⟨rfl, rfl⟩ := hv
            exact ⟨cur, hh, hs'⟩
        have t := touch_setW (w.heap.size + 1) (entCells x) w2 (k * 6)
        have hres2 := (ht2.block _ (by omega) (fun hs => by have := HS.out _ hs; omega)).trans hres
        refine ⟨by rw [cell_of_row _ _ _ _ _ _ hbox2]; rfl, ⟨fun o => cur[k * 6 + o]?.getD default, fun o ho => ?_⟩, fun o => free_of_block hcur o, HK.out _ _ _ _ hI2 (t.mono (fun b hb => by rw [hb]; omega)), by have := t.size; omega, (t.block _ (by omega) (by omega)).trans hres2, (t.block _ (by omega) (by omega)).trans hbox2, ?_⟩
        · have hlt' : k * 6 + o < cur.size := by omega
          show _ = some (cur[k * 6 + o]?.getD default)
          rw [cell_of_row _ _ _ _ _ _ hcur]
          simp [hlt']
        · have := own_setW (entCells x) w2 _ (k * 6) hrow2 (by show k * 6 + 6 ≤ many * 6; omega)
          rw [← hl, setL_fill l x rest (by rw [hrest]; omega)] at this
          rw [← hl]
          exact this
      have HR6 : Hid ((rest.drop 6).length = (many - (k + 1)) * 6) := by show _ = _; rw [List.length_drop, hrest]; omega
      have HLL : Hid (∀ x : Nat → Int, (l ++ [x]).length = k + 1) := fun x => by rw [List.length_append, hl]; rfl
      clear hI hres hbox hrow hl hrest
      go_wp2_with fail
      go_region_law (go_simp; (with_reducible show Calls Tryz.prog 167 _ _ _); refine HB.out.mono ?_; rintro e w2 ⟨x, rfl, hI2, ht2⟩; obtain ⟨bx2, ⟨u, hu⟩, hff, h5⟩ := HAF.out x w2 hI2 ht2; have H5 := hide h5; have q0 : w2.cell? ⟨w.heap.size + 1, k * 6, none⟩ = some (u 0) := hu 0 (by omega); have q1 := hu 1 (by omega); have q2 := hu 2 (by omega); have q3 := hu 3 (by omega); have q4 := hu 4 (by omega); have q5 := hu 5 (by omega); have f0 := hff (k * 6); have f1 := hff (k * 6 + 1); have f2 := hff (k * 6 + 2); have f3 := hff (k * 6 + 3); have f4 := hff (k * 6 + 4); have f5 := hff (k * 6 + 5); clear hI2 ht2 hu hff h5)
      all_goals (
        go_wp2
        go_roundw
        case rel => exact ⟨k + 1, l ++ [x], rest.drop 6, by omega, by go_num, HLL.out x, H5.out.1, H5.out.2.1, H5.out.2.2.1, H5.out.2.2.2.1, H5.out.2.2.2.2, HR6.out⟩
        case measure => simp [intOf]; omega)
    · obtain rfl : k = many := by omega
      obtain rfl : rest = [] := List.eq_nil_of_length_eq_zero (by rw [hrest, Nat.sub_self, Nat.zero_mul])
      rw [List.append_nil] at hrow
      have r0 : wr.cell? ⟨w.heap.size, 0, none⟩ = some (.slice none 0 0) := by rw [cell_of_row _ _ _ _ _ _ hres]; rfl
      have fr0 := free_of_block hres 0
      obtain ⟨wF, hwF⟩ : ∃ wF, wF = wr.setCell ⟨w.heap.size, 0, none⟩ (.slice (some ⟨w.heap.size + 1, 0, none⟩) k k) := ⟨_, rfl⟩
      have hFB : wF.heap[w.heap.size]? = some (.cells #[.slice (some ⟨w.heap.size + 1, 0, none⟩) k k] 181 (0, 0)) := by rw [hwF]; exact block_set hres 0 _
      have y0 : wF.cell? ⟨w.heap.size, 0, none⟩ = some (.slice (some ⟨w.heap.size + 1, 0, none⟩) k k) := by rw [cell_of_row _ _ _ _ _ _ hFB]; rfl
      have tF : Touch (· = w.heap.size) wr wF := by rw [hwF]; exact Touch.ofSet _ _ _ _ rfl
      have HEND : Hid (I k l wF ∧ l.length = k ∧ wF.ownsRow w.heap.size 259 6 (.slice (some ⟨w.heap.size + 1, 0, none⟩) k k) k (entsCells l)) := ⟨HK.out _ _ _ _ hI (tF.mono (fun b hb => by rw [hb]; omega)), hl, own_keep hrow (fun b e => tF.block b (World.ownsRow.lt hrow b e).2 (by simp [Value.ownBlock] at e; omega))⟩
      have HWF := hide hwF
      clear hI hres hbox hrow hl hrest hFB tF hwF
      go_wp2
      rw [← HWF.out]
      refine bodyPost_ret (v := .agg #[.slice (some ⟨w.heap.size + 1, 0, none⟩) k k]) (by simp [results, Tryz.results166, go_sem, y0]) rfl ?_
      exact ⟨_, l, rfl, HEND.out⟩
end Go.Proofs.YtnjlbgolnbdkaaaGreat
/- The program's journal: a sector as it is read; At, is, headed. -/
namespace Go.Proofs.YtnjlbgolnbdkaaaGreat
open Go.RowKit

def entsTo (bs : List Int) (s : Nat) : Nat → List (Nat → Int)
  | 0 => []
  | k + 1 => entsTo bs s k ++ [entOf bs s k]
/- a sector as it is read: its place, its eight slots -/
def SecV (base : Nat) (v : Value) (bs : List Int) (s : Nat) (w : World) : Prop := ∃ x, v = .agg #[.int .i64 s, .slice (some ⟨x, 0, none⟩) 8 8] ∧ w.ownsRow base 259 6 (.slice (some ⟨x, 0, none⟩) 8 8) 8 (entsCells (entsTo bs s 8))

set_option maxRecDepth 100000 in
set_option maxHeartbeats 4000000 in
theorem jread_any (g : Nat) (bs : List Int) (left res : Int) (dead : Bool) (done : Int) (s : Nat) (w : World) (hs : s < 2) (h : FlashAt w g bs left res dead done) :
    Calls Tryz.prog 124 #[.agg #[.pointer (some ⟨g, 0, none⟩)], .int .i64 s] w fun e w' => ∃ x, e = .returned (.agg #[.int .i64 s, .slice (some ⟨x, 0, none⟩) 8 8]) ∧ w'.ownsRow w.heap.size 259 6 (.slice (some ⟨x, 0, none⟩) 8 8) 8 (entsCells (entsTo bs s 8)) ∧ Below w.heap.size w w' := by
  obtain ⟨w3, hw3⟩ : ∃ w3, w3 = ((w.alloc (.cells #[.pointer (some ⟨g, 0, none⟩)] 107)).alloc (.cells #[.int .i64 s] 3)).alloc (.cells #[.int .i64 0, .slice none 0 0] 183) := ⟨_, rfl⟩
  have hs3 : w3.heap.size = w.heap.size + 3 := by rw [hw3]; simp
  have t3 : Touch (fun _ => False) w w3 := by rw [hw3]; exact Touch.trans (Touch.trans (Touch.alloc _ _) (Touch.alloc _ _) (fun _ h => .inl h)) (Touch.alloc _ _) (fun _ h => .inl h)
  have hj3 : w3.heap[w.heap.size]? = some (.cells #[.pointer (some ⟨g, 0, none⟩)] 107 (0, 0)) := by rw [hw3, Below.heap_alloc _ _ _ (by simp; omega), Below.heap_alloc _ _ _ (by simp)]; exact heap_alloc_new w _
  have hp3 : w3.heap[w.heap.size + 1]? = some (.cells #[.int .i64 s] 3 (0, 0)) := by
    rw [hw3, Below.heap_alloc _ _ _ (by simp)]
    have := heap_alloc_new (w.alloc (.cells #[.pointer (some ⟨g, 0, none⟩)] 107)) (.cells #[.int .i64 s] 3)
    rwa [show (w.alloc (.cells #[.pointer (some ⟨g, 0, none⟩)] 107)).heap.size = w.heap.size + 1 from by simp] at this
  have hr3 : w3.heap[w.heap.size + 2]? = some (.cells #[.int .i64 0, .slice none 0 0] 183 (0, 0)) := by
    rw [hw3]
    have := heap_alloc_new ((w.alloc (.cells #[.pointer (some ⟨g, 0, none⟩)] 107)).alloc (.cells #[.int .i64 s] 3)) (.cells #[.int .i64 0, .slice none 0 0] 183)
    rwa [show ((w.alloc (.cells #[.pointer (some ⟨g, 0, none⟩)] 107)).alloc (.cells #[.int .i64 s] 3)).heap.size = w.heap.size + 2 from by simp] at this
  have hlt := h.lt
  have HMK := hide (makeEnt_any w.heap.size (w.heap.size + 1) 8 (by omega) (fun _ => False) w3 (fun _ h => h.elim) (fun j l wr => l = entsTo bs s j ∧ Touch (fun b => w3.heap.size ≤ b) w3 wr)
    (fun j l wr w' hI t => ⟨hI.1, hI.2.trans t (fun i hi => .inl hi.1)⟩)
    (fun j l wr hj hI hsz => (readOne_any w.heap.size (w.heap.size + 1) g bs left res dead done s j wr hs hj ((h.keep (t3.block g hlt (fun h => h))).keep (hI.2.block g (by omega) (by omega))) ((hI.2.block _ (by omega) (by omega)).trans hj3) ((hI.2.block _ (by omega) (by omega)).trans hp3)).mono (fun e w' ⟨he, hb⟩ => ⟨entOf bs s j, he, ⟨by rw [hI.1]; rfl, hI.2.trans (Touch.ofBelow (S := fun _ => False) hb) (fun _ h => h.elim)⟩, Touch.ofBelow hb⟩))
    ⟨rfl, Touch.refl _ _⟩)
  have HR3 := hide hr3
  have HP3 := hide hp3
  have HT3 := hide t3
  have HW3 := hide hw3
  clear h hj3 hp3 hr3 t3 hw3
  go_enter Tryz.func124, Tryz.ntmps124
  go_wp2_with fail
  rw [← HW3.out]
  refine HMK.out.mono ?_
  rintro e w4 ⟨x, l, rfl, ⟨hl, ht⟩, hll, hown⟩
  have hs4 := ht.size
  have hp4 := (ht.block _ (by omega) (by omega)).trans HP3.out
  have hr4 : w4.heap[w.heap.size + 1 + 1]? = some (.cells #[.int .i64 0, .slice none 0 0] 183 (0, 0)) := (ht.block _ (by omega) (by omega)).trans HR3.out
  have l1 : w.heap.size + 1 < w4.heap.size := by omega
  have l2 : w.heap.size + 1 + 1 < w4.heap.size := by omega
  have p4 : w4.cell? ⟨w.heap.size + 1, 0, none⟩ = some (.int .i64 s) := by rw [cell_of_row _ _ _ _ _ _ hp4]; rfl
  have q0 : w4.cell? ⟨w.heap.size + 1 + 1, 0, none⟩ = some (.int .i64 0) := by rw [cell_of_row _ _ _ _ _ _ hr4]; rfl
  have q1 : w4.cell? ⟨w.heap.size + 1 + 1, 1, none⟩ = some (.slice none 0 0) := by rw [cell_of_row _ _ _ _ _ _ hr4]; rfl
  have f0 := free_of_block hr4 0
  have f1 := free_of_block hr4 1
  obtain ⟨wF, hwF⟩ : ∃ wF, wF = World.alloc ((w4.setCell ⟨w.heap.size + 1 + 1, 0, none⟩ (.int .i64 s)).setCell ⟨w.heap.size + 1 + 1, 1, none⟩ (.slice (some ⟨x, 0, none⟩) 8 8)) (.cells #[.slice (some ⟨x, 0, none⟩) 8 8] 181) := ⟨_, rfl⟩
  have hFB : wF.heap[w.heap.size + 1 + 1]? = some (.cells #[.int .i64 s, .slice (some ⟨x, 0, none⟩) 8 8] 183 (0, 0)) := by
    rw [hwF, Below.heap_alloc _ _ _ (by simp; omega)]
    exact block_set (block_set hr4 0 _) 1 _
  have y0 : wF.cell? ⟨w.heap.size + 1 + 1, 0, none⟩ = some (.int .i64 s) := by rw [cell_of_row _ _ _ _ _ _ hFB]; rfl
  have y1 : wF.cell? ⟨w.heap.size + 1 + 1, 1, none⟩ = some (.slice (some ⟨x, 0, none⟩) 8 8) := by rw [cell_of_row _ _ _ _ _ _ hFB]; rfl
  have tF : Touch (· = w.heap.size + 1 + 1) w4 wF := by
    rw [hwF]
    exact Touch.trans (T := fun _ => False) (Touch.trans (T := (· = w.heap.size + 1 + 1)) (Touch.ofSet w4 _ 0 _ rfl) (Touch.ofSet _ _ 1 _ rfl) (fun i hi => .inl hi)) (Touch.alloc _ _) (fun _ h => h.elim)
  have HEND : Hid (wF.ownsRow w.heap.size 259 6 (.slice (some ⟨x, 0, none⟩) 8 8) 8 (entsCells (entsTo bs s 8)) ∧ Below w.heap.size w wF) := by
    rw [hl] at hown
    refine ⟨own_low (own_keep hown (fun b e => tF.block b (World.ownsRow.lt hown b e).2 (by have := (World.ownsRow.lt hown b e).1; omega))) (by omega), ?_⟩
    have t : Touch (fun b => w.heap.size ≤ b) w wF := Touch.trans (Touch.trans (HT3.out.mono (fun _ h => h.elim)) ht (fun i hi => .inl (by omega))) tF (fun i hi => .inl (by omega))
    exact t.below (Nat.le_refl _) (fun k hk => hk)
  have HWF := hide hwF
  clear ht hown hll hl hp4 hr4 hFB tF hwF HMK
  go_wp2
  rw [← HWF.out]
  refine bodyPost_ret (v := .agg #[.int .i64 s, .slice (some ⟨x, 0, none⟩) 8 8]) (by simp [results, Tryz.results124, go_sem, y0, y1]) rfl ?_
  exact ⟨x, rfl, HEND.out⟩
end Go.Proofs.YtnjlbgolnbdkaaaGreat
