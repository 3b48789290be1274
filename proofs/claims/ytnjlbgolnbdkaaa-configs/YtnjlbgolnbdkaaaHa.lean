/- The hands: what is lent comes back; what came out is kept. Notions, and the small methods. -/
import Derived.Test.YtnjlbgolnbdkaaaRd
import Derived.Laws.CopyOwn
namespace Go.Proofs.Ytnjlbgolnbdkaaa
open Go.RowKit

def nilV : Value := .slice none 0 0
/- the twenty-one cells of a Hands: what is lent, what stood in front, how many marks; and the families, from 3 on -/
def handCells (vI vW : Value) (n : Int) (vs : Nat → Value) : Array Value := #[vI, vW, .int .i64 n, vs 3, vs 4, vs 5, vs 6, vs 7, vs 8, vs 9, vs 10, vs 11, vs 12, vs 13, vs 14, vs 15, vs 16, vs 17, vs 18, vs 19, vs 20]

/- what is not in S, of what there was, is as it was -/
structure Touch (S : Nat → Prop) (w w' : World) : Prop where
  os : w'.os = w.os
  tape : w'.tape = w.tape
  output : w'.output = w.output
  size : w.heap.size ≤ w'.heap.size
  block : ∀ k, k < w.heap.size → ¬ S k → w'.heap[k]? = w.heap[k]?
theorem Touch.refl (S : Nat → Prop) (w : World) : Touch S w w := ⟨rfl, rfl, rfl, Nat.le_refl _, fun _ _ _ => rfl⟩
theorem Touch.trans {S T : Nat → Prop} {a b c : World} (h : Touch S a b) (k : Touch T b c) (hT : ∀ i, T i → S i ∨ a.heap.size ≤ i) : Touch S a c :=
  ⟨k.os.trans h.os, k.tape.trans h.tape, k.output.trans h.output, Nat.le_trans h.size k.size, fun i hi hs => (k.block i (Nat.lt_of_lt_of_le hi h.size) (fun ht => by rcases hT i ht with h1 | h1; exact hs h1; omega)).trans (h.block i hi hs)⟩
theorem Touch.ofBelow {S : Nat → Prop} {a b : World} (h : Below a.heap.size a b) : Touch S a b := ⟨h.os, h.tape, h.output, h.size, fun k hk _ => h.block k hk⟩
theorem Touch.ofGrown {S : Nat → Prop} {a b : World} {row : Option Nat} (h : a.grownBy b row) (hr : ∀ k, row = some k → S k ∨ a.heap.size ≤ k) : Touch S a b :=
  ⟨h.os, h.tape, h.output, h.size, fun k hk hs => h.block k hk (fun e => by rcases hr k e.symm with h1 | h1; exact hs h1; omega)⟩
theorem Touch.ofSet {S : Nat → Prop} (a : World) (g o : Nat) (v : Value) (hg : S g) : Touch S a (a.setCell ⟨g, o, none⟩ v) :=
  ⟨rfl, rfl, rfl, by simp [World.setCell], fun k _ hs => Below.heap_setCell a ⟨g, o, none⟩ v k (fun e => hs (by simp at e; rw [e]; exact hg))⟩
theorem Touch.ofDrewN {S : Nat → Prop} (a : World) (n : Nat) : Touch S a (a.drewN n) := ⟨rfl, rfl, rfl, Nat.le_refl _, fun _ _ _ => rfl⟩
theorem Touch.below {S : Nat → Prop} {a b : World} {B : Nat} (h : Touch S a b) (hB : B ≤ a.heap.size) (hS : ∀ k, S k → B ≤ k) : Below B a b :=
  ⟨h.os, h.tape, h.output, h.size, fun k hk => h.block k (by omega) (fun hs => by have := hS k hs; omega)⟩
theorem Touch.mono {S T : Nat → Prop} {a b : World} (h : Touch S a b) (hT : ∀ k, S k → T k) : Touch T a b := ⟨h.os, h.tape, h.output, h.size, fun k hk ht => h.block k hk (fun hs => ht (hT k hs))⟩

/- a whole block behind a store into it -/
theorem block_set {w : World} {g : Nat} {cs : Array Value} {t : TypeId} (hb : w.heap[g]? = some (.cells cs t (0, 0))) (o : Nat) (v : Value) : (w.setCell ⟨g, o, none⟩ v).heap[g]? = some (.cells (cs.setIfInBounds o v) t (0, 0)) := by
  have hlt : g < w.heap.size := by
    rcases Nat.lt_or_ge g w.heap.size with h | h
    · exact h
    · rw [Array.getElem?_eq_none h] at hb; cases hb
  simp only [World.setCell, Array.getElem?_modify, if_true, hb, Option.map]
  rfl
theorem free_of_block {w : World} {g : Nat} {cs : Array Value} {t : TypeId} (hb : w.heap[g]? = some (.cells cs t (0, 0))) (o : Nat) : w.frozen? ⟨g, o, none⟩ = false := by
  simp [World.frozen?, hb]

set_option maxHeartbeats 1000000 in
theorem mark_any (hb : Nat) (vI vW : Value) (n : Int) (vs : Nat → Value) (w : World) (hB : w.heap[hb]? = some (.cells (handCells vI vW n vs) 41 (0, 0))) (h0 : 0 ≤ n) (h1 : n ≤ 1000000) :
    Calls Try.prog 34 #[.pointer (some ⟨hb, 0, none⟩)] w fun e w' => e = .returned (.int .i64 (-77000000 - (n + 1))) ∧ w'.heap[hb]? = some (.cells (handCells vI vW (n + 1) vs) 41 (0, 0)) ∧ Touch (· = hb) w w' := by
  have c2 : w.cell? ⟨hb, 2, none⟩ = some (.int .i64 n) := by rw [cell_of_row _ _ _ _ _ _ hB]; rfl
  have f2 := free_of_block hB 2
  have HB := hide hB
  clear hB
  go_enter Try.func34, Try.ntmps34
  go_wp2
  go_ret
  exact ⟨rfl, block_set HB.out 2 _, Touch.ofSet w hb 2 _ rfl⟩

/- bytes that are handed in: whatever slice holds them -/
structure Held (w : World) (ao : Option Addr) (n cap : Nat) (zs : List Int) : Prop where
  len : zs.length = n
  cap1 : n ≤ cap
  cap2 : cap ≤ 9223372036854775807
  bytes : Bytes zs
  none : ao = Option.none → cap = 0
  cells : ∀ ad, ao = some ad → ∀ j u, (vals zs)[j]? = some u → w.cell? (ad.add j) = some u
  lt : ∀ ad, ao = some ad → 0 < n → ad.block < w.heap.size

theorem add_block (ad : Addr) (j : Nat) : (ad.add j).block = ad.block := by unfold Addr.add; split <;> rfl
theorem Held.touch {S : Nat → Prop} {w w' : World} {ao : Option Addr} {n cap : Nat} {zs : List Int} (h : Held w ao n cap zs) (t : Touch S w w') (hS : ∀ ad, ao = some ad → 0 < n → ¬ S ad.block) : Held w' ao n cap zs := by
  refine ⟨h.len, h.cap1, h.cap2, h.bytes, h.none, ?_, fun ad e hn => Nat.lt_of_lt_of_le (h.lt ad e hn) t.size⟩
  intro ad e j u hu
  have hn : 0 < n := by
    have hj : j < (vals zs).length := (List.getElem?_eq_some_iff.1 hu).1
    rw [vals_length, h.len] at hj
    omega
  rw [World.cell?_of_block (w := w) (t.block _ (by rw [add_block]; exact h.lt ad e hn) (by rw [add_block]; exact hS ad e hn))]
  exact h.cells ad e j u hu
theorem Try.info24 : (Try.prog.info? 24).map (fun i => (i.zero, i.size, i.bytes)) = some (some (.slice none 0 0), 1, 24) := by kernel_rfl

theorem own_block {w : World} {base g n : Nat} {xs : List Value} {e : TypeId} (h : w.ownsRow base e 1 (.slice (some ⟨g, 0, none⟩) n n) n xs) : w.heap[g]? = some (.cells xs.toArray e (0, 0)) ∧ base ≤ g := by
  obtain ⟨h1, h2⟩ := h
  rcases h2 with ⟨h2, _⟩ | ⟨g', cap, cur, hv, hb, hh, _, _, hs, ht⟩
  · cases h2
  · simp at hv
    obtain ⟨rfl, rfl⟩ := hv
    rw [List.take_of_length_le (by simp; omega)] at ht
    rw [hh, ← ht]
    exact ⟨rfl, hb⟩
end Go.Proofs.Ytnjlbgolnbdkaaa
