/- Texts of the proofs of Watched and Clocked, one behind the other. -/
import Derived.Test.YtnjlbgolnbdkaaaGreatM00
import Derived.Laws.CopyOwn
/- Texts of the proof of Boots, one behind the other. -/
namespace Go.Proofs.YtnjlbgolnbdkaaaGreat
open Go.RowKit

theorem Row.setCell {w : World} {b off g : Nat} {zs : List Int} (hr : Row w b off zs) (hne : b ≠ g) (o : Nat) (v : Value) : Row (w.setCell ⟨g, o, none⟩ v) b off zs := fun i hi => (World.cell?_of_block (Below.heap_setCell w ⟨g, o, none⟩ v b hne)).trans (hr i hi)
end Go.Proofs.YtnjlbgolnbdkaaaGreat
/- Texts of the proof of Boots, one behind the other. -/
namespace Go.Proofs.YtnjlbgolnbdkaaaGreat
open Go.RowKit

end Go.Proofs.YtnjlbgolnbdkaaaGreat
namespace Go.Proofs.YtnjlbgolnbdkaaaGreat

structure Rd where
  pos : Nat
  err : Int
  pl : Int
  fin : Int

def rdB (zs : List Int) (lo hi : Int) (r : Rd) : Int × Rd :=
  if r.err ≠ 0 then (lo, r)
  else if zs.length ≤ r.pos then (lo, { r with err := 2, pl := zs.length })
  else if zs.getD r.pos 0 < lo ∨ hi < zs.getD r.pos 0 then (lo, { r with err := 3, pl := r.pos })
  else (zs.getD r.pos 0, { r with pos := r.pos + 1 })
def rdNot (v bad : Int) (r : Rd) : Rd := if r.err = 0 ∧ v = bad then { r with err := 3, pl := (r.pos : Int) - 1 } else r

def rdTo {α : Type} (f : Rd → α × Rd) : Nat → Rd → List α × Rd
  | 0, r => ([], r)
  | k + 1, r => if (rdTo f k r).2.err ≠ 0 then rdTo f k r else ((rdTo f k r).1 ++ [(f (rdTo f k r).2).1], (f (rdTo f k r).2).2)
theorem rdTo_go {α : Type} (f : Rd → α × Rd) (k : Nat) (r : Rd) (h : (rdTo f k r).2.err = 0) : rdTo f (k + 1) r = ((rdTo f k r).1 ++ [(f (rdTo f k r).2).1], (f (rdTo f k r).2).2) := by
  show (if (rdTo f k r).2.err ≠ 0 then _ else _) = _
  rw [if_neg (by simpa using h)]
theorem rdTo_stop {α : Type} (f : Rd → α × Rd) (k : Nat) (r : Rd) (h : (rdTo f k r).2.err ≠ 0) : ∀ j, k ≤ j → rdTo f j r = rdTo f k r := by
  intro j hj
  induction j with
  | zero => obtain rfl : k = 0 := by omega
            rfl
  | succ j ih =>
    by_cases he : k = j + 1
    · rw [he]
    · have := ih (by omega)
      show (if (rdTo f j r).2.err ≠ 0 then _ else _) = _
      rw [this, if_pos h]

def rdIns (zs : List Int) (n : Int) (r : Rd) : (Int × Int) × Rd :=
  (((rdB zs 0 13 r).1, (rdB zs 0 (if (rdB zs 0 13 r).1 = 4 then n - 1 else 255) (rdB zs 0 13 r).2).1), (rdB zs 0 (if (rdB zs 0 13 r).1 = 4 then n - 1 else 255) (rdB zs 0 13 r).2).2)
structure Pr where
  prio : Int
  code : List (Int × Int)
def rdProc (zs : List Int) (r : Rd) : Pr × Rd :=
  (⟨(rdB zs 0 9 r).1, (rdTo (rdIns zs (rdB zs 1 20 (rdB zs 0 9 r).2).1) (rdB zs 1 20 (rdB zs 0 9 r).2).1.toNat (rdB zs 1 20 (rdB zs 0 9 r).2).2).1⟩,
    (rdTo (rdIns zs (rdB zs 1 20 (rdB zs 0 9 r).2).1) (rdB zs 1 20 (rdB zs 0 9 r).2).1.toNat (rdB zs 1 20 (rdB zs 0 9 r).2).2).2)

theorem rdB_val (zs : List Int) (lo hi : Int) (r : Rd) (h : lo ≤ hi) : lo ≤ (rdB zs lo hi r).1 ∧ (rdB zs lo hi r).1 ≤ hi := by
  unfold rdB
  split
  · exact ⟨Int.le_refl _, h⟩
  · split
    · exact ⟨Int.le_refl _, h⟩
    · split
      · exact ⟨Int.le_refl _, h⟩
      · simp only; omega
theorem rdB_ok (zs : List Int) (lo hi : Int) (r : Rd) (h : (rdB zs lo hi r).2.err = 0) : r.err = 0 ∧ r.pos < zs.length ∧ (rdB zs lo hi r).1 = zs.getD r.pos 0 ∧ lo ≤ zs.getD r.pos 0 ∧ zs.getD r.pos 0 ≤ hi ∧ (rdB zs lo hi r).2.pos = r.pos + 1 := by
  unfold rdB at *
  split at h
  · rename_i h1; exact absurd h h1
  · rename_i h1
    split at h
    · simp at h
    · rename_i h2
      split at h
      · simp at h
      · rename_i h3
        rw [if_neg h1, if_neg h2, if_neg h3]
        exact ⟨by simpa using h1, by omega, rfl, by omega, by omega, rfl⟩
theorem rdB_le (zs : List Int) (lo hi : Int) (r : Rd) (h : r.pos ≤ zs.length) : (rdB zs lo hi r).2.pos ≤ zs.length := by
  unfold rdB
  split
  · exact h
  · split
    · exact h
    · split
      · exact h
      · simp only; omega
end Go.Proofs.YtnjlbgolnbdkaaaGreat
namespace Go.Proofs.YtnjlbgolnbdkaaaGreat
open Go.RowKit

def handCells (p : Nat → Value) (vI vW : Value) (n : Int) (vs : Nat → Value) : Array Value := #[p 0, p 1, p 2, p 3, p 4, vI, vW, .int .i64 n, vs 3, vs 4, vs 5, vs 6, vs 7, vs 8, vs 9, vs 10, vs 11, vs 12, vs 13, vs 14, vs 15, vs 16, vs 17, vs 18, vs 19, vs 20]

structure Touch (S : Nat → Prop) (w w' : World) : Prop where
  os : w'.os = w.os
  tape : w'.tape = w.tape
  output : w'.output = w.output
  size : w.heap.size ≤ w'.heap.size
  block : ∀ k, k < w.heap.size → ¬ S k → w'.heap[k]? = w.heap[k]?
theorem Touch.refl (S : Nat → Prop) (w : World) : Touch S w w := ⟨rfl, rfl, rfl, Nat.le_refl _, fun _ _ _ => rfl⟩
theorem Touch.trans {S T : Nat → Prop} {a b c : World} (h : Touch S a b) (k : Touch T b c) (hT : ∀ i, T i → S i ∨ a.heap.size ≤ i) : Touch S a c :=
  ⟨k.os.trans h.os, k.tape.trans h.tape, k.output.trans h.output, Nat.le_trans h.size k.size, fun i hi hs => (k.block i (Nat.lt_of_lt_of_le hi h.size) (fun ht => by rcases hT i ht with h1 | h1; exact hs h1; omega)).trans (h.block i hi hs)⟩
theorem Touch.ofBelow {S : Nat → Prop} {a b : World} (h : Below a.heap.size a b) : Touch S a b := ⟨h.os, h.tape, h.output, h.size, fun k hk _ => h.block k hk⟩
theorem Touch.ofGrown {S : Nat → Prop} {a b : World} {row : Option Nat} (h : a.grownBy b row) (hr : ∀ k, row = some k → S k ∨ a.heap.size ≤ k) : Touch S a b :=
  ⟨h.os, h.tape, h.output, h.size, fun k hk hs => h.block k hk (fun e => by rcases hr k e.symm with h1 | h1; exact hs h1; omega)⟩
theorem Touch.ofSet {S : Nat → Prop} (a : World) (g o : Nat) (v : Value) (hg : S g) : Touch S a (a.setCell ⟨g, o, none⟩ v) :=
  ⟨rfl, rfl, rfl, by simp [World.setCell], fun k _ hs => Below.heap_setCell a ⟨g, o, none⟩ v k (fun e => hs (by simp at e; rw [e]; exact hg))⟩
theorem Touch.ofDrewN {S : Nat → Prop} (a : World) (n : Nat) : Touch S a (a.drewN n) := ⟨rfl, rfl, rfl, Nat.le_refl _, fun _ _ _ => rfl⟩
theorem Touch.below {S : Nat → Prop} {a b : World} {B : Nat} (h : Touch S a b) (hB : B ≤ a.heap.size) (hS : ∀ k, S k → B ≤ k) : Below B a b :=
  ⟨h.os, h.tape, h.output, h.size, fun k hk => h.block k (by omega) (fun hs => by have := hS k hs; omega)⟩
theorem Touch.mono {S T : Nat → Prop} {a b : World} (h : Touch S a b) (hT : ∀ k, S k → T k) : Touch T a b := ⟨h.os, h.tape, h.output, h.size, fun k hk ht => h.block k hk (fun hs => ht (hT k hs))⟩

theorem block_set {w : World} {g : Nat} {cs : Array Value} {t : TypeId} (hb : w.heap[g]? = some (.cells cs t (0, 0))) (o : Nat) (v : Value) : (w.setCell ⟨g, o, none⟩ v).heap[g]? = some (.cells (cs.setIfInBounds o v) t (0, 0)) := by
  have hlt : g < w.heap.size := by
    rcases Nat.lt_or_ge g w.heap.size with h | h
    · exact h
    · rw [Array.getElem?_eq_none h] at hb; cases hb
  simp only [World.setCell, Array.getElem?_modify, if_true, hb, Option.map]
  rfl
theorem free_of_block {w : World} {g : Nat} {cs : Array Value} {t : TypeId} (hb : w.heap[g]? = some (.cells cs t (0, 0))) (o : Nat) : w.frozen? ⟨g, o, none⟩ = false := by
  simp [World.frozen?, hb]

structure Held (w : World) (ao : Option Addr) (n cap : Nat) (zs : List Int) : Prop where
  len : zs.length = n
  cap1 : n ≤ cap
  cap2 : cap ≤ 9223372036854775807
  bytes : Bytes zs
  none : ao = Option.none → cap = 0
  cells : ∀ ad, ao = some ad → ∀ j u, (vals zs)[j]? = some u → w.cell? (ad.add j) = some u
  lt : ∀ ad, ao = some ad → 0 < n → ad.block < w.heap.size

theorem add_block (ad : Addr) (j : Nat) : (ad.add j).block = ad.block := by unfold Addr.add; split <;> rfl
theorem Held.touch {S : Nat → Prop} {w w' : World} {ao : Option Addr} {n cap : Nat} {zs : List Int} (h : Held w ao n cap zs) (t : Touch S w w') (hS : ∀ ad, ao = some ad → 0 < n → ¬ S ad.block) : Held w' ao n cap zs := by
  refine ⟨h.len, h.cap1, h.cap2, h.bytes, h.none, ?_, fun ad e hn => Nat.lt_of_lt_of_le (h.lt ad e hn) t.size⟩
  intro ad e j u hu
  have hn : 0 < n := by
    have hj : j < (vals zs).length := (List.getElem?_eq_some_iff.1 hu).1
    rw [vals_length, h.len] at hj
    omega
  rw [World.cell?_of_block (w := w) (t.block _ (by rw [add_block]; exact h.lt ad e hn) (by rw [add_block]; exact hS ad e hn))]
  exact h.cells ad e j u hu
theorem Tryz.info22 : (Tryz.prog.info? 22).map (fun i => (i.zero, i.size, i.bytes)) = some (some (.slice none 0 0), 1, 24) := by kernel_rfl

end Go.Proofs.YtnjlbgolnbdkaaaGreat
