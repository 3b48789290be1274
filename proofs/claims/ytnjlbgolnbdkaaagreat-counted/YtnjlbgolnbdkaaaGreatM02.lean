/- Texts of the proofs of Watched and Clocked, one behind the other. -/
import Derived.Test.YtnjlbgolnbdkaaaGreatM01
import Derived.Deep.RegionWith
import Derived.Deep.CutRange
import Derived.OpenShut
import Derived.Laws.CopyOwn
/- Texts of the proof of Boots, one behind the other. -/
namespace Go.Proofs.YtnjlbgolnbdkaaaGreat
open Go.RowKit

end Go.Proofs.YtnjlbgolnbdkaaaGreat
namespace Go.Proofs.YtnjlbgolnbdkaaaGreat
open Go.RowKit

theorem Held.drewN {w : World} {ao : Option Addr} {n cap : Nat} {zs : List Int} (h : Held w ao n cap zs) (k : Nat) : Held (w.drewN k) ao n cap zs := ⟨h.len, h.cap1, h.cap2, h.bytes, h.none, h.cells, h.lt⟩

end Go.Proofs.YtnjlbgolnbdkaaaGreat
namespace Go.Proofs.YtnjlbgolnbdkaaaGreat
open Go.RowKit

structure Kept where
  v : Value
  mark : Int

structure Fam (eB eM : TypeId) (mv : Int → Value) (C : World → Kept → Prop) (a : Nat) (L : Nat → Nat) (base : Nat) (vB vM : Value) (A M : List Kept) (w : World) : Prop where
  own : w.ownsRow base eB 1 vB A.length (A.map Kept.v)
  lab : ∀ b, vB.ownBlock = some b → L b = a + 1
  ownM : w.ownsRow base eM 1 vM M.length (M.map fun k => mv k.mark)
  labM : ∀ b, vM.ownBlock = some b → L b = a + 2
  kept : ∀ k ∈ A, (∀ b, k.v.ownBlock = some b → L b = a + 3 ∧ base ≤ b ∧ b < w.heap.size) ∧ C w k

def Local (C : World → Kept → Prop) : Prop := ∀ (w w' : World) (k : Kept), (∀ b, k.v.ownBlock = some b → w'.heap[b]? = w.heap[b]?) → C w k → C w' k

theorem own_same {w w' : World} {base : Nat} {e : TypeId} {v : Value} {n : Nat} {xs : List Value} (h : w.ownsRow base e 1 v n xs) (hs : ∀ b, v.ownBlock = some b → w'.heap[b]? = w.heap[b]?) : w'.ownsRow base e 1 v n xs := by
  obtain ⟨h1, h2⟩ := h
  rcases h2 with h2 | ⟨g, cap, cur, hv, hb, hh, r⟩
  · exact ⟨h1, .inl h2⟩
  · exact ⟨h1, .inr ⟨g, cap, cur, hv, hb, by rw [hs g (by rw [hv]; rfl)]; exact hh, r⟩⟩

variable {eB eM : TypeId} {mv : Int → Value} {C : World → Kept → Prop} {a : Nat} {L L' : Nat → Nat} {base : Nat} {vB vM : Value} {A M : List Kept} {w w' : World}

theorem Fam.touch {S : Nat → Prop} (h : Fam eB eM mv C a L base vB vM A M w) (hC : Local C) (t : Touch S w w') (hS : ∀ k, k < w.heap.size → S k → L k ≤ a ∨ a + 3 < L k) : Fam eB eM mv C a L base vB vM A M w' := by
  have same : ∀ b, b < w.heap.size → (L b = a + 1 ∨ L b = a + 2 ∨ L b = a + 3) → w'.heap[b]? = w.heap[b]? := fun b hb hl => t.block b hb (fun hs => by have := hS b hb hs; omega)
  refine ⟨own_same h.own fun b e => same b (h.own.lt b e).2 (.inl (h.lab b e)), h.lab, own_same h.ownM fun b e => same b (h.ownM.lt b e).2 (.inr (.inl (h.labM b e))), h.labM, ?_⟩
  intro k hk
  obtain ⟨h1, h2⟩ := h.kept k hk
  refine ⟨fun b e => ⟨(h1 b e).1, (h1 b e).2.1, Nat.lt_of_lt_of_le (h1 b e).2.2 t.size⟩, hC w w' k (fun b e => same b (h1 b e).2.2 (.inr (.inr (h1 b e).1))) h2⟩

theorem Fam.relabel (h : Fam eB eM mv C a L base vB vM A M w) (hL : ∀ k, k < w.heap.size → L' k = L k) : Fam eB eM mv C a L' base vB vM A M w :=
  ⟨h.own, fun b e => by rw [hL b (h.own.lt b e).2]; exact h.lab b e, h.ownM, fun b e => by rw [hL b (h.ownM.lt b e).2]; exact h.labM b e,
    fun k hk => ⟨fun b e => by rw [hL b ((h.kept k hk).1 b e).2.2]; exact (h.kept k hk).1 b e, (h.kept k hk).2⟩⟩

theorem Fam.more {w1 : World} {o : Obj} {g cap : Nat} {k0 : Kept} (h : Fam eB eM mv C a L base vB vM A M w) (hC : Local C)
    (hk0 : (∀ b, k0.v.ownBlock = some b → L b = a + 3 ∧ base ≤ b ∧ b < w.heap.size) ∧ C w k0)
    (hown : w1.ownsRow base eB 1 (.slice (some ⟨g, 0, none⟩) (A.length + 1) cap) (A.length + 1) (A.map Kept.v ++ [k0.v])) (hg : (w.alloc o).grownBy w1 vB.ownBlock) (hat : vB.ownBlock = some g ∨ g = w.heap.size + 1) :
    ∃ L', (∀ k, k < w.heap.size → L' k = L k) ∧ Fam eB eM mv C a L' base (.slice (some ⟨g, 0, none⟩) (A.length + 1) cap) vM (A ++ [k0]) M w1 ∧ Touch (fun k => L k = a + 1) w w1 := by
  have t : Touch (fun k => L k = a + 1) w w1 := Touch.ofGrown (grown_alloc hg) (fun k e => .inl (h.lab k e))
  have hs : w.heap.size < w1.heap.size := by have := hg.size; simp at this; omega
  refine ⟨fun k => if k < w.heap.size then L k else a + 1, fun k hk => by simp [hk], ?_, t⟩
  have same : ∀ b, b < w.heap.size → (L b = a + 2 ∨ L b = a + 3) → w1.heap[b]? = w.heap[b]? := fun b hb hl => t.block b hb (fun hs => by omega)
  refine ⟨by simpa using hown, ?_, own_same h.ownM fun b e => same b (h.ownM.lt b e).2 (.inl (h.labM b e)), fun b e => by simp only [(h.ownM.lt b e).2, if_true]; exact h.labM b e, ?_⟩
  · intro b e
    simp [Value.ownBlock] at e
    subst e
    rcases hat with hat | hat
    · simp only [(h.own.lt g hat).2, if_true]; exact h.lab g hat
    · rw [if_neg (by omega)]
  · intro k hk
    have hkk : (∀ b, k.v.ownBlock = some b → L b = a + 3 ∧ base ≤ b ∧ b < w.heap.size) ∧ C w k := by
      rcases List.mem_append.1 hk with hk | hk
      · exact h.kept k hk
      · simp at hk; subst hk; exact hk0
    refine ⟨fun b e => ?_, hC w w1 k (fun b e => same b (hkk.1 b e).2.2 (.inr (hkk.1 b e).1)) hkk.2⟩
    have := hkk.1 b e
    exact ⟨by simp only [this.2.2, if_true]; exact this.1, this.2.1, by omega⟩

theorem Fam.moreM {w1 : World} {o : Obj} {g cap : Nat} {k0 : Kept} (h : Fam eB eM mv C a L base vB vM A M w) (hC : Local C)
    (hown : w1.ownsRow base eM 1 (.slice (some ⟨g, 0, none⟩) (M.length + 1) cap) (M.length + 1) ((M.map fun k => mv k.mark) ++ [mv k0.mark])) (hg : (w.alloc o).grownBy w1 vM.ownBlock) (hat : vM.ownBlock = some g ∨ g = w.heap.size + 1) :
    ∃ L', (∀ k, k < w.heap.size → L' k = L k) ∧ Fam eB eM mv C a L' base vB (.slice (some ⟨g, 0, none⟩) (M.length + 1) cap) A (M ++ [k0]) w1 ∧ Touch (fun k => L k = a + 2) w w1 := by
  have t : Touch (fun k => L k = a + 2) w w1 := Touch.ofGrown (grown_alloc hg) (fun k e => .inl (h.labM k e))
  have hs : w.heap.size < w1.heap.size := by have := hg.size; simp at this; omega
  refine ⟨fun k => if k < w.heap.size then L k else a + 2, fun k hk => by simp [hk], ?_, t⟩
  have same : ∀ b, b < w.heap.size → (L b = a + 1 ∨ L b = a + 3) → w1.heap[b]? = w.heap[b]? := fun b hb hl => t.block b hb (fun hs => by omega)
  refine ⟨own_same h.own fun b e => same b (h.own.lt b e).2 (.inl (h.lab b e)), fun b e => by simp only [(h.own.lt b e).2, if_true]; exact h.lab b e, by simpa using hown, ?_, ?_⟩
  · intro b e
    simp [Value.ownBlock] at e
    subst e
    rcases hat with hat | hat
    · simp only [(h.ownM.lt g hat).2, if_true]; exact h.labM g hat
    · rw [if_neg (by omega)]
  · intro k hk
    obtain ⟨h1, h2⟩ := h.kept k hk
    refine ⟨fun b e => ?_, hC w w1 k (fun b e => same b (h1 b e).2.2 (.inr (h1 b e).1)) h2⟩
    have := h1 b e
    exact ⟨by simp only [this.2.2, if_true]; exact this.1, this.2.1, by omega⟩
end Go.Proofs.YtnjlbgolnbdkaaaGreat
/- Texts of the proof of Boots, one behind the other. -/
namespace Go.Proofs.YtnjlbgolnbdkaaaGreat
open Go.RowKit

theorem held_row {w : World} {ao : Option Addr} {n cap : Nat} {zs : List Int} (h : Held w ao n cap zs) (hn : 0 < n) : ∃ b off, ao = some ⟨b, off, none⟩ ∧ Row w b off zs := by
  cases ao with
  | none => have := h.none rfl; have := h.cap1; omega
  | some ad =>
    obtain ⟨b, off, rfl, hr⟩ := ints_at (w := w) (a := ad) (k := .u8) (zs := zs) (fun i hi => h.cells ad rfl i _ (by simp [vals, List.getD_eq_getElem?_getD, List.getElem?_eq_getElem hi])) (by rw [h.len]; exact hn)
    exact ⟨b, off, rfl, hr⟩
theorem lt_of_cell {w : World} {b o : Nat} {v : Value} (h : w.cell? ⟨b, o, none⟩ = some v) : b < w.heap.size := by
  rcases Nat.lt_or_ge b w.heap.size with h1 | h1
  · exact h1
  · simp [World.cell?, Array.getElem?_eq_none h1] at h
end Go.Proofs.YtnjlbgolnbdkaaaGreat
namespace Go.Proofs.YtnjlbgolnbdkaaaGreat
open Go.RowKit

def RdObj (bv : Value) (r : Rd) : Obj := .cells #[bv, .int .i64 r.pos, .int .i64 r.err, .int .i64 r.pl] 230 (0, 0)
structure RdAt (rb : Nat) (ao : Option Addr) (n cap : Nat) (zs : List Int) (r : Rd) (w : World) : Prop where
  obj : w.heap[rb]? = some (RdObj (.slice ao n cap) r)
  held : Held w ao n cap zs
  apart : ∀ ad, ao = some ad → 0 < n → ad.block ≠ rb
  small : n ≤ 140737488351232
  pos : r.pos ≤ n
theorem RdAt.touch {rb : Nat} {ao : Option Addr} {n cap : Nat} {zs : List Int} {r : Rd} {w w' : World} (h : RdAt rb ao n cap zs r w) {B : Nat} (b : Below B w w') (hb : rb < B) (hz : ∀ ad, ao = some ad → 0 < n → ad.block < B) : RdAt rb ao n cap zs r w' :=
  ⟨(b.block rb hb).trans h.obj, h.held.touch (S := fun k => B ≤ k) ⟨b.os, b.tape, b.output, b.size, fun k _ hs => b.block k (by omega)⟩ (fun ad e hn hs => by have := hz ad e hn; omega), h.apart, h.small, h.pos⟩

end Go.Proofs.YtnjlbgolnbdkaaaGreat
namespace Go.Proofs.YtnjlbgolnbdkaaaGreat
open Go.RowKit

theorem Tryz.info210 : (Tryz.prog.info? 210).map (fun i => (i.zero, i.size, i.bytes)) = some (some (.agg #[.int .i64 0, .int .i64 0]), 2, 16) := by kernel_rfl
def insCells (code : List (Int × Int)) : List Value := code.flatMap fun c => [.int .i64 c.1, .int .i64 c.2]
theorem insCells_snoc (code : List (Int × Int)) (c : Int × Int) : insCells (code ++ [c]) = insCells code ++ [.int .i64 c.1, .int .i64 c.2] := by simp [insCells]
def CodeV (base : Nat) (v : Value) (code : List (Int × Int)) (w : World) : Prop := w.ownsRow base 210 2 v code.length (insCells code)
theorem own_keep {w w' : World} {base : Nat} {e : TypeId} {size : Nat} {v : Value} {n : Nat} {xs : List Value} (h : w.ownsRow base e size v n xs) (hs : ∀ b, v.ownBlock = some b → w'.heap[b]? = w.heap[b]?) : w'.ownsRow base e size v n xs := by
  obtain ⟨h1, h2⟩ := h
  rcases h2 with h2 | ⟨g, cap, cur, hv, hb, hh, r⟩
  · exact ⟨h1, .inl h2⟩
  · exact ⟨h1, .inr ⟨g, cap, cur, hv, hb, by rw [hs g (by rw [hv]; rfl)]; exact hh, r⟩⟩
theorem ints_one (xs : List Value) (h : ∀ u ∈ xs, ∃ k a, u = .int k a) : ∀ u ∈ xs, u.oneCell' = true := by
  intro u hu
  obtain ⟨k, a, rfl⟩ := h u hu
  rfl
end Go.Proofs.YtnjlbgolnbdkaaaGreat
/- Texts of the proof of Boots, one behind the other. -/
namespace Go.Proofs.YtnjlbgolnbdkaaaGreat
open Go.RowKit

structure Pt where
  sys : Bool
  words : Int
  limit : Int
  acts : List Int
  procs : List Pr
def rdAct (zs : List Int) (c : Nat) (r : Rd) : Int × Rd := ((rdB zs 1 7 r).1, if c = 5 then rdNot (rdB zs 1 7 r).1 3 (rdNot (rdB zs 1 7 r).1 2 (rdB zs 1 7 r).2) else (rdB zs 1 7 r).2)
def rdActs (zs : List Int) : Nat → Rd → List Int × Rd
  | 0, r => ([], r)
  | k + 1, r => ((rdActs zs k r).1 ++ [(rdAct zs k (rdActs zs k r).2).1], (rdAct zs k (rdActs zs k r).2).2)
def rdPart (zs : List Int) (r : Rd) : Pt × Rd :=
  let r1 := (rdB zs 0 1 r).2
  let r2 := (rdB zs 1 16 r1).2
  let r3 := (rdB zs 0 9 r2).2
  let r4 := (rdActs zs 6 r3).2
  let r5 := (rdB zs 1 2 r4).2
  (⟨(rdB zs 0 1 r).1 == 1, (rdB zs 1 16 r1).1, (rdB zs 0 9 r2).1, (rdActs zs 6 r3).1, (rdTo (rdProc zs) (rdB zs 1 2 r4).1.toNat r5).1⟩, (rdTo (rdProc zs) (rdB zs 1 2 r4).1.toNat r5).2)
theorem rdActs_length (zs : List Int) (k : Nat) (r : Rd) : (rdActs zs k r).1.length = k := by
  induction k with
  | zero => rfl
  | succ k ih => show ((rdActs zs k r).1 ++ [_]).length = k + 1; simp [ih]

theorem Tryz.info190 : (Tryz.prog.info? 190).map (fun i => (i.zero, i.size, i.bytes)) = some (some (.agg #[.int .i64 0, .slice none 0 0]), 2, 32) := by kernel_rfl
def procCells (l : List (Pr × Value)) : List Value := l.flatMap fun p => [.int .i64 p.1.prio, p.2]
theorem procCells_snoc (l : List (Pr × Value)) (p : Pr × Value) : procCells (l ++ [p]) = procCells l ++ [.int .i64 p.1.prio, p.2] := by simp [procCells]
def ProcsV (base : Nat) (v : Value) (ps : List Pr) (w : World) : Prop := ∃ l : List (Pr × Value), l.map Prod.fst = ps ∧ w.ownsRow base 190 2 v l.length (procCells l) ∧ ∀ p ∈ l, CodeV base p.2 p.1.code w

theorem CodeV.keep {base : Nat} {v : Value} {code : List (Int × Int)} {w w' : World} (h : CodeV base v code w) (hs : ∀ b, base ≤ b → b < w.heap.size → (∃ cur, w.heap[b]? = some (.cells cur 210 (0, 0))) → w'.heap[b]? = w.heap[b]?) : CodeV base v code w' := by
  refine own_keep h (fun b e => ?_)
  have hb := World.ownsRow.lt h b e
  refine hs b hb.1 hb.2 ?_
  rcases h.2 with ⟨h1, _⟩ | ⟨g, cap, cur, hv, _, hh, _⟩
  · rw [h1] at e; simp [Value.ownBlock] at e
  · rw [hv] at e; simp [Value.ownBlock] at e; subst e; exact ⟨cur, hh⟩
theorem CodeV.base {base base' : Nat} {v : Value} {code : List (Int × Int)} {w : World} (h : CodeV base v code w) (hb : base' ≤ base) : CodeV base' v code w := by
  obtain ⟨h1, h2⟩ := h
  rcases h2 with h2 | ⟨g', cap, cur, hv, hb', rest⟩
  · exact ⟨h1, .inl h2⟩
  · exact ⟨h1, .inr ⟨g', cap, cur, hv, by omega, rest⟩⟩
theorem ProcsV.keep {base : Nat} {v : Value} {ps : List Pr} {w w' : World} (h : ProcsV base v ps w) (hs : ∀ b, base ≤ b → b < w.heap.size → (∃ cur t, (t = 210 ∨ t = 190) ∧ w.heap[b]? = some (.cells cur t (0, 0))) → w'.heap[b]? = w.heap[b]?) : ProcsV base v ps w' := by
  obtain ⟨l, h1, h2, h3⟩ := h
  refine ⟨l, h1, own_keep h2 (fun b e => ?_), fun p hp => (h3 p hp).keep (fun b h1 h2 ⟨cur, h⟩ => hs b h1 h2 ⟨cur, 210, .inl rfl, h⟩)⟩
  have hb := World.ownsRow.lt h2 b e
  refine hs b hb.1 hb.2 ?_
  rcases h2.2 with ⟨h1, _⟩ | ⟨g, cap, cur, hv, _, hh, _⟩
  · rw [h1] at e; simp [Value.ownBlock] at e
  · rw [hv] at e; simp [Value.ownBlock] at e; subst e; exact ⟨cur, 190, .inr rfl, hh⟩
theorem ProcsV.base {base base' : Nat} {v : Value} {ps : List Pr} {w : World} (h : ProcsV base v ps w) (hb : base' ≤ base) : ProcsV base' v ps w := by
  obtain ⟨l, h1, h2, h3⟩ := h
  refine ⟨l, h1, ?_, fun p hp => (h3 p hp).base hb⟩
  obtain ⟨h1, h2⟩ := h2
  rcases h2 with h2 | ⟨g', cap, cur, hv, hb', rest⟩
  · exact ⟨h1, .inl h2⟩
  · exact ⟨h1, .inr ⟨g', cap, cur, hv, by omega, rest⟩⟩

def ptCells (s : Bool) (wd lm : Int) (a : Nat → Int) (v : Value) : Array Value := #[.bool s, .int .i64 wd, .int .i64 lm, .int .i64 (a 0), .int .i64 (a 1), .int .i64 (a 2), .int .i64 (a 3), .int .i64 (a 4), .int .i64 (a 5), v]

theorem pt_set (s : Bool) (wd lm : Int) (f g : Nat → Int) (v : Value) (k : Nat) (a : Int) (hk6 : k < 6) (hk : g k = a) (h : ∀ i, i ≠ k → g i = f i) : (ptCells s wd lm f v).setIfInBounds (3 + k) (.int .i64 a) = ptCells s wd lm g v := by
  rcases (show k = 0 ∨ k = 1 ∨ k = 2 ∨ k = 3 ∨ k = 4 ∨ k = 5 from by omega) with rfl | rfl | rfl | rfl | rfl | rfl
  · show _ = ptCells s wd lm g v
    unfold ptCells
    rw [hk, h 1 (by decide), h 2 (by decide), h 3 (by decide), h 4 (by decide), h 5 (by decide)]
    rfl
  · show _ = ptCells s wd lm g v
    unfold ptCells
    rw [h 0 (by decide), hk, h 2 (by decide), h 3 (by decide), h 4 (by decide), h 5 (by decide)]
    rfl
  · show _ = ptCells s wd lm g v
    unfold ptCells
    rw [h 0 (by decide), h 1 (by decide), hk, h 3 (by decide), h 4 (by decide), h 5 (by decide)]
    rfl
  · show _ = ptCells s wd lm g v
    unfold ptCells
    rw [h 0 (by decide), h 1 (by decide), h 2 (by decide), hk, h 4 (by decide), h 5 (by decide)]
    rfl
  · show _ = ptCells s wd lm g v
    unfold ptCells
    rw [h 0 (by decide), h 1 (by decide), h 2 (by decide), h 3 (by decide), hk, h 5 (by decide)]
    rfl
  · show _ = ptCells s wd lm g v
    unfold ptCells
    rw [h 0 (by decide), h 1 (by decide), h 2 (by decide), h 3 (by decide), h 4 (by decide), hk]
    rfl
theorem acts_getD (l : List Int) (a : Int) (k : Nat) (hl : l.length = k) : (l ++ [a]).getD k 0 = a ∧ ∀ i, i ≠ k → (l ++ [a]).getD i 0 = l.getD i 0 := by
  subst hl
  refine ⟨by simp, fun i hi => ?_⟩
  simp only [List.getD_eq_getElem?_getD]
  rcases Nat.lt_or_ge i l.length with h | h
  · rw [List.getElem?_append_left h]
  · rw [List.getElem?_eq_none (by simp; omega), List.getElem?_eq_none h]

structure Making (rb : Nat) (ao : Option Addr) (n cap : Nat) (zs : List Int) (T : TypeId) (zero : Array Value) (w : World) (cells : Array Value) (r : Rd) (wr : World) : Prop where
  zero : wr.heap[w.heap.size]? = some (.cells zero T (0, 0))
  cur : wr.heap[w.heap.size + 1]? = some (.cells cells T (0, 0))
  rd : RdAt rb ao n cap zs r wr
  t : Touch (· = rb) w wr
section
variable {rb : Nat} {ao : Option Addr} {n cap : Nat} {zs : List Int} {T : TypeId} {zero : Array Value} {w : World} {cells : Array Value} {r r' : Rd} {wr w' : World}
theorem Making.byte (h : Making rb ao n cap zs T zero w cells r wr) (hrb : rb < w.heap.size) (hr : RdAt rb ao n cap zs r' w') (ht : Touch (· = rb) wr w') : Making rb ao n cap zs T zero w cells r' w' :=
  ⟨(ht.block _ (lt_of_block h.zero) (by omega)).trans h.zero, (ht.block _ (lt_of_block h.cur) (by omega)).trans h.cur, hr, Touch.trans (T := (· = rb)) h.t ht (fun i hi => .inl hi)⟩
theorem Making.set (h : Making rb ao n cap zs T zero w cells r wr) (hrb : rb < w.heap.size) (hlt : ∀ ad, ao = some ad → 0 < n → ad.block < w.heap.size) (o : Nat) (v : Value) : Making rb ao n cap zs T zero w (cells.setIfInBounds o v) r (wr.setCell ⟨w.heap.size + 1, o, none⟩ v) := by
  have t : Touch (· = w.heap.size + 1) wr (wr.setCell ⟨w.heap.size + 1, o, none⟩ v) := Touch.ofSet wr _ o v rfl
  exact ⟨(t.block _ (lt_of_block h.zero) (by omega)).trans h.zero, block_set h.cur o v, ⟨(t.block rb (lt_of_block h.rd.obj) (by omega)).trans h.rd.obj, h.rd.held.touch t (fun ad e hn hs => by have := hlt ad e hn; omega), h.rd.apart, h.rd.small, h.rd.pos⟩, Touch.trans (T := (· = w.heap.size + 1)) h.t t (fun i hi => .inr (by omega))⟩
theorem Making.below (h : Making rb ao n cap zs T zero w cells r wr) (hrb : rb < w.heap.size) (hlt : ∀ ad, ao = some ad → 0 < n → ad.block < w.heap.size) (b : Below (w.heap.size + 2) wr w') : Making rb ao n cap zs T zero w cells r w' :=
  ⟨(b.block _ (by omega)).trans h.zero, (b.block _ (by omega)).trans h.cur, h.rd.touch b (by omega) (fun ad e hn => by have := hlt ad e hn; omega), Touch.trans (T := fun k => w.heap.size + 2 ≤ k) h.t ⟨b.os, b.tape, b.output, b.size, fun k _ hk => b.block k (by omega)⟩ (fun i hi => .inr (by omega))⟩
theorem Making.start (hr : RdAt rb ao n cap zs r w) (zero cells : Array Value) (T : TypeId) : Making rb ao n cap zs T zero w cells r ((w.alloc (.cells zero T)).alloc (.cells cells T)) := by
  have hrb := lt_of_block hr.obj
  have b : Below w.heap.size w ((w.alloc (.cells zero T)).alloc (.cells cells T)) := ((Below.refl _ _).alloc (Nat.le_refl _) _).alloc (by simp) _
  have h2 := heap_alloc_new (w.alloc (.cells zero T)) (.cells cells T)
  rw [show (w.alloc (.cells zero T)).heap.size = w.heap.size + 1 from by simp] at h2
  exact ⟨(Below.heap_alloc _ _ _ (by simp)).trans (heap_alloc_new w _), h2, hr.touch b hrb hr.held.lt, Touch.ofBelow b⟩
end

end Go.Proofs.YtnjlbgolnbdkaaaGreat
namespace Go.Proofs.YtnjlbgolnbdkaaaGreat
open Go.RowKit

structure Wn where
  part : Int
  first : Int
  many : Int
structure Ch where
  src : Int
  dst : Int
  depth : Int
structure Cf where
  frame : Int
  watch : Int
  parts : List Pt
  wins : List Wn
  chans : List Ch
def rdWin (zs : List Int) (n frame : Int) (r : Rd) : Wn × Rd :=
  let a := rdB zs 0 (n - 1) r
  let b := rdB zs r.fin (frame - 1) a.2
  let c := rdB zs 1 (frame - b.1) b.2
  (⟨a.1, b.1, c.1⟩, { c.2 with fin := b.1 + c.1 })
def rdChan (zs : List Int) (n : Int) (r : Rd) : Ch × Rd :=
  let a := rdB zs 0 (n - 1) r
  let b := rdB zs 0 (n - 1) a.2
  let c := rdB zs 1 4 (rdNot b.1 a.1 b.2)
  (⟨a.1, b.1, c.1⟩, c.2)
def rdConf (zs : List Int) : Cf × Rd :=
  let r1 := (rdB zs 72 72 ⟨0, 0, 0, 0⟩).2
  let n := rdB zs 1 4 r1
  let f := rdB zs 1 64 n.2
  let wt := rdB zs 0 200 f.2
  let ps := rdTo (rdPart zs) n.1.toNat wt.2
  let m := rdB zs 1 8 ps.2
  let ws := rdTo (rdWin zs n.1 f.1) m.1.toNat { m.2 with fin := 0 }
  let k := rdB zs 0 4 ws.2
  let cs := rdTo (rdChan zs n.1) k.1.toNat k.2
  (⟨f.1, wt.1, ps.1, ws.1, cs.1⟩, cs.2)
def noCf : Cf := ⟨0, 0, [], [], []⟩
def parseOf (zs : List Int) : Cf × Int × Int :=
  let c := rdConf zs
  if c.2.err ≠ 0 then (noCf, c.2.pl, c.2.err)
  else if zs.length < c.2.pos + 4 then (noCf, zs.length, 2)
  else if numFrom 0 ((zs.drop c.2.pos).take 4) ≠ crcOf (zs.take c.2.pos) then (noCf, c.2.pos, 5)
  else if c.2.pos + 4 < zs.length then (noCf, (c.2.pos : Int) + 4, 4)
  else (c.1, 0, 0)

def ptsCells (l : List (Pt × Value)) : List Value := l.flatMap fun p => (ptCells p.1.sys p.1.words p.1.limit (fun i => p.1.acts.getD i 0) p.2).toList
theorem ptsCells_snoc (l : List (Pt × Value)) (p : Pt × Value) : ptsCells (l ++ [p]) = ptsCells l ++ (ptCells p.1.sys p.1.words p.1.limit (fun i => p.1.acts.getD i 0) p.2).toList := by simp [ptsCells]
def winCells (l : List Wn) : List Value := l.flatMap fun p => [.int .i64 p.part, .int .i64 p.first, .int .i64 p.many]
theorem winCells_snoc (l : List Wn) (p : Wn) : winCells (l ++ [p]) = winCells l ++ [.int .i64 p.part, .int .i64 p.first, .int .i64 p.many] := by simp [winCells]
def chanCells (l : List Ch) : List Value := l.flatMap fun p => [.int .i64 p.src, .int .i64 p.dst, .int .i64 p.depth]
theorem chanCells_snoc (l : List Ch) (p : Ch) : chanCells (l ++ [p]) = chanCells l ++ [.int .i64 p.src, .int .i64 p.dst, .int .i64 p.depth] := by simp [chanCells]
def PartsV (base : Nat) (v : Value) (ps : List Pt) (w : World) : Prop := ∃ l : List (Pt × Value), l.map Prod.fst = ps ∧ w.ownsRow base 124 10 v l.length (ptsCells l) ∧ ∀ p ∈ l, ProcsV base p.2 p.1.procs w
def WinsV (base : Nat) (v : Value) (l : List Wn) (w : World) : Prop := w.ownsRow base 131 3 v l.length (winCells l)
def ChansV (base : Nat) (v : Value) (l : List Ch) (w : World) : Prop := w.ownsRow base 142 3 v l.length (chanCells l)

def OfType (w : World) (b : Nat) (P : TypeId → Prop) : Prop := ∃ cur t, P t ∧ w.heap[b]? = some (.cells cur t (0, 0))
theorem own_of {w : World} {base : Nat} {e : TypeId} {size : Nat} {v : Value} {n : Nat} {xs : List Value} (h : w.ownsRow base e size v n xs) {b : Nat} (hb : v.ownBlock = some b) : ∃ cur, w.heap[b]? = some (.cells cur e (0, 0)) := by
  rcases h.2 with ⟨h1, _⟩ | ⟨g, cap, cur, hv, _, hh, _⟩
  · rw [h1] at hb; simp [Value.ownBlock] at hb
  · rw [hv] at hb; simp [Value.ownBlock] at hb; subst hb; exact ⟨cur, hh⟩
theorem own_type {w w' : World} {base : Nat} {e : TypeId} {size : Nat} {v : Value} {n : Nat} {xs : List Value} (h : w.ownsRow base e size v n xs) (hs : ∀ b, base ≤ b → b < w.heap.size → OfType w b (· = e) → w'.heap[b]? = w.heap[b]?) : w'.ownsRow base e size v n xs :=
  own_keep h (fun b hb => hs b (World.ownsRow.lt h b hb).1 (World.ownsRow.lt h b hb).2 (by obtain ⟨cur, hc⟩ := own_of h hb; exact ⟨cur, e, rfl, hc⟩))
theorem own_low {w : World} {base base' : Nat} {e : TypeId} {size : Nat} {v : Value} {n : Nat} {xs : List Value} (h : w.ownsRow base e size v n xs) (hb : base' ≤ base) : w.ownsRow base' e size v n xs := by
  obtain ⟨h1, h2⟩ := h
  rcases h2 with h2 | ⟨g', cap, cur, hv, hb', rest⟩
  · exact ⟨h1, .inl h2⟩
  · exact ⟨h1, .inr ⟨g', cap, cur, hv, by omega, rest⟩⟩
theorem PartsV.keep {base : Nat} {v : Value} {ps : List Pt} {w w' : World} (h : PartsV base v ps w) (hs : ∀ b, base ≤ b → b < w.heap.size → OfType w b (fun t => t = 124 ∨ t = 210 ∨ t = 190) → w'.heap[b]? = w.heap[b]?) : PartsV base v ps w' := by
  obtain ⟨l, h1, h2, h3⟩ := h
  refine ⟨l, h1, own_type h2 (fun b hb hl ⟨cur, t, ht, hc⟩ => hs b hb hl ⟨cur, t, .inl ht, hc⟩), fun p hp => (h3 p hp).keep (fun b hb hl ⟨cur, t, ht, hc⟩ => hs b hb hl ⟨cur, t, .inr ht, hc⟩)⟩
theorem PartsV.base {base base' : Nat} {v : Value} {ps : List Pt} {w : World} (h : PartsV base v ps w) (hb : base' ≤ base) : PartsV base' v ps w := by
  obtain ⟨l, h1, h2, h3⟩ := h
  exact ⟨l, h1, own_low h2 hb, fun p hp => (h3 p hp).base hb⟩
theorem own_slice {w : World} {base : Nat} {e : TypeId} {size : Nat} {v : Value} {n : Nat} {xs : List Value} (h : w.ownsRow base e size v n xs) : ∃ ad c, v = .slice ad n c := by
  rcases h.2 with ⟨h1, h2⟩ | ⟨g', cap', cur, hv, _⟩
  · exact ⟨none, 0, by rw [h1, h2]⟩
  · exact ⟨_, _, hv⟩
structure ConfV (base : Nat) (vP vW vC : Value) (cf : Cf) (w : World) : Prop where
  parts : PartsV base vP cf.parts w
  wins : WinsV base vW cf.wins w
  chans : ChansV base vC cf.chans w
theorem ConfV.keep {base : Nat} {vP vW vC : Value} {cf : Cf} {w w' : World} (h : ConfV base vP vW vC cf w) (hs : ∀ b, base ≤ b → b < w.heap.size → w'.heap[b]? = w.heap[b]?) : ConfV base vP vW vC cf w' :=
  ⟨h.parts.keep (fun b h1 h2 _ => hs b h1 h2), own_type h.wins (fun b h1 h2 _ => hs b h1 h2), own_type h.chans (fun b h1 h2 _ => hs b h1 h2)⟩
theorem ConfV.base {base base' : Nat} {vP vW vC : Value} {cf : Cf} {w : World} (h : ConfV base vP vW vC cf w) (hb : base' ≤ base) : ConfV base' vP vW vC cf w := ⟨h.parts.base hb, own_low h.wins hb, own_low h.chans hb⟩

end Go.Proofs.YtnjlbgolnbdkaaaGreat
namespace Go.Proofs.YtnjlbgolnbdkaaaGreat
open Go.RowKit

def flashCells (bs : List Int) (left res : Int) (dead : Bool) (done : Int) : List Value := vals bs ++ [.int .i64 left, .int .u8 res, .bool dead, .int .i64 done]
structure FlashAt (w : World) (g : Nat) (bs : List Int) (left res : Int) (dead : Bool) (done : Int) : Prop where
  blk : w.heap[g]? = some (.cells (flashCells bs left res dead done).toArray 80 (0, 0))
  len : bs.length = 256
  bytes : Bytes bs
theorem FlashAt.lt {w : World} {g : Nat} {bs : List Int} {left res : Int} {dead : Bool} {done : Int} (h : FlashAt w g bs left res dead done) : g < w.heap.size := lt_of_block h.blk
theorem FlashAt.keep {w w' : World} {g : Nat} {bs : List Int} {left res : Int} {dead : Bool} {done : Int} (h : FlashAt w g bs left res dead done) (hs : w'.heap[g]? = w.heap[g]?) : FlashAt w' g bs left res dead done := ⟨hs.trans h.blk, h.len, h.bytes⟩
theorem FlashAt.below {w w' : World} {g : Nat} {bs : List Int} {left res : Int} {dead : Bool} {done : Int} (h : FlashAt w g bs left res dead done) (hb : Below w.heap.size w w') : FlashAt w' g bs left res dead done := h.keep (hb.block g h.lt)
theorem FlashAt.byte {w : World} {g : Nat} {bs : List Int} {left res : Int} {dead : Bool} {done : Int} (h : FlashAt w g bs left res dead done) (i : Nat) (hi : i < 256) : w.cell? ⟨g, i, none⟩ = some (.int .u8 (bs.getD i 0)) := by
  have hl : i < bs.length := by rw [h.len]; exact hi
  rw [cell_of_row _ _ _ _ _ _ h.blk]
  simp only [flashCells, List.getElem?_toArray]
  rw [List.getElem?_append_left (by rw [vals_length]; exact hl)]
  simp [vals, List.getD_eq_getElem?_getD, hl]
theorem FlashAt.last {w : World} {g : Nat} {bs : List Int} {left res : Int} {dead : Bool} {done : Int} (h : FlashAt w g bs left res dead done) : w.cell? ⟨g, 256, none⟩ = some (.int .i64 left) ∧ w.cell? ⟨g, 257, none⟩ = some (.int .u8 res) ∧ w.cell? ⟨g, 258, none⟩ = some (.bool dead) ∧ w.cell? ⟨g, 259, none⟩ = some (.int .i64 done) := by
  have key : ∀ i, w.cell? ⟨g, 256 + i, none⟩ = [Value.int .i64 left, .int .u8 res, .bool dead, .int .i64 done][i]? := by
    intro i
    rw [cell_of_row _ _ _ _ _ _ h.blk]
    simp only [flashCells, List.getElem?_toArray]
    rw [List.getElem?_append_right (by rw [vals_length, h.len]; omega), vals_length, h.len]
    rw [show 256 + i - 256 = i from by omega]
  exact ⟨key 0, key 1, key 2, key 3⟩

theorem Below.thenSet {B : Nat} {a w : World} {g : Nat} (h : Below B a w) (hg : B ≤ g) (o : Nat) (v : Value) : Below B a (w.setCell ⟨g, o, none⟩ v) :=
  h.trans ⟨rfl, rfl, rfl, by simp [World.setCell], fun k hk => Below.heap_setCell w ⟨g, o, none⟩ v k (fun e => by simp at e; omega)⟩

def slotB (bs : List Int) (s i : Nat) : List Int := (bs.drop (128 * s + 16 * i)).take 16
def kindAt (bs : List Int) (s i : Nat) : Int := sortKind (slotB bs s i)
def recOf (bs : List Int) (s i : Nat) : Nat → Int := sortRec (slotB bs s i)
theorem slotB_length (bs : List Int) (s i : Nat) (hl : bs.length = 256) (hs : s < 2) (hi : i < 8) : (slotB bs s i).length = 16 := by
  unfold slotB
  rw [List.length_take, List.length_drop]
  omega

end Go.Proofs.YtnjlbgolnbdkaaaGreat
