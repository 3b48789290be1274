/- Texts of the proof of Boots, one behind the other. -/
import Derived.Test.YtnjlbgolnbdkaaaGreatJ33
import Derived.Test.YtnjlbgolnbdkaaaGreatJ35
import Derived.Test.YtnjlbgolnbdkaaaGreatJ36
import Derived.Test.YtnjlbgolnbdkaaaGreatJ37
/- The law's look: what Look answers is what the document says; its lists are kept. -/
namespace Go.Proofs.YtnjlbgolnbdkaaaGreat
open Go.RowKit

theorem flat_one (l : List Int) : (l.flatMap fun z => [Value.int .i64 z]) = l.map (Value.int .i64) := by
  induction l with
  | nil => rfl
  | cons a l ih => rw [List.flatMap_cons, ih]; rfl
theorem ints_read {base : Nat} {v : Value} {n : Nat} {l : List Int} {w : World} (hn : l.length = n) (h : w.ownsRow base 3 1 v n (l.map (Value.int .i64))) : ∃ ad c, v = .slice ad n c ∧ ∀ k z, l[k]? = some z → ∃ g, ad = some ⟨g, 0, none⟩ ∧ g < w.heap.size ∧ w.cell? ⟨g, k, none⟩ = some (.int .i64 z) := by
  have h' : w.ownsRow base 3 1 v n (l.flatMap fun z => [Value.int .i64 z]) := by rw [flat_one]; exact h
  obtain ⟨_, ad, c, hv, hr⟩ := own_read (fun z : Int => [Value.int .i64 z]) (fun _ => rfl) l hn h'
  refine ⟨ad, c, hv, fun k z hk => ?_⟩
  obtain ⟨g, hg, hc⟩ := hr k z hk
  have := hc 0 (Nat.lt_succ_self 0)
  simp at this
  exact ⟨g, hg, lt_of_cell this, this⟩
theorem states_read {base : Nat} {v : Value} {n : Nat} {l : List RProc} {w : World} (hn : l.length = n) (h : w.ownsRow base 47 3 v n (l.flatMap stateCells)) : ∃ ad c, v = .slice ad n c ∧ ∀ k p, l[k]? = some p → ∃ g, ad = some ⟨g, 0, none⟩ ∧ g < w.heap.size ∧ w.cell? ⟨g, k * 3, none⟩ = some (.int .i64 p.next) ∧ w.cell? ⟨g, k * 3 + 1, none⟩ = some (.int .i64 p.acc) ∧ w.cell? ⟨g, k * 3 + 2, none⟩ = some (.bool p.stopped) := by
  obtain ⟨_, ad, c, hv, hr⟩ := own_read stateCells (fun _ => rfl) l hn h
  refine ⟨ad, c, hv, fun k p hk => ?_⟩
  obtain ⟨g, hg, hc⟩ := hr k p hk
  have c0 : w.cell? ⟨g, k * 3, none⟩ = some (.int .i64 p.next) := by simpa [stateCells] using hc 0 (by omega)
  exact ⟨g, hg, lt_of_cell c0, c0, by simpa [stateCells] using hc 1 (by omega), by simpa [stateCells] using hc 2 (by omega)⟩

/- two lists that came out, kept one behind the other -/
theorem keep_two (p : Nat → Value) (L : Nat → Nat) (hb : Nat) (n : Int) (vs : Nat → Value) (A : Nat → List Kept) (v1 v2 : Value) (n1 n2 : Nat) (xs1 xs2 : List Value) (w w3 : World)
    (h : Hnd p L hb n vs A A w) (h0 : 0 ≤ n) (h1 : n + 1 ≤ 100000000000) (hA : ∀ f, (A f).length + 4 ≤ 100000000000) (hB : Below w.heap.size w w3) (hV1 : w3.ownsRow w.heap.size 3 1 v1 n1 xs1) (hV2 : w3.ownsRow w.heap.size 47 3 v2 n2 xs2) (hn1 : n1 ≤ 1000) (hn2 : n2 ≤ 1000) :
    Calls Tryz.prog 100 #[.pointer (some ⟨hb, 5, none⟩), v1] w3 fun e w4 => e = .returned (.tuple #[]) ∧ (∀ b c t, w.heap.size ≤ b → w3.heap[b]? = some (.cells c t (0, 0)) → t ≠ 3 → w4.heap[b]? = w3.heap[b]?) ∧ (∀ q, Calls Tryz.prog 101 #[.pointer (some ⟨hb, 5, none⟩), v2] (w4.drewN q) fun e w5 => ∃ L' vs' A', e = .returned (.tuple #[]) ∧ Hnd p L' hb (n + 2) vs' A' A' w5 ∧ (∀ f, (A' f).length ≤ (A f).length + 8) ∧ (∀ k, k < w.heap.size → L' k = L k) ∧ Touch (fun k => L k ≤ 27) w w5) := by
  have hl1 : ∀ b, v1.ownBlock = some b → w.heap.size ≤ b := fun b e => (World.ownsRow.lt hV1 b e).1
  have hl2 : ∀ b, v2.ownBlock = some b → w.heap.size ≤ b := fun b e => (World.ownsRow.lt hV2 b e).1
  have hne : ∀ b, v2.ownBlock = some b → v1.ownBlock ≠ some b := fun b e2 e1 => by
    obtain ⟨c1, g1⟩ := own_of hV1 e1
    obtain ⟨c2, g2⟩ := own_of hV2 e2
    rw [g1] at g2
    simp at g2
  refine (keepInts_any p hb n vs _ A v1 n1 xs1 w3 (h.fresh hB) (own_low hV1 (Nat.zero_le _)) (fun b e => by have := hl1 b e; rw [if_neg (by omega)]; omega) hn1 h0 (by omega) (fun f => by have := hA f; omega)).mono ?_
  rintro e w4 ⟨L1, vs1, A1, rfl, hH1, hA1, hL1, ht1⟩
  refine ⟨rfl, fun b c t hb' hbl ht => ht1.block b (lt_of_heap hbl) (fun hs => ?_), fun q => ?_⟩
  · rcases hs with hs | hs
    · rw [if_neg (by omega)] at hs; omega
    · obtain ⟨c1, g1⟩ := own_of hV1 hs
      rw [hbl] at g1
      simp at g1
      exact ht g1.2
  · have hV2' : (w4.drewN q).ownsRow w.heap.size 47 3 v2 n2 xs2 := own_keep hV2 (fun b e => ht1.block b (World.ownsRow.lt hV2 b e).2 (fun hs => by
      rcases hs with hs | hs
      · rw [if_neg (by have := hl2 b e; omega)] at hs; omega
      · exact hne b e hs))
    have hlab : ∀ b, v2.ownBlock = some b → 100 ≤ L1 b := fun b e => by
      rw [hL1 b (World.ownsRow.lt hV2 b e).2]
      unfold lab1
      rw [if_neg (hne b e)]
      show 100 ≤ (if b < w.heap.size then L b else 100)
      rw [if_neg (by have := hl2 b e; omega)]
      omega
    refine (keepStates_any p hb (n + 1) vs1 L1 A1 v2 n2 xs2 (w4.drewN q) (hH1.touch (S := fun _ => False) (Touch.ofDrewN _ _) (fun _ _ hs => hs.elim)) (own_low hV2' (Nat.zero_le _)) hlab hn2 (by omega) (by omega) (fun f => by have := hA f; have := hA1 f; omega)).mono ?_
    rintro e w5 ⟨L2, vs2, A2, rfl, hH2, hA2, hL2, ht2⟩
    have hs3 := hB.size
    have ht1s := ht1.size
    refine ⟨L2, vs2, A2, rfl, by rw [show n + 2 = n + 1 + 1 from by omega]; exact hH2, fun f => by have := hA1 f; have := hA2 f; omega, fun k hk => ?_, ?_⟩
    · rw [hL2 k (by show k < w4.heap.size; omega)]
      unfold lab1
      rw [if_neg (fun e => by have := hl2 k e; omega), hL1 k (by omega)]
      unfold lab1
      rw [if_neg (fun e => by have := hl1 k e; omega)]
      simp [hk]
    · refine Touch.trans (Touch.trans (Touch.ofBelow hB) ht1 (fun i hi => ?_)) (Touch.trans (S := fun k => L1 k ≤ 27 ∨ v2.ownBlock = some k) (Touch.ofDrewN w4 q) ht2 (fun i hi => .inl hi)) (fun i hi => ?_)
      · rcases hi with hi | hi
        · by_cases hlt : i < w.heap.size
          · rw [if_pos hlt] at hi; exact .inl hi
          · exact .inr (by omega)
        · exact .inr (hl1 i hi)
      · by_cases hlt : i < w.heap.size
        · rcases hi with hi | hi
          · rw [hL1 i (by omega)] at hi
            unfold lab1 at hi
            rw [if_neg (fun e => by have := hl1 i e; omega)] at hi
            simp [hlt] at hi
            exact .inl hi
          · exact .inr (hl2 i hi)
        · exact .inr (by omega)
end Go.Proofs.YtnjlbgolnbdkaaaGreat
