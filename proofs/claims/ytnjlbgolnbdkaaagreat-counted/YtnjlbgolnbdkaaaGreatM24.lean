/- Texts of the proofs of Watched and Clocked, one behind the other. -/
import Derived.Test.YtnjlbgolnbdkaaaGreatM23
namespace Go.Proofs.YtnjlbgolnbdkaaaGreat
open Go.RowKit

theorem rows_two {w2 : World} {base g1 c1 g2 c2 n1 n2 : Nat} {p q : List Int} (h : Bys base w2 (.slice (some ⟨g1, 0, none⟩) n1 c1) p) (k : Bys base w2 (.slice (some ⟨g2, 0, none⟩) n2 c2) q) (hn1 : p.length = n1) (hn2 : q.length = n2) (h0 : 0 < n1 ∧ n1 ≤ 1000) (k0 : 0 < n2 ∧ n2 ≤ 1000) : Rows2 (w2.alloc (.cells #[.slice (some ⟨g1, 0, none⟩) n1 c1, .slice (some ⟨g2, 0, none⟩) n2 c2] 22)) (.slice (some ⟨w2.heap.size, 0, none⟩) 2 2) [p, q] := by
  subst hn1 hn2
  have hl := World.ownsRow.lt h.own g1 rfl
  have kl := World.ownsRow.lt k.own g2 rfl
  have hb : Below w2.heap.size w2 (w2.alloc (.cells #[.slice (some ⟨g1, 0, none⟩) p.length c1, .slice (some ⟨g2, 0, none⟩) q.length c2] 22)) := (Below.refl _ _).alloc (Nat.le_refl _) _
  refine ⟨by simp, fun r hr => ?_, w2.heap.size, 0, 2, rfl, by simp, fun i hi => ?_⟩
  · simp only [List.mem_cons, List.not_mem_nil, or_false] at hr
    rcases hr with rfl | rfl
    · exact ⟨h0.1, h0.2, h.bytes⟩
    · exact ⟨k0.1, k0.2, k.bytes⟩
  · have hi' : i < 2 := hi
    obtain rfl | rfl : i = 0 ∨ i = 1 := by omega
    · refine ⟨g1, c1, ?_, Nat.lt_of_lt_of_le hl.2 hb.size, fun j u hj => ?_⟩
      · rw [cell_of_row _ _ _ _ _ _ (heap_alloc_new w2 _)]
        rfl
      · rw [← h.news j u hj]
        exact hb.cell (by rw [add_block]; exact hl.2)
    · refine ⟨g2, c2, ?_, Nat.lt_of_lt_of_le kl.2 hb.size, fun j u hj => ?_⟩
      · rw [cell_of_row _ _ _ _ _ _ (heap_alloc_new w2 _)]
        rfl
      · rw [← k.news j u hj]
        exact hb.cell (by rw [add_block]; exact kl.2)

theorem configK_len (watch : Int) (ps : List (List Int)) (t : Int) : (configK watch ps t).length = 10 + ps.flatten.length + 3 * ps.length := by
  have h : ∀ n, (be4 n).length = 4 := fun _ => rfl
  unfold configK bodyK
  simp only [List.length_append, headK, List.length_cons, List.length_nil, winsK_len, h]
  omega

end Go.Proofs.YtnjlbgolnbdkaaaGreat
