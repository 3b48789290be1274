/- Counted: blows that came in, with all their numbers. -/
import Derived.Test.YtnjlbgolnbdkaaaGreatCq
import Derived.Test.YtnjlbgolnbdkaaaGreatM30
import Derived.OpenShut
import Derived.Deep.Slices
import Derived.WalkKit
import Derived.ProofKit
import Derived.ChangeOld
namespace Go.Proofs.YtnjlbgolnbdkaaaGreat
open Go.ChangeShapes Go.WideShapes Go.ChangeAt Go.RowKit

theorem bw_f0 : (bwFs[0]?).map (fun f => (f.offset, f.type)) = some (0, 3) := by kernel_rfl
theorem blws_open {H : Type} {enc : TypeId × Value → H} {W : World} {a0 : Option Addr} {len cap : Nat} {d : DataW H} {p : List MemPlace} (h : DataW.Trod enc Tryz.prog W 0 (fun _ => true) true 54 (.slice a0 len cap) d p) : ∃ l, Blws W (.slice a0 len cap) l := by
  obtain ⟨fuel, hf⟩ := h
  rcases Go.Deep.open_slice bw_list hf with ⟨hcs, _⟩ | ⟨a, l, c, m, n, D, Pl, hcs, hb, hl, hm, hmm, hx, hcell⟩
  · simp [Value.cells] at hcs
    obtain ⟨rfl, rfl, rfl⟩ := hcs
    exact ⟨[], Blws.nil _ _ _⟩
  · simp [Value.cells] at hcs
    obtain ⟨rfl, rfl, rfl⟩ := hcs
    have hm2 : m = cap := by rw [hmm]; simp
    by_cases h0 : len = 0
    · subst h0
      exact ⟨[], Blws.nil _ _ _⟩
    have hsp : a.spot = none := by
      obtain ⟨cs0, g1, _⟩ := hcell 0 (by omega)
      rw [bw_cells] at g1
      obtain ⟨_, glen, gc⟩ := World.cells?_some g1
      have := gc 0 (by omega)
      rw [List.getElem?_eq_getElem (by omega)] at this
      simpa [Addr.add] using World.cell?_spot this
    obtain ⟨b, off, spot⟩ := a
    have hspot : spot = none := hsp
    subst hspot
    have key : ∀ i : Nat, ∃ z : Int × Int × Int, i < len → (W.cell? ⟨b, off + i * 3, none⟩ = some (.int .i64 z.1) ∧ W.cell? ⟨b, off + i * 3 + 1, none⟩ = some (.int .i64 z.2.1) ∧ W.cell? ⟨b, off + i * 3 + 2, none⟩ = some (.int .i64 z.2.2)) ∧ (-9223372036854775808 ≤ z.1 ∧ z.1 ≤ 9223372036854775807) ∧ (-9223372036854775808 ≤ z.2.1 ∧ z.2.1 ≤ 9223372036854775807) ∧ -9223372036854775808 ≤ z.2.2 ∧ z.2.2 ≤ 9223372036854775807 := fun i => by
      by_cases hi : i < len
      · obtain ⟨cs', h1, h2⟩ := hcell i (by omega)
        rw [bw_cells] at h1
        obtain ⟨_, hlen, hc⟩ := World.cells?_some h1
        obtain ⟨xs, k, _, _, _, hxl, hfld⟩ := DataW.trod_struct bw_under h2
        rw [bw_size] at hxl
        have one : ∀ j, j < 3 → (bwFs[j]?).map (fun f => (f.offset, f.type)) = some (j, 3) → ∃ z : Int, cs'[j]? = some (.int .i64 z) ∧ (-9223372036854775808 ≤ z ∧ z ≤ 9223372036854775807) := fun j hj hfj => by
          cases hg : bwFs[j]? with
          | none => rw [hg] at hfj; cases hfj
          | some f =>
            rw [hg] at hfj
            simp at hfj
            have g := hfld j f hg
            rw [hfj.1, hfj.2, kint_cells, List.getElem?_eq_getElem (by omega)] at g
            obtain ⟨z, hz1, _, hz3⟩ := DataW.trod_int kint_under g
            refine ⟨z, ?_, by simpa [Lit.wf, IntKind.min, IntKind.max, IntKind.signed, IntKind.bits] using hz3⟩
            have e : (List.take 1 (List.drop j cs'))[0]? = some (.int .i64 z) := by rw [hz1]; rfl
            rw [List.getElem?_take, if_pos (by omega), List.getElem?_drop, Nat.add_zero] at e
            exact e
        obtain ⟨z0, e0, r0⟩ := one 0 (by omega) bw_f0
        obtain ⟨z1, e1, r1⟩ := one 1 (by omega) bw_f1
        obtain ⟨z2, e2, r2⟩ := one 2 (by omega) bw_f2
        have q0 := (hc 0 (by omega)).trans e0
        have q1 := (hc 1 (by omega)).trans e1
        have q2 := (hc 2 (by omega)).trans e2
        simp only [Addr.add_lit, Nat.add_zero] at q0 q1 q2
        exact ⟨(z0, z1, z2), fun _ => ⟨⟨q0, q1, q2⟩, r0, r1, r2⟩⟩
      · exact ⟨(0, 0, 0), fun h => absurd h hi⟩
    obtain ⟨f, hff⟩ := Classical.axiomOfChoice key
    have hlen : ((List.range len).map fun i => f i).length = len := by simp
    have hget : ∀ i, i < len → ((List.range len).map fun i => f i).getD i default = f i := fun i hi => by simp [List.getD_eq_getElem?_getD, hi]
    refine ⟨(List.range len).map fun i => f i, ⟨by rw [hlen]; unfold maxLen at hm; omega, fun x hx => ?_, some ⟨b, off, none⟩, cap, by rw [hlen], fun _ => ⟨b, off, rfl, World.block_lt_of_cell? W _ (hff 0 (by omega)).1.1, fun i hi => ?_⟩⟩⟩
    · obtain ⟨i, hi, rfl⟩ := List.mem_map.1 hx
      exact (hff i (List.mem_range.1 hi)).2
    · rw [hlen] at hi
      rw [hget i hi]
      exact (hff i hi).1
end Go.Proofs.YtnjlbgolnbdkaaaGreat
