/- Texts of the proof of Apart, one behind the other. -/
import Derived.Test.YtnjlbgolnbdkaaaGreatM29
import Derived.OpenShut
import Derived.Deep.Slices
import Derived.WalkKit
import Derived.ProofKit
import Derived.ChangeOld
namespace Go.Proofs.YtnjlbgolnbdkaaaGreat
open Go.ChangeShapes Go.WideShapes Go.ChangeAt Go.RowKit

noncomputable def bwFs : Array Field := match Tryz.prog.underlying 65 with | some (.struct fs) => fs | _ => #[]
theorem bw_under : Tryz.prog.underlying 65 = some (.struct bwFs) := by kernel_rfl
theorem bw_list : Tryz.prog.underlying 54 = some (.slice 65) := by kernel_rfl
theorem bw_cells : Tryz.prog.cellsOf 65 = 3 := by kernel_rfl
theorem kint_cells : Tryz.prog.cellsOf 3 = 1 := by kernel_rfl
theorem kint_under : Tryz.prog.underlying 3 = some (.int .i64) := by kernel_rfl
theorem bw_size : bwFs.size = 3 := by kernel_rfl
theorem bw_f1 : (bwFs[1]?).map (fun f => (f.offset, f.type)) = some (1, 3) := by kernel_rfl
theorem bw_f2 : (bwFs[2]?).map (fun f => (f.offset, f.type)) = some (2, 3) := by kernel_rfl
theorem ints_open {H : Type} {enc : TypeId × Value → H} {W : World} {a0 : Option Addr} {len cap : Nat} {d : DataW H} {p : List MemPlace} (h : DataW.Trod enc Tryz.prog W 0 (fun _ => true) true 40 (.slice a0 len cap) d p) : ∃ l, Ints W (.slice a0 len cap) l := by
  obtain ⟨fuel, hf⟩ := h
  rcases open_ints Tryz.underlying40 Tryz.underlying3 kint_cells hf with ⟨hcs, _⟩ | ⟨x, l, c, zs, hcs, _, hl, hm, hz, hx, hcell, hwz⟩
  · simp [Value.cells] at hcs
    obtain ⟨rfl, rfl, rfl⟩ := hcs
    exact ⟨[], Ints.nil _ _ _⟩
  · simp [Value.cells] at hcs
    obtain ⟨rfl, rfl, rfl⟩ := hcs
    have hz' : zs.length = cap := by simpa using hz
    have htl : (zs.take len).length = len := by simp; omega
    refine ⟨zs.take len, ⟨by rw [htl]; unfold maxLen at hm; omega, fun z hz => ?_, some x, cap, by rw [htl], fun h0 => ?_⟩⟩
    · have := bounds_i64 (hwz z (List.mem_of_mem_take hz))
      omega
    · rw [htl] at h0 ⊢
      have hsp : x.spot = none := by
        have := hcell 0 (by omega)
        simpa [Addr.add] using World.cell?_spot this
      obtain ⟨b, off, spot⟩ := x
      have hspot : spot = none := hsp
      subst hspot
      have hc : ∀ i, i < len → W.cell? ⟨b, off + i, none⟩ = some (.int .i64 ((zs.take len).getD i 0)) := fun i hi => by
        have := hcell i (by omega)
        rw [Addr.add_lit] at this
        rw [this]
        simp [List.getD_eq_getElem?_getD, hi]
      exact ⟨b, off, rfl, lt_of_cell (hc 0 (by omega)), hc⟩
end Go.Proofs.YtnjlbgolnbdkaaaGreat
