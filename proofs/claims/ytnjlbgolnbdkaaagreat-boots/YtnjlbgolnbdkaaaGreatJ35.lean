/- Texts of the proof of Boots, one behind the other. -/
import Derived.Test.YtnjlbgolnbdkaaaGreatJ34
import Derived.Test.YtnjlbgolnbdkaaaGreatJ26
/- The document's Look, of its kernel. -/
namespace Go.Proofs.YtnjlbgolnbdkaaaGreat
open Go.RowKit

theorem rst_eq : rstCells = stateCells := rfl
theorem rlook_yes (base kb g : Nat) (st : RSt) (i : Nat) (bs : List Int) (left res : Int) (dead : Bool) (done : Int) (w : World) (h : RefK base kb g st w) (hf : FlashAt w g bs left res dead done) (hi : i < st.parts.length) (hn : st.parts.length ≤ 4) (hnp : 1 ≤ (st.parts.getD i default).procs.length ∧ (st.parts.getD i default).procs.length ≤ 2) :
    Calls Tryz.prog 99 #[.pointer (some ⟨kb, 0, none⟩), .int .i64 i] w fun e w' => ∃ aw cw v, e = .returned (.tuple #[.agg #[.int .i64 (st.parts.getD i default).mode, .int .i64 (restartsOf bs i), .slice aw (st.parts.getD i default).words.length cw, v], .int .i64 0]) ∧ IntsV base (.slice aw (st.parts.getD i default).words.length cw) (st.parts.getD i default).words w' ∧ w'.ownsRow w.heap.size 47 3 v (st.parts.getD i default).procs.length ((st.parts.getD i default).procs.flatMap stateCells) ∧ Below w.heap.size w w' := by
  obtain ⟨_, vP, vW, vC, vR, vQ, hK, _, ⟨l, hl1, hl2, hl3⟩, _⟩ := h
  have hll : l.length = st.parts.length := by rw [← hl1, List.length_map]
  have hli : i < l.length := by omega
  have hgd : st.parts.getD i default = (l[i]).1 := by
    rw [← hl1, List.getD_eq_getElem?_getD, List.getElem?_map, List.getElem?_eq_getElem hli]; rfl
  rw [hgd] at hnp ⊢
  obtain ⟨hIW, hPW⟩ := hl3 _ (List.getElem_mem hli)
  obtain ⟨_, ad, c, rfl, hrd⟩ := own_read rpartCells (fun _ => rfl) l rfl hl2
  obtain ⟨gR, rfl, hrow⟩ := hrd i _ (List.getElem?_eq_getElem hli)
  obtain ⟨aw, cw, hvw⟩ := own_slice hIW
  obtain ⟨_, ap, cp, hvp, hpd⟩ := own_read rprocCells (fun _ => rfl) (l[i]).1.procs rfl hPW
  obtain ⟨qb, rfl, hq0⟩ := hpd 0 ((l[i]).1.procs[0]'(by omega)) (List.getElem?_eq_getElem (by omega))
  have k5 : w.cell? ⟨kb, 5, none⟩ = some (.pointer (some ⟨g, 0, none⟩)) := by rw [cell_of_row _ _ _ _ _ _ hK]; rfl
  have k6 : w.cell? ⟨kb, 6, none⟩ = some (.slice (some ⟨gR, 0, none⟩) l.length c) := by rw [cell_of_row _ _ _ _ _ _ hK]; rfl
  have r0 : w.cell? ⟨gR, i * 4, none⟩ = some (.int .i64 (l[i]).1.mode) := by simpa [rpartCells] using hrow 0 (by omega)
  have r1 : w.cell? ⟨gR, i * 4 + 1, none⟩ = some (.slice aw (l[i]).1.words.length cw) := by rw [← hvw]; simpa [rpartCells] using hrow 1 (by omega)
  have r2 : w.cell? ⟨gR, i * 4 + 2, none⟩ = some (.slice (some ⟨qb, 0, none⟩) (l[i]).1.procs.length cp) := by rw [← hvp]; simpa [rpartCells] using hrow 2 (by omega)
  have r3 : w.cell? ⟨gR, i * 4 + 3, none⟩ = some (.int .i64 (l[i]).1.watch) := by simpa [rpartCells] using hrow 3 (by omega)
  refine (rlook_walk kb g gR c i l.length _ _ aw _ cw qb _ cp (l[i]).1.procs bs left res dead done w hli (by omega) hnp.2 rfl hf k5 k6 r0 r1 r2 r3 (fun k p hp => ?_)).mono ?_
  · obtain ⟨q', hq', hc⟩ := hpd k p hp
    obtain rfl : qb = q' := by simpa using hq'
    exact ⟨by simpa [rprocCells] using hc 0 (by omega), by simpa [rprocCells] using hc 1 (by omega), by simpa [rprocCells] using hc 4 (by omega)⟩
  · rintro e w' ⟨v, rfl, hv, hb⟩
    refine ⟨aw, cw, v, rfl, ?_, by rw [← rst_eq]; exact hv, hb⟩
    rw [hvw] at hIW
    exact own_keep hIW (fun b e => hb.block b (World.ownsRow.lt hIW b e).2)
end Go.Proofs.YtnjlbgolnbdkaaaGreat
