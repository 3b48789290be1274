/- Texts of the proof of Boots, one behind the other. -/
import Derived.Test.YtnjlbgolnbdkaaaGreatJ28
import Derived.Test.YtnjlbgolnbdkaaaGreatJ24
import Derived.Test.YtnjlbgolnbdkaaaGreatJ17
import Derived.Deep.RegionHeld3
/- The document's Look. -/
namespace Go.Proofs.YtnjlbgolnbdkaaaGreat
open Go.RowKit
attribute [-go_sem] Builtin.append_

theorem Tryz.size43r : (Tryz.prog.info? 43).map (·.size) = some 4 := by kernel_rfl
set_option maxRecDepth 100000 in
set_option maxHeartbeats 4000000 in
theorem rlook_no (base kb g : Nat) (st : RSt) (i : Int) (w : World) (h : RefK base kb g st w) (hi : ¬ (0 ≤ i ∧ i < st.parts.length)) :
    Calls Tryz.prog 99 #[.pointer (some ⟨kb, 0, none⟩), .int .i64 i] w fun e w' => e = .returned (.tuple #[.agg #[.int .i64 0, .int .i64 0, .slice none 0 0, .slice none 0 0], .int .i64 1]) ∧ Below w.heap.size w w' := by
  obtain ⟨_, vP, vW, vC, vR, vQ, hK, _, ⟨l, hl1, hl2, _⟩, _⟩ := h
  obtain ⟨ad, c, rfl⟩ := own_slice hl2
  have hll : l.length = st.parts.length := by rw [← hl1, List.length_map]
  rw [hll] at hK
  have k6 : w.cell? ⟨kb, 6, none⟩ = some (.slice ad st.parts.length c) := by rw [cell_of_row _ _ _ _ _ _ hK]; rfl
  have hlt := lt_of_cell k6
  have HB : Hid (Below w.heap.size w (w.alloc (.cells #[.int .i64 0, .int .i64 0, .slice none 0 0, .slice none 0 0] 43))) := (Below.refl _ _).alloc (Nat.le_refl _) _
  clear hK hl1 hl2 hll
  by_cases h0 : i < 0
  · clear hi
    go_enter Tryz.func99, Tryz.ntmps99
    go_wp2
    exact bodyPost_ret (v := .tuple #[.agg #[.int .i64 0, .int .i64 0, .slice none 0 0, .slice none 0 0], .int .i64 1]) (by simp [results, Tryz.results99, go_sem]) rfl ⟨rfl, HB.out⟩
  · have h1 : (st.parts.length : Int) ≤ i := by omega
    clear hi
    go_enter Tryz.func99, Tryz.ntmps99
    go_wp2
    exact bodyPost_ret (v := .tuple #[.agg #[.int .i64 0, .int .i64 0, .slice none 0 0, .slice none 0 0], .int .i64 1]) (by simp [results, Tryz.results99, go_sem]) rfl ⟨rfl, HB.out⟩
/- the states of a partition -/
theorem cellR {w w' : World} {b : Nat} (h : w'.heap[b]? = w.heap[b]?) (o : Nat) : w'.cell? ⟨b, o, none⟩ = w.cell? ⟨b, o, none⟩ := World.cell?_of_block h
theorem block_set4 {w : World} {b : Nat} {z0 z1 z2 z3 a0 a1 a2 a3 : Value} {t : TypeId} (h : w.heap[b]? = some (.cells #[z0, z1, z2, z3] t (0, 0))) : ((((w.setCell ⟨b, 0, none⟩ a0).setCell ⟨b, 1, none⟩ a1).setCell ⟨b, 2, none⟩ a2).setCell ⟨b, 3, none⟩ a3).heap[b]? = some (.cells #[a0, a1, a2, a3] t (0, 0)) := block_set (block_set (block_set (block_set h 0 a0) 1 a1) 2 a2) 3 a3
theorem Tryz.info47r : (Tryz.prog.info? 47).map (fun i => (i.zero, i.size, i.bytes)) = some (some (.agg #[.int .i64 0, .int .i64 0, .bool false]), 3, 24) := by kernel_rfl
def rstCells (p : RProc) : List Value := [.int .i64 p.next, .int .i64 p.acc, .bool p.stopped]
set_option maxRecDepth 100000 in
set_option maxHeartbeats 8000000 in
theorem rlook_walk (kb g gR cR i : Nat) (N : Nat) (mo wt : Int) (aw : Option Addr) (nw cw qb np cq : Nat) (ps : List RProc) (bs : List Int) (left res : Int) (dead : Bool) (done : Int) (w : World) (hi : i < N) (hi4 : i < 4) (hnp : np ≤ 2) (hps : ps.length = np) (hf : FlashAt w g bs left res dead done)
    (k5 : w.cell? ⟨kb, 5, none⟩ = some (.pointer (some ⟨g, 0, none⟩))) (k6 : w.cell? ⟨kb, 6, none⟩ = some (.slice (some ⟨gR, 0, none⟩) N cR))
    (r0 : w.cell? ⟨gR, i * 4, none⟩ = some (.int .i64 mo)) (r1 : w.cell? ⟨gR, i * 4 + 1, none⟩ = some (.slice aw nw cw)) (r2 : w.cell? ⟨gR, i * 4 + 2, none⟩ = some (.slice (some ⟨qb, 0, none⟩) np cq)) (r3 : w.cell? ⟨gR, i * 4 + 3, none⟩ = some (.int .i64 wt))
    (hp : ∀ k p, ps[k]? = some p → w.cell? ⟨qb, k * 5, none⟩ = some (.int .i64 p.next) ∧ w.cell? ⟨qb, k * 5 + 1, none⟩ = some (.int .i64 p.acc) ∧ w.cell? ⟨qb, k * 5 + 4, none⟩ = some (.bool p.stopped)) :
    Calls Tryz.prog 99 #[.pointer (some ⟨kb, 0, none⟩), .int .i64 i] w fun e w' => ∃ v, e = .returned (.tuple #[.agg #[.int .i64 mo, .int .i64 (restartsOf bs i), .slice aw nw cw, v], .int .i64 0]) ∧ w'.ownsRow w.heap.size 47 3 v np (ps.flatMap rstCells) ∧ Below w.heap.size w w' := by
  obtain ⟨i0, hii, hz0, hz1, hz2⟩ := info_parts Tryz.info47r
  have l5 := lt_of_cell k5
  have lR := lt_of_cell r0
  obtain ⟨bx, hbx⟩ : ∃ bx, bx = w.heap.size + 1 := ⟨_, rfl⟩
  obtain ⟨w2, hw2⟩ : ∃ w2, w2 = (w.alloc (.cells #[.int .i64 0, .int .i64 0, .slice none 0 0, .slice none 0 0] 43)).alloc (.cells #[.int .i64 mo, .slice aw nw cw, .slice (some ⟨qb, 0, none⟩) np cq, .int .i64 wt] 198) := ⟨_, rfl⟩
  have hs2 : w2.heap.size = w.heap.size + 2 := by rw [hw2]; simp
  have hb2 : Below w.heap.size w w2 := by rw [hw2]; exact ((Below.refl _ _).alloc (Nat.le_refl _) _).alloc (by simp) _
  have hR2 : w2.heap[w.heap.size]? = some (.cells #[.int .i64 0, .int .i64 0, .slice none 0 0, .slice none 0 0] 43 (0, 0)) := by rw [hw2, Below.heap_alloc _ _ _ (by simp)]; exact heap_at rfl
  have hX2 : w2.heap[bx]? = some (.cells #[.int .i64 mo, .slice aw nw cw, .slice (some ⟨qb, 0, none⟩) np cq, .int .i64 wt] 198 (0, 0)) := by rw [hw2]; exact heap_at (by simp [hbx])
  obtain ⟨P, hP⟩ : ∃ P : World → Prop, P = fun W => Below w2.heap.size w2 W := ⟨_, rfl⟩
  have HP2 : Hid (P w2) := by show P w2; rw [hP]; exact Below.refl _ _
  have HPb : Hid (∀ W, P W → Below w2.heap.size w2 W) := fun W h => by rw [hP] at h; exact h
  have HPk : Hid (∀ W W', P W → Below W.heap.size W W' → P W') := fun W W' h hb => by rw [hP] at h ⊢; exact h.trans (hb.mono h.size)
  have HPd : Hid (∀ W, P W → P W.drew) := fun W h => by rw [hP] at h ⊢; exact h.drew
  have HPa : Hid (∀ W o, P W → P (W.alloc o)) := fun W o h => by rw [hP] at h ⊢; exact h.alloc h.size _
  have HPs : Hid (∀ W b o v, w2.heap.size ≤ b → P W → P (W.setCell ⟨b, o, none⟩ v)) := fun W b o v hb h => by rw [hP] at h ⊢; exact h.setCell (p := ⟨b, o, none⟩) hb v
  have HPW : Hid (∀ W, P W → Below w.heap.size w W) := fun W hW => hb2.trans ((HPb.out W hW).mono (by omega))
  have HPC : Hid (∀ W, P W → W.cell? ⟨bx, 0, none⟩ = some (.int .i64 mo) ∧ W.cell? ⟨bx, 1, none⟩ = some (.slice aw nw cw) ∧ W.cell? ⟨kb, 5, none⟩ = some (.pointer (some ⟨g, 0, none⟩))) := fun W hW => by
    have a := keepB (HPb.out W hW) hX2
    exact ⟨by rw [cell_of_row _ _ _ _ _ _ a]; rfl, by rw [cell_of_row _ _ _ _ _ _ a]; rfl, ((HPW.out W hW).cell (p := ⟨kb, 5, none⟩) l5).trans k5⟩
  have HRS : Hid (∀ W, P W → Calls Tryz.prog 140 #[.pointer (some ⟨g, 0, none⟩), .int .i64 i] W fun e w' => e = .returned (.int .i64 (restartsOf bs i)) ∧ Below W.heap.size W w' ∧ P w') := fun W hW => (rrestarts_any g bs left res dead done i W hi4 (hf.below (HPW.out W hW))).mono (fun e w' ⟨he, hb⟩ => ⟨he, hb, HPk.out W w' hW hb⟩)
  have HW2 := hide hw2
  have HX2 := hide hX2
  have HR2 := hide hR2
  have HB2 := hide hb2
  have HS2 := hide hs2
  have HBX := hide hbx
  have HPR := hide hp
  have HPS := hide hps
  clear hw2 hX2 hR2 hb2 hbx hp hps hP hf hs2
  have hdi : (decide ((i : Int) < 0)) = false := by simp
  have hdn : (decide (N ≤ i)) = false := by simp; omega
  generalize restartsOf bs i = rs at *
  obtain ⟨q0, q1, q2⟩ := HPC.out _ HP2.out
  go_enter Tryz.func99, Tryz.ntmps99
  go_wp2_with fail
  rw [← HW2.out, ← HBX.out]
  go_cut [7] from 28 to 38 (fun s7 wx => ∃ vb, s7 = .pointer (some ⟨vb, 0, none⟩) ∧ w2.heap.size ≤ vb ∧ wx.heap[vb]? = some (.cells #[.int .i64 mo, .int .i64 rs, .slice aw nw cw, .slice none 0 0] 43 (0, 0)) ∧ P wx)
  case first =>
    go_region_held3 (fun w' => w'.cell? ⟨bx, 0, none⟩ = some (.int .i64 mo) ∧ w'.cell? ⟨bx, 1, none⟩ = some (.slice aw nw cw) ∧ w'.cell? ⟨kb, 5, none⟩ = some (.pointer (some ⟨g, 0, none⟩)))
      ((refine HPC.out _ ?_; repeat (first | exact HP2.out | assumption | refine HPd.out _ ?_ | refine HPa.out _ _ ?_ | refine HPs.out _ _ _ _ (by first | omega | (simp; omega)) ?_)))
      ((go_at_call 140; refine (HRS.out _ (by repeat (first | exact HP2.out | assumption | refine HPd.out _ ?_ | refine HPa.out _ _ ?_))).mono ?_; rintro e u ⟨rfl, hb, hp⟩; have hbc := fun p h => hb.cell (p := p) h; have hbf := fun p h => hb.frozen (p := p) h; have hsz := hb.size; (try rw [World.size_drew] at hsz); (try rw [World.size_alloc] at hsz); (try rw [World.size_drew] at hsz); (try have hu1 : w2.heap.size < u.heap.size := (by omega))))
    all_goals
      go_wp2_with fail
      go_meet
      refine ⟨_, rfl, ?_, ?_, ?_⟩
      · first | omega | (simp; omega) | (have := (HPb.out _ hp).size; omega)
      · first | (with_reducible exact heap_at rfl) | ((with_reducible refine block_set4 (z0 := .int .i64 0) (z1 := .int .i64 0) (z2 := .slice none 0 0) (z3 := .slice none 0 0) ?_); exact keepB hb (heap_at (by simp)))
      · repeat (first | (with_reducible refine HPa.out _ _ ?_) | (with_reducible refine HPd.out _ ?_) | (with_reducible refine HPs.out _ _ _ _ (by first | omega | (simp; omega)) ?_) | (with_reducible assumption))
  case rest =>
    obtain ⟨vb, rfl, hvb, hV0, hPc⟩ := hcut
    have hBc := HPW.out _ hPc
    have hB2c := HPb.out _ hPc
    have hs2 := HS2.out
    have hXc := keepB hB2c HX2.out
    have hRc := keepB hB2c HR2.out
    have hbx := HBX.out
    have hvl := lt_of_heap hV0
    have HV0 := hide hV0
    have HXc := hide hXc
    have HRc := hide hRc
    have HBc := hide hBc
    have HPRc : Hid (∀ k p, ps[k]? = some p → qb < w.heap.size ∧ wc.cell? ⟨qb, k * 5, none⟩ = some (.int .i64 p.next) ∧ wc.cell? ⟨qb, k * 5 + 1, none⟩ = some (.int .i64 p.acc) ∧ wc.cell? ⟨qb, k * 5 + 4, none⟩ = some (.bool p.stopped)) := fun k p hk => by
      obtain ⟨h1, h2, h3⟩ := HPR.out k p hk
      have hl := lt_of_cell h1
      have hk' := hBc.block qb hl
      exact ⟨hl, (cellR hk' _).trans h1, (cellR hk' _).trans h2, (cellR hk' _).trans h3⟩
    have HBXL : Hid (bx < wc.heap.size ∧ w.heap.size < wc.heap.size ∧ w.heap.size ≤ bx ∧ w.heap.size < vb ∧ bx < vb ∧ w2.heap.size ≤ wc.heap.size) := ⟨lt_of_heap hXc, lt_of_heap hRc, by omega, by omega, by omega, hB2c.size⟩
    clear hV0 hPc hBc hB2c hXc hRc hbx hs2 q0 q1 q2 HPR
    go_wp2_with fail
    go_loopw [8] (fun t wr => ∃ (k : Nat) (v : Value), k ≤ np ∧ t = .int .i64 k ∧ wr.heap[vb]? = some (.cells #[.int .i64 mo, .int .i64 rs, .slice aw nw cw, v] 43 (0, 0)) ∧ wr.ownsRow wc.heap.size 47 3 v k ((ps.take k).flatMap rstCells) ∧ Touch (fun b => b = vb ∨ wc.heap.size ≤ b) wc wr) (fun t _ => np - (intOf t).toNat)
    case atStart => exact ⟨0, _, by omega, rfl, HV0.out, World.ownsRow_nil _ _ _ _, Touch.refl _ _⟩
    case round =>
      obtain ⟨k, v, hk, rfl, hvb', hown, hT⟩ := hrel
      obtain ⟨ad, c, rfl⟩ := own_slice hown
      have hsr := hT.size
      obtain ⟨b1, b2, b3, b4, b5, b6⟩ := HBXL.out
      have hXr := (hT.block bx b1 (by omega)).trans HXc.out
      have x2 : wr.cell? ⟨bx, 2, none⟩ = some (.slice (some ⟨qb, 0, none⟩) np cq) := by rw [cell_of_row _ _ _ _ _ _ hXr]; rfl
      by_cases hlt : k < np
      · obtain ⟨p, hpk⟩ : ∃ p, ps[k]? = some p := ⟨ps[k]'(by rw [HPS.out]; exact hlt), List.getElem?_eq_getElem _⟩
        obtain ⟨hq, p0, p1, p4⟩ := HPRc.out k p hpk
        have hqr := hT.block qb (by omega) (by omega)
        have y0 := (cellR hqr _).trans p0
        have y1 := (cellR hqr _).trans p1
        have y4 := (cellR hqr _).trans p4
        have v3 : wr.cell? ⟨vb, 3, none⟩ = some (.slice ad k c) := by rw [cell_of_row _ _ _ _ _ _ hvb']; rfl
        have HTK : Hid ((ps.take (k + 1)).flatMap rstCells = (ps.take k).flatMap rstCells ++ [.int .i64 p.next, .int .i64 p.acc, .bool p.stopped]) := by show _ = _; rw [List.take_add_one, hpk, List.flatMap_append]; rfl
        generalize p.next = pn at *
        generalize p.acc = pa at *
        generalize p.stopped = pt at *
        have hr3 : wr.drew.ownsRow wc.heap.size 47 3 (.slice ad k c) k ((ps.take k).flatMap rstCells) := hown
        obtain ⟨v', w4, hrun, hown', hgrow, _⟩ := run_append_own (P := Tryz.prog) (wr.drew.alloc (.cells #[.int .i64 pn, .int .i64 pa, .bool pt] 47)) wc.heap.size 41 41 47 i0 _ 3 24 Tryz.underlying41 hii hz0 hz1 hz2 rfl (by decide) (.slice ad k c) k _ (hr3.alloc _) ⟨wr.heap.size, 0, none⟩ 1 1 [.int .i64 pn, .int .i64 pa, .bool pt] rfl (by have := news_at wr.drew #[.int .i64 pn, .int .i64 pa, .bool pt] 47; simpa using this) (by intro u hu; simp at hu; rcases hu with rfl | rfl | rfl <;> rfl) (by unfold maxLen; omega) (by omega) (Nat.le_trans hsr (by simp))
        obtain ⟨g', cap', rfl⟩ := ownsRow_succ hown'
        have hrun2 : (Builtin.append_ #[41, 41] 41 #[.slice ad k c, .slice (some ⟨wr.heap.size, 0, none⟩) 1 1]).run Tryz.prog (wr.alloc (.cells #[.int .i64 pn, .int .i64 pa, .bool pt] 47)).drew = _ := hrun
        have hg4 : wr.grownBy w4 (Value.slice ad k c).ownBlock := grown_alloc (o := .cells #[.int .i64 pn, .int .i64 pa, .bool pt] 47) ⟨hgrow.os, hgrow.tape, hgrow.output, hgrow.size, hgrow.block⟩
        have hs4 := hg4.size
        have hrowb : ∀ b, (Value.slice ad k c).ownBlock = some b → wc.heap.size ≤ b := fun b e => (World.ownsRow.lt hown b e).1
        have same : ∀ b, b < wc.heap.size → w4.heap[b]? = wr.heap[b]? := fun b hb => hg4.block b (by omega) (fun e => by have := hrowb b e.symm; omega)
        have hv4 := (same vb (by omega)).trans hvb'
        have v4 : w4.cell? ⟨vb, 3, none⟩ = some (.slice ad k c) := by rw [cell_of_row _ _ _ _ _ _ hv4]; rfl
        have f4 := free_of_block hv4 3
        have u0 := (cellR (same qb (by omega)) _).trans y0
        have u1 := (cellR (same qb (by omega)) _).trans y1
        have u4 := (cellR (same qb (by omega)) _).trans y4
        have ux := (cellR (same bx b1) _).trans x2
        have HEND : Hid ((w4.setCell ⟨vb, 3, none⟩ (.slice (some ⟨g', 0, none⟩) (k + 1) cap')).heap[vb]? = some (.cells #[.int .i64 mo, .int .i64 rs, .slice aw nw cw, .slice (some ⟨g', 0, none⟩) (k + 1) cap'] 43 (0, 0)) ∧ (w4.setCell ⟨vb, 3, none⟩ (.slice (some ⟨g', 0, none⟩) (k + 1) cap')).ownsRow wc.heap.size 47 3 (.slice (some ⟨g', 0, none⟩) (k + 1) cap') (k + 1) ((ps.take (k + 1)).flatMap rstCells) ∧ Touch (fun b => b = vb ∨ wc.heap.size ≤ b) wc (w4.setCell ⟨vb, 3, none⟩ (.slice (some ⟨g', 0, none⟩) (k + 1) cap'))) := by
          have ts : Touch (· = vb) w4 (w4.setCell ⟨vb, 3, none⟩ (.slice (some ⟨g', 0, none⟩) (k + 1) cap')) := Touch.ofSet _ _ _ _ rfl
          refine ⟨block_set hv4 3 _, ?_, Touch.trans (T := (· = vb)) (Touch.trans hT (Touch.ofGrown (S := fun b => wc.heap.size ≤ b) hg4 (fun b e => .inl (hrowb b e))) (fun i hi => .inl (.inr hi))) ts (fun i hi => .inl (.inl hi))⟩
          rw [HTK.out]
          exact own_keep hown' (fun b e => ts.block b (World.ownsRow.lt hown' b e).2 (by have := (World.ownsRow.lt hown' b e).1; omega))
        have HXS : Hid (∀ W : World, (W.cell? ⟨bx, 2, none⟩ = wr.cell? ⟨bx, 2, none⟩ ∧ W.cell? ⟨qb, k * 5, none⟩ = wr.cell? ⟨qb, k * 5, none⟩ ∧ W.cell? ⟨qb, k * 5 + 1, none⟩ = wr.cell? ⟨qb, k * 5 + 1, none⟩ ∧ W.cell? ⟨qb, k * 5 + 4, none⟩ = wr.cell? ⟨qb, k * 5 + 4, none⟩) → W.cell? ⟨bx, 2, none⟩ = some (.slice (some ⟨qb, 0, none⟩) np cq) ∧ W.cell? ⟨qb, k * 5, none⟩ = some (.int .i64 pn) ∧ W.cell? ⟨qb, k * 5 + 1, none⟩ = some (.int .i64 pa) ∧ W.cell? ⟨qb, k * 5 + 4, none⟩ = some (.bool pt)) := fun W ⟨h1, h2, h3, h4⟩ => ⟨h1.trans x2, h2.trans y0, h3.trans y1, h4.trans y4⟩
        have hne1 : ¬ bx = vb := by omega
        have hne2 : ¬ qb = vb := by omega
        have hlr1 : bx < wr.heap.size := by omega
        have hlr2 : qb < wr.heap.size := by omega
        have hlr3 : vb < wr.heap.size := by omega
        clear hown hr3 hrun hown' hgrow hg4 hrowb same hv4 hvb' hXr p0 p1 p4 hqr hT hpk hsr hs4
        go_wp2_with fail
        refine wp_region_held_drew (S := (fun w' : World => w'.cell? ⟨bx, 2, none⟩ = some (.slice (some ⟨qb, 0, none⟩) np cq) ∧ w'.cell? ⟨qb, k * 5, none⟩ = some (.int .i64 pn) ∧ w'.cell? ⟨qb, k * 5 + 1, none⟩ = some (.int .i64 pa) ∧ w'.cell? ⟨qb, k * 5 + 4, none⟩ = some (.bool pt))) (by kernel_rfl) (by go_simp) (fun hHeld => ?_)
        refine wpAnyH_take (i := 0) (v := .pointer (some ⟨vb, 3, none⟩)) rfl (by kernel_rfl) (by kernel_rfl) (by kernel_rfl) (fun _ _ _ h => h) (Or.inl ⟨by rfl, fun w hSw => by obtain ⟨s1, s2, s3, s4⟩ := hSw; go_simp⟩) (by assumption) ?_
        go_simp
        refine wpAnyH_take (i := 2) (v := .pointer (some ⟨bx, 2, none⟩)) rfl (by kernel_rfl) (by kernel_rfl) (by kernel_rfl) (fun _ _ _ h => h) (Or.inl ⟨by rfl, fun w hSw => by obtain ⟨s1, s2, s3, s4⟩ := hSw; go_simp⟩) (by assumption) ?_
        go_simp
        refine wpAnyH_take (i := 3) (v := .slice (some ⟨qb, 0, none⟩) np cq) rfl (by kernel_rfl) (by kernel_rfl) (by kernel_rfl) (fun _ _ _ h => h) (Or.inl ⟨by rfl, fun w hSw => by obtain ⟨s1, s2, s3, s4⟩ := hSw; go_simp⟩) (by assumption) ?_
        go_simp
        refine wpAnyH_take (i := 4) (v := .int .i64 k) rfl (by kernel_rfl) (by kernel_rfl) (by kernel_rfl) (fun _ _ _ h => h) (Or.inl ⟨by rfl, fun w hSw => by obtain ⟨s1, s2, s3, s4⟩ := hSw; go_simp⟩) (by assumption) ?_
        go_simp
        refine wpAnyH_take (i := 5) (v := .pointer (some ⟨qb, k * 5, none⟩)) rfl (by kernel_rfl) (by kernel_rfl) (by kernel_rfl) (fun _ _ _ h => h) (Or.inl ⟨by rfl, fun w hSw => by obtain ⟨s1, s2, s3, s4⟩ := hSw; go_simp⟩) (by assumption) ?_
        go_simp
        refine wpAnyH_take (i := 6) (v := .pointer (some ⟨qb, k * 5, none⟩)) rfl (by kernel_rfl) (by kernel_rfl) (by kernel_rfl) (fun _ _ _ h => h) (Or.inl ⟨by rfl, fun w hSw => by obtain ⟨s1, s2, s3, s4⟩ := hSw; go_simp⟩) (by assumption) ?_
        go_simp
        refine wpAnyH_take (i := 7) (v := .int .i64 pn) rfl (by kernel_rfl) (by kernel_rfl) (by kernel_rfl) (fun _ _ _ h => h) (Or.inl ⟨by rfl, fun w hSw => by obtain ⟨s1, s2, s3, s4⟩ := hSw; go_simp⟩) (by assumption) ?_
        go_simp
        refine wpAnyH_take (i := 8) (v := .pointer (some ⟨bx, 2, none⟩)) rfl (by kernel_rfl) (by kernel_rfl) (by kernel_rfl) (fun _ _ _ h => h) (Or.inl ⟨by rfl, fun w hSw => by obtain ⟨s1, s2, s3, s4⟩ := hSw; go_simp⟩) (by assumption) ?_
        go_simp
        refine wpAnyH_take (i := 9) (v := .slice (some ⟨qb, 0, none⟩) np cq) rfl (by kernel_rfl) (by kernel_rfl) (by kernel_rfl) (fun _ _ _ h => h) (Or.inl ⟨by rfl, fun w hSw => by obtain ⟨s1, s2, s3, s4⟩ := hSw; go_simp⟩) (by assumption) ?_
        go_simp
        refine wpAnyH_take (i := 10) (v := .int .i64 k) rfl (by kernel_rfl) (by kernel_rfl) (by kernel_rfl) (fun _ _ _ h => h) (Or.inl ⟨by rfl, fun w hSw => by obtain ⟨s1, s2, s3, s4⟩ := hSw; go_simp⟩) (by assumption) ?_
        go_simp
        refine wpAnyH_take (i := 11) (v := .pointer (some ⟨qb, k * 5, none⟩)) rfl (by kernel_rfl) (by kernel_rfl) (by kernel_rfl) (fun _ _ _ h => h) (Or.inl ⟨by rfl, fun w hSw => by obtain ⟨s1, s2, s3, s4⟩ := hSw; go_simp⟩) (by assumption) ?_
        go_simp
        refine wpAnyH_take (i := 12) (v := .pointer (some ⟨qb, k * 5 + 1, none⟩)) rfl (by kernel_rfl) (by kernel_rfl) (by kernel_rfl) (fun _ _ _ h => h) (Or.inl ⟨by rfl, fun w hSw => by obtain ⟨s1, s2, s3, s4⟩ := hSw; go_simp⟩) (by assumption) ?_
        go_simp
        refine wpAnyH_take (i := 13) (v := .int .i64 pa) rfl (by kernel_rfl) (by kernel_rfl) (by kernel_rfl) (fun _ _ _ h => h) (Or.inl ⟨by rfl, fun w hSw => by obtain ⟨s1, s2, s3, s4⟩ := hSw; go_simp⟩) (by assumption) ?_
        go_simp
        refine wpAnyH_take (i := 14) (v := .pointer (some ⟨bx, 2, none⟩)) rfl (by kernel_rfl) (by kernel_rfl) (by kernel_rfl) (fun _ _ _ h => h) (Or.inl ⟨by rfl, fun w hSw => by obtain ⟨s1, s2, s3, s4⟩ := hSw; go_simp⟩) (by assumption) ?_
        go_simp
        refine wpAnyH_take (i := 15) (v := .slice (some ⟨qb, 0, none⟩) np cq) rfl (by kernel_rfl) (by kernel_rfl) (by kernel_rfl) (fun _ _ _ h => h) (Or.inl ⟨by rfl, fun w hSw => by obtain ⟨s1, s2, s3, s4⟩ := hSw; go_simp⟩) (by assumption) ?_
        go_simp
        refine wpAnyH_take (i := 16) (v := .int .i64 k) rfl (by kernel_rfl) (by kernel_rfl) (by kernel_rfl) (fun _ _ _ h => h) (Or.inl ⟨by rfl, fun w hSw => by obtain ⟨s1, s2, s3, s4⟩ := hSw; go_simp⟩) (by assumption) ?_
        go_simp
        refine wpAnyH_take (i := 17) (v := .pointer (some ⟨qb, k * 5, none⟩)) rfl (by kernel_rfl) (by kernel_rfl) (by kernel_rfl) (fun _ _ _ h => h) (Or.inl ⟨by rfl, fun w hSw => by obtain ⟨s1, s2, s3, s4⟩ := hSw; go_simp⟩) (by assumption) ?_
        go_simp
        refine wpAnyH_take (i := 18) (v := .pointer (some ⟨qb, k * 5 + 4, none⟩)) rfl (by kernel_rfl) (by kernel_rfl) (by kernel_rfl) (fun _ _ _ h => h) (Or.inl ⟨by rfl, fun w hSw => by obtain ⟨s1, s2, s3, s4⟩ := hSw; go_simp⟩) (by assumption) ?_
        go_simp
        refine wpAnyH_take (i := 19) (v := .bool pt) rfl (by kernel_rfl) (by kernel_rfl) (by kernel_rfl) (fun _ _ _ h => h) (Or.inl ⟨by rfl, fun w hSw => by obtain ⟨s1, s2, s3, s4⟩ := hSw; go_simp⟩) (by assumption) ?_
        go_simp
        refine wpAnyH_take (i := 20) (v := .agg #[.int .i64 pn, .int .i64 pa, .bool pt]) rfl (by kernel_rfl) (by kernel_rfl) (by kernel_rfl) (fun _ _ _ h => h) (Or.inl ⟨by rfl, fun w hSw => by obtain ⟨s1, s2, s3, s4⟩ := hSw; go_simp⟩) (by assumption) ?_
        go_simp
        refine wpAnyH_ready (rs := [1, 21]) (by kernel_rfl) (by simp) ?_
        refine AllReadyH.cons rfl (fun K hK => ?_) (AllReadyH.cons rfl (fun K hK => ?_) AllReadyH.nil)
        · go_simp
          refine hK.out _ _ (by go_simp) (fun hHeld => ?_)
          refine wpAnyH_ready (rs := [21]) (by kernel_rfl) (by simp) ?_
          refine AllReadyH.cons rfl (fun K hK => ?_) AllReadyH.nil
          go_simp
          refine hK.out _ _ (by go_simp) (fun hHeld => ?_)
          refine wpAnyH_ready (rs := [22]) (by kernel_rfl) (by simp) ?_
          refine AllReadyH.cons rfl (fun K hK => ?_) AllReadyH.nil
          go_simp
          refine hK.out _ _ (by go_simp) (fun hHeld => ?_)
          refine wpAnyH_ready (rs := [23]) (by kernel_rfl) (by simp) ?_
          refine AllReadyH.cons rfl (fun K hK => ?_) AllReadyH.nil
          go_simp
          refine hK.out _ _ (by go_simp) (fun hHeld => ?_)
          refine wpAnyH_ready (rs := [24]) (by kernel_rfl) (by simp) ?_
          refine AllReadyH.cons rfl (fun K hK => ?_) AllReadyH.nil
          go_simp
          refine hK.out _ _ (by go_simp) (fun hHeld => ?_)
          refine wpAnyH_done (by kernel_rfl) ?_ _
          go_wp2
          exact ⟨⟨k + 1, _, by omega, by go_num, HEND.out.1, HEND.out.2.1, HEND.out.2.2⟩, by simp [intOf]; omega⟩
        · go_simp
          refine hK.out _ _ (by go_simp) (fun hHeld => ?_)
          refine wpAnyH_ready (rs := [1]) (by kernel_rfl) (by simp) ?_
          refine AllReadyH.cons rfl (fun K hK => ?_) AllReadyH.nil
          go_simp
          refine hK.out _ _ (by go_simp) (fun hHeld => ?_)
          refine wpAnyH_ready (rs := [22]) (by kernel_rfl) (by simp) ?_
          refine AllReadyH.cons rfl (fun K hK => ?_) AllReadyH.nil
          go_simp
          refine hK.out _ _ (by go_simp) (fun hHeld => ?_)
          refine wpAnyH_ready (rs := [23]) (by kernel_rfl) (by simp) ?_
          refine AllReadyH.cons rfl (fun K hK => ?_) AllReadyH.nil
          go_simp
          refine hK.out _ _ (by go_simp) (fun hHeld => ?_)
          refine wpAnyH_ready (rs := [24]) (by kernel_rfl) (by simp) ?_
          refine AllReadyH.cons rfl (fun K hK => ?_) AllReadyH.nil
          go_simp
          refine hK.out _ _ (by go_simp) (fun hHeld => ?_)
          refine wpAnyH_done (by kernel_rfl) ?_ _
          go_wp2
          exact ⟨⟨k + 1, _, by omega, by go_num, HEND.out.1, HEND.out.2.1, HEND.out.2.2⟩, by simp [intOf]; omega⟩
      · obtain rfl : k = np := by omega
        have hRr := (hT.block w.heap.size b2 (by omega)).trans HRc.out
        have v0 : wr.cell? ⟨vb, 0, none⟩ = some (.int .i64 mo) := by rw [cell_of_row _ _ _ _ _ _ hvb']; rfl
        have v1 : wr.cell? ⟨vb, 1, none⟩ = some (.int .i64 rs) := by rw [cell_of_row _ _ _ _ _ _ hvb']; rfl
        have v2 : wr.cell? ⟨vb, 2, none⟩ = some (.slice aw nw cw) := by rw [cell_of_row _ _ _ _ _ _ hvb']; rfl
        have v3 : wr.cell? ⟨vb, 3, none⟩ = some (.slice ad k c) := by rw [cell_of_row _ _ _ _ _ _ hvb']; rfl
        have z0 : wr.cell? ⟨w.heap.size, 0, none⟩ = some (.int .i64 0) := by rw [cell_of_row _ _ _ _ _ _ hRr]; rfl
        have z1 : wr.cell? ⟨w.heap.size, 1, none⟩ = some (.int .i64 0) := by rw [cell_of_row _ _ _ _ _ _ hRr]; rfl
        have z2 : wr.cell? ⟨w.heap.size, 2, none⟩ = some (.slice none 0 0) := by rw [cell_of_row _ _ _ _ _ _ hRr]; rfl
        have z3 : wr.cell? ⟨w.heap.size, 3, none⟩ = some (.slice none 0 0) := by rw [cell_of_row _ _ _ _ _ _ hRr]; rfl
        have f0 := free_of_block hRr 0
        have f1 := free_of_block hRr 1
        have f2 := free_of_block hRr 2
        have f3 := free_of_block hRr 3
        obtain ⟨wF, hwF⟩ : ∃ wF, wF = (((wr.setCell ⟨w.heap.size, 0, none⟩ (.int .i64 mo)).setCell ⟨w.heap.size, 1, none⟩ (.int .i64 rs)).setCell ⟨w.heap.size, 2, none⟩ (.slice aw nw cw)).setCell ⟨w.heap.size, 3, none⟩ (.slice ad k c) := ⟨_, rfl⟩
        have HFB : Hid (wF.heap[w.heap.size]? = some (.cells #[.int .i64 mo, .int .i64 rs, .slice aw nw cw, .slice ad k c] 43 (0, 0))) := by show _ = _; rw [hwF]; exact block_set4 hRr
        have HEND : Hid (wF.ownsRow w.heap.size 47 3 (.slice ad k c) k (ps.flatMap rstCells) ∧ Below w.heap.size w wF) := by
          have t : Touch (· = w.heap.size) wr wF := by
            rw [hwF]
            iterate 4 refine Touch.thenSet ?_ _ _ rfl
            exact Touch.refl _ _
          rw [List.take_of_length_le (by rw [HPS.out]; omega)] at hown
          refine ⟨own_low (own_keep hown (fun b e => t.block b (World.ownsRow.lt hown b e).2 (by have := (World.ownsRow.lt hown b e).1; omega))) (by omega), ?_⟩
          have t2 : Touch (fun b => w.heap.size ≤ b) w wF := Touch.trans (Touch.trans (Touch.ofBelow (S := fun b => w.heap.size ≤ b) HBc.out) hT (fun i hi => .inl (by omega))) t (fun i hi => .inl (by omega))
          exact t2.below (Nat.le_refl _) (fun k hk => hk)
        have HWF := hide hwF
        clear hvb' hown hT hXr hRr hwF hsr
        go_wp2
        rw [← HWF.out]
        refine bodyPost_ret (v := .tuple #[.agg #[.int .i64 mo, .int .i64 rs, .slice aw nw cw, .slice ad k c], .int .i64 0]) (res_cell_tmp Tryz.results99 _ _ _ (by rfl) HFB.out Tryz.underlying43 (by rw [Tryz.size43r]; rfl)) rfl ?_
        exact ⟨_, rfl, HEND.out⟩
end Go.Proofs.YtnjlbgolnbdkaaaGreat
