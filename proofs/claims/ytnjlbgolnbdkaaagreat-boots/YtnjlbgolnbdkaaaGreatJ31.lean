/- Texts of the proof of Boots, one behind the other. -/
import Derived.Test.YtnjlbgolnbdkaaaGreatJ30
/- The program's kernel: Look. -/
namespace Go.Proofs.YtnjlbgolnbdkaaaGreat
open Go.RowKit
attribute [-go_sem] Instr.storeAt

set_option maxRecDepth 100000 in
set_option maxHeartbeats 40000000 in
theorem mlook_gen (mo rs : Int) (nw np : Nat) (wv pv : List Value) (L : MLay) (g : Nat) (st : RSt) (bs : List Int) (left res : Int) (dead : Bool) (done : Int) (i : Nat) (w : World) (hm : MachAt w L g st) (hok : StOk st) (hf : FlashAt w g bs left res dead done) (hi : i < st.parts.length)
    (hE : mo = (st.parts.getD i default).mode ∧ rs = restartsOf bs i ∧ nw = (st.parts.getD i default).words.length ∧ np = (st.parts.getD i default).procs.length ∧ wv = (st.parts.getD i default).words.map (Value.int .i64) ∧ pv = (st.parts.getD i default).procs.flatMap stateCells) :
    Calls Tryz.prog 38 #[.pointer (some ⟨L.mb, 0, none⟩), .int .i64 i] w fun e w' => ∃ y1 c1 y2 c2, e = .returned (.tuple #[.agg #[.int .i64 mo, .int .i64 rs, .slice (some ⟨y1, 0, none⟩) nw c1, .slice (some ⟨y2, 0, none⟩) np c2], .int .i64 0]) ∧ (w'.ownsRow w.heap.size 3 1 (.slice (some ⟨y1, 0, none⟩) nw c1) nw (wv) ∧ w'.ownsRow w.heap.size 47 3 (.slice (some ⟨y2, 0, none⟩) np c2) np (pv)) ∧ Below w.heap.size w w' := by
  have c3 : w.cell? ⟨L.mb, 3, none⟩ = some (.slice (some ⟨L.pb, 0, none⟩) st.parts.length st.parts.length) := by rw [cell_of_row _ _ _ _ _ _ hm.mach]; rfl
  have hl := lt_of_cell c3
  have hb0 : Below w.heap.size w (w.alloc (.cells #[.int .i64 0, .int .i64 0, .slice none 0 0, .slice none 0 0] 43)) := (Below.refl _ _).alloc (Nat.le_refl _) _
  have HH := hide (partHas_any L.pb st.parts.length i (w.alloc (.cells #[.int .i64 0, .int .i64 0, .slice none 0 0, .slice none 0 0] 43)))
  have e : (decide (0 ≤ (i : Int)) && decide ((i : Int) < (st.parts.length : Int))) = true := by simp; omega
  rw [e] at HH
  have HB0 := hide hb0
  have HM := hide hm
  have HE := hide hE
  have HFL := hide hf
  have HOK := hide hok
  have hn := hok.few
  clear hb0 e hm hf hok hE
  go_enter Tryz.func38, Tryz.ntmps38
  go_wp2_with fail
  refine HH.out.mono ?_
  rintro e w1 ⟨rfl, hb1⟩
  have hr1 : w1.heap[w.heap.size]? = some (.cells #[.int .i64 0, .int .i64 0, .slice none 0 0, .slice none 0 0] 43 (0, 0)) := (hb1.block _ (by simp)).trans (heap_at rfl)
  have hb01 : Below w.heap.size w w1 := HB0.out.trans (hb1.mono (by simp))
  have hs1 : w.heap.size + 1 ≤ w1.heap.size := by have := hb1.size; simpa using this
  obtain ⟨P, hP⟩ : ∃ P : World → Prop, P = fun W => Below w1.heap.size w1 W := ⟨_, rfl⟩
  have HP1 : Hid (P w1) := by show P w1; rw [hP]; exact Below.refl _ _
  have HPb : Hid (∀ W, P W → Below w1.heap.size w1 W) := fun W h => by rw [hP] at h; exact h
  have HPk : Hid (∀ W W', P W → Below W.heap.size W W' → P W') := fun W W' h hb => by rw [hP] at h ⊢; exact h.trans (hb.mono h.size)
  have HPd : Hid (∀ W, P W → P W.drew) := fun W h => by rw [hP] at h ⊢; exact h.drew
  have HPW : Hid (∀ W, P W → Below w.heap.size w W) := fun W hW => hb01.trans ((HPb.out W hW).mono (by omega))
  have HPC0 : Hid (∀ W : World, W.heap[L.mb]? = w.heap[L.mb]? → W.cell? ⟨L.mb, 0, none⟩ = some (.pointer (some ⟨g, 0, none⟩)) ∧ W.cell? ⟨L.mb, 3, none⟩ = some (.slice (some ⟨L.pb, 0, none⟩) st.parts.length st.parts.length)) := fun W hW => by
    have a := hW.trans HM.out.mach
    refine ⟨?_, ?_⟩ <;> (rw [cell_of_row _ _ _ _ _ _ a]; rfl)
  have HPC : Hid (∀ W, P W → W.cell? ⟨L.mb, 0, none⟩ = some (.pointer (some ⟨g, 0, none⟩)) ∧ W.cell? ⟨L.mb, 3, none⟩ = some (.slice (some ⟨L.pb, 0, none⟩) st.parts.length st.parts.length)) := fun W hW => HPC0.out W ((HPW.out W hW).block _ hl)
  have HAT : Hid (∀ W, P W → Calls Tryz.prog 73 #[.agg #[.slice (some ⟨L.pb, 0, none⟩) st.parts.length st.parts.length], .int .i64 i] W fun e w' => e = .returned (.pointer (some ⟨L.pb, i * 14, none⟩)) ∧ P w') := fun W hW => (partAt_any L.pb st.parts.length i W hi).mono (fun e w' ⟨he, hb⟩ => ⟨he, HPk.out W w' hW hb⟩)
  have HRS : Hid (∀ W, P W → Calls Tryz.prog 75 #[.agg #[.pointer (some ⟨g, 0, none⟩)], .int .i64 i] W fun e w' => e = .returned (.int .i64 rs) ∧ P w') := fun W hW => (jrest_any g bs left res dead done i W (by omega) (HFL.out.below (HPW.out W hW))).mono (fun e w' ⟨he, hb⟩ => ⟨by rw [he, HE.out.2.1], HPk.out W w' hW hb⟩)
  have HVW : Hid (∀ W rs, P W → Calls Tryz.prog 74 #[.pointer (some ⟨L.pb, i * 14, none⟩), .int .i64 rs] W fun e w' => ∃ y1 c1 y2 c2, e = .returned (.agg #[.int .i64 mo, .int .i64 rs, .slice (some ⟨y1, 0, none⟩) nw c1, .slice (some ⟨y2, 0, none⟩) np c2]) ∧ (w'.ownsRow W.heap.size 3 1 (.slice (some ⟨y1, 0, none⟩) nw c1) nw (wv) ∧ w'.ownsRow W.heap.size 47 3 (.slice (some ⟨y2, 0, none⟩) np c2) np (pv)) ∧ P w') := fun W rs hW => (view_any L g st i rs W (HM.out.below (HPW.out W hW)) HOK.out hi).mono (fun e w' ⟨y1, c1, y2, c2, he, h1, h2, hb⟩ => by
    obtain ⟨e1, _, e3, e4, e5, e6⟩ := HE.out
    rw [← e1, ← e3, ← e4] at he
    rw [← e3, ← e5] at h1
    rw [← e4, ← e6] at h2
    exact ⟨y1, c1, y2, c2, he, ⟨h1, h2⟩, HPk.out W w' hW hb⟩)
  have HRB : Hid (∀ W, P W → W.heap[w.heap.size]? = some (.cells #[.int .i64 0, .int .i64 0, .slice none 0 0, .slice none 0 0] 43 (0, 0))) := fun W hW => keepB (HPb.out W hW) hr1
  have HPS : Hid (∀ W, P W → w.heap.size + 1 ≤ W.heap.size) := fun W hW => Nat.le_trans hs1 (HPb.out W hW).size
  obtain ⟨F, hF⟩ : ∃ F : World → Nat → Nat → Nat → Nat → World, F = fun W y1 c1 y2 c2 => W.setCells w.heap.size 0 [.int .i64 mo, .int .i64 rs, .slice (some ⟨y1, 0, none⟩) nw c1, .slice (some ⟨y2, 0, none⟩) np c2] := ⟨_, rfl⟩
  have HSTO : Hid (∀ W y1 c1 y2 c2, P W → (Instr.storeAt 43 (.pointer (some ⟨w.heap.size, 0, none⟩)) (.agg #[.int .i64 mo, .int .i64 rs, .slice (some ⟨y1, 0, none⟩) nw c1, .slice (some ⟨y2, 0, none⟩) np c2])).run Tryz.prog W = .ok () (F W y1 c1 y2 c2)) := fun W y1 c1 y2 c2 hW => by
    rw [hF]
    exact run_storeAt_mid (P := Tryz.prog) W w.heap.size 0 43 _ (there_of_block (HRB.out W hW) 4 (by decide)) (by rw [Tryz.size43]; rfl) (by simp [Value.oneCell'])
  have HF : Hid (∀ W y1 c1 y2 c2, P W → (F W y1 c1 y2 c2).heap[w.heap.size]? = some (.cells #[.int .i64 mo, .int .i64 rs, .slice (some ⟨y1, 0, none⟩) nw c1, .slice (some ⟨y2, 0, none⟩) np c2] 43 (0, 0)) ∧ Touch (· = w.heap.size) W (F W y1 c1 y2 c2)) := fun W y1 c1 y2 c2 hW => by
    rw [hF]
    exact ⟨setCells_whole _ (HRB.out W hW) rfl, touch_setCells _ _ _ _⟩
  have HFC : Hid (∀ W y1 c1 y2 c2, P W → (F W y1 c1 y2 c2).cell? ⟨L.mb, 0, none⟩ = some (.pointer (some ⟨g, 0, none⟩)) ∧ (F W y1 c1 y2 c2).cell? ⟨L.mb, 3, none⟩ = some (.slice (some ⟨L.pb, 0, none⟩) st.parts.length st.parts.length)) := fun W y1 c1 y2 c2 hW => HPC0.out _ (((HF.out W y1 c1 y2 c2 hW).2.block _ (by have := HPS.out W hW; omega) (by omega)).trans ((HPW.out W hW).block _ hl))
  clear hF hr1 hb01 hP HH hb1
  obtain ⟨r0, r1⟩ := HPC.out _ HP1.out
  go_wp2_with fail
  go_region_held3 (fun w' => w'.cell? ⟨L.mb, 0, none⟩ = some (.pointer (some ⟨g, 0, none⟩)) ∧ w'.cell? ⟨L.mb, 3, none⟩ = some (.slice (some ⟨L.pb, 0, none⟩) st.parts.length st.parts.length))
    ((first | exact HPC.out _ HP1.out | exact HPC.out _ (HPd.out _ HP1.out) | exact HPC.out _ (by assumption) | exact HFC.out _ _ _ _ _ (by assumption)))
    (first
      | (go_at_call 73; refine (HAT.out _ (by first | assumption | exact HPd.out _ HP1.out)).mono ?_; rintro e ua ⟨rfl, ha6⟩)
      | (go_at_call 75; refine (HRS.out _ (by first | assumption | exact HPd.out _ HP1.out)).mono ?_; rintro e ur ⟨rfl, hr6⟩)
      | (go_at_call 74; refine (HVW.out _ _ (by first | assumption | exact HPd.out _ HP1.out)).mono ?_; rintro e us ⟨y1, c1, y2, c2, rfl, hs1, hs6⟩; have hstU := fun a b c d => HSTO.out us a b c d hs6))
  all_goals
    go_wp2
    obtain ⟨hf1, hf2⟩ := HF.out us y1 c1 y2 c2 hs6
    have hb6 := HPW.out us hs6
    have hzr := HPS.out _ hr6
    refine bodyPost_ret (v := .tuple #[.agg #[.int .i64 mo, .int .i64 rs, .slice (some ⟨y1, 0, none⟩) nw c1, .slice (some ⟨y2, 0, none⟩) np c2], .int .i64 0]) (res_cell_tmp Tryz.results38 _ _ _ (by rfl) hf1 Tryz.underlying43 (by rw [Tryz.size43]; rfl)) rfl ?_
    refine ⟨y1, c1, y2, c2, rfl, ⟨?_, ?_⟩, hb6.trans (hf2.below hb6.size (fun k hk => by omega))⟩
    · exact own_low (own_keep hs1.1 (fun b e => hf2.block b (World.ownsRow.lt hs1.1 b e).2 (by have := (World.ownsRow.lt hs1.1 b e).1; omega))) (by omega)
    · exact own_low (own_keep hs1.2 (fun b e => hf2.block b (World.ownsRow.lt hs1.2 b e).2 (by have := (World.ownsRow.lt hs1.2 b e).1; omega))) (by omega)
theorem mlook_yes (L : MLay) (g : Nat) (st : RSt) (bs : List Int) (left res : Int) (dead : Bool) (done : Int) (i : Nat) (w : World) (hm : MachAt w L g st) (hok : StOk st) (hf : FlashAt w g bs left res dead done) (hi : i < st.parts.length) :
    Calls Tryz.prog 38 #[.pointer (some ⟨L.mb, 0, none⟩), .int .i64 i] w fun e w' => ∃ y1 c1 y2 c2, e = .returned (.tuple #[.agg #[.int .i64 (st.parts.getD i default).mode, .int .i64 (restartsOf bs i), .slice (some ⟨y1, 0, none⟩) (st.parts.getD i default).words.length c1, .slice (some ⟨y2, 0, none⟩) (st.parts.getD i default).procs.length c2], .int .i64 0]) ∧ (w'.ownsRow w.heap.size 3 1 (.slice (some ⟨y1, 0, none⟩) (st.parts.getD i default).words.length c1) (st.parts.getD i default).words.length ((st.parts.getD i default).words.map (Value.int .i64)) ∧ w'.ownsRow w.heap.size 47 3 (.slice (some ⟨y2, 0, none⟩) (st.parts.getD i default).procs.length c2) (st.parts.getD i default).procs.length ((st.parts.getD i default).procs.flatMap stateCells)) ∧ Below w.heap.size w w' :=
  mlook_gen _ _ _ _ _ _ L g st bs left res dead done i w hm hok hf hi ⟨rfl, rfl, rfl, rfl, rfl, rfl⟩
end Go.Proofs.YtnjlbgolnbdkaaaGreat
/- The program's kernel: Look, from outside. -/
namespace Go.Proofs.YtnjlbgolnbdkaaaGreat
open Go.RowKit

set_option maxRecDepth 100000 in
set_option maxHeartbeats 4000000 in
theorem klook_yes (kb : Nat) (L : MLay) (g : Nat) (st : RSt) (bs : List Int) (left res : Int) (dead : Bool) (done : Int) (i : Nat) (w : World) (hk : KernAt w kb L g st) (hf : FlashAt w g bs left res dead done) (hi : i < st.parts.length) :
    Calls Tryz.prog 20 #[.pointer (some ⟨kb, 0, none⟩), .int .i64 i] w fun e w' => ∃ v, e = .returned (.tuple #[v, .int .i64 0]) ∧ ViewV w.heap.size v (st.parts.getD i default) (restartsOf bs i) w' ∧ Below w.heap.size w w' := by
  have c0 : w.cell? ⟨kb, 0, none⟩ = some (.pointer (some ⟨L.mb, 0, none⟩)) := by rw [cell_of_row _ _ _ _ _ _ hk.box]; rfl
  have hl0 := lt_of_cell c0
  have hb0 : Below w.heap.size w (w.alloc (.cells #[.int .i64 0, .int .i64 0, .slice none 0 0, .slice none 0 0] 43)) := (Below.refl _ _).alloc (Nat.le_refl _) _
  have HC := hide (mlook_yes L g st bs left res dead done i _ (hk.mach.below hb0) hk.ok (hf.below hb0) hi)
  have HB0 := hide hb0
  clear hk hf hb0
  generalize st.parts.getD i default = p at *
  generalize restartsOf bs i = rs at *
  go_enter Tryz.func20, Tryz.ntmps20
  go_wp2_with fail
  refine HC.out.mono ?_
  rintro e w1 ⟨y1, c1, y2, c2, rfl, hs, hb1⟩
  have hs1 : w.heap.size + 1 ≤ w1.heap.size := by have := hb1.size; simpa using this
  have hr1 : w1.heap[w.heap.size]? = some (.cells #[.int .i64 0, .int .i64 0, .slice none 0 0, .slice none 0 0] 43 (0, 0)) := (hb1.block _ (by simp)).trans (heap_at rfl)
  have z0 : w1.cell? ⟨w.heap.size, 0, none⟩ = some (.int .i64 0) := by rw [cell_of_row _ _ _ _ _ _ hr1]; rfl
  have z1 : w1.cell? ⟨w.heap.size, 1, none⟩ = some (.int .i64 0) := by rw [cell_of_row _ _ _ _ _ _ hr1]; rfl
  have z2 : w1.cell? ⟨w.heap.size, 2, none⟩ = some (.slice none 0 0) := by rw [cell_of_row _ _ _ _ _ _ hr1]; rfl
  have z3 : w1.cell? ⟨w.heap.size, 3, none⟩ = some (.slice none 0 0) := by rw [cell_of_row _ _ _ _ _ _ hr1]; rfl
  have f0 := free_of_block hr1 0
  have f1 := free_of_block hr1 1
  have f2 := free_of_block hr1 2
  have f3 := free_of_block hr1 3
  have hb01 : Below w.heap.size w w1 := HB0.out.trans (hb1.mono (by simp))
  obtain ⟨wF, hwF⟩ : ∃ wF, wF = (((w1.setCell ⟨w.heap.size, 0, none⟩ (.int .i64 p.mode)).setCell ⟨w.heap.size, 1, none⟩ (.int .i64 rs)).setCell ⟨w.heap.size, 2, none⟩ (.slice (some ⟨y1, 0, none⟩) p.words.length c1)).setCell ⟨w.heap.size, 3, none⟩ (.slice (some ⟨y2, 0, none⟩) p.procs.length c2) := ⟨_, rfl⟩
  have HFB : Hid (wF.heap[w.heap.size]? = some (.cells #[.int .i64 p.mode, .int .i64 rs, .slice (some ⟨y1, 0, none⟩) p.words.length c1, .slice (some ⟨y2, 0, none⟩) p.procs.length c2] 43 (0, 0))) := by show _ = _; rw [hwF]; exact block_set (block_set (block_set (block_set hr1 0 _) 1 _) 2 _) 3 _
  have t : Touch (· = w.heap.size) w1 wF := by
    rw [hwF]
    iterate 4 refine Touch.thenSet ?_ _ _ rfl
    exact Touch.refl _ _
  have HEND : Hid (ViewV w.heap.size (.agg #[.int .i64 p.mode, .int .i64 rs, .slice (some ⟨y1, 0, none⟩) p.words.length c1, .slice (some ⟨y2, 0, none⟩) p.procs.length c2]) p rs wF ∧ Below w.heap.size w wF) := ⟨⟨y1, c1, y2, c2, rfl, own_low (own_keep hs.1 (fun b e => t.block b (World.ownsRow.lt hs.1 b e).2 (by have := (World.ownsRow.lt hs.1 b e).1; simp at this; omega))) (by simp), own_low (own_keep hs.2 (fun b e => t.block b (World.ownsRow.lt hs.2 b e).2 (by have := (World.ownsRow.lt hs.2 b e).1; simp at this; omega))) (by simp)⟩, hb01.trans (t.below hb01.size (fun k hk => by omega))⟩
  clear hs
  have HWF := hide hwF
  clear hb1 hr1 hwF hb01 t HC
  go_wp2
  rw [← HWF.out]
  refine bodyPost_ret (v := .tuple #[.agg #[.int .i64 p.mode, .int .i64 rs, .slice (some ⟨y1, 0, none⟩) p.words.length c1, .slice (some ⟨y2, 0, none⟩) p.procs.length c2], .int .i64 0]) (res_cell_tmp Tryz.results20 _ _ _ (by rfl) HFB.out Tryz.underlying43 (by rw [Tryz.size43]; rfl)) rfl ?_
  exact ⟨_, rfl, HEND.out⟩
set_option maxRecDepth 100000 in
set_option maxHeartbeats 4000000 in
theorem klook_no (kb : Nat) (L : MLay) (g : Nat) (st : RSt) (i : Int) (w : World) (hk : KernAt w kb L g st) (hi : ¬ (0 ≤ i ∧ i < st.parts.length)) :
    Calls Tryz.prog 20 #[.pointer (some ⟨kb, 0, none⟩), .int .i64 i] w fun e w' => e = .returned (.tuple #[.agg #[.int .i64 0, .int .i64 0, .slice none 0 0, .slice none 0 0], .int .i64 1]) ∧ Below w.heap.size w w' := by
  have c0 : w.cell? ⟨kb, 0, none⟩ = some (.pointer (some ⟨L.mb, 0, none⟩)) := by rw [cell_of_row _ _ _ _ _ _ hk.box]; rfl
  have hl0 := lt_of_cell c0
  have hb0 : Below w.heap.size w (w.alloc (.cells #[.int .i64 0, .int .i64 0, .slice none 0 0, .slice none 0 0] 43)) := (Below.refl _ _).alloc (Nat.le_refl _) _
  have HC := hide (mlook_no L g st i _ (hk.mach.below hb0) hi)
  have HB0 := hide hb0
  clear hk hb0 hi
  go_enter Tryz.func20, Tryz.ntmps20
  go_wp2_with fail
  refine HC.out.mono ?_
  rintro e w1 ⟨rfl, hb1⟩
  have hs1 : w.heap.size + 1 ≤ w1.heap.size := by have := hb1.size; simpa using this
  have hr1 : w1.heap[w.heap.size]? = some (.cells #[.int .i64 0, .int .i64 0, .slice none 0 0, .slice none 0 0] 43 (0, 0)) := (hb1.block _ (by simp)).trans (heap_at rfl)
  have z0 : w1.cell? ⟨w.heap.size, 0, none⟩ = some (.int .i64 0) := by rw [cell_of_row _ _ _ _ _ _ hr1]; rfl
  have z1 : w1.cell? ⟨w.heap.size, 1, none⟩ = some (.int .i64 0) := by rw [cell_of_row _ _ _ _ _ _ hr1]; rfl
  have z2 : w1.cell? ⟨w.heap.size, 2, none⟩ = some (.slice none 0 0) := by rw [cell_of_row _ _ _ _ _ _ hr1]; rfl
  have z3 : w1.cell? ⟨w.heap.size, 3, none⟩ = some (.slice none 0 0) := by rw [cell_of_row _ _ _ _ _ _ hr1]; rfl
  have f0 := free_of_block hr1 0
  have f1 := free_of_block hr1 1
  have f2 := free_of_block hr1 2
  have f3 := free_of_block hr1 3
  have hb01 : Below w.heap.size w w1 := HB0.out.trans (hb1.mono (by simp))
  obtain ⟨wF, hwF⟩ : ∃ wF, wF = (((w1.setCell ⟨w.heap.size, 0, none⟩ (.int .i64 0)).setCell ⟨w.heap.size, 1, none⟩ (.int .i64 0)).setCell ⟨w.heap.size, 2, none⟩ (.slice none 0 0)).setCell ⟨w.heap.size, 3, none⟩ (.slice none 0 0) := ⟨_, rfl⟩
  have HFB : Hid (wF.heap[w.heap.size]? = some (.cells #[.int .i64 0, .int .i64 0, .slice none 0 0, .slice none 0 0] 43 (0, 0))) := by show _ = _; rw [hwF]; exact block_set (block_set (block_set (block_set hr1 0 _) 1 _) 2 _) 3 _
  have t : Touch (· = w.heap.size) w1 wF := by
    rw [hwF]
    iterate 4 refine Touch.thenSet ?_ _ _ rfl
    exact Touch.refl _ _
  have HEND : Hid (Below w.heap.size w wF) := hb01.trans (t.below hb01.size (fun k hk => by omega))
  have HWF := hide hwF
  clear hb1 hr1 hwF hb01 t HC
  go_wp2
  rw [← HWF.out]
  refine bodyPost_ret (v := .tuple #[.agg #[.int .i64 0, .int .i64 0, .slice none 0 0, .slice none 0 0], .int .i64 1]) (res_cell_tmp Tryz.results20 _ _ _ (by rfl) HFB.out Tryz.underlying43 (by rw [Tryz.size43]; rfl)) rfl ?_
  exact ⟨rfl, HEND.out⟩
end Go.Proofs.YtnjlbgolnbdkaaaGreat
