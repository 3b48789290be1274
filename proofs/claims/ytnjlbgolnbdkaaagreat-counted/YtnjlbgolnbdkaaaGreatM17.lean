/- Texts of the proofs of Watched and Clocked, one behind the other. -/
import Derived.Test.YtnjlbgolnbdkaaaGreatM16
import Derived.Conc.LoneSelect
import Derived.Deep.RegionHeld
/- The program's channels: a number goes in, if there is room; the one that waits longest comes out. -/
namespace Go.Proofs.YtnjlbgolnbdkaaaGreat
open Go.RowKit Go.Conc

theorem setChan_block (w : World) (c b cap : Nat) (buf : Array Value) (cl : Bool) (s r : Nat) (tm : Bool) (h : b ≠ c) : (w.setChan c cap buf cl s r tm).heap[b]? = w.heap[b]? := by
  simp [World.setChan, Array.getElem?_setIfInBounds_ne (Ne.symm h)]
theorem touch_setChan (w : World) (c cap : Nat) (buf : Array Value) (cl : Bool) (s r : Nat) (tm : Bool) : Touch (· = c) w (w.setChan c cap buf cl s r tm) :=
  ⟨rfl, rfl, rfl, by simp [World.setChan], fun k _ hk => setChan_block w c k cap buf cl s r tm hk⟩
set_option maxRecDepth 100000 in
theorem receive_none (c cap s r : Nat) (f t : Int) (w : World) (hc : w.heap[c]? = some (.chan cap #[] false s r false)) :
    Calls Tryz.prog 211 #[.agg #[.int .i64 f, .int .i64 t, .chan (some c)]] w fun e w' => e = .returned (.tuple #[.int .i64 0, .bool false]) ∧ Below w.heap.size w w' := by
  refine calls_of_loneTo fun cs => ?_
  have e : Frame.enter Tryz.prog 211 #[.agg #[.int .i64 f, .int .i64 t, .chan (some c)]] .normal = (base 211).at ⟨#[.agg #[.int .i64 f, .int .i64 t, .chan (some c)], undef, undef, undef, undef, undef, undef, undef, undef, undef, undef, undef], []⟩ [.code (Tryz.f211.body.getD .skip)] := by
    simp [Frame.enter, Frame.at, Tryz.func211, base, Tryz.f211]
  rw [e]
  refine LoneTo.goes (n := 13) ?_
  simp only [Tryz.f211, Option.getD_some]
  s_c stepG_seq
  s_reg
  s_op
  s_op
  s_op
  s_c stepG_region_end
  s_c stepG_seq
  s_reg
  s_op
  s_op
  s_c stepG_region_end
  s_c stepG_seq
  s_reg
  s_stop
  have hc1 : (w.alloc (.cells #[.int .i64 f, .int .i64 t, .chan (some c)] 139)).heap[c]? = some (.chan cap #[] false s r false) := (Below.heap_alloc _ _ _ (lt_of_block hc)).trans hc
  refine LoneTo.step (step_lone_select_default (c := c) (z := .int .i64 0) (cap := cap) (s := s) (r := r) (tm := false) (stepG_comm (cases := #[rcase c (.int .i64 0)]) (blocking := false) (shape := .select) (w' := (w.alloc (.cells #[.int .i64 f, .int .i64 t, .chan (some c)] 139))) rfl rfl (by decide) (by simp [go_sem, execOp, rcase, Act.eval])) hc1) ?_
  rw [Frame.finish_at]
  walk_nrm
  refine LoneTo.goes (n := 11) ?_
  s_op
  s_op
  s_c stepG_region_end
  s_c stepG_block
  s_cond false
  s_c stepG_seq
  s_reg
  s_op
  s_op
  s_c stepG_region_end
  s_c stepG_ret'
  s_stop
  refine LoneTo.done ⟨.returned (.tuple #[.int .i64 0, .bool false]), _, rfl, ⟨rfl, ?_⟩, rfl, rfl, rfl, rfl, _, Tryz.func211, by simp [results, Tryz.f211, Frame.at]⟩
  exact (Below.refl _ w).alloc (Nat.le_refl _) _
set_option maxRecDepth 100000 in
theorem receive_some (c cap s r : Nat) (v : Int) (vs : List Value) (f t : Int) (w : World) (hc : w.heap[c]? = some (.chan cap (.int .i64 v :: vs).toArray false s r false)) :
    Calls Tryz.prog 211 #[.agg #[.int .i64 f, .int .i64 t, .chan (some c)]] w fun e w' => e = .returned (.tuple #[.int .i64 v, .bool true]) ∧ w'.heap[c]? = some (.chan cap vs.toArray false s (r + 1) false) ∧ Touch (· = c) w w' := by
  refine calls_of_loneTo fun cs => ?_
  have e : Frame.enter Tryz.prog 211 #[.agg #[.int .i64 f, .int .i64 t, .chan (some c)]] .normal = (base 211).at ⟨#[.agg #[.int .i64 f, .int .i64 t, .chan (some c)], undef, undef, undef, undef, undef, undef, undef, undef, undef, undef, undef], []⟩ [.code (Tryz.f211.body.getD .skip)] := by
    simp [Frame.enter, Frame.at, Tryz.func211, base, Tryz.f211]
  rw [e]
  refine LoneTo.goes (n := 13) ?_
  simp only [Tryz.f211, Option.getD_some]
  s_c stepG_seq
  s_reg
  s_op
  s_op
  s_op
  s_c stepG_region_end
  s_c stepG_seq
  s_reg
  s_op
  s_op
  s_c stepG_region_end
  s_c stepG_seq
  s_reg
  s_stop
  have hcl : c < (w.alloc (.cells #[.int .i64 f, .int .i64 t, .chan (some c)] 139)).heap.size := by have := lt_of_block hc; simp; omega
  have hc1 : (w.alloc (.cells #[.int .i64 f, .int .i64 t, .chan (some c)] 139)).heap[c]? = some (.chan cap (.int .i64 v :: vs).toArray false s r false) := (Below.heap_alloc _ _ _ (lt_of_block hc)).trans hc
  refine LoneTo.step (step_lone_select_recv_buf (c := c) (z := .int .i64 0) (stepG_comm (cases := #[rcase c (.int .i64 0)]) (blocking := false) (shape := .select) (w' := (w.alloc (.cells #[.int .i64 f, .int .i64 t, .chan (some c)] 139))) rfl rfl (by decide) (by simp [go_sem, execOp, rcase, Act.eval])) hc1 (by simp)) ?_
  rw [Frame.finish_at]
  have hg : ((.int .i64 v :: vs).toArray).getD 0 undef = .int .i64 v := by simp
  rw [hg]
  walk_nrm
  refine LoneTo.goes (n := 17) ?_
  s_op
  s_op
  s_c stepG_region_end
  s_c stepG_block
  s_cond true
  s_c stepG_seq
  s_reg
  s_op
  s_op
  s_c stepG_region_end
  s_c stepG_seq
  s_reg
  s_op
  s_op
  s_op
  s_c stepG_region_end
  s_c stepG_ret'
  s_stop
  refine LoneTo.done ⟨.returned (.tuple #[.int .i64 v, .bool true]), _, rfl, ⟨rfl, ?_⟩, rfl, rfl, rfl, rfl, _, Tryz.func211, by simp [results, Tryz.f211, Frame.at]⟩
  refine ⟨?_, (Touch.ofBelow ((Below.refl _ w).alloc (Nat.le_refl _) _)).andThen (touch_setChan _ c _ _ _ _ _ _)⟩
  have := heap_setChan (w.alloc (.cells #[.int .i64 f, .int .i64 t, .chan (some c)] 139)) c cap vs.toArray false s (r + 1) false hcl
  simpa using this
set_option maxRecDepth 100000 in
theorem csend_any (c cap s r : Nat) (v : Int) (buf : Array Value) (f t : Int) (w : World) (hc : w.heap[c]? = some (.chan cap buf false s r false)) (hb : buf.size < cap) :
    Calls Tryz.prog 224 #[.agg #[.int .i64 f, .int .i64 t, .chan (some c)], .int .i64 v] w fun e w' => e = .returned (.tuple #[]) ∧ w'.heap[c]? = some (.chan cap (buf.push (.int .i64 v)) false (s + 1) r false) ∧ Touch (· = c) w w' := by
  refine calls_of_loneTo fun cs => ?_
  have e : Frame.enter Tryz.prog 224 #[.agg #[.int .i64 f, .int .i64 t, .chan (some c)], .int .i64 v] .normal = (base 224).at ⟨#[.agg #[.int .i64 f, .int .i64 t, .chan (some c)], .int .i64 v, undef, undef, undef, undef, undef, undef, undef, undef], []⟩ [.code (Tryz.f224.body.getD .skip)] := by
    simp [Frame.enter, Frame.at, Tryz.func224, base, Tryz.f224]
  rw [e]
  refine LoneTo.goes (n := 15) ?_
  simp only [Tryz.f224, Option.getD_some]
  s_c stepG_seq
  s_reg
  s_op
  s_c stepG_region_end
  s_c stepG_seq
  s_c stepG_seq
  s_reg
  s_op
  s_op
  s_c stepG_region_end
  s_reg
  s_op
  s_c stepG_region_end
  s_c stepG_seq
  s_reg
  s_stop
  have hcl : c < (w.alloc (.cells #[.int .i64 f, .int .i64 t, .chan (some c)] 139)).heap.size := by have := lt_of_block hc; simp; omega
  have hc1 : (w.alloc (.cells #[.int .i64 f, .int .i64 t, .chan (some c)] 139)).heap[c]? = some (.chan cap buf false s r false) := (Below.heap_alloc _ _ _ (lt_of_block hc)).trans hc
  refine LoneTo.step (step_lone_select_send_room (c := c) (cap := cap) (buf := buf) (s := s) (r := r) (tm := false) (stepG_comm (cases := #[scase c (.int .i64 v) (.int .i64 0)]) (blocking := false) (shape := .select) (w' := (w.alloc (.cells #[.int .i64 f, .int .i64 t, .chan (some c)] 139))) rfl rfl (by decide) (by simp [go_sem, execOp, scase, Act.eval])) hc1 hb) ?_
  rw [Frame.finish_at]
  walk_nrm
  refine LoneTo.goes (n := 8) ?_
  s_op
  s_op
  s_c stepG_region_end
  s_c stepG_block
  s_cond true
  s_c stepG_skip
  s_c stepG_inBlock
  s_c stepG_end
  s_stop
  refine LoneTo.done ⟨.returned (.tuple #[]), _, rfl, ⟨rfl, ?_⟩, rfl, rfl, rfl, rfl, _, Tryz.func224, by simp [results, Tryz.f224, Frame.at]⟩
  exact ⟨heap_setChan (w.alloc (.cells #[.int .i64 f, .int .i64 t, .chan (some c)] 139)) c cap (buf.push (.int .i64 v)) false (s + 1) r false hcl, (Touch.ofBelow ((Below.refl _ w).alloc (Nat.le_refl _) _)).andThen (touch_setChan _ c _ _ _ _ _ _)⟩
set_option maxRecDepth 100000 in
theorem csend_full (c cap s r : Nat) (v : Int) (buf : Array Value) (f t : Int) (w : World) (hc : w.heap[c]? = some (.chan cap buf false s r false)) (hb : cap ≤ buf.size) :
    Calls Tryz.prog 224 #[.agg #[.int .i64 f, .int .i64 t, .chan (some c)], .int .i64 v] w fun e w' => e = .returned (.tuple #[]) ∧ Below w.heap.size w w' := by
  refine calls_of_loneTo fun cs => ?_
  have e : Frame.enter Tryz.prog 224 #[.agg #[.int .i64 f, .int .i64 t, .chan (some c)], .int .i64 v] .normal = (base 224).at ⟨#[.agg #[.int .i64 f, .int .i64 t, .chan (some c)], .int .i64 v, undef, undef, undef, undef, undef, undef, undef, undef], []⟩ [.code (Tryz.f224.body.getD .skip)] := by
    simp [Frame.enter, Frame.at, Tryz.func224, base, Tryz.f224]
  rw [e]
  refine LoneTo.goes (n := 15) ?_
  simp only [Tryz.f224, Option.getD_some]
  s_c stepG_seq
  s_reg
  s_op
  s_c stepG_region_end
  s_c stepG_seq
  s_c stepG_seq
  s_reg
  s_op
  s_op
  s_c stepG_region_end
  s_reg
  s_op
  s_c stepG_region_end
  s_c stepG_seq
  s_reg
  s_stop
  have hc1 : (w.alloc (.cells #[.int .i64 f, .int .i64 t, .chan (some c)] 139)).heap[c]? = some (.chan cap buf false s r false) := (Below.heap_alloc _ _ _ (lt_of_block hc)).trans hc
  refine LoneTo.step (step_lone_select_send_full (c := c) (cap := cap) (buf := buf) (s := s) (r := r) (tm := false) (stepG_comm (cases := #[scase c (.int .i64 v) (.int .i64 0)]) (blocking := false) (shape := .select) (w' := (w.alloc (.cells #[.int .i64 f, .int .i64 t, .chan (some c)] 139))) rfl rfl (by decide) (by simp [go_sem, execOp, scase, Act.eval])) hc1 hb) ?_
  rw [Frame.finish_at]
  walk_nrm
  refine LoneTo.goes (n := 8) ?_
  s_op
  s_op
  s_c stepG_region_end
  s_c stepG_block
  s_cond false
  s_c stepG_skip
  s_c stepG_inBlock
  s_c stepG_end
  s_stop
  refine LoneTo.done ⟨.returned (.tuple #[]), _, rfl, ⟨rfl, ?_⟩, rfl, rfl, rfl, rfl, _, Tryz.func224, by simp [results, Tryz.f224, Frame.at]⟩
  exact (Below.refl _ w).alloc (Nat.le_refl _) _
end Go.Proofs.YtnjlbgolnbdkaaaGreat
/- The program's machine: lists of numbers and channels; which channel is to whom. -/
namespace Go.Proofs.YtnjlbgolnbdkaaaGreat
open Go.RowKit

set_option maxHeartbeats 1000000 in
theorem chanAt_any (x n i : Nat) (w : World) (hi : i < n) :
    Calls Tryz.prog 210 #[.agg #[.slice (some ⟨x, 0, none⟩) n n], .int .i64 i] w fun e w' => e = .returned (.pointer (some ⟨x, i * 3, none⟩)) ∧ Below w.heap.size w w' := by
  have HB : Hid (Below w.heap.size w (w.alloc (.cells #[.slice (some ⟨x, 0, none⟩) n n] 135))) := (Below.refl _ _).alloc (Nat.le_refl _) _
  go_enter Tryz.func210, Tryz.ntmps210
  go_wp2
  go_ret
  exact ⟨by simp, HB.out⟩
set_option maxHeartbeats 1000000 in
theorem chanHas_any (x n : Nat) (i : Int) (w : World) :
    Calls Tryz.prog 216 #[.agg #[.slice (some ⟨x, 0, none⟩) n n], .int .i64 i] w fun e w' => e = .returned (.bool (decide (0 ≤ i) && decide (i < n))) ∧ Below w.heap.size w w' := by
  have HB : Hid (Below w.heap.size w (w.alloc (.cells #[.slice (some ⟨x, 0, none⟩) n n] 135))) := (Below.refl _ _).alloc (Nat.le_refl _) _
  by_cases h : 0 ≤ i
  · go_enter Tryz.func216, Tryz.ntmps216
    go_wp2
    go_ret
    exact ⟨by simp [h], HB.out⟩
  · go_enter Tryz.func216, Tryz.ntmps216
    go_wp2
    go_ret
    exact ⟨by rw [decide_eq_false (show ¬ 0 ≤ i by omega)]; rfl, HB.out⟩
set_option maxHeartbeats 1000000 in
theorem intAt_any (x n i : Nat) (w : World) (hi : i < n) :
    Calls Tryz.prog 223 #[.agg #[.slice (some ⟨x, 0, none⟩) n n], .int .i64 i] w fun e w' => e = .returned (.pointer (some ⟨x, i, none⟩)) ∧ Below w.heap.size w w' := by
  have HB : Hid (Below w.heap.size w (w.alloc (.cells #[.slice (some ⟨x, 0, none⟩) n n] 115))) := (Below.refl _ _).alloc (Nat.le_refl _) _
  go_enter Tryz.func223, Tryz.ntmps223
  go_wp2
  go_ret
  exact ⟨by simp, HB.out⟩
set_option maxHeartbeats 1000000 in
theorem intHas_any (x n : Nat) (i : Int) (w : World) :
    Calls Tryz.prog 222 #[.agg #[.slice (some ⟨x, 0, none⟩) n n], .int .i64 i] w fun e w' => e = .returned (.bool (decide (0 ≤ i) && decide (i < n))) ∧ Below w.heap.size w w' := by
  have HB : Hid (Below w.heap.size w (w.alloc (.cells #[.slice (some ⟨x, 0, none⟩) n n] 115))) := (Below.refl _ _).alloc (Nat.le_refl _) _
  by_cases h : 0 ≤ i
  · go_enter Tryz.func222, Tryz.ntmps222
    go_wp2
    go_ret
    exact ⟨by simp [h], HB.out⟩
  · go_enter Tryz.func222, Tryz.ntmps222
    go_wp2
    go_ret
    exact ⟨by rw [decide_eq_false (show ¬ 0 ≤ i by omega)]; rfl, HB.out⟩
theorem MachAt.chanC {w : World} {L : MLay} {g : Nat} {st : RSt} (h : MachAt w L g st) (j k : Nat) (hj : j < st.cf.chans.length) (hk : k < 3) : w.cell? ⟨L.cb, j * 3 + k, none⟩ = (mchanCells L j (st.cf.chans.getD j default))[k]? := by
  rw [cell_of_row _ _ _ _ _ _ h.chans, List.getElem?_toArray]
  exact rowsL_get _ 3 _ (fun _ _ => rfl) j k hj hk
set_option maxRecDepth 100000 in
set_option maxHeartbeats 4000000 in
theorem receives_any (L : MLay) (g : Nat) (st : RSt) (F : Fl) (i : Nat) (op : Int) (a : Nat) (w : World) (h : Mo w L g st F) (hi : i < st.parts.length) :
    Calls Tryz.prog 209 #[.pointer (some ⟨L.mb, 0, none⟩), .pointer (some ⟨L.pb, i * 14, none⟩), .agg #[.int .i64 op, .int .i64 a]] w fun e w' => e = .returned (.bool (op == 7 && mineTo st i a)) ∧ Below w.heap.size w w' := by
  obtain ⟨w1, hw1⟩ : ∃ w1, w1 = w.alloc (.cells #[.int .i64 op, .int .i64 a] 210) := ⟨_, rfl⟩
  have hb1 : Below w.heap.size w w1 := by rw [hw1]; exact (Below.refl _ _).alloc (Nat.le_refl _) _
  have hA1 : w1.heap[w.heap.size]? = some (.cells #[.int .i64 op, .int .i64 a] 210 (0, 0)) := by rw [hw1]; exact heap_alloc_new w _
  have hM := h.mono hb1
  have c5 := hM.mach.machAt 5
  simp only [List.getElem?_toArray, List.getElem?_cons_succ, List.getElem?_cons_zero] at c5
  have p0 := hM.mach.partAt i 0 hi (by omega)
  simp only [mpartC, List.getElem?_cons_zero, Nat.add_zero] at p0
  have b0 : w1.cell? ⟨w.heap.size, 0, none⟩ = some (.int .i64 op) := by rw [cell_of_row _ _ _ _ _ _ hA1]; rfl
  have b1 : w1.cell? ⟨w.heap.size, 1, none⟩ = some (.int .i64 a) := by rw [cell_of_row _ _ _ _ _ _ hA1]; rfl
  obtain ⟨R, hR⟩ : ∃ R, R = (op == 7 && mineTo st i a) := ⟨_, rfl⟩
  rw [← hR]
  have HW1 := hide hw1
  have HB1 := hide hb1
  have hlm := lt_of_cell c5
  have hlp := lt_of_cell p0
  have hlb := lt_of_cell b0
  clear hw1 hb1 hA1
  obtain ⟨ι, hni, f, hf, hg⟩ := belowClass w1
  have HC0 : Hid (∃ i, w1.drew = f i) := hg _ (Below.refl _ _).drew
  have e0 : ∀ j, (f j).cell? ⟨w.heap.size, 0, none⟩ = some (.int .i64 op) := fun j => ((hf j).cell (p := ⟨w.heap.size, 0, none⟩) hlb).trans b0
  have e1 : ∀ j, (f j).cell? ⟨w.heap.size, 1, none⟩ = some (.int .i64 a) := fun j => ((hf j).cell (p := ⟨w.heap.size, 1, none⟩) hlb).trans b1
  have e2 : ∀ j, (f j).cell? ⟨L.mb, 5, none⟩ = some (.slice (some ⟨L.cb, 0, none⟩) st.cf.chans.length st.cf.chans.length) := fun j => ((hf j).cell (p := ⟨L.mb, 5, none⟩) hlm).trans c5
  have e3 : ∀ j, (f j).cell? ⟨L.pb, i * 14, none⟩ = some (.int .i64 i) := fun j => ((hf j).cell (p := ⟨L.pb, i * 14, none⟩) hlp).trans p0
  have HFB : Hid (∀ j, Below w.heap.size w (f j)) := fun j => HB1.out.trans ((hf j).mono HB1.out.size)
  have HHA : Hid (∀ j, Calls Tryz.prog 216 #[.agg #[.slice (some ⟨L.cb, 0, none⟩) st.cf.chans.length st.cf.chans.length], .int .i64 a] (f j) fun e w' => e = .returned (.bool (decide (0 ≤ (a : Int)) && decide ((a : Int) < st.cf.chans.length))) ∧ ∃ k, w' = f k) := fun j => Calls.inClass hf hg j (chanHas_any L.cb _ a _)
  have ed : (decide (0 ≤ (a : Int)) && decide ((a : Int) < st.cf.chans.length)) = decide (a < st.cf.chans.length) := by simp
  rw [ed] at HHA
  by_cases h7 : op = 7
  · subst h7
    by_cases hl : a < st.cf.chans.length
    · have ch := hM.mach.chanC a 1 hl (by omega)
      simp only [mchanCells, List.getElem?_cons_succ, List.getElem?_cons_zero] at ch
      have hlc := lt_of_cell ch
      have e4 : ∀ j, (f j).cell? ⟨L.cb, a * 3 + 1, none⟩ = some (.int .i64 (st.cf.chans.getD a default).dst) := fun j => ((hf j).cell (p := ⟨L.cb, a * 3 + 1, none⟩) hlc).trans ch
      have HAT : Hid (∀ j, Calls Tryz.prog 210 #[.agg #[.slice (some ⟨L.cb, 0, none⟩) st.cf.chans.length st.cf.chans.length], .int .i64 a] (f j) fun e w' => e = .returned (.pointer (some ⟨L.cb, a * 3, none⟩)) ∧ ∃ k, w' = f k) := fun j => Calls.inClass hf hg j (chanAt_any L.cb _ a _ hl)
      have HRR : Hid (R = ((st.cf.chans.getD a default).dst == (i : Int))) := by
        show _ = _
        rw [hR]
        unfold mineTo
        simp [hl]
        rfl
      rw [decide_eq_true hl] at HHA
      generalize (st.cf.chans.getD a default).dst = ds at *
      generalize st.cf.chans.length = m at *
      clear h hM hR hf hg c5 p0 b0 b1 ch ed
      rw [HRR.out]
      go_enter Tryz.func209, Tryz.ntmps209
      go_wp2_with fail
      rw [← HW1.out]
      go_wp2_with fail
      refine region_class f (by kernel_rfl) (by kernel_rfl) HC0.out ?_
      repeat (go_big_quiet_step (first | (go_at_call 216; with_reducible exact HHA.out _) | (go_at_call 210; with_reducible exact HAT.out _)))
      refine wpQuiet_nil ?_
      rintro _ ⟨j, rfl⟩
      go_wp2
      go_ret
      exact ⟨rfl, HFB.out j⟩
    · have HRR : Hid (R = false) := by
        show _ = _
        rw [hR]
        unfold mineTo
        simp
        intro h
        omega
      rw [decide_eq_false hl] at HHA
      generalize st.cf.chans.length = m at *
      clear h hM hR hf hg c5 p0 b0 b1 ed
      rw [HRR.out]
      go_enter Tryz.func209, Tryz.ntmps209
      go_wp2_with fail
      rw [← HW1.out]
      go_wp2_with fail
      refine region_class f (by kernel_rfl) (by kernel_rfl) HC0.out ?_
      repeat (go_big_quiet_step (first | (go_at_call 216; with_reducible exact HHA.out _)))
      refine wpQuiet_nil ?_
      rintro _ ⟨j, rfl⟩
      go_wp2
      go_ret
      exact ⟨rfl, HFB.out j⟩
  · have h7b : (op == 7) = false := by simp [h7]
    have HRR : Hid (R = false) := by show _ = _; rw [hR, h7b]; rfl
    clear h hM hR h7 hf hg c5 p0 b0 b1 ed HHA
    rw [HRR.out]
    go_enter Tryz.func209, Tryz.ntmps209
    go_wp2_with fail
    rw [← HW1.out]
    go_wp2_with fail
    refine region_class f (by kernel_rfl) (by kernel_rfl) HC0.out ?_
    repeat (go_big_quiet_step (fail))
    refine wpQuiet_nil ?_
    rintro _ ⟨j, rfl⟩
    go_wp2
    go_ret
    exact ⟨rfl, HFB.out j⟩
end Go.Proofs.YtnjlbgolnbdkaaaGreat
/- The program's instructions: words, channels, the log. -/
namespace Go.Proofs.YtnjlbgolnbdkaaaGreat
open Go.RowKit

theorem proc_acc {w : World} {L : MLay} {g : Nat} {st : RSt} (h : MachAt w L g st) (i n : Nat) (hi : i < st.parts.length) (hn : n < (st.part i).procs.length) : w.cell? ⟨L.pr i, n * 6 + 2, none⟩ = some (.int .i64 (st.proc i n).acc) := by
  have := h.procAt i n 2 hi hn (by omega)
  simpa [mprocCells] using this
theorem Mo.setAcc {w : World} {L : MLay} {g : Nat} {st : RSt} {F : Fl} (h : Mo w L g st F) (i n : Nat) (v : Int) (hi : i < st.parts.length) (hn : n < (st.part i).procs.length) : Mo (w.setCell ⟨L.pr i, n * 6 + 2, none⟩ (.int .i64 v)) L g (st.setProc i n { st.proc i n with acc := v }) F ∧ Touch (Dm L g st) w (w.setCell ⟨L.pr i, n * 6 + 2, none⟩ (.int .i64 v)) :=
  h.setProc i n _ hi (Touch.ofSet w _ _ _ rfl) (h.mach.procCell h.lay i n 2 _ _ hi hn (by omega) rfl)
theorem Mo.word {w : World} {L : MLay} {g : Nat} {st : RSt} {F : Fl} (h : Mo w L g st F) (i a : Nat) (v : Int) (hi : i < st.parts.length) : Mo (w.setCell ⟨L.wd i, a, none⟩ (.int .i64 v)) L g (st.setPart i { st.part i with words := (st.part i).words.set a v }) F ∧ Touch (Dm L g st) w (w.setCell ⟨L.wd i, a, none⟩ (.int .i64 v)) :=
  ⟨h.cells (h.mach.words i hi) (by decide) (Touch.ofSet w _ _ _ rfl) (h.mach.setWord h.lay i a v hi) (RSt.setPart_len _ _ _) rfl (h.ok.setPart i _ (by simp) rfl), (Touch.ofSet (S := (· = L.wd i)) w _ _ _ rfl).to (fun b e => by have e2 : b = L.wd i := e; rw [e2]; exact .inr (.inr (.inl ⟨i, hi, .inl rfl⟩)))⟩
def accessS (i n : Nat) (op : Int) (a : Nat) (st : RSt) : Int × RSt :=
  if a < (st.part i).words.length then
    (if op = 2 then (-1, st.setPart i { st.part i with words := (st.part i).words.set a (st.proc i n).acc })
    else if op = 3 then (-1, st.setProc i n { st.proc i n with acc := (st.part i).words.getD a 0 })
    else if (st.part i).words.getD a 0 = 0 then (1, st)
    else (-1, st.setProc i n { st.proc i n with acc := quot64 (st.proc i n).acc ((st.part i).words.getD a 0) }))
  else (0, st)
set_option maxRecDepth 100000 in
set_option maxHeartbeats 4000000 in
theorem access_any (L : MLay) (g : Nat) (st : RSt) (F : Fl) (i n : Nat) (op : Int) (a : Nat) (w : World) (h : Mo w L g st F) (hi : i < st.parts.length) (hn : n < (st.part i).procs.length) (hop : op = 2 ∨ op = 3 ∨ op = 12) :
    Calls Tryz.prog 217 #[.pointer (some ⟨L.pb, i * 14, none⟩), .pointer (some ⟨L.pr i, n * 6, none⟩), .agg #[.int .i64 op, .int .i64 a]] w fun e w' => e = .returned (.int .i64 (accessS i n op a st).1) ∧ Mo w' L g (accessS i n op a st).2 F ∧ Touch (Dm L g st) w w' := by
  obtain ⟨w1, hw1⟩ : ∃ w1, w1 = w.alloc (.cells #[.int .i64 op, .int .i64 a] 210) := ⟨_, rfl⟩
  have hb1 : Below w.heap.size w w1 := by rw [hw1]; exact (Below.refl _ _).alloc (Nat.le_refl _) _
  have hA1 : w1.heap[w.heap.size]? = some (.cells #[.int .i64 op, .int .i64 a] 210 (0, 0)) := by rw [hw1]; exact heap_alloc_new w _
  have hM := h.mono hb1
  obtain ⟨ι, hni, f, hf, hg⟩ := belowClass w1
  have HC0 : Hid (∃ j, w1.drew = f j) := hg _ (Below.refl _ _).drew
  have HC1 : Hid (∀ j, ∃ k, (f j).drew = f k) := fun j => hg _ ((hf j).drew)
  have HMf : Hid (∀ j, Mo (f j) L g st F) := fun j => hM.mono (hf j)
  have HTf : Hid (∀ j, Touch (Dm L g st) w (f j)) := fun j => Touch.ofBelow (hb1.trans ((hf j).mono hb1.size))
  have hAf : ∀ j, (f j).heap[w.heap.size]? = some (.cells #[.int .i64 op, .int .i64 a] 210 (0, 0)) := fun j => ((hf j).block _ (lt_of_block hA1)).trans hA1
  have e0 : ∀ j, (f j).cell? ⟨w.heap.size, 0, none⟩ = some (.int .i64 op) := fun j => by rw [cell_of_row _ _ _ _ _ _ (hAf j)]; rfl
  have e1 : ∀ j, (f j).cell? ⟨w.heap.size, 1, none⟩ = some (.int .i64 a) := fun j => by rw [cell_of_row _ _ _ _ _ _ (hAf j)]; rfl
  have e2 : ∀ j, (f j).cell? ⟨L.pb, i * 14 + 10, none⟩ = some (.slice (some ⟨L.wd i, 0, none⟩) (st.part i).words.length (st.part i).words.length) := fun j => by
    have := (HMf.out j).mach.partAt i 10 hi (by omega)
    simpa [mpartC] using this
  have e3 : ∀ j, (f j).cell? ⟨L.pr i, n * 6 + 2, none⟩ = some (.int .i64 (st.proc i n).acc) := fun j => proc_acc (HMf.out j).mach i n hi hn
  have e4 : ∀ j, (f j).frozen? ⟨L.pr i, n * 6 + 2, none⟩ = false := fun j => free_of_block ((HMf.out j).mach.procs i hi) _
  have HHA : Hid (∀ j, Calls Tryz.prog 222 #[.agg #[.slice (some ⟨L.wd i, 0, none⟩) (st.part i).words.length (st.part i).words.length], .int .i64 a] (f j) fun e w' => e = .returned (.bool (decide (0 ≤ (a : Int)) && decide ((a : Int) < (st.part i).words.length))) ∧ ∃ k, w' = f k) := fun j => Calls.inClass hf hg j (intHas_any _ _ a _)
  have ed : (decide (0 ≤ (a : Int)) && decide ((a : Int) < (st.part i).words.length)) = decide (a < (st.part i).words.length) := by simp
  rw [ed] at HHA
  obtain ⟨R, hR⟩ : ∃ R, R = accessS i n op a st := ⟨_, rfl⟩
  rw [← hR]
  unfold accessS at hR
  have HW1 := hide hw1
  by_cases hl : a < (st.part i).words.length
  · rw [if_pos hl] at hR
    rw [decide_eq_true hl] at HHA
    have HAT : Hid (∀ j, Calls Tryz.prog 223 #[.agg #[.slice (some ⟨L.wd i, 0, none⟩) (st.part i).words.length (st.part i).words.length], .int .i64 a] (f j) fun e w' => e = .returned (.pointer (some ⟨L.wd i, a, none⟩)) ∧ ∃ k, w' = f k) := fun j => Calls.inClass hf hg j (intAt_any _ _ a _ hl)
    have e5 : ∀ j, (f j).cell? ⟨L.wd i, a, none⟩ = some (.int .i64 ((st.part i).words.getD a 0)) := fun j => by
      rw [cell_of_row _ _ _ _ _ _ ((HMf.out j).mach.words i hi), List.getElem?_toArray, List.getElem?_map]
      show Option.map _ ((st.part i).words[a]?) = _
      rw [List.getElem?_eq_getElem hl]
      simp [List.getD_eq_getElem?_getD, hl]
    have e6 : ∀ j, (f j).frozen? ⟨L.wd i, a, none⟩ = false := fun j => free_of_block ((HMf.out j).mach.words i hi) _
    have HW2 : Hid (∀ j v, Mo ((f j).setCell ⟨L.wd i, a, none⟩ (.int .i64 v)) L g (st.setPart i { st.part i with words := (st.part i).words.set a v }) F ∧ Touch (Dm L g st) w ((f j).setCell ⟨L.wd i, a, none⟩ (.int .i64 v))) := fun j v => ⟨((HMf.out j).word i a v hi).1, (HTf.out j).andThen ((HMf.out j).word i a v hi).2⟩
    have HP2 : Hid (∀ j v, Mo ((f j).setCell ⟨L.pr i, n * 6 + 2, none⟩ (.int .i64 v)) L g (st.setProc i n { st.proc i n with acc := v }) F ∧ Touch (Dm L g st) w ((f j).setCell ⟨L.pr i, n * 6 + 2, none⟩ (.int .i64 v))) := fun j v => ⟨((HMf.out j).setAcc i n v hi hn).1, (HTf.out j).andThen ((HMf.out j).setAcc i n v hi hn).2⟩
    clear h hM hf hg hb1 hA1 hAf ed
    generalize (st.part i).words.length = nw at *
    generalize hwv : (st.part i).words.getD a 0 = wv at *
    generalize hac : (st.proc i n).acc = ac at *
    clear hwv
    rcases hop with rfl | rfl | rfl
    · rw [if_pos rfl] at hR
      have HR := hide hR
      clear hR hw1 hac
      go_enter Tryz.func217, Tryz.ntmps217
      go_wp2_with fail
      rw [← HW1.out]
      go_wp2_with fail
      refine region_class f (by kernel_rfl) (by kernel_rfl) HC0.out ?_
      repeat (go_big_quiet_step (first | (go_at_call 222; with_reducible exact HHA.out _)))
      refine wpQuiet_nil ?_
      rintro _ ⟨j, rfl⟩
      go_wp2_with fail
      refine region_class f (by kernel_rfl) (by kernel_rfl) (HC1.out j) ?_
      repeat (go_big_quiet_step (first | (go_at_call 223; with_reducible exact HAT.out _)))
      refine wpQuiet_nil ?_
      rintro _ ⟨j2, rfl⟩
      go_wp2
      go_ret
      rw [HR.out]
      exact ⟨rfl, (HW2.out j2 ac).1, (HW2.out j2 ac).2⟩
    · rw [if_neg (by decide), if_pos rfl] at hR
      have HR := hide hR
      clear hR hw1 hac
      go_enter Tryz.func217, Tryz.ntmps217
      go_wp2_with fail
      rw [← HW1.out]
      go_wp2_with fail
      refine region_class f (by kernel_rfl) (by kernel_rfl) HC0.out ?_
      repeat (go_big_quiet_step (first | (go_at_call 222; with_reducible exact HHA.out _)))
      refine wpQuiet_nil ?_
      rintro _ ⟨j, rfl⟩
      go_wp2_with fail
      refine region_class f (by kernel_rfl) (by kernel_rfl) (HC1.out j) ?_
      repeat (go_big_quiet_step (first | (go_at_call 223; with_reducible exact HAT.out _)))
      refine wpQuiet_nil ?_
      rintro _ ⟨j2, rfl⟩
      go_wp2
      go_ret
      rw [HR.out]
      exact ⟨rfl, (HP2.out j2 wv).1, (HP2.out j2 wv).2⟩
    · rw [if_neg (by decide), if_neg (by decide)] at hR
      by_cases hz : wv = 0
      · subst hz
        rw [if_pos rfl] at hR
        have HR := hide hR
        clear hR hw1 hac
        go_enter Tryz.func217, Tryz.ntmps217
        go_wp2_with fail
        rw [← HW1.out]
        go_wp2_with fail
        refine region_class f (by kernel_rfl) (by kernel_rfl) HC0.out ?_
        repeat (go_big_quiet_step (first | (go_at_call 222; with_reducible exact HHA.out _)))
        refine wpQuiet_nil ?_
        rintro _ ⟨j, rfl⟩
        go_wp2_with fail
        refine region_class f (by kernel_rfl) (by kernel_rfl) (HC1.out j) ?_
        repeat (go_big_quiet_step (first | (go_at_call 223; with_reducible exact HAT.out _)))
        refine wpQuiet_nil ?_
        rintro _ ⟨j2, rfl⟩
        go_wp2
        go_ret
        rw [HR.out]
        exact ⟨rfl, HMf.out j2, HTf.out j2⟩
      · rw [if_neg hz] at hR
        have HR := hide hR
        have HQ : Hid (quot64 ac wv = IntKind.i64.wrap (Int.tdiv ac wv)) := rfl
        have hzb : (wv == 0) = false := by simp [hz]
        clear hR hw1 hac
        go_enter Tryz.func217, Tryz.ntmps217
        go_wp2_with fail
        rw [← HW1.out]
        go_wp2_with fail
        refine region_class f (by kernel_rfl) (by kernel_rfl) HC0.out ?_
        repeat (go_big_quiet_step (first | (go_at_call 222; with_reducible exact HHA.out _)))
        refine wpQuiet_nil ?_
        rintro _ ⟨j, rfl⟩
        go_wp2_with fail
        refine region_class f (by kernel_rfl) (by kernel_rfl) (HC1.out j) ?_
        repeat (go_big_quiet_step (first | (go_at_call 223; with_reducible exact HAT.out _)))
        refine wpQuiet_nil ?_
        rintro _ ⟨j2, rfl⟩
        go_wp2_with fail
        go_region
        all_goals
          go_wp2
          go_ret
          rw [HR.out]
          have eq : wrap64 (ac.tdiv wv) = quot64 ac wv := by
            unfold quot64 wrap64
            rw [IntKind.wrap_i64]
          have hh := HP2.out j2 (quot64 ac wv)
          rw [eq]
          exact ⟨rfl, hh.1.mono (Below.refl _ _).drew, hh.2.andThen (Touch.ofDrew _)⟩
  · rw [if_neg hl] at hR
    rw [decide_eq_false hl] at HHA
    have HR := hide hR
    clear h hM hf hg hb1 hA1 hAf ed hR hw1
    generalize (st.part i).words.length = nw at *
    go_enter Tryz.func217, Tryz.ntmps217
    go_wp2_with fail
    rw [← HW1.out]
    go_wp2_with fail
    refine region_class f (by kernel_rfl) (by kernel_rfl) HC0.out ?_
    repeat (go_big_quiet_step (first | (go_at_call 222; with_reducible exact HHA.out _)))
    refine wpQuiet_nil ?_
    rintro _ ⟨j, rfl⟩
    go_wp2
    go_ret
    rw [HR.out]
    exact ⟨rfl, HMf.out j, HTf.out j⟩
end Go.Proofs.YtnjlbgolnbdkaaaGreat
/- The program's instructions: the log is counted; a number is sent. -/
namespace Go.Proofs.YtnjlbgolnbdkaaaGreat
open Go.RowKit

theorem count_step (l : List (Nat → Int)) (a : Int) (k : Nat) (r : Nat → Int) (h : l[k]? = some r) : countOf (l.take (k + 1)) a = if r 1 = a then countOf (l.take k) a + 1 else countOf (l.take k) a := by
  unfold countOf
  rw [List.take_add_one, h, List.foldl_append]
  rfl
theorem count_rng (l : List (Nat → Int)) (a : Int) : ∀ k, 0 ≤ countOf (l.take k) a ∧ countOf (l.take k) a ≤ k := by
  intro k
  induction k with
  | zero => exact ⟨Int.le_refl _, Int.le_refl _⟩
  | succ k ih =>
    cases h : l[k]? with
    | none =>
      rw [List.take_add_one, h]
      simp only [Option.toList_none, List.append_nil]
      omega
    | some r =>
      rw [count_step l a k r h]
      split <;> omega
set_option maxRecDepth 100000 in
set_option maxHeartbeats 4000000 in
theorem faultsOf_any (g : Nat) (F : Fl) (a : Int) (w : World) (h : FlAt w g F) :
    Calls Tryz.prog 225 #[.agg #[.pointer (some ⟨g, 0, none⟩)], .int .i64 a] w fun e w' => e = .returned (.int .i64 (countOf (logOf F.bs) a)) ∧ Below w.heap.size w w' := by
  have hb0 : Below w.heap.size w (w.alloc (.cells #[.pointer (some ⟨g, 0, none⟩)] 107)) := (Below.refl _ _).alloc (Nat.le_refl _) _
  have HL := hide (jlog_any g F.bs F.left F.res F.dead F.done _ (h.below hb0))
  have hlen := log_len F.bs
  have HB0 := hide hb0
  clear h hb0
  generalize logOf F.bs = l at *
  have HG := hide (count_rng l a)
  go_enter Tryz.func225, Tryz.ntmps225
  go_wp2_with fail
  refine HL.out.mono ?_
  rintro e w1 ⟨v, rfl, ⟨hv, _⟩, hb1⟩
  have HB1 : Hid (Below w.heap.size w w1) := HB0.out.trans (hb1.mono (by simp))
  obtain ⟨ad, c, rfl, hrd⟩ := recs_read2 hv
  have HRD := hide hrd
  obtain ⟨R, hR⟩ : ∃ R, R = countOf l a := ⟨_, rfl⟩
  have HRE := hide hR
  generalize hN : l.length = N at *
  have HN := hide hN
  clear hrd hN hv hb1 HL hR
  go_wp2
  go_loopw [5, 11] (fun n t wr => ∃ (k : Nat), k ≤ N ∧ t = .int .i64 k ∧ n = .int .i64 (countOf (l.take k) a) ∧ Below w1.heap.size w1 wr) (fun _ t _ => N - (intOf t).toNat)
  case atStart => exact ⟨0, by omega, rfl, rfl, Below.refl _ _⟩
  case round =>
    obtain ⟨k, hk, rfl, rfl, hB⟩ := hrel
    have hgk := HG.out k
    by_cases hlt : k < N
    · obtain ⟨r, hr'⟩ : ∃ r, l[k]? = some r := ⟨l[k]'(by rw [HN.out]; exact hlt), List.getElem?_eq_getElem _⟩
      obtain ⟨gg2, had, hgl, x0, x1, x2, x3, x4⟩ := HRD.out k r hr'
      subst had
      have y0 := (hB.cell (p := ⟨gg2, k * 5, none⟩) hgl).trans x0
      have y1 := (hB.cell (p := ⟨gg2, k * 5 + 1, none⟩) hgl).trans x1
      have y2 := (hB.cell (p := ⟨gg2, k * 5 + 2, none⟩) hgl).trans x2
      have y3 := (hB.cell (p := ⟨gg2, k * 5 + 3, none⟩) hgl).trans x3
      have y4 := (hB.cell (p := ⟨gg2, k * 5 + 4, none⟩) hgl).trans x4
      have HT := hide (count_step l a k r hr')
      have HEN : Hid (∀ o, Below w1.heap.size w1 (wr.alloc o)) := fun o => hB.alloc hB.size o
      clear hr' x0 x1 x2 x3 x4 hB
      generalize countOf (l.take k) a = nn at *
      generalize r 0 = p0 at y0
      generalize r 1 = p1 at y1 HT
      generalize r 2 = p2 at y2
      generalize r 3 = p3 at y3
      generalize r 4 = p4 at y4
      by_cases hp : p1 = a
      · have hpb : (p1 == a) = true := by simp [hp]
        rw [if_pos hp] at HT
        clear hp
        go_wp2
        go_roundw
        case rel => exact ⟨k + 1, by omega, by go_num, by rw [HT.out], HEN.out _⟩
        case measure => simp [intOf]; omega
      · have hpb : (p1 == a) = false := by simp [hp]
        rw [if_neg hp] at HT
        clear hp
        go_wp2
        go_roundw
        case rel => exact ⟨k + 1, by omega, by go_num, by rw [HT.out], HEN.out _⟩
        case measure => simp [intOf]; omega
    · obtain rfl : k = N := by omega
      have HT : Hid (l.take k = l) := by show _ = _; rw [← HN.out]; exact List.take_length
      rw [HT.out]
      have HEND : Hid (Below w.heap.size w wr) := HB1.out.trans (hB.mono HB1.out.size)
      clear hB
      go_wp2
      go_ret
      exact ⟨rfl, HEND.out⟩
def countS (bs : List Int) (i n : Nat) (a : Nat) (st : RSt) : Int × RSt := if (st.cpart i).sys = true then (-1, st.setProc i n { st.proc i n with acc := countOf (logOf bs) a }) else (4, st)
set_option maxRecDepth 100000 in
set_option maxHeartbeats 4000000 in
theorem mcount_any (L : MLay) (g : Nat) (st : RSt) (F : Fl) (i n : Nat) (op : Int) (a : Nat) (w : World) (h : Mo w L g st F) (hi : i < st.parts.length) (hn : n < (st.part i).procs.length) :
    Calls Tryz.prog 220 #[.pointer (some ⟨L.mb, 0, none⟩), .pointer (some ⟨L.pb, i * 14, none⟩), .pointer (some ⟨L.pr i, n * 6, none⟩), .agg #[.int .i64 op, .int .i64 a]] w fun e w' => e = .returned (.int .i64 (countS F.bs i n a st).1) ∧ Mo w' L g (countS F.bs i n a st).2 F ∧ Touch (Dm L g st) w w' := by
  obtain ⟨w1, hw1⟩ : ∃ w1, w1 = w.alloc (.cells #[.int .i64 op, .int .i64 a] 210) := ⟨_, rfl⟩
  have hb1 : Below w.heap.size w w1 := by rw [hw1]; exact (Below.refl _ _).alloc (Nat.le_refl _) _
  have hA1 : w1.heap[w.heap.size]? = some (.cells #[.int .i64 op, .int .i64 a] 210 (0, 0)) := by rw [hw1]; exact heap_alloc_new w _
  have hM := h.mono hb1
  have c0 := hM.mach.machAt 0
  simp only [List.getElem?_toArray, List.getElem?_cons_zero] at c0
  have p1 := h.mach.partAt i 1 hi (by omega)
  simp only [mpartC, List.getElem?_cons_succ, List.getElem?_cons_zero] at p1
  have hlp1 := lt_of_cell p1
  have b1 : w1.cell? ⟨w.heap.size, 1, none⟩ = some (.int .i64 a) := by rw [cell_of_row _ _ _ _ _ _ hA1]; rfl
  have hlm := lt_of_cell c0
  have hlb := lt_of_cell b1
  have HFO : Hid (Calls Tryz.prog 225 #[.agg #[.pointer (some ⟨g, 0, none⟩)], .int .i64 a] w1.drew fun e w' => e = .returned (.int .i64 (countOf (logOf F.bs) a)) ∧ Below w1.heap.size w1 w') := (faultsOf_any g F a w1.drew (hM.fl.keep rfl)).mono (fun e w' ⟨h1, h2⟩ => ⟨h1, ⟨h2.os, h2.tape, h2.output, h2.size, h2.block⟩⟩)
  have HBW : Hid (∀ W, Below w1.heap.size w1 W → (W.cell? ⟨L.pr i, n * 6 + 2, none⟩ = some (.int .i64 (st.proc i n).acc) ∧ W.frozen? ⟨L.pr i, n * 6 + 2, none⟩ = false) ∧ ∀ v, Mo (W.setCell ⟨L.pr i, n * 6 + 2, none⟩ (.int .i64 v)) L g (st.setProc i n { st.proc i n with acc := v }) F ∧ Touch (Dm L g st) w (W.setCell ⟨L.pr i, n * 6 + 2, none⟩ (.int .i64 v))) := fun W hW => by
    have hMW := hM.mono hW
    exact ⟨⟨proc_acc hMW.mach i n hi hn, free_of_block (hMW.mach.procs i hi) _⟩, fun v => ⟨(hMW.setAcc i n v hi hn).1, ((Touch.ofBelow hb1).andThen (Touch.ofBelow hW)).andThen (hMW.setAcc i n v hi hn).2⟩⟩
  have n1 : ¬ L.pr i = L.mb := ne_of_types (h.mach.procs i hi) h.mach.mach (by decide)
  have n2 : ¬ L.pr i = w.heap.size := by have := lt_of_block (h.mach.procs i hi); omega
  have n3 : ¬ L.mb = L.pr i := fun e => n1 e.symm
  have n4 : ¬ w.heap.size = L.pr i := fun e => n2 e.symm
  obtain ⟨R, hR⟩ : ∃ R, R = countS F.bs i n a st := ⟨_, rfl⟩
  rw [← hR]
  unfold countS at hR
  have HW1 := hide hw1
  have HM := hide hM
  have HB1 := hide hb1
  cases hsy : (st.cpart i).sys with
  | false =>
    rw [hsy] at p1 hR
    rw [if_neg (by decide)] at hR
    have HR := hide hR
    clear h hM hb1 hA1 hw1 hR hsy HFO HBW
    go_enter Tryz.func220, Tryz.ntmps220
    go_wp2
    go_ret
    rw [HR.out, ← HW1.out]
    exact ⟨rfl, HM.out, Touch.ofBelow HB1.out⟩
  | true =>
    rw [hsy] at p1 hR
    rw [if_pos rfl] at hR
    have HR := hide hR
    clear h hM hb1 hA1 hw1 hR hsy
    generalize countOf (logOf F.bs) a = cn at *
    generalize (st.proc i n).acc = ac at *
    go_enter Tryz.func220, Tryz.ntmps220
    go_wp2_with fail
    rw [← HW1.out]
    go_region_held (fun W : World => W.cell? ⟨L.mb, 0, none⟩ = some (.pointer (some ⟨g, 0, none⟩)) ∧ W.cell? ⟨w.heap.size, 1, none⟩ = some (.int .i64 a))
      ((first | (with_reducible assumption) | exact ⟨c0, b1⟩ | (go_keep; done)))
      (first | (go_at_call 225; refine HFO.out.mono ?_; rintro e w9 ⟨rfl, hb9⟩; have hS : w9.cell? ⟨L.mb, 0, none⟩ = some (.pointer (some ⟨g, 0, none⟩)) ∧ w9.cell? ⟨w.heap.size, 1, none⟩ = some (.int .i64 a) := ⟨(hb9.cell (p := ⟨L.mb, 0, none⟩) hlm).trans c0, (hb9.cell (p := ⟨w.heap.size, 1, none⟩) hlb).trans b1⟩; obtain ⟨⟨k1, k2⟩, k3⟩ := HBW.out w9 hb9; have K3 := hide k3; clear k3))
    all_goals (go_wp2; go_ret; rw [HR.out]; exact ⟨rfl, (K3.out cn).1, (K3.out cn).2⟩)
end Go.Proofs.YtnjlbgolnbdkaaaGreat
/- The program's instructions: a number is sent. -/
namespace Go.Proofs.YtnjlbgolnbdkaaaGreat
open Go.RowKit

theorem Mo.setQueue {w w' : World} {L : MLay} {g : Nat} {st : RSt} {F : Fl} (h : Mo w L g st F) (j : Nat) (hj : j < st.cf.chans.length) (ht : Touch (· = L.ch j) w w') (q : List Int)
    (hn : ∃ s r, w'.heap[L.ch j]? = some (.chan (st.cf.chans.getD j default).depth.toNat (q.map (Value.int .i64)).toArray false s r false)) : Mo w' L g { st with queues := st.queues.set j q } F ∧ Touch (Dm L g st) w w' := by
  obtain ⟨s0, r0, h0⟩ := h.mach.queue j hj
  refine ⟨⟨h.mach.setQueue h.lay j hj h.ok.qlen ht q hn, h.lay, ⟨h.ok.good, h.ok.len, h.ok.part, by simpa using h.ok.qlen⟩, h.fl.keep (ht.block g h.fl.lt (fun e => ne_of_chan h.fl.blk h0 e)), h.flok⟩, ht.to (fun b e => .inr (.inr (.inr (.inl ⟨j, hj, e⟩))))⟩
def sendS (i n a : Nat) (st : RSt) : Int × RSt :=
  if mineFrom st i a = true then (-1, { st with queues := if ((st.queues.getD a []).length : Int) < (st.cf.chans.getD a default).depth then st.queues.set a (st.queues.getD a [] ++ [(st.proc i n).acc]) else st.queues }) else (4, st)
set_option maxRecDepth 100000 in
set_option maxHeartbeats 4000000 in
theorem msend_any (L : MLay) (g : Nat) (st : RSt) (F : Fl) (i n : Nat) (op : Int) (a : Nat) (w : World) (h : Mo w L g st F) (hi : i < st.parts.length) (hn : n < (st.part i).procs.length) :
    Calls Tryz.prog 218 #[.pointer (some ⟨L.mb, 0, none⟩), .pointer (some ⟨L.pb, i * 14, none⟩), .pointer (some ⟨L.pr i, n * 6, none⟩), .agg #[.int .i64 op, .int .i64 a]] w fun e w' => e = .returned (.int .i64 (sendS i n a st).1) ∧ Mo w' L g (sendS i n a st).2 F ∧ Touch (Dm L g st) w w' := by
  obtain ⟨w1, hw1⟩ : ∃ w1, w1 = w.alloc (.cells #[.int .i64 op, .int .i64 a] 210) := ⟨_, rfl⟩
  have hb1 : Below w.heap.size w w1 := by rw [hw1]; exact (Below.refl _ _).alloc (Nat.le_refl _) _
  have hA1 : w1.heap[w.heap.size]? = some (.cells #[.int .i64 op, .int .i64 a] 210 (0, 0)) := by rw [hw1]; exact heap_alloc_new w _
  have hM := h.mono hb1
  have c5 := hM.mach.machAt 5
  simp only [List.getElem?_toArray, List.getElem?_cons_succ, List.getElem?_cons_zero] at c5
  have p0 := hM.mach.partAt i 0 hi (by omega)
  simp only [mpartC, List.getElem?_cons_zero, Nat.add_zero] at p0
  have b1 : w1.cell? ⟨w.heap.size, 1, none⟩ = some (.int .i64 a) := by rw [cell_of_row _ _ _ _ _ _ hA1]; rfl
  have hlm := lt_of_cell c5
  have hlp := lt_of_cell p0
  have hlb := lt_of_cell b1
  obtain ⟨ι, hni, f, hf, hg⟩ := belowClass w1
  have HC0 : Hid (∃ i, w1.drew = f i) := hg _ (Below.refl _ _).drew
  have e1 : ∀ j, (f j).cell? ⟨w.heap.size, 1, none⟩ = some (.int .i64 a) := fun j => ((hf j).cell (p := ⟨w.heap.size, 1, none⟩) hlb).trans b1
  have e2 : ∀ j, (f j).cell? ⟨L.mb, 5, none⟩ = some (.slice (some ⟨L.cb, 0, none⟩) st.cf.chans.length st.cf.chans.length) := fun j => ((hf j).cell (p := ⟨L.mb, 5, none⟩) hlm).trans c5
  have e3 : ∀ j, (f j).cell? ⟨L.pb, i * 14, none⟩ = some (.int .i64 i) := fun j => ((hf j).cell (p := ⟨L.pb, i * 14, none⟩) hlp).trans p0
  have HFB : Hid (∀ j, Below w.heap.size w (f j)) := fun j => hb1.trans ((hf j).mono hb1.size)
  have HMf : Hid (∀ j, Mo (f j) L g st F) := fun j => hM.mono (hf j)
  have HHA : Hid (∀ j, Calls Tryz.prog 216 #[.agg #[.slice (some ⟨L.cb, 0, none⟩) st.cf.chans.length st.cf.chans.length], .int .i64 a] (f j) fun e w' => e = .returned (.bool (decide (0 ≤ (a : Int)) && decide ((a : Int) < st.cf.chans.length))) ∧ ∃ k, w' = f k) := fun j => Calls.inClass hf hg j (chanHas_any L.cb _ a _)
  have ed : (decide (0 ≤ (a : Int)) && decide ((a : Int) < st.cf.chans.length)) = decide (a < st.cf.chans.length) := by simp
  rw [ed] at HHA
  obtain ⟨R, hR⟩ : ∃ R, R = sendS i n a st := ⟨_, rfl⟩
  rw [← hR]
  have HW1 := hide hw1
  by_cases hl : a < st.cf.chans.length
  · have ch0 := hM.mach.chanC a 0 hl (by omega)
    have hlc := lt_of_cell ch0
    have HAT : Hid (∀ j, Calls Tryz.prog 210 #[.agg #[.slice (some ⟨L.cb, 0, none⟩) st.cf.chans.length st.cf.chans.length], .int .i64 a] (f j) fun e w' => e = .returned (.pointer (some ⟨L.cb, a * 3, none⟩)) ∧ ∃ k, w' = f k) := fun j => Calls.inClass hf hg j (chanAt_any L.cb _ a _ hl)
    have e4 : ∀ j, (f j).cell? ⟨L.cb, a * 3, none⟩ = some (.int .i64 (st.cf.chans.getD a default).src) := fun j => by
      have := (HMf.out j).mach.chanC a 0 hl (by omega)
      simpa [mchanCells] using this
    have e5 : ∀ j, (f j).cell? ⟨L.cb, a * 3 + 1, none⟩ = some (.int .i64 (st.cf.chans.getD a default).dst) := fun j => by
      have := (HMf.out j).mach.chanC a 1 hl (by omega)
      simpa [mchanCells] using this
    have e6 : ∀ j, (f j).cell? ⟨L.cb, a * 3 + 2, none⟩ = some (.chan (some (L.ch a))) := fun j => by
      have := (HMf.out j).mach.chanC a 2 hl (by omega)
      simpa [mchanCells] using this
    have e7 : ∀ j, (f j).cell? ⟨L.pr i, n * 6 + 2, none⟩ = some (.int .i64 (st.proc i n).acc) := fun j => proc_acc (HMf.out j).mach i n hi hn
    rw [decide_eq_true hl] at HHA
    by_cases hs : (st.cf.chans.getD a default).src = i
    · have hmf : mineFrom st i a = true := by unfold mineFrom; simp only [decide_eq_true_eq]; exact ⟨by omega, by simpa using hs⟩
      have hsb : ((st.cf.chans.getD a default).src != (i : Int)) = false := by rw [hs]; simp
      obtain ⟨S, hS⟩ : ∃ S : World → Prop, S = fun W => W.cell? ⟨L.mb, 5, none⟩ = some (.slice (some ⟨L.cb, 0, none⟩) st.cf.chans.length st.cf.chans.length) ∧ W.cell? ⟨w.heap.size, 1, none⟩ = some (.int .i64 a) ∧ W.cell? ⟨L.cb, a * 3, none⟩ = some (.int .i64 (st.cf.chans.getD a default).src) ∧ W.cell? ⟨L.cb, a * 3 + 1, none⟩ = some (.int .i64 (st.cf.chans.getD a default).dst) ∧ W.cell? ⟨L.cb, a * 3 + 2, none⟩ = some (.chan (some (L.ch a))) ∧ W.cell? ⟨L.pr i, n * 6 + 2, none⟩ = some (.int .i64 (st.proc i n).acc) := ⟨_, rfl⟩
      have HSE : Hid (∀ W, S W → W.cell? ⟨L.mb, 5, none⟩ = some (.slice (some ⟨L.cb, 0, none⟩) st.cf.chans.length st.cf.chans.length) ∧ W.cell? ⟨w.heap.size, 1, none⟩ = some (.int .i64 a) ∧ W.cell? ⟨L.cb, a * 3, none⟩ = some (.int .i64 (st.cf.chans.getD a default).src) ∧ W.cell? ⟨L.cb, a * 3 + 1, none⟩ = some (.int .i64 (st.cf.chans.getD a default).dst) ∧ W.cell? ⟨L.cb, a * 3 + 2, none⟩ = some (.chan (some (L.ch a))) ∧ W.cell? ⟨L.pr i, n * 6 + 2, none⟩ = some (.int .i64 (st.proc i n).acc)) := fun W h => by rw [hS] at h; exact h
      have HSf : Hid (∀ k, S (f k)) := fun k => by rw [hS]; exact ⟨e2 k, e1 k, e4 k, e5 k, e6 k, e7 k⟩
      have HC1 : Hid (∀ j, ∃ k, (f j).drew = f k) := fun j => hg _ ((hf j).drew)
      have HCS : Hid (∀ k, Calls Tryz.prog 224 #[.agg #[.int .i64 (st.cf.chans.getD a default).src, .int .i64 (st.cf.chans.getD a default).dst, .chan (some (L.ch a))], .int .i64 (st.proc i n).acc] (f k) fun e w' => e = .returned (.tuple #[]) ∧ S w' ∧ Mo w' L g R.2 F ∧ Touch (Dm L g st) w w') := fun k => by
        obtain ⟨s0, r0, hq⟩ := (HMf.out k).mach.queue a hl
        have hR2 : R.2 = { st with queues := if ((st.queues.getD a []).length : Int) < (st.cf.chans.getD a default).depth then st.queues.set a (st.queues.getD a [] ++ [(st.proc i n).acc]) else st.queues } := by rw [hR]; unfold sendS; rw [if_pos hmf]
        rw [hR2]
        have kS : ∀ W, (∀ b c t, (f k).heap[b]? = some (Obj.cells c t (0, 0)) → W.heap[b]? = (f k).heap[b]?) → S W := fun W hk => by
          have h0 := HSf.out k
          rw [hS] at h0 ⊢
          have hbx : (f k).heap[w.heap.size]? = some (.cells #[.int .i64 op, .int .i64 a] 210 (0, 0)) := ((hf k).block _ (lt_of_block hA1)).trans hA1
          exact ⟨(World.cell?_of_block (hk _ _ _ (HMf.out k).mach.mach)).trans h0.1, (World.cell?_of_block (hk _ _ _ hbx)).trans h0.2.1, (World.cell?_of_block (hk _ _ _ (HMf.out k).mach.chans)).trans h0.2.2.1, (World.cell?_of_block (hk _ _ _ (HMf.out k).mach.chans)).trans h0.2.2.2.1, (World.cell?_of_block (hk _ _ _ (HMf.out k).mach.chans)).trans h0.2.2.2.2.1, (World.cell?_of_block (hk _ _ _ ((HMf.out k).mach.procs i hi))).trans h0.2.2.2.2.2⟩
        have hdp := (HMf.out k).ok.good.chans (st.cf.chans.getD a default) (getD_mem hl)
        by_cases hrm : ((st.queues.getD a []).length : Int) < (st.cf.chans.getD a default).depth
        · rw [if_pos hrm]
          refine (csend_any (L.ch a) _ s0 r0 (st.proc i n).acc _ _ _ (f k) hq (by simp only [List.size_toArray, List.length_map]; omega)).mono ?_
          rintro e w' ⟨rfl, h1, h2⟩
          have h3 := (HMf.out k).setQueue a hl h2 (st.queues.getD a [] ++ [(st.proc i n).acc]) ⟨s0 + 1, r0, by rw [h1]; simp⟩
          exact ⟨rfl, kS w' (fun b c t hb => h2.block b (lt_of_block hb) (fun e => ne_of_chan hb hq e)), h3.1, (Touch.ofBelow (HFB.out k)).andThen h3.2⟩
        · rw [if_neg hrm]
          refine (csend_full (L.ch a) _ s0 r0 (st.proc i n).acc _ _ _ (f k) hq (by simp only [List.size_toArray, List.length_map]; omega)).mono ?_
          rintro e w' ⟨rfl, h1⟩
          exact ⟨rfl, kS w' (fun b c t hb => h1.block b (lt_of_block hb)), (HMf.out k).mono h1, (Touch.ofBelow (HFB.out k)).andThen (Touch.ofBelow h1)⟩
      have HR1 : Hid (R.1 = -1) := by show _ = _; rw [hR]; unfold sendS; rw [if_pos hmf]
      obtain ⟨r1, R2⟩ := R
      simp only at HR1 HCS
      generalize (st.cf.chans.getD a default).src = sr at *
      generalize (st.cf.chans.getD a default).dst = ds at *
      generalize st.cf.chans.length = m at *
      generalize (st.proc i n).acc = ac at *
      clear h hM hR hf hg c5 p0 b1 ch0 ed hs hb1 hA1 hw1 hmf hS
      go_enter Tryz.func218, Tryz.ntmps218
      go_wp2_with fail
      rw [← HW1.out]
      go_wp2_with fail
      refine region_class f (by kernel_rfl) (by kernel_rfl) HC0.out ?_
      repeat (go_big_quiet_step (first | (go_at_call 216; with_reducible exact HHA.out _) | (go_at_call 210; with_reducible exact HAT.out _)))
      refine wpQuiet_nil ?_
      rintro _ ⟨j, rfl⟩
      obtain ⟨j1, hj1⟩ := HC1.out j
      have HS1 := hide (HSE.out _ (by rw [hj1]; exact HSf.out j1 : S (f j).drew))
      have HA1' : Hid (Calls Tryz.prog 210 #[.agg #[.slice (some ⟨L.cb, 0, none⟩) m m], .int .i64 a] (f j).drew fun e w' => e = .returned (.pointer (some ⟨L.cb, a * 3, none⟩)) ∧ ∃ k, w' = f k) := by rw [hj1]; exact HAT.out j1
      clear hj1
      go_wp2_with fail
      go_region_held (fun W : World => W.cell? ⟨L.mb, 5, none⟩ = some (.slice (some ⟨L.cb, 0, none⟩) m m) ∧ W.cell? ⟨w.heap.size, 1, none⟩ = some (.int .i64 a) ∧ W.cell? ⟨L.cb, a * 3, none⟩ = some (.int .i64 sr) ∧ W.cell? ⟨L.cb, a * 3 + 1, none⟩ = some (.int .i64 ds) ∧ W.cell? ⟨L.cb, a * 3 + 2, none⟩ = some (.chan (some (L.ch a))) ∧ W.cell? ⟨L.pr i, n * 6 + 2, none⟩ = some (.int .i64 ac))
        ((first | (with_reducible assumption) | (with_reducible exact HS1.out)))
        (first
        | (go_at_call 210; refine HA1'.out.mono ?_; rintro e w9 ⟨rfl, k, rfl⟩; have hSS := HSE.out _ (HSf.out k))
        | (go_at_call 224; refine (HCS.out _).mono ?_; rintro e w9 ⟨rfl, hs9, hm9, ht9⟩; have hSS2 := HSE.out _ hs9))
      all_goals (
        have HEND := hide (And.intro hm9 ht9)
        clear hm9 ht9 hs9
        go_wp2
        go_ret
        exact ⟨(by have hr1 := HR1.out; subst hr1; rfl), HEND.out.1, HEND.out.2⟩)
    · have HRR : Hid (R = (4, st)) := by
        show _ = _
        rw [hR]
        unfold sendS
        rw [if_neg]
        unfold mineFrom
        simp only [decide_eq_true_eq]
        rintro ⟨_, h2⟩
        exact hs (by simpa using h2)
      have hsb : ((st.cf.chans.getD a default).src != (i : Int)) = true := by rw [bne_iff_ne]; exact hs
      generalize (st.cf.chans.getD a default).src = sr at *
      generalize (st.cf.chans.getD a default).dst = ds at *
      generalize st.cf.chans.length = m at *
      generalize (st.proc i n).acc = ac at *
      clear h hM hR hf hg c5 p0 b1 ch0 ed hs hb1 hA1 hw1
      go_enter Tryz.func218, Tryz.ntmps218
      go_wp2_with fail
      rw [← HW1.out]
      go_wp2_with fail
      refine region_class f (by kernel_rfl) (by kernel_rfl) HC0.out ?_
      repeat (go_big_quiet_step (first | (go_at_call 216; with_reducible exact HHA.out _) | (go_at_call 210; with_reducible exact HAT.out _)))
      refine wpQuiet_nil ?_
      rintro _ ⟨j, rfl⟩
      go_wp2
      go_ret
      rw [HRR.out]
      exact ⟨rfl, HMf.out j, Touch.ofBelow (HFB.out j)⟩
  · have HRR : Hid (R = (4, st)) := by
      show _ = _
      rw [hR]
      unfold sendS
      rw [if_neg]
      unfold mineFrom
      simp only [decide_eq_true_eq]
      rintro ⟨h2, _⟩
      omega
    rw [decide_eq_false hl] at HHA
    generalize st.cf.chans.length = m at *
    clear h hM hR hf hg c5 p0 b1 ed hb1 hA1 hw1
    go_enter Tryz.func218, Tryz.ntmps218
    go_wp2_with fail
    rw [← HW1.out]
    go_wp2_with fail
    refine region_class f (by kernel_rfl) (by kernel_rfl) HC0.out ?_
    repeat (go_big_quiet_step (first | (go_at_call 216; with_reducible exact HHA.out _)))
    refine wpQuiet_nil ?_
    rintro _ ⟨j, rfl⟩
    go_wp2
    go_ret
    rw [HRR.out]
    exact ⟨rfl, HMf.out j, Touch.ofBelow (HFB.out j)⟩
end Go.Proofs.YtnjlbgolnbdkaaaGreat
