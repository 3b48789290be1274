/- Texts of the proof of Boots, one behind the other. -/
import Derived.Test.YtnjlbgolnbdkaaaGreatJ28
import Derived.Test.YtnjlbgolnbdkaaaGreatJ29
import Derived.Test.YtnjlbgolnbdkaaaGreatJ15
import Derived.Test.YtnjlbgolnbdkaaaGreatJ27
/- A configuration in memory, as Parse gives it. -/
namespace Go.Proofs.YtnjlbgolnbdkaaaGreat
open Go.RowKit

theorem conf_mem (b0 : Nat) (vP vW vC : Value) (cf : Cf) (w : World) (h : ConfS b0 vP vW vC cf w) (hg : CfGood cf) : ∃ (D : CLay) (xW cW : Nat) (xC : Option Addr) (cC : Nat), vP = .slice (some ⟨D.px, 0, none⟩) cf.parts.length D.pc ∧ vW = .slice (some ⟨xW, 0, none⟩) cf.wins.length cW ∧ vC = .slice xC cf.chans.length cC ∧ PartsMem w D cf.parts ∧ RestMem w xW xC cf ∧ ∀ i r, r ∈ D.l i → ∀ b, r.2.ownBlock = some b → b0 ≤ b := by
  obtain ⟨⟨l, c, h1, h2, h3, h4, h5⟩, hW, hC⟩ := h
  have hlen : l.length = cf.parts.length := by rw [← h1, List.length_map]
  obtain ⟨_, ad, cp, hvP, hrP⟩ := own_read (fun p : Pt × Value => (ptCells p.1.sys p.1.words p.1.limit (fun i => p.1.acts.getD i 0) p.2).toList) (fun _ => rfl) l rfl h2
  have hn := hg.few
  obtain ⟨px, hpx, _⟩ := hrP 0 l[0] (List.getElem?_eq_getElem (by omega))
  subst hpx
  have hproc : ∀ i : Nat, ∃ y : Nat × Nat × List (Pr × Value), (∀ p : Pt × Value, l[i]? = some p → p.2 = .slice (some ⟨y.1, 0, none⟩) y.2.2.length y.2.1 ∧ y.2.2.map Prod.fst = p.1.procs ∧ ProcsAt w y.1 y.2.1 y.2.2 (prioOf p.1) ∧ ∀ r ∈ y.2.2, CodeV 0 r.2 r.1.code w ∧ ∀ b, r.2.ownBlock = some b → b0 ≤ b) ∧ (l[i]? = none → y.2.2 = []) := by
    intro i
    cases hi : l[i]? with
    | none => exact ⟨(0, 0, []), ⟨fun p hp => (by cases hp), fun _ => rfl⟩⟩
    | some p =>
      have hgp : PtGood p.1 := hg.parts p.1 (by rw [← h1]; exact List.mem_map_of_mem (List.mem_of_getElem? hi))
      obtain ⟨l2, e1, e2, e3, e4, e5⟩ := h5 i p hi
      have hl2 : l2.length = p.1.procs.length := by rw [← e1, List.length_map]
      obtain ⟨_, ad2, c2, hv2, hr2⟩ := own_read (fun p : Pr × Value => [.int .i64 p.1.prio, p.2]) (fun _ => rfl) l2 rfl e2
      have hfew := hgp.few
      obtain ⟨q, hq, hq0⟩ := hr2 0 l2[0] (List.getElem?_eq_getElem (by omega))
      subst hq
      refine ⟨(q, c2, l2), ⟨fun p' hp' => ?_, fun hn => (by cases hn)⟩⟩
      obtain rfl := Option.some.inj hp'
      refine ⟨hv2, e1, ⟨by simp only; omega, ?_, fun k r hr => ?_⟩, fun r hr => ⟨(e4 r hr).1.base (Nat.zero_le _), fun b hb => Nat.le_trans (h3 i) (World.ownsRow.lt (e4 r hr).1 b hb).1⟩⟩
      · have := hq0 0 (by omega)
        simp only [List.getElem?_cons_zero] at this
        exact lt_of_cell this
      · obtain ⟨q', hq', hc'⟩ := hr2 k r hr
        obtain rfl : q = q' := by simpa using hq'
        have hmem := List.mem_of_getElem? hr
        obtain ⟨a, m, hsl⟩ := own_slice (e4 r hmem).1
        have hpr : prioOf p.1 k = r.1.prio := by
          unfold prioOf
          rw [← e1, List.getD_eq_getElem?_getD, List.getElem?_map, hr]
          rfl
        exact ⟨⟨a, _, m, hsl⟩, by rw [hpr]; simpa using hc' 0 (by omega), by simpa using hc' 1 (by omega)⟩
  obtain ⟨f, hf⟩ := Classical.skolem.1 hproc
  obtain ⟨_, adW, cW, hvW, hrW⟩ := own_read mwinCells (fun _ => rfl) cf.wins rfl hW
  have hnw := hg.nwins
  obtain ⟨xW, hxW, _⟩ := hrW 0 (cf.wins[0]'(by omega)) (List.getElem?_eq_getElem (by omega))
  subst hxW
  obtain ⟨_, adC, cC, hvC, hrC⟩ := own_read (fun p : Ch => [.int .i64 p.src, .int .i64 p.dst, .int .i64 p.depth]) (fun _ => rfl) cf.chans rfl hC
  have hpart : ∀ j p, cf.parts[j]? = some p → ∃ u, l[j]? = some (p, u) := fun j p hp => by
    rw [← h1, List.getElem?_map] at hp
    cases hj : l[j]? with
    | none => rw [hj] at hp; cases hp
    | some pu => rw [hj] at hp; obtain rfl := Option.some.inj hp; exact ⟨pu.2, hj⟩
  refine ⟨⟨px, cp, fun i => (f i).1, fun i => (f i).2.1, fun i => (f i).2.2⟩, xW, cW, adC, cC, by rw [hvP, hlen], hvW, hvC, ⟨fun j p hp => ?_, fun j p hp => ?_⟩, ⟨fun k p hp => ?_, fun k p hp => ?_⟩, fun i r hr b hb => ?_⟩
  · obtain ⟨u, hu⟩ := hpart j p hp
    obtain ⟨e1, _⟩ := (hf j).1 _ hu
    obtain ⟨g', hg', hc⟩ := hrP j _ hu
    obtain rfl : px = g' := by simpa using hg'
    simp only at e1
    refine ⟨by simpa [ptCells] using hc 0 (by omega), by simpa [ptCells] using hc 1 (by omega), by simpa [ptCells] using hc 2 (by omega), by simpa [ptCells] using hc 3 (by omega), by simpa [ptCells] using hc 4 (by omega), by simpa [ptCells] using hc 5 (by omega), by simpa [ptCells] using hc 6 (by omega), by simpa [ptCells] using hc 7 (by omega), by simpa [ptCells] using hc 8 (by omega), ?_⟩
    have := hc 9 (by omega)
    rw [this]
    simp only [ptCells, e1]
    rfl
  · obtain ⟨u, hu⟩ := hpart j p hp
    obtain ⟨_, e2, e3, e4⟩ := (hf j).1 _ hu
    exact ⟨e2, e3, fun r hr => (e4 r hr).1⟩
  · obtain ⟨g', hg', hc⟩ := hrW k p hp
    obtain rfl : xW = g' := by simpa using hg'
    have c0 : w.cell? ⟨xW, k * 3, none⟩ = some (.int .i64 p.part) := by simpa [mwinCells] using hc 0 (by omega)
    exact ⟨lt_of_cell c0, c0, by simpa [mwinCells] using hc 1 (by omega), by simpa [mwinCells] using hc 2 (by omega)⟩
  · obtain ⟨g', hg', hc⟩ := hrC k p hp
    have c0 : w.cell? ⟨g', k * 3, none⟩ = some (.int .i64 p.src) := by simpa using hc 0 (by omega)
    exact ⟨g', hg', lt_of_cell c0, c0, by simpa using hc 1 (by omega), by simpa using hc 2 (by omega)⟩
  · cases hi : l[i]? with
    | none => simp only [(hf i).2 hi] at hr; cases hr
    | some p => exact (((hf i).1 p hi).2.2.2 r hr).2 b hb
end Go.Proofs.YtnjlbgolnbdkaaaGreat
/- The program's Boot. -/
namespace Go.Proofs.YtnjlbgolnbdkaaaGreat
open Go.RowKit

/- a kernel of the program -/
structure KernAt (w : World) (kb : Nat) (L : MLay) (g : Nat) (st : RSt) : Prop where
  box : w.heap[kb]? = some (.cells #[.pointer (some ⟨L.mb, 0, none⟩)] 77 (0, 0))
  mach : MachAt w L g st
  lay : LayOk L st.parts.length st.cf.chans.length
  ok : StOk st
def KBlk (kb : Nat) (L : MLay) (st : RSt) (b : Nat) : Prop := b = kb ∨ MBlk L st b
set_option maxRecDepth 100000 in
set_option maxHeartbeats 4000000 in
theorem pboot_any (ao : Option Addr) (n cap : Nat) (zs : List Int) (g : Nat) (bs : List Int) (left res : Int) (dead : Bool) (done : Int) (w : World) (hz : Held w ao n cap zs) (hn : n ≤ 140737488351232) (hF : FlashAt w g bs left res dead done) :
    Calls Tryz.prog 11 #[.slice ao n cap, .pointer (some ⟨g, 0, none⟩)] w fun e w' => (((parseOf zs).2.2 ≠ 0 ∧ e = .returned (.tuple #[.pointer none, .int .i64 (parseOf zs).2.2])) ∨ ((parseOf zs).2.2 = 0 ∧ ∃ kb L, e = .returned (.tuple #[.pointer (some ⟨kb, 0, none⟩), .int .i64 0]) ∧ KernAt w' kb L g (bootSt (parseOf zs).1 bs) ∧ ∀ b, KBlk kb L (bootSt (parseOf zs).1 bs) b → w.heap.size ≤ b)) ∧ Below w.heap.size w w' := by
  have HPA := hide (pgparse_any ao n cap zs w hz hn)
  rw [parse_same] at HPA
  have HFL := hide hF
  have HG := hide (parse_good zs)
  clear hz hF
  generalize parseOf zs = pr at *
  obtain ⟨cf, at', er⟩ := pr
  simp only at HPA HG ⊢
  go_enter Tryz.func11, Tryz.ntmps11
  go_wp2_with fail
  refine HPA.out.mono ?_
  rintro e w1 ⟨adP, mP, cP, adW, mW, cW, adC, mC, cC, rfl, hC, hb1⟩
  have HC := hide hC
  have HB1 := hide hb1
  have hs1 := hb1.size
  clear hC hb1 HPA
  simp only [cfCells]
  by_cases her : er = 0
  · subst her
    have hgd := HG.out rfl
    obtain ⟨D, xW, kW, xC, kC, e1, e2, e3, hm, hr, hcl⟩ := conf_mem _ _ _ _ _ _ HC.out hgd
    obtain ⟨rfl, rfl, rfl⟩ := Value.slice.inj e1
    obtain ⟨rfl, rfl, rfl⟩ := Value.slice.inj e2
    obtain ⟨rfl, rfl, rfl⟩ := Value.slice.inj e3
    have hba : Below w1.heap.size w1 (w1.alloc (.cells #[.int .i64 cf.frame, .int .i64 cf.watch, .slice (some ⟨D.px, 0, none⟩) cf.parts.length D.pc, .slice (some ⟨xW, 0, none⟩) cf.wins.length cW, .slice adC cf.chans.length cC] 71)) := (Below.refl _ _).alloc (Nat.le_refl _) _
    have HST := hide (mstart_any g w.heap.size xW cW cC adC D cf bs left res dead done _ ((HFL.out.below HB1.out).below hba) (by have := hba.size; omega) hgd hcl (hm.keep hba) (hr.keep hba))
    have HBA := hide hba
    clear hgd hm hr hcl e1 e2 e3 hba HC
    go_wp2_with fail
    refine HST.out.mono ?_
    rintro e w2 ⟨L, rfl, h1, h2, h3, h4, hb2⟩
    have hs2 := hb2.size
    simp at hs2
    have HEND : Hid (∃ kb L', (Value.pointer (some ⟨w2.heap.size, 0, none⟩) = .pointer (some ⟨kb, 0, none⟩)) ∧ KernAt (w2.alloc (.cells #[.pointer (some ⟨L.mb, 0, none⟩)] 77)) kb L' g (bootSt cf bs) ∧ (∀ b, KBlk kb L' (bootSt cf bs) b → w.heap.size ≤ b) ∧ Below w.heap.size w (w2.alloc (.cells #[.pointer (some ⟨L.mb, 0, none⟩)] 77))) := by
      have hbk : Below w2.heap.size w2 (w2.alloc (.cells #[.pointer (some ⟨L.mb, 0, none⟩)] 77)) := (Below.refl _ _).alloc (Nat.le_refl _) _
      refine ⟨w2.heap.size, L, rfl, ⟨heap_at rfl, h1.keep (fun b o hb => keepB hbk hb), by rw [h3.len]; exact h2, h3⟩, fun b hb => ?_, ((HB1.out.trans (HBA.out.mono hs1)).trans (hb2.mono (by simp; omega))).trans (hbk.mono (by omega))⟩
      rcases hb with rfl | hb
      · omega
      · exact h4 b hb
    clear h1 h2 h3 h4 hb2 HST
    go_wp2
    go_ret2
    obtain ⟨kb, L', k1, k2, k3, k4⟩ := HEND.out
    exact ⟨⟨kb, by rw [← k1]; rfl, L', k2, k3⟩, k4⟩
  · have HE : Hid (Below w.heap.size w (w1.alloc (.cells #[.int .i64 cf.frame, .int .i64 cf.watch, .slice adP mP cP, .slice adW mW cW, .slice adC mC cC] 71))) := HB1.out.alloc hs1 _
    have hne : (er != 0) = true := by simp [her]
    have HER := hide her
    clear her
    go_wp2
    go_ret2
    exact ⟨.inl ⟨HER.out, rfl⟩, HE.out⟩
end Go.Proofs.YtnjlbgolnbdkaaaGreat
/- The program's kernel: Look, Log, Now. -/
namespace Go.Proofs.YtnjlbgolnbdkaaaGreat
open Go.RowKit

theorem KernAt.keep {w w' : World} {kb g : Nat} {L : MLay} {st : RSt} (h : KernAt w kb L g st) (hk : ∀ (b : Nat) (o : Obj), w.heap[b]? = some o → w'.heap[b]? = some o) : KernAt w' kb L g st := ⟨hk _ _ h.box, h.mach.keep hk, h.lay, h.ok⟩
theorem KernAt.below {w w' : World} {kb g : Nat} {L : MLay} {st : RSt} (h : KernAt w kb L g st) (hb : Below w.heap.size w w') : KernAt w' kb L g st := h.keep (fun _ _ => keepB hb)

set_option maxHeartbeats 1000000 in
theorem mlog_any (L : MLay) (g : Nat) (st : RSt) (bs : List Int) (left res : Int) (dead : Bool) (done : Int) (w : World) (hm : MachAt w L g st) (h : FlashAt w g bs left res dead done) :
    Calls Tryz.prog 39 #[.pointer (some ⟨L.mb, 0, none⟩)] w fun e w' => ∃ v, e = .returned v ∧ (RecsV w.heap.size v (logOf bs) w' ∧ (logOf bs = [] → v = .slice none 0 0)) ∧ Below w.heap.size w w' := by
  have c0 : w.cell? ⟨L.mb, 0, none⟩ = some (.pointer (some ⟨g, 0, none⟩)) := by rw [cell_of_row _ _ _ _ _ _ hm.mach]; rfl
  have HL := hide (jlog_any g bs left res dead done w h)
  clear hm h
  go_enter Tryz.func39, Tryz.ntmps39
  go_wp2_with fail
  refine HL.out.mono ?_
  rintro e w1 ⟨v, rfl, hv, hb⟩
  have HV := hide hv
  have HB := hide hb
  clear hv hb
  go_wp2
  go_ret
  exact ⟨v, rfl, HV.out, HB.out⟩
set_option maxHeartbeats 1000000 in
theorem klog_any (kb : Nat) (L : MLay) (g : Nat) (st : RSt) (bs : List Int) (left res : Int) (dead : Bool) (done : Int) (w : World) (hk : KernAt w kb L g st) (h : FlashAt w g bs left res dead done) :
    Calls Tryz.prog 21 #[.pointer (some ⟨kb, 0, none⟩)] w fun e w' => ∃ v, e = .returned v ∧ (RecsV w.heap.size v (logOf bs) w' ∧ (logOf bs = [] → v = .slice none 0 0)) ∧ Below w.heap.size w w' := by
  have c0 : w.cell? ⟨kb, 0, none⟩ = some (.pointer (some ⟨L.mb, 0, none⟩)) := by rw [cell_of_row _ _ _ _ _ _ hk.box]; rfl
  have HL := hide (mlog_any L g st bs left res dead done w hk.mach h)
  clear hk h
  go_enter Tryz.func21, Tryz.ntmps21
  go_wp2_with fail
  refine HL.out.mono ?_
  rintro e w1 ⟨v, rfl, hv, hb⟩
  have HV := hide hv
  have HB := hide hb
  clear hv hb
  go_wp2
  go_ret
  exact ⟨v, rfl, HV.out, HB.out⟩
set_option maxHeartbeats 1000000 in
theorem know_any (kb : Nat) (L : MLay) (g : Nat) (st : RSt) (w : World) (hk : KernAt w kb L g st) :
    Calls Tryz.prog 103 #[.pointer (some ⟨kb, 0, none⟩)] w fun e w' => e = .returned (.int .i64 st.now) ∧ w' = w := by
  have c0 : w.cell? ⟨kb, 0, none⟩ = some (.pointer (some ⟨L.mb, 0, none⟩)) := by rw [cell_of_row _ _ _ _ _ _ hk.box]; rfl
  have c1 : w.cell? ⟨L.mb, 6, none⟩ = some (.int .i64 st.now) := by rw [cell_of_row _ _ _ _ _ _ hk.mach.mach]; rfl
  have HN : Hid (Calls Tryz.prog 142 #[.pointer (some ⟨L.mb, 0, none⟩)] w fun e w' => e = .returned (.int .i64 st.now) ∧ w' = w) := by
    show Calls _ _ _ _ _
    clear hk
    go_enter Tryz.func142, Tryz.ntmps142
    go_wp2
    go_ret
    exact ⟨rfl, rfl⟩
  clear hk
  go_enter Tryz.func103, Tryz.ntmps103
  go_wp2_with fail
  refine HN.out.mono ?_
  rintro e w1 ⟨rfl, rfl⟩
  go_wp2
  go_ret
  exact ⟨rfl, rfl⟩

/- what Look answers -/
def ViewV (base : Nat) (v : Value) (p : RPart) (rs : Int) (w : World) : Prop := ∃ y1 c1 y2 c2, v = .agg #[.int .i64 p.mode, .int .i64 rs, .slice (some ⟨y1, 0, none⟩) p.words.length c1, .slice (some ⟨y2, 0, none⟩) p.procs.length c2] ∧ w.ownsRow base 3 1 (.slice (some ⟨y1, 0, none⟩) p.words.length c1) p.words.length (p.words.map (Value.int .i64)) ∧ w.ownsRow base 47 3 (.slice (some ⟨y2, 0, none⟩) p.procs.length c2) p.procs.length (p.procs.flatMap stateCells)
set_option maxRecDepth 100000 in
set_option maxHeartbeats 4000000 in
theorem mlook_no (L : MLay) (g : Nat) (st : RSt) (i : Int) (w : World) (hm : MachAt w L g st) (hi : ¬ (0 ≤ i ∧ i < st.parts.length)) :
    Calls Tryz.prog 38 #[.pointer (some ⟨L.mb, 0, none⟩), .int .i64 i] w fun e w' => e = .returned (.tuple #[.agg #[.int .i64 0, .int .i64 0, .slice none 0 0, .slice none 0 0], .int .i64 1]) ∧ Below w.heap.size w w' := by
  have c3 : w.cell? ⟨L.mb, 3, none⟩ = some (.slice (some ⟨L.pb, 0, none⟩) st.parts.length st.parts.length) := by rw [cell_of_row _ _ _ _ _ _ hm.mach]; rfl
  have hl := lt_of_cell c3
  have hb0 : Below w.heap.size w (w.alloc (.cells #[.int .i64 0, .int .i64 0, .slice none 0 0, .slice none 0 0] 43)) := (Below.refl _ _).alloc (Nat.le_refl _) _
  have HH := hide (partHas_any L.pb st.parts.length i (w.alloc (.cells #[.int .i64 0, .int .i64 0, .slice none 0 0, .slice none 0 0] 43)))
  have e : (decide (0 ≤ i) && decide (i < (st.parts.length : Int))) = false := by
    rcases hd : (decide (0 ≤ i) && decide (i < (st.parts.length : Int))) with _ | _
    · rfl
    · simp at hd; exact absurd hd hi
  rw [e] at HH
  have HB0 := hide hb0
  clear hm hb0 e hi
  go_enter Tryz.func38, Tryz.ntmps38
  go_wp2_with fail
  refine HH.out.mono ?_
  rintro e w1 ⟨rfl, hb1⟩
  have hr1 : w1.heap[w.heap.size]? = some (.cells #[.int .i64 0, .int .i64 0, .slice none 0 0, .slice none 0 0] 43 (0, 0)) := (hb1.block _ (by simp)).trans (heap_at rfl)
  have z0 : w1.cell? ⟨w.heap.size, 0, none⟩ = some (.int .i64 0) := by rw [cell_of_row _ _ _ _ _ _ hr1]; rfl
  have z1 : w1.cell? ⟨w.heap.size, 1, none⟩ = some (.int .i64 0) := by rw [cell_of_row _ _ _ _ _ _ hr1]; rfl
  have z2 : w1.cell? ⟨w.heap.size, 2, none⟩ = some (.slice none 0 0) := by rw [cell_of_row _ _ _ _ _ _ hr1]; rfl
  have z3 : w1.cell? ⟨w.heap.size, 3, none⟩ = some (.slice none 0 0) := by rw [cell_of_row _ _ _ _ _ _ hr1]; rfl
  have f0 := free_of_block hr1 0
  have f1 := free_of_block hr1 1
  have f2 := free_of_block hr1 2
  have f3 := free_of_block hr1 3
  have HB1 : Hid (Below w.heap.size w w1) := HB0.out.trans (hb1.mono (by simp))
  have HR1 := hide hr1
  clear hb1 hr1 HH
  go_wp2
  refine bodyPost_ret (v := .tuple #[.agg #[.int .i64 0, .int .i64 0, .slice none 0 0, .slice none 0 0], .int .i64 1]) (res_cell_tmp Tryz.results38 _ _ _ (by rfl) (block_set (block_set (block_set (block_set HR1.out 0 _) 1 _) 2 _) 3 _) Tryz.underlying43 (by rw [Tryz.size43]; rfl)) rfl ?_
  refine ⟨rfl, ?_⟩
  iterate 4 refine Below.thenSet ?_ (Nat.le_refl _) _ _
  exact HB1.out
end Go.Proofs.YtnjlbgolnbdkaaaGreat
