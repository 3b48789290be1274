/- Texts of the proofs of Watched and Clocked, one behind the other. -/
import Derived.Test.YtnjlbgolnbdkaaaGreatM21
import Derived.Test.YtnjlbgolnbdkaaaGreatM22
import Derived.Test.YtnjlbgolnbdkaaaGreatM06
import Derived.Test.YtnjlbgolnbdkaaaGreatM20
import Derived.Test.YtnjlbgolnbdkaaaGreatM12
namespace Go.Proofs.YtnjlbgolnbdkaaaGreat
open Go.RowKit

theorem conf_mem (b0 : Nat) (vP vW vC : Value) (cf : Cf) (w : World) (h : ConfS b0 vP vW vC cf w) (hg : CfGood cf) : ∃ (D : CLay) (xW cW : Nat) (xC : Option Addr) (cC : Nat), vP = .slice (some ⟨D.px, 0, none⟩) cf.parts.length D.pc ∧ vW = .slice (some ⟨xW, 0, none⟩) cf.wins.length cW ∧ vC = .slice xC cf.chans.length cC ∧ PartsMem w D cf.parts ∧ RestMem w xW xC cf ∧ ∀ i r, r ∈ D.l i → ∀ b, r.2.ownBlock = some b → b0 ≤ b := by
  obtain ⟨⟨l, c, h1, h2, h3, h4, h5⟩, hW, hC⟩ := h
  have hlen : l.length = cf.parts.length := by rw [← h1, List.length_map]
  obtain ⟨_, ad, cp, hvP, hrP⟩ := own_read (fun p : Pt × Value => (ptCells p.1.sys p.1.words p.1.limit (fun i => p.1.acts.getD i 0) p.2).toList) (fun _ => rfl) l rfl h2
  have hn := hg.few
  obtain ⟨px, hpx, _⟩ := hrP 0 l[0] (List.getElem?_eq_getElem (by omega))
  subst hpx
  have hproc : ∀ i : Nat, ∃ y : Nat × Nat × List (Pr × Value), (∀ p : Pt × Value, l[i]? = some p → p.2 = .slice (some ⟨y.1, 0, none⟩) y.2.2.length y.2.1 ∧ y.2.2.map Prod.fst = p.1.procs ∧ ProcsAt w y.1 y.2.1 y.2.2 (prioOf p.1) ∧ ∀ r ∈ y.2.2, CodeV 0 r.2 r.1.code w ∧ ∀ b, r.2.ownBlock = some b → b0 ≤ b) ∧ (l[i]? = none → y.2.2 = []) := by
    intro i
    cases hi : l[i]? with
    | none => exact ⟨(0, 0, []), ⟨fun p hp => (by cases hp), fun _ => rfl⟩⟩
    | some p =>
      have hgp : PtGood p.1 := hg.parts p.1 (by rw [← h1]; exact List.mem_map_of_mem (List.mem_of_getElem? hi))
      obtain ⟨l2, e1, e2, e3, e4, e5⟩ := h5 i p hi
      have hl2 : l2.length = p.1.procs.length := by rw [← e1, List.length_map]
      obtain ⟨_, ad2, c2, hv2, hr2⟩ := own_read (fun p : Pr × Value => [.int .i64 p.1.prio, p.2]) (fun _ => rfl) l2 rfl e2
      have hfew := hgp.few
      obtain ⟨q, hq, hq0⟩ := hr2 0 l2[0] (List.getElem?_eq_getElem (by omega))
      subst hq
      refine ⟨(q, c2, l2), ⟨fun p' hp' => ?_, fun hn => (by cases hn)⟩⟩
      obtain rfl := Option.some.inj hp'
      refine ⟨hv2, e1, ⟨by simp only; omega, ?_, fun k r hr => ?_⟩, fun r hr => ⟨(e4 r hr).1.base (Nat.zero_le _), fun b hb => Nat.le_trans (h3 i) (World.ownsRow.lt (e4 r hr).1 b hb).1⟩⟩
      · have := hq0 0 (by omega)
        simp only [List.getElem?_cons_zero] at this
        exact lt_of_cell this
      · obtain ⟨q', hq', hc'⟩ := hr2 k r hr
        obtain rfl : q = q' := by simpa using hq'
        have hmem := List.mem_of_getElem? hr
        obtain ⟨a, m, hsl⟩ := own_slice (e4 r hmem).1
        have hpr : prioOf p.1 k = r.1.prio := by
          unfold prioOf
          rw [← e1, List.getD_eq_getElem?_getD, List.getElem?_map, hr]
          rfl
        exact ⟨⟨a, _, m, hsl⟩, by rw [hpr]; simpa using hc' 0 (by omega), by simpa using hc' 1 (by omega)⟩
  obtain ⟨f, hf⟩ := Classical.skolem.1 hproc
  obtain ⟨_, adW, cW, hvW, hrW⟩ := own_read mwinCells (fun _ => rfl) cf.wins rfl hW
  have hnw := hg.nwins
  obtain ⟨xW, hxW, _⟩ := hrW 0 (cf.wins[0]'(by omega)) (List.getElem?_eq_getElem (by omega))
  subst hxW
  obtain ⟨_, adC, cC, hvC, hrC⟩ := own_read (fun p : Ch => [.int .i64 p.src, .int .i64 p.dst, .int .i64 p.depth]) (fun _ => rfl) cf.chans rfl hC
  have hpart : ∀ j p, cf.parts[j]? = some p → ∃ u, l[j]? = some (p, u) := fun j p hp => by
    rw [← h1, List.getElem?_map] at hp
    cases hj : l[j]? with
    | none => rw [hj] at hp; cases hp
    | some pu => rw [hj] at hp; obtain rfl := Option.some.inj hp; exact ⟨pu.2, hj⟩
  refine ⟨⟨px, cp, fun i => (f i).1, fun i => (f i).2.1, fun i => (f i).2.2⟩, xW, cW, adC, cC, by rw [hvP, hlen], hvW, hvC, ⟨fun j p hp => ?_, fun j p hp => ?_⟩, ⟨fun k p hp => ?_, fun k p hp => ?_⟩, fun i r hr b hb => ?_⟩
  · obtain ⟨u, hu⟩ := hpart j p hp
    obtain ⟨e1, _⟩ := (hf j).1 _ hu
    obtain ⟨g', hg', hc⟩ := hrP j _ hu
    obtain rfl : px = g' := by simpa using hg'
    simp only at e1
    refine ⟨by simpa [ptCells] using hc 0 (by omega), by simpa [ptCells] using hc 1 (by omega), by simpa [ptCells] using hc 2 (by omega), by simpa [ptCells] using hc 3 (by omega), by simpa [ptCells] using hc 4 (by omega), by simpa [ptCells] using hc 5 (by omega), by simpa [ptCells] using hc 6 (by omega), by simpa [ptCells] using hc 7 (by omega), by simpa [ptCells] using hc 8 (by omega), ?_⟩
    have := hc 9 (by omega)
    rw [this]
    simp only [ptCells, e1]
    rfl
  · obtain ⟨u, hu⟩ := hpart j p hp
    obtain ⟨_, e2, e3, e4⟩ := (hf j).1 _ hu
    exact ⟨e2, e3, fun r hr => (e4 r hr).1⟩
  · obtain ⟨g', hg', hc⟩ := hrW k p hp
    obtain rfl : xW = g' := by simpa using hg'
    have c0 : w.cell? ⟨xW, k * 3, none⟩ = some (.int .i64 p.part) := by simpa [mwinCells] using hc 0 (by omega)
    exact ⟨lt_of_cell c0, c0, by simpa [mwinCells] using hc 1 (by omega), by simpa [mwinCells] using hc 2 (by omega)⟩
  · obtain ⟨g', hg', hc⟩ := hrC k p hp
    have c0 : w.cell? ⟨g', k * 3, none⟩ = some (.int .i64 p.src) := by simpa using hc 0 (by omega)
    exact ⟨g', hg', lt_of_cell c0, c0, by simpa using hc 1 (by omega), by simpa using hc 2 (by omega)⟩
  · cases hi : l[i]? with
    | none => simp only [(hf i).2 hi] at hr; cases hr
    | some p => exact (((hf i).1 p hi).2.2.2 r hr).2 b hb
end Go.Proofs.YtnjlbgolnbdkaaaGreat
namespace Go.Proofs.YtnjlbgolnbdkaaaGreat
open Go.RowKit

structure KernAt (w : World) (kb : Nat) (L : MLay) (g : Nat) (st : RSt) : Prop where
  box : w.heap[kb]? = some (.cells #[.pointer (some ⟨L.mb, 0, none⟩)] 77 (0, 0))
  mach : MachAt w L g st
  lay : LayOk L st.parts.length st.cf.chans.length
  ok : StOk st
def KBlk (kb : Nat) (L : MLay) (st : RSt) (b : Nat) : Prop := b = kb ∨ MBlk L st b
set_option maxRecDepth 100000 in
set_option maxHeartbeats 4000000 in
theorem pboot_any (ao : Option Addr) (n cap : Nat) (zs : List Int) (g : Nat) (bs : List Int) (left res : Int) (dead : Bool) (done : Int) (w : World) (hz : Held w ao n cap zs) (hn : n ≤ 140737488351232) (hF : FlashAt w g bs left res dead done) :
    Calls Tryz.prog 11 #[.slice ao n cap, .pointer (some ⟨g, 0, none⟩)] w fun e w' => (((parseOf zs).2.2 ≠ 0 ∧ e = .returned (.tuple #[.pointer none, .int .i64 (parseOf zs).2.2])) ∨ ((parseOf zs).2.2 = 0 ∧ ∃ kb L, e = .returned (.tuple #[.pointer (some ⟨kb, 0, none⟩), .int .i64 0]) ∧ KernAt w' kb L g (bootSt (parseOf zs).1 bs) ∧ ∀ b, KBlk kb L (bootSt (parseOf zs).1 bs) b → w.heap.size ≤ b)) ∧ Below w.heap.size w w' := by
  have HPA := hide (pgparse_any ao n cap zs w hz hn)
  rw [parse_same] at HPA
  have HFL := hide hF
  have HG := hide (parse_good zs)
  clear hz hF
  generalize parseOf zs = pr at *
  obtain ⟨cf, at', er⟩ := pr
  simp only at HPA HG ⊢
  go_enter Tryz.func11, Tryz.ntmps11
  go_wp2_with fail
  refine HPA.out.mono ?_
  rintro e w1 ⟨adP, mP, cP, adW, mW, cW, adC, mC, cC, rfl, hC, hb1⟩
  have HC := hide hC
  have HB1 := hide hb1
  have hs1 := hb1.size
  clear hC hb1 HPA
  simp only [cfCells]
  by_cases her : er = 0
  · subst her
    have hgd := HG.out rfl
    obtain ⟨D, xW, kW, xC, kC, e1, e2, e3, hm, hr, hcl⟩ := conf_mem _ _ _ _ _ _ HC.out hgd
    obtain ⟨rfl, rfl, rfl⟩ := Value.slice.inj e1
    obtain ⟨rfl, rfl, rfl⟩ := Value.slice.inj e2
    obtain ⟨rfl, rfl, rfl⟩ := Value.slice.inj e3
    have hba : Below w1.heap.size w1 (w1.alloc (.cells #[.int .i64 cf.frame, .int .i64 cf.watch, .slice (some ⟨D.px, 0, none⟩) cf.parts.length D.pc, .slice (some ⟨xW, 0, none⟩) cf.wins.length cW, .slice adC cf.chans.length cC] 71)) := (Below.refl _ _).alloc (Nat.le_refl _) _
    have HST := hide (mstart_any g w.heap.size xW cW cC adC D cf bs left res dead done _ ((HFL.out.below HB1.out).below hba) (by have := hba.size; omega) hgd hcl (hm.keep hba) (hr.keep hba))
    have HBA := hide hba
    clear hgd hm hr hcl e1 e2 e3 hba HC
    go_wp2_with fail
    refine HST.out.mono ?_
    rintro e w2 ⟨L, rfl, h1, h2, h3, h4, hb2⟩
    have hs2 := hb2.size
    simp at hs2
    have HEND : Hid (∃ kb L', (Value.pointer (some ⟨w2.heap.size, 0, none⟩) = .pointer (some ⟨kb, 0, none⟩)) ∧ KernAt (w2.alloc (.cells #[.pointer (some ⟨L.mb, 0, none⟩)] 77)) kb L' g (bootSt cf bs) ∧ (∀ b, KBlk kb L' (bootSt cf bs) b → w.heap.size ≤ b) ∧ Below w.heap.size w (w2.alloc (.cells #[.pointer (some ⟨L.mb, 0, none⟩)] 77))) := by
      have hbk : Below w2.heap.size w2 (w2.alloc (.cells #[.pointer (some ⟨L.mb, 0, none⟩)] 77)) := (Below.refl _ _).alloc (Nat.le_refl _) _
      refine ⟨w2.heap.size, L, rfl, ⟨heap_at rfl, h1.keep (fun b o hb => keepB hbk hb), by rw [h3.len]; exact h2, h3⟩, fun b hb => ?_, ((HB1.out.trans (HBA.out.mono hs1)).trans (hb2.mono (by simp; omega))).trans (hbk.mono (by omega))⟩
      rcases hb with rfl | hb
      · omega
      · exact h4 b hb
    clear h1 h2 h3 h4 hb2 HST
    go_wp2
    go_ret2
    obtain ⟨kb, L', k1, k2, k3, k4⟩ := HEND.out
    exact ⟨⟨kb, by rw [← k1]; rfl, L', k2, k3⟩, k4⟩
  · have HE : Hid (Below w.heap.size w (w1.alloc (.cells #[.int .i64 cf.frame, .int .i64 cf.watch, .slice adP mP cP, .slice adW mW cW, .slice adC mC cC] 71))) := HB1.out.alloc hs1 _
    have hne : (er != 0) = true := by simp [her]
    have HER := hide her
    clear her
    go_wp2
    go_ret2
    exact ⟨.inl ⟨HER.out, rfl⟩, HE.out⟩
end Go.Proofs.YtnjlbgolnbdkaaaGreat
namespace Go.Proofs.YtnjlbgolnbdkaaaGreat
open Go.RowKit

theorem KernAt.keep {w w' : World} {kb g : Nat} {L : MLay} {st : RSt} (h : KernAt w kb L g st) (hk : ∀ (b : Nat) (o : Obj), w.heap[b]? = some o → w'.heap[b]? = some o) : KernAt w' kb L g st := ⟨hk _ _ h.box, h.mach.keep hk, h.lay, h.ok⟩
theorem KernAt.below {w w' : World} {kb g : Nat} {L : MLay} {st : RSt} (h : KernAt w kb L g st) (hb : Below w.heap.size w w') : KernAt w' kb L g st := h.keep (fun _ _ => keepB hb)

set_option maxHeartbeats 1000000 in
theorem mlog_any (L : MLay) (g : Nat) (st : RSt) (bs : List Int) (left res : Int) (dead : Bool) (done : Int) (w : World) (hm : MachAt w L g st) (h : FlashAt w g bs left res dead done) :
    Calls Tryz.prog 39 #[.pointer (some ⟨L.mb, 0, none⟩)] w fun e w' => ∃ v, e = .returned v ∧ (RecsV w.heap.size v (logOf bs) w' ∧ (logOf bs = [] → v = .slice none 0 0)) ∧ Below w.heap.size w w' := by
  have c0 : w.cell? ⟨L.mb, 0, none⟩ = some (.pointer (some ⟨g, 0, none⟩)) := by rw [cell_of_row _ _ _ _ _ _ hm.mach]; rfl
  have HL := hide (jlog_any g bs left res dead done w h)
  clear hm h
  go_enter Tryz.func39, Tryz.ntmps39
  go_wp2_with fail
  refine HL.out.mono ?_
  rintro e w1 ⟨v, rfl, hv, hb⟩
  have HV := hide hv
  have HB := hide hb
  clear hv hb
  go_wp2
  go_ret
  exact ⟨v, rfl, HV.out, HB.out⟩
set_option maxHeartbeats 1000000 in
theorem klog_any (kb : Nat) (L : MLay) (g : Nat) (st : RSt) (bs : List Int) (left res : Int) (dead : Bool) (done : Int) (w : World) (hk : KernAt w kb L g st) (h : FlashAt w g bs left res dead done) :
    Calls Tryz.prog 21 #[.pointer (some ⟨kb, 0, none⟩)] w fun e w' => ∃ v, e = .returned v ∧ (RecsV w.heap.size v (logOf bs) w' ∧ (logOf bs = [] → v = .slice none 0 0)) ∧ Below w.heap.size w w' := by
  have c0 : w.cell? ⟨kb, 0, none⟩ = some (.pointer (some ⟨L.mb, 0, none⟩)) := by rw [cell_of_row _ _ _ _ _ _ hk.box]; rfl
  have HL := hide (mlog_any L g st bs left res dead done w hk.mach h)
  clear hk h
  go_enter Tryz.func21, Tryz.ntmps21
  go_wp2_with fail
  refine HL.out.mono ?_
  rintro e w1 ⟨v, rfl, hv, hb⟩
  have HV := hide hv
  have HB := hide hb
  clear hv hb
  go_wp2
  go_ret
  exact ⟨v, rfl, HV.out, HB.out⟩
def ViewV (base : Nat) (v : Value) (p : RPart) (rs : Int) (w : World) : Prop := ∃ y1 c1 y2 c2, v = .agg #[.int .i64 p.mode, .int .i64 rs, .slice (some ⟨y1, 0, none⟩) p.words.length c1, .slice (some ⟨y2, 0, none⟩) p.procs.length c2] ∧ w.ownsRow base 3 1 (.slice (some ⟨y1, 0, none⟩) p.words.length c1) p.words.length (p.words.map (Value.int .i64)) ∧ w.ownsRow base 47 3 (.slice (some ⟨y2, 0, none⟩) p.procs.length c2) p.procs.length (p.procs.flatMap stateCells)
end Go.Proofs.YtnjlbgolnbdkaaaGreat
namespace Go.Proofs.YtnjlbgolnbdkaaaGreat
open Go.RowKit Go.Shelf

theorem Mo.outside {w : World} {L : MLay} {g b : Nat} {st : RSt} {F : Fl} {c : Array Value} {t : TypeId} (h : Mo w L g st F) (hb : w.heap[b]? = some (.cells c t (0, 0))) (ht : t ≠ 145 ∧ t ≠ 120 ∧ t ≠ 3 ∧ t ≠ 166 ∧ t ≠ 80) : ¬ Dm L g st b := by
  rintro (rfl | rfl | ⟨i, hi, rfl | rfl⟩ | ⟨j, hj, rfl⟩ | rfl)
  · exact ne_of_types hb h.mach.mach ht.1 rfl
  · exact ne_of_types hb h.mach.parts ht.2.1 rfl
  · exact ne_of_types hb (h.mach.words i hi) ht.2.2.1 rfl
  · exact ne_of_types hb (h.mach.procs i hi) ht.2.2.2.1 rfl
  · obtain ⟨s, r, hc⟩ := h.mach.queue j hj
    exact ne_of_chan hb hc rfl
  · exact ne_of_types hb h.fl.blk ht.2.2.2.2 rfl
structure Kn (w : World) (kb : Nat) (L : MLay) (g : Nat) (st : RSt) (F : Fl) : Prop where
  box : w.heap[kb]? = some (.cells #[.pointer (some ⟨L.mb, 0, none⟩)] 77 (0, 0))
  mo : Mo w L g st F
theorem Kn.kern {w : World} {kb : Nat} {L : MLay} {g : Nat} {st : RSt} {F : Fl} (h : Kn w kb L g st F) : KernAt w kb L g st := ⟨h.box, h.mo.mach, h.mo.lay, h.mo.ok⟩
theorem Kn.next {w w' : World} {kb : Nat} {L : MLay} {g : Nat} {st st' : RSt} {F F' : Fl} (h : Kn w kb L g st F) (hm : Mo w' L g st' F') (ht : Touch (Dm L g st) w w') : Kn w' kb L g st' F' :=
  ⟨(ht.block kb (lt_of_block h.box) (h.mo.outside h.box (by decide))).trans h.box, hm⟩
set_option maxHeartbeats 1000000 in
theorem ktick_any (kb : Nat) (L : MLay) (g : Nat) (st : RSt) (F : Fl) (n : Int) (w : World) (h : Kn w kb L g st F) (hrun : StRun st) (hnow : st.now + 1000 ≤ 1000000000000) :
    Calls Tryz.prog 19 #[.pointer (some ⟨kb, 0, none⟩), .int .i64 n] w fun e w' => e = .returned (.tuple #[.int .i64 (tickCall n (st, F)).1.1, .int .i64 (tickCall n (st, F)).1.2]) ∧ Kn w' kb L g (tickCall n (st, F)).2.1 (tickCall n (st, F)).2.2 ∧ Touch (Dm L g st) w w' := by
  have c0 : w.cell? ⟨kb, 0, none⟩ = some (.pointer (some ⟨L.mb, 0, none⟩)) := by rw [cell_of_row _ _ _ _ _ _ h.box]; rfl
  have HT := hide (mTick_any L g st F n w h.mo hrun hnow)
  have HH := hide h
  clear h hrun hnow
  generalize tickCall n (st, F) = r at *
  obtain ⟨⟨a, e⟩, s1, F1⟩ := r
  simp only at *
  go_enter Tryz.func19, Tryz.ntmps19
  go_wp2_with fail
  refine HT.out.mono ?_
  rintro e w1 ⟨rfl, h1, h2⟩
  have HE := hide (And.intro (HH.out.next h1 h2) h2)
  clear h1 h2
  go_wp2
  go_ret2
  exact ⟨rfl, HE.out.1, HE.out.2⟩
theorem SRun.dead {s : SF} (h : SRun s) (b : Bool) : SRun ({ s.1 with dead := b }, s.2) := ⟨⟨h.1.now, h.1.watch, h.1.proc, h.1.queue⟩, ⟨h.2.good, h.2.len, h.2.part, h.2.qlen⟩⟩
theorem tickCall_tk (n : Int) (s : SF) (h : SRun s) (hn : s.1.now + 1000 ≤ 1000000000000) : Tk s (tickCall n s).2 1000 := by
  have h0 : Tk s s 1000 := ⟨h, rfl, rfl, ⟨Int.le_refl _, by omega⟩⟩
  unfold tickCall
  by_cases h1 : n < 0 ∨ 1000 < n
  · rw [if_pos h1]; exact h0
  · rw [if_neg h1]
    by_cases hd : s.1.dead = true
    · rw [if_pos hd]; exact h0
    · rw [if_neg hd]
      have := ticks_tk s h n.toNat (by omega)
      exact ⟨this.run.dead _, this.cf, this.len, ⟨this.now.1, by have h2 := this.now.2; show (ticksTo n.toNat s).2.1.now ≤ s.1.now + ((1000 : Nat) : Int); omega⟩⟩
end Go.Proofs.YtnjlbgolnbdkaaaGreat
namespace Go.Proofs.YtnjlbgolnbdkaaaGreat
open Go.RowKit
attribute [-go_sem] Instr.storeAt

set_option maxRecDepth 100000 in
set_option maxHeartbeats 40000000 in
theorem mlook_gen (mo rs : Int) (nw np : Nat) (wv pv : List Value) (L : MLay) (g : Nat) (st : RSt) (bs : List Int) (left res : Int) (dead : Bool) (done : Int) (i : Nat) (w : World) (hm : MachAt w L g st) (hok : StOk st) (hf : FlashAt w g bs left res dead done) (hi : i < st.parts.length)
    (hE : mo = (st.parts.getD i default).mode ∧ rs = restartsOf bs i ∧ nw = (st.parts.getD i default).words.length ∧ np = (st.parts.getD i default).procs.length ∧ wv = (st.parts.getD i default).words.map (Value.int .i64) ∧ pv = (st.parts.getD i default).procs.flatMap stateCells) :
    Calls Tryz.prog 38 #[.pointer (some ⟨L.mb, 0, none⟩), .int .i64 i] w fun e w' => ∃ y1 c1 y2 c2, e = .returned (.tuple #[.agg #[.int .i64 mo, .int .i64 rs, .slice (some ⟨y1, 0, none⟩) nw c1, .slice (some ⟨y2, 0, none⟩) np c2], .int .i64 0]) ∧ (w'.ownsRow w.heap.size 3 1 (.slice (some ⟨y1, 0, none⟩) nw c1) nw (wv) ∧ w'.ownsRow w.heap.size 47 3 (.slice (some ⟨y2, 0, none⟩) np c2) np (pv)) ∧ Below w.heap.size w w' := by
  have c3 : w.cell? ⟨L.mb, 3, none⟩ = some (.slice (some ⟨L.pb, 0, none⟩) st.parts.length st.parts.length) := by rw [cell_of_row _ _ _ _ _ _ hm.mach]; rfl
  have hl := lt_of_cell c3
  have hb0 : Below w.heap.size w (w.alloc (.cells #[.int .i64 0, .int .i64 0, .slice none 0 0, .slice none 0 0] 43)) := (Below.refl _ _).alloc (Nat.le_refl _) _
  have HH := hide (partHas_any L.pb st.parts.length i (w.alloc (.cells #[.int .i64 0, .int .i64 0, .slice none 0 0, .slice none 0 0] 43)))
  have e : (decide (0 ≤ (i : Int)) && decide ((i : Int) < (st.parts.length : Int))) = true := by simp; omega
  rw [e] at HH
  have HB0 := hide hb0
  have HM := hide hm
  have HE := hide hE
  have HFL := hide hf
  have HOK := hide hok
  have hn := hok.few
  clear hb0 e hm hf hok hE
  go_enter Tryz.func38, Tryz.ntmps38
  go_wp2_with fail
  refine HH.out.mono ?_
  rintro e w1 ⟨rfl, hb1⟩
  have hr1 : w1.heap[w.heap.size]? = some (.cells #[.int .i64 0, .int .i64 0, .slice none 0 0, .slice none 0 0] 43 (0, 0)) := (hb1.block _ (by simp)).trans (heap_at rfl)
  have hb01 : Below w.heap.size w w1 := HB0.out.trans (hb1.mono (by simp))
  have hs1 : w.heap.size + 1 ≤ w1.heap.size := by have := hb1.size; simpa using this
  obtain ⟨P, hP⟩ : ∃ P : World → Prop, P = fun W => Below w1.heap.size w1 W := ⟨_, rfl⟩
  have HP1 : Hid (P w1) := by show P w1; rw [hP]; exact Below.refl _ _
  have HPb : Hid (∀ W, P W → Below w1.heap.size w1 W) := fun W h => by rw [hP] at h; exact h
  have HPk : Hid (∀ W W', P W → Below W.heap.size W W' → P W') := fun W W' h hb => by rw [hP] at h ⊢; exact h.trans (hb.mono h.size)
  have HPd : Hid (∀ W, P W → P W.drew) := fun W h => by rw [hP] at h ⊢; exact h.drew
  have HPW : Hid (∀ W, P W → Below w.heap.size w W) := fun W hW => hb01.trans ((HPb.out W hW).mono (by omega))
  have HPC0 : Hid (∀ W : World, W.heap[L.mb]? = w.heap[L.mb]? → W.cell? ⟨L.mb, 0, none⟩ = some (.pointer (some ⟨g, 0, none⟩)) ∧ W.cell? ⟨L.mb, 3, none⟩ = some (.slice (some ⟨L.pb, 0, none⟩) st.parts.length st.parts.length)) := fun W hW => by
    have a := hW.trans HM.out.mach
    refine ⟨?_, ?_⟩ <;> (rw [cell_of_row _ _ _ _ _ _ a]; rfl)
  have HPC : Hid (∀ W, P W → W.cell? ⟨L.mb, 0, none⟩ = some (.pointer (some ⟨g, 0, none⟩)) ∧ W.cell? ⟨L.mb, 3, none⟩ = some (.slice (some ⟨L.pb, 0, none⟩) st.parts.length st.parts.length)) := fun W hW => HPC0.out W ((HPW.out W hW).block _ hl)
  have HAT : Hid (∀ W, P W → Calls Tryz.prog 73 #[.agg #[.slice (some ⟨L.pb, 0, none⟩) st.parts.length st.parts.length], .int .i64 i] W fun e w' => e = .returned (.pointer (some ⟨L.pb, i * 14, none⟩)) ∧ P w') := fun W hW => (partAt_any L.pb st.parts.length i W hi).mono (fun e w' ⟨he, hb⟩ => ⟨he, HPk.out W w' hW hb⟩)
  have HRS : Hid (∀ W, P W → Calls Tryz.prog 75 #[.agg #[.pointer (some ⟨g, 0, none⟩)], .int .i64 i] W fun e w' => e = .returned (.int .i64 rs) ∧ P w') := fun W hW => (jrest_any g bs left res dead done i W (by omega) (HFL.out.below (HPW.out W hW))).mono (fun e w' ⟨he, hb⟩ => ⟨by rw [he, HE.out.2.1], HPk.out W w' hW hb⟩)
  have HVW : Hid (∀ W rs, P W → Calls Tryz.prog 74 #[.pointer (some ⟨L.pb, i * 14, none⟩), .int .i64 rs] W fun e w' => ∃ y1 c1 y2 c2, e = .returned (.agg #[.int .i64 mo, .int .i64 rs, .slice (some ⟨y1, 0, none⟩) nw c1, .slice (some ⟨y2, 0, none⟩) np c2]) ∧ (w'.ownsRow W.heap.size 3 1 (.slice (some ⟨y1, 0, none⟩) nw c1) nw (wv) ∧ w'.ownsRow W.heap.size 47 3 (.slice (some ⟨y2, 0, none⟩) np c2) np (pv)) ∧ P w') := fun W rs hW => (view_any L g st i rs W (HM.out.below (HPW.out W hW)) HOK.out hi).mono (fun e w' ⟨y1, c1, y2, c2, he, h1, h2, hb⟩ => by
    obtain ⟨e1, _, e3, e4, e5, e6⟩ := HE.out
    rw [← e1, ← e3, ← e4] at he
    rw [← e3, ← e5] at h1
    rw [← e4, ← e6] at h2
    exact ⟨y1, c1, y2, c2, he, ⟨h1, h2⟩, HPk.out W w' hW hb⟩)
  have HRB : Hid (∀ W, P W → W.heap[w.heap.size]? = some (.cells #[.int .i64 0, .int .i64 0, .slice none 0 0, .slice none 0 0] 43 (0, 0))) := fun W hW => keepB (HPb.out W hW) hr1
  have HPS : Hid (∀ W, P W → w.heap.size + 1 ≤ W.heap.size) := fun W hW => Nat.le_trans hs1 (HPb.out W hW).size
  obtain ⟨F, hF⟩ : ∃ F : World → Nat → Nat → Nat → Nat → World, F = fun W y1 c1 y2 c2 => W.setCells w.heap.size 0 [.int .i64 mo, .int .i64 rs, .slice (some ⟨y1, 0, none⟩) nw c1, .slice (some ⟨y2, 0, none⟩) np c2] := ⟨_, rfl⟩
  have HSTO : Hid (∀ W y1 c1 y2 c2, P W → (Instr.storeAt 43 (.pointer (some ⟨w.heap.size, 0, none⟩)) (.agg #[.int .i64 mo, .int .i64 rs, .slice (some ⟨y1, 0, none⟩) nw c1, .slice (some ⟨y2, 0, none⟩) np c2])).run Tryz.prog W = .ok () (F W y1 c1 y2 c2)) := fun W y1 c1 y2 c2 hW => by
    rw [hF]
    exact run_storeAt_mid (P := Tryz.prog) W w.heap.size 0 43 _ (there_of_block (HRB.out W hW) 4 (by decide)) (by rw [Tryz.size43]; rfl) (by simp [Value.oneCell'])
  have HF : Hid (∀ W y1 c1 y2 c2, P W → (F W y1 c1 y2 c2).heap[w.heap.size]? = some (.cells #[.int .i64 mo, .int .i64 rs, .slice (some ⟨y1, 0, none⟩) nw c1, .slice (some ⟨y2, 0, none⟩) np c2] 43 (0, 0)) ∧ Touch (· = w.heap.size) W (F W y1 c1 y2 c2)) := fun W y1 c1 y2 c2 hW => by
    rw [hF]
    exact ⟨setCells_whole _ (HRB.out W hW) rfl, touch_setCells _ _ _ _⟩
  have HFC : Hid (∀ W y1 c1 y2 c2, P W → (F W y1 c1 y2 c2).cell? ⟨L.mb, 0, none⟩ = some (.pointer (some ⟨g, 0, none⟩)) ∧ (F W y1 c1 y2 c2).cell? ⟨L.mb, 3, none⟩ = some (.slice (some ⟨L.pb, 0, none⟩) st.parts.length st.parts.length)) := fun W y1 c1 y2 c2 hW => HPC0.out _ (((HF.out W y1 c1 y2 c2 hW).2.block _ (by have := HPS.out W hW; omega) (by omega)).trans ((HPW.out W hW).block _ hl))
  clear hF hr1 hb01 hP HH hb1
  obtain ⟨r0, r1⟩ := HPC.out _ HP1.out
  go_wp2_with fail
  go_region_held3 (fun w' => w'.cell? ⟨L.mb, 0, none⟩ = some (.pointer (some ⟨g, 0, none⟩)) ∧ w'.cell? ⟨L.mb, 3, none⟩ = some (.slice (some ⟨L.pb, 0, none⟩) st.parts.length st.parts.length))
    ((first | exact HPC.out _ HP1.out | exact HPC.out _ (HPd.out _ HP1.out) | exact HPC.out _ (by assumption) | exact HFC.out _ _ _ _ _ (by assumption)))
    (first
      | (go_at_call 73; refine (HAT.out _ (by first | assumption | exact HPd.out _ HP1.out)).mono ?_; rintro e ua ⟨rfl, ha6⟩)
      | (go_at_call 75; refine (HRS.out _ (by first | assumption | exact HPd.out _ HP1.out)).mono ?_; rintro e ur ⟨rfl, hr6⟩)
      | (go_at_call 74; refine (HVW.out _ _ (by first | assumption | exact HPd.out _ HP1.out)).mono ?_; rintro e us ⟨y1, c1, y2, c2, rfl, hs1, hs6⟩; have hstU := fun a b c d => HSTO.out us a b c d hs6))
  all_goals
    go_wp2
    obtain ⟨hf1, hf2⟩ := HF.out us y1 c1 y2 c2 hs6
    have hb6 := HPW.out us hs6
    have hzr := HPS.out _ hr6
    refine bodyPost_ret (v := .tuple #[.agg #[.int .i64 mo, .int .i64 rs, .slice (some ⟨y1, 0, none⟩) nw c1, .slice (some ⟨y2, 0, none⟩) np c2], .int .i64 0]) (res_cell_tmp Tryz.results38 _ _ _ (by rfl) hf1 Tryz.underlying43 (by rw [Tryz.size43]; rfl)) rfl ?_
    refine ⟨y1, c1, y2, c2, rfl, ⟨?_, ?_⟩, hb6.trans (hf2.below hb6.size (fun k hk => by omega))⟩
    · exact own_low (own_keep hs1.1 (fun b e => hf2.block b (World.ownsRow.lt hs1.1 b e).2 (by have := (World.ownsRow.lt hs1.1 b e).1; omega))) (by omega)
    · exact own_low (own_keep hs1.2 (fun b e => hf2.block b (World.ownsRow.lt hs1.2 b e).2 (by have := (World.ownsRow.lt hs1.2 b e).1; omega))) (by omega)
theorem mlook_yes (L : MLay) (g : Nat) (st : RSt) (bs : List Int) (left res : Int) (dead : Bool) (done : Int) (i : Nat) (w : World) (hm : MachAt w L g st) (hok : StOk st) (hf : FlashAt w g bs left res dead done) (hi : i < st.parts.length) :
    Calls Tryz.prog 38 #[.pointer (some ⟨L.mb, 0, none⟩), .int .i64 i] w fun e w' => ∃ y1 c1 y2 c2, e = .returned (.tuple #[.agg #[.int .i64 (st.parts.getD i default).mode, .int .i64 (restartsOf bs i), .slice (some ⟨y1, 0, none⟩) (st.parts.getD i default).words.length c1, .slice (some ⟨y2, 0, none⟩) (st.parts.getD i default).procs.length c2], .int .i64 0]) ∧ (w'.ownsRow w.heap.size 3 1 (.slice (some ⟨y1, 0, none⟩) (st.parts.getD i default).words.length c1) (st.parts.getD i default).words.length ((st.parts.getD i default).words.map (Value.int .i64)) ∧ w'.ownsRow w.heap.size 47 3 (.slice (some ⟨y2, 0, none⟩) (st.parts.getD i default).procs.length c2) (st.parts.getD i default).procs.length ((st.parts.getD i default).procs.flatMap stateCells)) ∧ Below w.heap.size w w' :=
  mlook_gen _ _ _ _ _ _ L g st bs left res dead done i w hm hok hf hi ⟨rfl, rfl, rfl, rfl, rfl, rfl⟩
end Go.Proofs.YtnjlbgolnbdkaaaGreat
namespace Go.Proofs.YtnjlbgolnbdkaaaGreat
open Go.RowKit

set_option maxRecDepth 100000 in
set_option maxHeartbeats 4000000 in
theorem klook_yes (kb : Nat) (L : MLay) (g : Nat) (st : RSt) (bs : List Int) (left res : Int) (dead : Bool) (done : Int) (i : Nat) (w : World) (hk : KernAt w kb L g st) (hf : FlashAt w g bs left res dead done) (hi : i < st.parts.length) :
    Calls Tryz.prog 20 #[.pointer (some ⟨kb, 0, none⟩), .int .i64 i] w fun e w' => ∃ v, e = .returned (.tuple #[v, .int .i64 0]) ∧ ViewV w.heap.size v (st.parts.getD i default) (restartsOf bs i) w' ∧ Below w.heap.size w w' := by
  have c0 : w.cell? ⟨kb, 0, none⟩ = some (.pointer (some ⟨L.mb, 0, none⟩)) := by rw [cell_of_row _ _ _ _ _ _ hk.box]; rfl
  have hl0 := lt_of_cell c0
  have hb0 : Below w.heap.size w (w.alloc (.cells #[.int .i64 0, .int .i64 0, .slice none 0 0, .slice none 0 0] 43)) := (Below.refl _ _).alloc (Nat.le_refl _) _
  have HC := hide (mlook_yes L g st bs left res dead done i _ (hk.mach.below hb0) hk.ok (hf.below hb0) hi)
  have HB0 := hide hb0
  clear hk hf hb0
  generalize st.parts.getD i default = p at *
  generalize restartsOf bs i = rs at *
  go_enter Tryz.func20, Tryz.ntmps20
  go_wp2_with fail
  refine HC.out.mono ?_
  rintro e w1 ⟨y1, c1, y2, c2, rfl, hs, hb1⟩
  have hs1 : w.heap.size + 1 ≤ w1.heap.size := by have := hb1.size; simpa using this
  have hr1 : w1.heap[w.heap.size]? = some (.cells #[.int .i64 0, .int .i64 0, .slice none 0 0, .slice none 0 0] 43 (0, 0)) := (hb1.block _ (by simp)).trans (heap_at rfl)
  have z0 : w1.cell? ⟨w.heap.size, 0, none⟩ = some (.int .i64 0) := by rw [cell_of_row _ _ _ _ _ _ hr1]; rfl
  have z1 : w1.cell? ⟨w.heap.size, 1, none⟩ = some (.int .i64 0) := by rw [cell_of_row _ _ _ _ _ _ hr1]; rfl
  have z2 : w1.cell? ⟨w.heap.size, 2, none⟩ = some (.slice none 0 0) := by rw [cell_of_row _ _ _ _ _ _ hr1]; rfl
  have z3 : w1.cell? ⟨w.heap.size, 3, none⟩ = some (.slice none 0 0) := by rw [cell_of_row _ _ _ _ _ _ hr1]; rfl
  have f0 := free_of_block hr1 0
  have f1 := free_of_block hr1 1
  have f2 := free_of_block hr1 2
  have f3 := free_of_block hr1 3
  have hb01 : Below w.heap.size w w1 := HB0.out.trans (hb1.mono (by simp))
  obtain ⟨wF, hwF⟩ : ∃ wF, wF = (((w1.setCell ⟨w.heap.size, 0, none⟩ (.int .i64 p.mode)).setCell ⟨w.heap.size, 1, none⟩ (.int .i64 rs)).setCell ⟨w.heap.size, 2, none⟩ (.slice (some ⟨y1, 0, none⟩) p.words.length c1)).setCell ⟨w.heap.size, 3, none⟩ (.slice (some ⟨y2, 0, none⟩) p.procs.length c2) := ⟨_, rfl⟩
  have HFB : Hid (wF.heap[w.heap.size]? = some (.cells #[.int .i64 p.mode, .int .i64 rs, .slice (some ⟨y1, 0, none⟩) p.words.length c1, .slice (some ⟨y2, 0, none⟩) p.procs.length c2] 43 (0, 0))) := by show _ = _; rw [hwF]; exact block_set (block_set (block_set (block_set hr1 0 _) 1 _) 2 _) 3 _
  have t : Touch (· = w.heap.size) w1 wF := by
    rw [hwF]
    iterate 4 refine Touch.thenSet ?_ _ _ rfl
    exact Touch.refl _ _
  have HEND : Hid (ViewV w.heap.size (.agg #[.int .i64 p.mode, .int .i64 rs, .slice (some ⟨y1, 0, none⟩) p.words.length c1, .slice (some ⟨y2, 0, none⟩) p.procs.length c2]) p rs wF ∧ Below w.heap.size w wF) := ⟨⟨y1, c1, y2, c2, rfl, own_low (own_keep hs.1 (fun b e => t.block b (World.ownsRow.lt hs.1 b e).2 (by have := (World.ownsRow.lt hs.1 b e).1; simp at this; omega))) (by simp), own_low (own_keep hs.2 (fun b e => t.block b (World.ownsRow.lt hs.2 b e).2 (by have := (World.ownsRow.lt hs.2 b e).1; simp at this; omega))) (by simp)⟩, hb01.trans (t.below hb01.size (fun k hk => by omega))⟩
  clear hs
  have HWF := hide hwF
  clear hb1 hr1 hwF hb01 t HC
  go_wp2
  rw [← HWF.out]
  refine bodyPost_ret (v := .tuple #[.agg #[.int .i64 p.mode, .int .i64 rs, .slice (some ⟨y1, 0, none⟩) p.words.length c1, .slice (some ⟨y2, 0, none⟩) p.procs.length c2], .int .i64 0]) (res_cell_tmp Tryz.results20 _ _ _ (by rfl) HFB.out Tryz.underlying43 (by rw [Tryz.size43]; rfl)) rfl ?_
  exact ⟨_, rfl, HEND.out⟩
end Go.Proofs.YtnjlbgolnbdkaaaGreat
namespace Go.Proofs.YtnjlbgolnbdkaaaGreat
open Go.RowKit

structure Kp (base : Nat) (w : World) (kb : Nat) (L : MLay) (g : Nat) (s : SF) : Prop where
  kn : Kn w kb L g s.1 s.2
  run : SRun s
  size : base ≤ w.heap.size
  low : ∀ b, Dm L g s.1 b → base ≤ b
variable {base : Nat} {w w' : World} {kb : Nat} {L : MLay} {g : Nat} {s : SF}
theorem Kp.mono (h : Kp base w kb L g s) (hb : Below w.heap.size w w') : Kp base w' kb L g s :=
  ⟨⟨keepB hb h.kn.box, h.kn.mo.mono hb⟩, h.run, Nat.le_trans h.size hb.size, h.low⟩
theorem dm_tk {s s' : SF} {k : Nat} (h : Tk s s' k) {L : MLay} {g b : Nat} (hb : Dm L g s'.1 b) : Dm L g s.1 b := by
  unfold Dm at *
  rw [h.len, h.cf] at hb
  exact hb
def Keeps (w w' : World) : Prop := ∀ (b : Nat) (c : Array Value) (t : TypeId), w.heap[b]? = some (.cells c t (0, 0)) → t ≠ 145 ∧ t ≠ 120 ∧ t ≠ 3 ∧ t ≠ 166 ∧ t ≠ 80 → w'.heap[b]? = some (.cells c t (0, 0))
theorem Keeps.trans {a b c : World} (h : Keeps a b) (k : Keeps b c) : Keeps a c := fun x y t hx ht => k x y t (h x y t hx ht) ht
theorem Keeps.below {a b : World} (h : Below a.heap.size a b) : Keeps a b := fun _ _ _ hx _ => keepB h hx
theorem Kp.tick (h : Kp base w kb L g s) (n : Int) (hnow : s.1.now + 1000 ≤ 1000000000000) :
    Calls Tryz.prog 19 #[.pointer (some ⟨kb, 0, none⟩), .int .i64 n] w fun e w' => e = .returned (.tuple #[.int .i64 (tickCall n s).1.1, .int .i64 (tickCall n s).1.2]) ∧ Kp base w' kb L g (tickCall n s).2 ∧ Below base w w' ∧ Keeps w w' := by
  refine (ktick_any kb L g s.1 s.2 n w h.kn h.run.1 hnow).mono ?_
  rintro e w1 ⟨rfl, h1, h2⟩
  have ht := tickCall_tk n s h.run hnow
  have hb := h2.below h.size h.low
  exact ⟨rfl, ⟨h1, ht.run, Nat.le_trans h.size hb.size, fun b hb => h.low b (dm_tk ht hb)⟩, hb, fun b c t hx ht => (h2.block b (lt_of_block hx) (h.kn.mo.outside hx ht)).trans hx⟩
theorem Kp.look (h : Kp base w kb L g s) (i : Nat) (hi : i < s.1.parts.length) :
    Calls Tryz.prog 20 #[.pointer (some ⟨kb, 0, none⟩), .int .i64 i] w fun e w' => ∃ v, e = .returned (.tuple #[v, .int .i64 0]) ∧ ViewV w.heap.size v (s.1.part i) (restartsOf s.2.bs i) w' ∧ Kp base w' kb L g s ∧ Below w.heap.size w w' := by
  refine (klook_yes kb L g s.1 s.2.bs s.2.left s.2.res s.2.dead s.2.done i w h.kn.kern h.kn.mo.fl hi).mono ?_
  rintro e w1 ⟨v, rfl, h1, h2⟩
  exact ⟨v, rfl, h1, h.mono h2, h2⟩
theorem Kp.log (h : Kp base w kb L g s) :
    Calls Tryz.prog 21 #[.pointer (some ⟨kb, 0, none⟩)] w fun e w' => ∃ v, e = .returned v ∧ RecsV w.heap.size v (logOf s.2.bs) w' ∧ Kp base w' kb L g s ∧ Below w.heap.size w w' := by
  refine (klog_any kb L g s.1 s.2.bs s.2.left s.2.res s.2.dead s.2.done w h.kn.kern h.kn.mo.fl).mono ?_
  rintro e w1 ⟨v, rfl, h1, h2⟩
  exact ⟨v, rfl, h1.1, h.mono h2, h2⟩

theorem kboot_run (cf : Cf) (bs : List Int) (h : StOk (bootSt cf bs)) : StRun (bootSt cf bs) := by
  have hp : ∀ i, i < (bootSt cf bs).parts.length → (bootSt cf bs).part i = part0 (logOf bs) i (cf.parts.getD i default) := fun i hi => by
    have hl : (bootSt cf bs).parts.length = cf.parts.length := h.len
    exact partsTo_get (logOf bs) cf.parts cf.parts.length i (Nat.le_refl _) (by omega)
  refine ⟨⟨Int.le_refl _, by show (0 : Int) ≤ _; decide⟩, fun i hi => ?_, fun i n hi hn => ?_, fun j hj => ?_⟩
  · rw [hp i hi]
    exact ⟨Int.le_refl _, Int.le_refl _⟩
  · have e : (bootSt cf bs).proc i n = proc0 := by
      unfold RSt.proc
      rw [hp i hi] at hn ⊢
      simp only [part0, List.length_replicate] at hn
      show (List.replicate (cf.parts.getD i default).procs.length proc0).getD n default = proc0
      generalize (cf.parts.getD i default).procs.length = N at *
      simp [List.getD_eq_getElem?_getD, hn]
    rw [e]
    exact PrRun.nought _ _ (h.codeLen i n hi hn).1 (Int.le_refl _)
  · have hj' : j < cf.chans.length := hj
    have e : (bootSt cf bs).queues.getD j [] = [] := by
      show (List.replicate cf.chans.length []).getD j [] = []
      simp [List.getD_eq_getElem?_getD, hj']
    rw [e]
    have := h.good.chans ((bootSt cf bs).cf.chans.getD j default) (getD_mem hj)
    show (0 : Int) ≤ _
    omega
theorem kboot_any (base : Nat) (v : Value) (zs : List Int) (g : Nat) (F : Fl) (w : World) (hz : Bys base w v zs) (h0 : 0 < zs.length) (hn : zs.length ≤ 100000) (hF : FlAt w g F) (hok : FlOk F) (hg : base ≤ g) (hb : base ≤ w.heap.size) (hp : (parseOf zs).2.2 = 0) :
    Calls Tryz.prog 11 #[v, .pointer (some ⟨g, 0, none⟩)] w fun e w' => ∃ kb L, e = .returned (.tuple #[.pointer (some ⟨kb, 0, none⟩), .int .i64 0]) ∧ Kp base w' kb L g (bootSt (parseOf zs).1 F.bs, F) ∧ Below w.heap.size w w' := by
  obtain ⟨gz, c, rfl, hh⟩ := hz.held h0
  refine (pboot_any (some ⟨gz, 0, none⟩) zs.length c zs g F.bs F.left F.res F.dead F.done w hh (by omega) hF).mono ?_
  rintro e w1 ⟨h1 | ⟨_, kb, L, rfl, hk, hlo⟩, hb1⟩
  · exact absurd hp h1.1
  · refine ⟨kb, L, rfl, ⟨⟨hk.box, ⟨hk.mach, hk.lay, hk.ok, FlashAt.below hF hb1, hok⟩⟩, ⟨kboot_run _ _ hk.ok, hk.ok⟩, Nat.le_trans hb hb1.size, ?_⟩, hb1⟩
    intro b hd
    have hlo2 : ∀ x, MBlk L (bootSt (parseOf zs).1 F.bs) x → base ≤ x := fun x hx => Nat.le_trans hb (hlo x (.inr hx))
    rcases hd with rfl | rfl | ⟨i, hi, rfl | rfl⟩ | ⟨j, hj, rfl⟩ | rfl
    · exact hlo2 _ (.inl rfl)
    · exact hlo2 _ (.inr (.inl rfl))
    · exact hlo2 _ (.inr (.inr (.inr (.inr (.inl ⟨i, hi, .inl rfl⟩)))))
    · exact hlo2 _ (.inr (.inr (.inr (.inr (.inl ⟨i, hi, .inr (.inl rfl)⟩)))))
    · exact hlo2 _ (.inr (.inr (.inr (.inr (.inr (.inl ⟨j, hj, rfl⟩))))))
    · exact hg
end Go.Proofs.YtnjlbgolnbdkaaaGreat
namespace Go.Proofs.YtnjlbgolnbdkaaaGreat
open Go.RowKit

def flN : Fl := ⟨fillTo [], -1, 0, false, 0⟩
theorem flN_ok : FlOk flN := ⟨by decide +kernel, by show Bytes (fillTo []); rw [← fillK_all]; exact fillK_bytes [] (fun z hz => by cases hz) 256, by decide, by decide⟩
def awP : List Int := partK 1 [0, 0, 0, 3] [5] []
def awB : List Int := configK 0 [awP] 1
def aw0 : SF := (bootSt (parseOf awB).1 flN.bs, flN)
def aw1 := tickCall 1 aw0
def aw2 := tickCall 1 aw1.2
theorem aw_parse : (parseOf awB).2.2 = 0 := by decide +kernel
theorem aw_len : awB.length = 27 := by decide +kernel
theorem awP_len : awP.length = 14 := by decide +kernel
theorem aw_now : aw0.1.now = 0 ∧ aw1.2.1.now ≤ 1000 ∧ aw1.2.1.parts.length = 1 ∧ aw2.2.1.parts.length = 1 := by decide +kernel
theorem aw_one : aw1.1 = (1, 0) ∧ (aw1.2.1.part 0).mode = 2 ∧ restartsOf aw1.2.2.bs 0 = 1 ∧ aw2.1 = (1, 0) ∧ (aw2.2.1.part 0).mode = 3 := by decide +kernel
theorem ints_lit (w w' : World) (l : List Int) (n : Nat) (hn : l.length = n) (h0 : 0 < n) (hm : n ≤ 1000) (hr : ∀ x ∈ l, -9223372036854775808 ≤ x ∧ x ≤ 9223372036854775807) (hh : w'.heap[w.heap.size]? = some (.cells (l.map (Value.int .i64)).toArray 3 (0, 0))) : Ints w' (.slice (some ⟨w.heap.size, 0, none⟩) n n) l := by
  refine ⟨by omega, hr, some ⟨w.heap.size, 0, none⟩, n, by rw [hn], fun _ => ⟨w.heap.size, 0, rfl, lt_of_block hh, fun i hi => ?_⟩⟩
  rw [cell_of_row _ _ _ _ _ _ hh]
  simp [List.getD_eq_getElem?_getD, List.getElem?_eq_getElem hi]
theorem rows_one {w2 : World} {base gp c : Nat} {p : List Int} (h : Bys base w2 (.slice (some ⟨gp, 0, none⟩) p.length c) p) (h0 : 0 < p.length) (h1 : p.length ≤ 1000) : Rows2 (w2.alloc (.cells #[.slice (some ⟨gp, 0, none⟩) p.length c] 22)) (.slice (some ⟨w2.heap.size, 0, none⟩) 1 1) [p] := by
  have hl := World.ownsRow.lt h.own gp rfl
  have hb : Below w2.heap.size w2 (w2.alloc (.cells #[.slice (some ⟨gp, 0, none⟩) p.length c] 22)) := (Below.refl _ _).alloc (Nat.le_refl _) _
  refine ⟨by simp, fun q hq => ?_, w2.heap.size, 0, 1, rfl, by simp, fun i hi => ?_⟩
  · simp only [List.mem_cons, List.not_mem_nil, or_false] at hq
    subst hq
    exact ⟨h0, h1, h.bytes⟩
  · obtain rfl : i = 0 := by simpa using hi
    refine ⟨gp, c, ?_, Nat.lt_of_lt_of_le hl.2 hb.size, fun j u hj => ?_⟩
    · rw [cell_of_row _ _ _ _ _ _ (heap_alloc_new w2 _)]
      rfl
    · rw [← h.news j u hj]
      exact hb.cell (by rw [add_block]; exact hl.2)

set_option maxRecDepth 100000 in
set_option maxHeartbeats 4000000 in
theorem kawake_any (w : World) : Calls Tryz.prog 16 #[] w fun e w' => e = .returned (.bool true) ∧ Below w.heap.size w w' := by
  obtain ⟨w1, hw1⟩ : ∃ w1, w1 = w.alloc (.cells #[.int .i64 0, .int .i64 0, .int .i64 0, .int .i64 3] 3) := ⟨_, rfl⟩
  obtain ⟨w2, hw2⟩ : ∃ w2, w2 = w1.alloc (.cells #[.int .i64 5] 3) := ⟨_, rfl⟩
  have hb1 : Below w.heap.size w w1 := by rw [hw1]; exact (Below.refl _ _).alloc (Nat.le_refl _) _
  have hb2 : Below w1.heap.size w1 w2 := by rw [hw2]; exact (Below.refl _ _).alloc (Nat.le_refl _) _
  have hs1 : w1.heap.size = w.heap.size + 1 := by rw [hw1]; simp
  have hA : w2.heap[w.heap.size]? = some (.cells #[.int .i64 0, .int .i64 0, .int .i64 0, .int .i64 3] 3 (0, 0)) := (hb2.block _ (by omega)).trans (by rw [hw1]; exact heap_alloc_new w _)
  have hB : w2.heap[w1.heap.size]? = some (.cells #[.int .i64 5] 3 (0, 0)) := by rw [hw2]; exact heap_alloc_new w1 _
  have hia : Ints w2 (.slice (some ⟨w.heap.size, 0, none⟩) 4 4) [0, 0, 0, 3] := ints_lit w w2 [0, 0, 0, 3] 4 rfl (by omega) (by omega) (by intro x hx; simp only [List.mem_cons, List.not_mem_nil, or_false] at hx; omega) hA
  have hib : Ints w2 (.slice (some ⟨w1.heap.size, 0, none⟩) 1 1) [5] := ints_lit w1 w2 [5] 1 rfl (by omega) (by omega) (by intro x hx; simp only [List.mem_cons, List.not_mem_nil, or_false] at hx; omega) hB
  have HP := hide (kpart_any 1 _ _ _ _ _ _ w2 (by omega) hia hib (Ints.nil w2 none 0))
  have HB2 : Hid (Below w.heap.size w w2) := hb1.trans (hb2.mono (by omega))
  rw [hs1] at HP
  have HW1 := hide hw1
  have HW2 := hide hw2
  clear hw1 hw2 hb1 hb2 hA hB hia hib
  go_enter Tryz.func16, Tryz.ntmps16
  go_wp2_with fail
  rw [← HW1.out, ← HW2.out]
  refine HP.out.mono ?_
  rintro e w3 ⟨v3, rfl, hP3, hb3⟩
  have hpl := awP_len
  obtain ⟨gp, c3, hv3, -, -, -⟩ := Bys.row (zs := awP) hP3 (by rw [hpl]; omega)
  subst hv3
  have hs2 := HB2.out.size
  have HB3 : Hid (Below w.heap.size w w3) := HB2.out.trans (hb3.mono hs2)
  have hs3 := HB3.out.size
  have hrw := rows_one (p := awP) hP3 (by rw [hpl]; omega) (by rw [hpl]; omega)
  obtain ⟨w4, hw4⟩ : ∃ w4, w4 = w3.alloc (.cells #[.slice (some ⟨gp, 0, none⟩) awP.length c3] 22) := ⟨_, rfl⟩
  rw [← hw4] at hrw
  have hb4 : Below w3.heap.size w3 w4 := by rw [hw4]; exact (Below.refl _ _).alloc (Nat.le_refl _) _
  have HB4 : Hid (Below w.heap.size w w4) := HB3.out.trans (hb4.mono hs3)
  have hs4 := hb4.size
  have HC := hide (kconfig_any 0 _ [awP] 1 w4 (by omega) (by omega) hrw)
  have HW4 := hide hw4
  rw [hpl] at HW4
  have HPL := hide hpl
  clear hP3 hb3 hrw hw4 hb4 HP
  go_wp2_with fail
  rw [← HW4.out]
  refine HC.out.mono ?_
  rintro e w5 ⟨v5, rfl, hC5, hb5⟩
  have HB5 : Hid (Below w.heap.size w w5) := HB4.out.trans (hb5.mono HB4.out.size)
  have hs5 := HB5.out.size
  have HZ5 := hide hC5
  have hs45 := hb5.size
  have HNF := hide (newFlash_any none 0 0 [] w5 ⟨rfl, Nat.le_refl _, by omega, fun z hz => (by cases hz), fun _ => rfl, fun ad e => (by cases e), fun ad e => (by cases e)⟩ (by omega))
  clear hC5 hb5 HC
  go_wp2_with fail
  refine HNF.out.mono ?_
  rintro e w6 ⟨g, rfl, hg, hF, hb6⟩
  have HB6 : Hid (Below w.heap.size w w6) := HB5.out.trans (hb6.mono hs5)
  have hs6 := HB6.out.size
  have HBO := hide (kboot_any w.heap.size v5 awB g flN w6 ((Bys.below HZ5.out hb6).low (by omega)) (by rw [aw_len]; omega) (by rw [aw_len]; omega) hF flN_ok (by omega) hs6 aw_parse)
  clear hF hb6 HNF
  go_wp2_with fail
  refine HBO.out.mono ?_
  rintro e w7 ⟨kb, L, rfl, hk7, hb7⟩
  have HB7 : Hid (Below w.heap.size w w7) := HB6.out.trans (hb7.mono hs6)
  have HT := hide (Kp.tick (s := aw0) hk7 1 (by rw [aw_now.1]; omega))
  have hs7 := HB7.out.size
  rw [show (tickCall 1 aw0).1 = (1, 0) from aw_one.1] at HT
  clear hk7 hb7 HBO
  go_wp2_with fail
  refine HT.out.mono ?_
  rintro e w8 ⟨rfl, hk8, hb8, -⟩
  have HB8 : Hid (Below w.heap.size w w8) := HB7.out.trans hb8
  have hs8 := HB8.out.size
  have HL := hide (Kp.look (s := aw1.2) hk8 0 (by rw [aw_now.2.2.1]; omega))
  clear hk8 hb8 HT
  go_wp2_with fail
  refine HL.out.mono ?_
  rintro e w9 ⟨v9, rfl, hv9, hk9, hb9⟩
  obtain ⟨y1, d1, y2, d2, rfl, -, -⟩ := hv9
  rw [show (aw1.2.1.part 0).mode = 2 from aw_one.2.1, show restartsOf aw1.2.2.bs 0 = 1 from aw_one.2.2.1]
  obtain ⟨n1, hn1⟩ : ∃ n1, n1 = (aw1.2.1.part 0).words.length := ⟨_, rfl⟩
  obtain ⟨n2, hn2⟩ : ∃ n2, n2 = (aw1.2.1.part 0).procs.length := ⟨_, rfl⟩
  rw [← hn1, ← hn2]
  clear hn1 hn2
  have HB9 : Hid (Below w.heap.size w w9) := HB8.out.trans (hb9.mono hs8)
  have hs9 := HB9.out.size
  have HK9 := hide hk9
  obtain ⟨wa, hwa⟩ : ∃ wa, wa = w9.alloc (.cells #[.int .i64 2, .int .i64 1, .slice (some ⟨y1, 0, none⟩) n1 d1, .slice (some ⟨y2, 0, none⟩) n2 d2] 43) := ⟨_, rfl⟩
  have hba : Below w9.heap.size w9 wa := by rw [hwa]; exact (Below.refl _ _).alloc (Nat.le_refl _) _
  have HBA : Hid (Below w.heap.size w wa) := HB9.out.trans (hba.mono hs9)
  have hCA : wa.heap[w9.heap.size]? = some (.cells #[.int .i64 2, .int .i64 1, .slice (some ⟨y1, 0, none⟩) n1 d1, .slice (some ⟨y2, 0, none⟩) n2 d2] 43 (0, 0)) := by rw [hwa]; exact heap_alloc_new w9 _
  have HKA := hide (hk9.mono hba)
  have HT2 := hide (Kp.tick (s := aw1.2) HKA.out 1 (by have := aw_now.2.1; omega))
  rw [show (tickCall 1 aw1.2).1 = (1, 0) from aw_one.2.2.2.1] at HT2
  have hsa := HBA.out.size
  have HNEW : Hid (w.heap.size ≤ w9.heap.size ∧ w9.heap.size < wa.heap.size) := ⟨hs9, lt_of_block hCA⟩
  have HCA := hide hCA
  have HWA := hide hwa
  clear hk9 hb9 HL hwa hba hCA
  go_wp2_with fail
  rw [← HWA.out]
  refine HT2.out.mono ?_
  rintro e wb ⟨rfl, hkb, hbb, hkeep⟩
  have HBB : Hid (Below w.heap.size w wb) := HBA.out.trans hbb
  have hsb := HBB.out.size
  have HCB := hide (hkeep _ _ _ HCA.out (by decide))
  have HL2 := hide (Kp.look (s := aw2.2) hkb 0 (by rw [aw_now.2.2.2]; omega))
  clear hkb hbb hkeep HT2
  go_wp2_with fail
  refine HL2.out.mono ?_
  rintro e wc ⟨vc, rfl, hvc, hkc, hbc⟩
  obtain ⟨y3, d3, y4, d4, rfl, -, -⟩ := hvc
  rw [show (aw2.2.1.part 0).mode = 3 from aw_one.2.2.2.2]
  obtain ⟨n3, hn3⟩ : ∃ n3, n3 = (aw2.2.1.part 0).words.length := ⟨_, rfl⟩
  obtain ⟨n4, hn4⟩ : ∃ n4, n4 = (aw2.2.1.part 0).procs.length := ⟨_, rfl⟩
  rw [← hn3, ← hn4]
  clear hn3 hn4
  generalize restartsOf aw2.2.2.bs ((0 : Nat)) = r2
  have hCC := keepB hbc HCB.out
  have a0 : wc.cell? ⟨w9.heap.size, 0, none⟩ = some (.int .i64 2) := by rw [cell_of_row _ _ _ _ _ _ hCC]; rfl
  have a1 : wc.cell? ⟨w9.heap.size, 1, none⟩ = some (.int .i64 1) := by rw [cell_of_row _ _ _ _ _ _ hCC]; rfl
  have HBC : Hid (Below w.heap.size w wc) := HBB.out.trans (hbc.mono hsb)
  have hsc := HBC.out.size
  have hlt := lt_of_block hCC
  clear hkc hbc HL2 hCC
  go_wp2
  go_ret
  exact ⟨rfl, HBC.out.trans (((Below.refl _ _).alloc (Nat.le_refl _) _).mono hsc)⟩
end Go.Proofs.YtnjlbgolnbdkaaaGreat
namespace Go.Proofs.YtnjlbgolnbdkaaaGreat
open Go.RowKit

def prS : RProc := ⟨1, 0, 0, -1, true⟩
def RN (_ : Nat) (x1 : RProc) (_ : Int) : Prop := x1 = proc0 ∨ x1 = prS
def RQ (n : Nat) (x1 : RProc) (w1 : Int) : Prop := x1 = ⟨((n / 2 % 3 : Nat) : Int), (((n / 2 + 1) / 3 : Nat) : Int), 0, -1, false⟩ ∧ w1 = if n / 2 = 0 then 0 else ((6 * ((n / 2 - 1) / 3) + 1 : Nat) : Int)
theorem RN.dl {n : Nat} {x : RProc} {w : Int} (h : RN n x w) : x.dl = -1 := by rcases h with rfl | rfl <;> rfl
theorem RQ.dl {n : Nat} {x : RProc} {w : Int} (h : RQ n x w) : x.dl = -1 := by rw [h.1]
theorem RQ.watch {n : Nat} {x : RProc} {w1 : Int} (h : RQ n x w1) (w : Nat) (hw : 7 ≤ w) : (n : Int) - w1 < w := by
  rw [h.2]
  split <;> omega
end Go.Proofs.YtnjlbgolnbdkaaaGreat
namespace Go.Proofs.YtnjlbgolnbdkaaaGreat
open Go.RowKit

def X0 (x : RProc) : Prop := x = proc0 ∨ x = prS
theorem X0.dl {x : RProc} (h : X0 x) : x.dl = -1 := by rcases h with rfl | rfl <;> rfl
end Go.Proofs.YtnjlbgolnbdkaaaGreat
