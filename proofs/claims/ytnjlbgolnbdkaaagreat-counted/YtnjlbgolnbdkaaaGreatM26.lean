/- What Apart needs besides: the faults from outside; a slot is good. -/
import Derived.Test.YtnjlbgolnbdkaaaGreatM23
import Derived.Test.YtnjlbgolnbdkaaaGreatM24
import Derived.Deep.RegionHeld3
import Derived.Deep.DrawnRows
import Derived.Deep.QuietTactic
import Derived.BigQuiet
import Derived.WalkSmall
import Derived.Deep.AppendLies
namespace Go.Proofs.YtnjlbgolnbdkaaaGreat
open Go.RowKit

theorem slotOf_bytes (kind part code seq arg : Int) : Bytes (slotOf kind part code seq arg) := by
  intro z hz
  simp only [slotOf, List.cons_append, List.mem_cons, List.mem_append] at hz
  rcases hz with hz | hz | hz
  · omega
  · exact slotHead_bytes _ _ _ _ _ z hz
  · exact be4_bytes _ z hz
theorem slotOf_kind (kind part code seq arg : Int) : sortKind (slotOf kind part code seq arg) = 3 := by
  have h1 : blankB (slotOf kind part code seq arg) = false := rfl
  have h2 : (slotOf kind part code seq arg).getD 0 0 = 0 := rfl
  have h3 : goodB (slotOf kind part code seq arg) = true := by
    have e1 : ((slotOf kind part code seq arg).drop 12).take 4 = be4 (crcOf (slotHead kind part code seq arg)) := rfl
    have e2 : ((slotOf kind part code seq arg).drop 1).take 11 = slotHead kind part code seq arg := rfl
    unfold goodB
    rw [e1, e2, numFrom_be4 _ (crcOf_lt _)]
    simp
  simp only [sortKind, h1, h2, h3]
  decide
theorem slotOf_rec (kind part code seq arg : Int) (i : Nat) : sortRec (slotOf kind part code seq arg) i = match i with | 0 => kind % 256 | 1 => part % 256 | 2 => code % 256 | 3 => seq % 4294967296 | _ => arg % 4294967296 := by
  unfold sortRec
  rw [if_pos (slotOf_kind kind part code seq arg)]
  have e3 : ((slotOf kind part code seq arg).drop 4).take 4 = be4 (seq % 4294967296).toNat := rfl
  have e4 : ((slotOf kind part code seq arg).drop 8).take 4 = be4 (arg % 4294967296).toNat := rfl
  match i with
  | 0 => rfl
  | 1 => rfl
  | 2 => rfl
  | 3 => show ((numFrom 0 _ : Nat) : Int) = _; rw [e3, numFrom_be4 _ (by omega)]; show ((seq % 4294967296).toNat : Int) = seq % 4294967296; omega
  | n + 4 => show ((numFrom 0 _ : Nat) : Int) = _; rw [e4, numFrom_be4 _ (by omega)]; show ((arg % 4294967296).toNat : Int) = arg % 4294967296; omega
end Go.Proofs.YtnjlbgolnbdkaaaGreat
namespace Go.Proofs.YtnjlbgolnbdkaaaGreat
open Go.RowKit

set_option maxHeartbeats 1000000 in
theorem procHas_any (x n : Nat) (i : Int) (w : World) :
    Calls Tryz.prog 76 #[.agg #[.slice (some ⟨x, 0, none⟩) n n], .int .i64 i] w fun e w' => e = .returned (.bool (decide (0 ≤ i) && decide (i < n))) ∧ Below w.heap.size w w' := by
  have HB : Hid (Below w.heap.size w (w.alloc (.cells #[.slice (some ⟨x, 0, none⟩) n n] 118))) := (Below.refl _ _).alloc (Nat.le_refl _) _
  by_cases h : 0 ≤ i
  · go_enter Tryz.func76, Tryz.ntmps76
    go_wp2
    go_ret
    exact ⟨by simp [h], HB.out⟩
  · go_enter Tryz.func76, Tryz.ntmps76
    go_wp2
    go_ret
    exact ⟨by rw [decide_eq_false (show ¬ 0 ≤ i by omega)]; rfl, HB.out⟩
end Go.Proofs.YtnjlbgolnbdkaaaGreat
namespace Go.Proofs.YtnjlbgolnbdkaaaGreat
open Go.RowKit

def injectCall (i n c : Int) (s : SF) : Int × SF :=
  if i < 0 ∨ s.1.parts.length ≤ i ∨ c < 0 ∨ 4 < c ∨ n < 0 ∨ (s.1.part i.toNat).procs.length ≤ n then (1, s)
  else if s.1.dead = true then (6, s)
  else if (s.1.part i.toNat).mode = 3 then (0, s)
  else (if (faultS i.toNat n.toNat c.toNat s).1 = true then 0 else 6, withDead (faultS i.toNat n.toNat c.toNat s))
end Go.Proofs.YtnjlbgolnbdkaaaGreat
namespace Go.Proofs.YtnjlbgolnbdkaaaGreat
open Go.RowKit Go.Shelf

abbrev badArg (i n c : Int) (st : RSt) : Prop := i < 0 ∨ st.parts.length ≤ i ∨ c < 0 ∨ 4 < c ∨ n < 0 ∨ (st.part i.toNat).procs.length ≤ n
set_option maxRecDepth 100000 in
set_option maxHeartbeats 2000000 in
theorem mInject_any (L : MLay) (g : Nat) (st : RSt) (F : Fl) (i n c : Int) (w : World) (h : Mo w L g st F) :
    Calls Tryz.prog 42 #[.pointer (some ⟨L.mb, 0, none⟩), .int .i64 i, .int .i64 n, .int .i64 c] w fun e w' => e = .returned (.int .i64 (injectCall i n c (st, F)).1) ∧ Mo w' L g (injectCall i n c (st, F)).2.1 (injectCall i n c (st, F)).2.2 ∧ Touch (Dm L g st) w w' := by
  obtain ⟨R, hR⟩ : ∃ R, R = injectCall i n c (st, F) := ⟨_, rfl⟩
  rw [← hR]
  have HR1 : Hid (badArg i n c st → R = (1, (st, F))) := fun hb => by rw [hR]; unfold injectCall; exact if_pos hb
  have HR2 : Hid (¬ badArg i n c st → st.dead = true → R = (6, (st, F))) := fun hb hd => by
    rw [hR]
    unfold injectCall
    exact (if_neg hb).trans (if_pos hd)
  have HR3 : Hid (¬ badArg i n c st → st.dead = false → ∀ k, k = i.toNat → (st.part k).mode = 3 → R = (0, (st, F))) := fun hb hd k hk hm => by
    subst hk
    rw [hR]
    unfold injectCall
    exact (if_neg hb).trans ((if_neg (by rw [hd]; decide)).trans (if_pos hm))
  have HR4 : Hid (¬ badArg i n c st → st.dead = false → ∀ k m d, k = i.toNat → m = n.toNat → d = c.toNat → (st.part k).mode ≠ 3 → R = (if (faultS k m d (st, F)).1 = true then 0 else 6, withDead (faultS k m d (st, F)))) := fun hb hd k m d hk hmm hdd hm => by
    subst hk hmm hdd
    rw [hR]
    unfold injectCall
    exact (if_neg hb).trans ((if_neg (by rw [hd]; decide)).trans (if_neg hm))
  clear hR
  have hb0 : ∀ x, Below w.heap.size w (w.alloc (.cells #[.int .i64 x] 24)) := fun x => (Below.refl _ _).alloc (Nat.le_refl _) _
  obtain ⟨w0, hw0⟩ : ∃ w0, w0 = w.alloc (.cells #[.int .i64 0] 24) := ⟨_, rfl⟩
  have hbw : Below w.heap.size w w0 := by rw [hw0]; exact hb0 0
  have hM0 : Mo w0 L g st F := h.mono hbw
  have hX0 : Boxed w0 w.heap.size 24 (.int .i64 0) := by rw [hw0]; exact Boxed.new w 24 _
  have HW0 := hide hw0
  obtain ⟨np, hnp⟩ : ∃ np, np = st.parts.length := ⟨_, rfl⟩
  have hlm : L.mb < w.heap.size := h.lt _ (.inl rfl)
  have HWF : Hid (∀ W, Below w0.heap.size w0 W → Mo W L g st F ∧ Boxed W w.heap.size 24 (.int .i64 0) ∧ Touch (Dm L g st) w W) := fun W hb => ⟨hM0.mono hb, (hb.block _ hX0.lt).trans hX0, (Touch.ofBelow hbw).andThen (Touch.ofBelow hb)⟩
  have HM3 : Hid (∀ W, Mo W L g st F → W.cell? ⟨L.mb, 3, none⟩ = some (.slice (some ⟨L.pb, 0, none⟩) np np)) := fun W hM => by
    have := hM.mach.machAt 3
    simp only [List.getElem?_toArray, List.getElem?_cons_succ, List.getElem?_cons_zero] at this
    rw [← hnp] at this
    exact this
  have HM7 : Hid (∀ W s' F', Mo W L g s' F' → W.cell? ⟨L.mb, 7, none⟩ = some (.bool s'.dead) ∧ W.frozen? ⟨L.mb, 7, none⟩ = false) := fun W s' F' hM => by
    have := hM.mach.machAt 7
    simp only [List.getElem?_toArray, List.getElem?_cons_succ, List.getElem?_cons_zero] at this
    exact ⟨this, free_of_block hM.mach.mach 7⟩
  have HPH : Hid (∀ W, Calls Tryz.prog 72 #[.agg #[.slice (some ⟨L.pb, 0, none⟩) np np], .int .i64 i] W fun e w' => e = .returned (.bool (decide (0 ≤ i) && decide (i < np))) ∧ Below W.heap.size W w') := fun W => partHas_any L.pb np i W
  have HSET : Hid (∀ W z, Mo W L g st F → Boxed W w.heap.size 24 (.int .i64 0) → Touch (Dm L g st) w W → Mo (W.setCell ⟨w.heap.size, 0, none⟩ (.int .i64 z)) L g st F ∧ (W.setCell ⟨w.heap.size, 0, none⟩ (.int .i64 z)).cell? ⟨w.heap.size, 0, none⟩ = some (.int .i64 z) ∧ Touch (Dm L g st) w (W.setCell ⟨w.heap.size, 0, none⟩ (.int .i64 z))) := fun W z hM hB hT => by
    have hts : Touch (· = w.heap.size) W (W.setCell ⟨w.heap.size, 0, none⟩ (.int .i64 z)) := Touch.ofSet W _ _ _ rfl
    exact ⟨hM.box hB (by decide) hts, (hB.set _).cell, hT.trans hts (fun i e => .inr (by have e2 : i = w.heap.size := e; omega))⟩
  have HNP := hide hnp
  have HM0 := hide hM0
  have m30 := HM3.out w h
  have HLM := hide hlm
  clear hb0 hw0 hbw hX0 hM0 hnp
  by_cases hi : 0 ≤ i ∧ i < (np : Int)
  · have hib : (decide (0 ≤ i) && decide (i < np)) = true := by simp [hi.1, hi.2]
    rw [hib] at HPH
    obtain ⟨k, hk⟩ : ∃ k : Nat, i = (k : Int) := ⟨i.toNat, by omega⟩
    subst hk
    have hkn : k < st.parts.length := by rw [← HNP.out]; omega
    obtain ⟨nq, hnq⟩ : ∃ nq, nq = (st.part k).procs.length := ⟨_, rfl⟩
    have HPA : Hid (∀ W, Calls Tryz.prog 73 #[.agg #[.slice (some ⟨L.pb, 0, none⟩) np np], .int .i64 k] W fun e w' => e = .returned (.pointer (some ⟨L.pb, k * 14, none⟩)) ∧ Below W.heap.size W w') := fun W => partAt_any L.pb np k W (by omega)
    have HQH : Hid (∀ W, Calls Tryz.prog 76 #[.agg #[.slice (some ⟨L.pr k, 0, none⟩) nq nq], .int .i64 n] W fun e w' => e = .returned (.bool (decide (0 ≤ n) && decide (n < nq))) ∧ Below W.heap.size W w') := fun W => procHas_any (L.pr k) nq n W
    have HPC : Hid (∀ W, Mo W L g st F → W.cell? ⟨L.pb, k * 14 + 11, none⟩ = some (.slice (some ⟨L.pr k, 0, none⟩) nq nq) ∧ W.cell? ⟨L.pb, k * 14 + 9, none⟩ = some (.int .i64 (st.part k).mode)) := fun W hM => by
      have d11 := hM.mach.partAt k 11 hkn (by omega)
      have d9 := hM.mach.partAt k 9 hkn (by omega)
      simp only [mpartC, List.getElem?_cons_succ, List.getElem?_cons_zero] at d11 d9
      rw [← hnq] at d11
      exact ⟨d11, d9⟩
    have HNQ := hide hnq
    have HKN := hide hkn
    have HH := hide h
    clear hib hkn hnq
    have HBA : Hid (badArg (k : Int) n c st ↔ (c < 0 ∨ 4 < c ∨ n < 0 ∨ (nq : Int) ≤ n)) := by
      show _ ↔ _
      unfold badArg
      rw [← HNP.out, Int.toNat_natCast, ← HNQ.out]
      omega
    by_cases hnn : 0 ≤ n ∧ n < (nq : Int)
    · have hnb : (decide (0 ≤ n) && decide (n < (nq : Int))) = true := by simp [hnn.1, hnn.2]
      rw [hnb] at HQH
      by_cases hc0 : c < 0
      · have hR1 : Hid (R = (1, (st, F))) := by
          show _ = _
          exact HR1.out (HBA.out.2 (.inl hc0))
        clear hi hnn hnb h
        go_enter_defers Tryz.func42, Tryz.ntmps42
        go_wp2_with fail
        rw [← HW0.out]
        refine (HPH.out w0).mono ?_
        rintro e w1 ⟨rfl, hb1⟩
        have HM1 := hide (HWF.out w1 hb1).1
        have m31 := HM3.out w1 HM1.out
        go_wp2_with fail
        refine (HPA.out w1).mono ?_
        rintro e w2 ⟨rfl, hb2⟩
        have hb2' : Below w0.heap.size w0 w2 := hb1.trans (hb2.mono hb1.size)
        have HM2 := hide (HWF.out w2 hb2').1
        have m32 := (HPC.out w2 HM2.out).1
        go_wp2_with fail
        refine (HQH.out w2).mono ?_
        rintro e w3 ⟨rfl, hb3⟩
        obtain ⟨hM1, hX1, hT1⟩ := HWF.out w3 (hb2'.trans (hb3.mono hb2'.size))
        have HE := hide (HSET.out w3 1 hM1 hX1 hT1)
        have cx := hX1.cell
        have fx := hX1.frozen
        clear hb1 hb2 hb2' hb3 hM1 hX1 hT1
        go_wp2
        refine ⟨_, by simp [results, Tryz.results42, go_sem, HE.out.2.1]; rfl, ?_⟩
        rw [hR1.out]
        exact ⟨rfl, HE.out.1, HE.out.2.2⟩
      · by_cases hc5 : 5 ≤ c
        · have hR1 : Hid (R = (1, (st, F))) := by
            show _ = _
            exact HR1.out (HBA.out.2 (.inr (.inl (by omega))))
          clear hi hnn hnb h
          go_enter_defers Tryz.func42, Tryz.ntmps42
          go_wp2_with fail
          rw [← HW0.out]
          refine (HPH.out w0).mono ?_
          rintro e w1 ⟨rfl, hb1⟩
          have HM1 := hide (HWF.out w1 hb1).1
          have m31 := HM3.out w1 HM1.out
          go_wp2_with fail
          refine (HPA.out w1).mono ?_
          rintro e w2 ⟨rfl, hb2⟩
          have hb2' : Below w0.heap.size w0 w2 := hb1.trans (hb2.mono hb1.size)
          have HM2 := hide (HWF.out w2 hb2').1
          have m32 := (HPC.out w2 HM2.out).1
          go_wp2_with fail
          refine (HQH.out w2).mono ?_
          rintro e w3 ⟨rfl, hb3⟩
          obtain ⟨hM1, hX1, hT1⟩ := HWF.out w3 (hb2'.trans (hb3.mono hb2'.size))
          have HE := hide (HSET.out w3 1 hM1 hX1 hT1)
          have cx := hX1.cell
          have fx := hX1.frozen
          clear hb1 hb2 hb2' hb3 hM1 hX1 hT1
          go_wp2
          refine ⟨_, by simp [results, Tryz.results42, go_sem, HE.out.2.1]; rfl, ?_⟩
          rw [hR1.out]
          exact ⟨rfl, HE.out.1, HE.out.2.2⟩
        · have HNB : Hid (¬ badArg (k : Int) n c st) := fun hb => by have := HBA.out.1 hb; omega
          have hc5' : ¬ c ≥ 5 := hc5
          cases hdd : st.dead with
          | true =>
            have hR1 : Hid (R = (6, (st, F))) := HR2.out HNB.out hdd
            have HDD := hide hdd
            clear hi hnn hnb h hdd
            go_enter_defers Tryz.func42, Tryz.ntmps42
            go_wp2_with fail
            rw [← HW0.out]
            refine (HPH.out w0).mono ?_
            rintro e w1 ⟨rfl, hb1⟩
            have HM1 := hide (HWF.out w1 hb1).1
            have m31 := HM3.out w1 HM1.out
            go_wp2_with fail
            refine (HPA.out w1).mono ?_
            rintro e w2 ⟨rfl, hb2⟩
            have hb2' : Below w0.heap.size w0 w2 := hb1.trans (hb2.mono hb1.size)
            have HM2 := hide (HWF.out w2 hb2').1
            have m32 := (HPC.out w2 HM2.out).1
            go_wp2_with fail
            refine (HQH.out w2).mono ?_
            rintro e w3 ⟨rfl, hb3⟩
            obtain ⟨hM1, hX1, hT1⟩ := HWF.out w3 (hb2'.trans (hb3.mono hb2'.size))
            have m73 := (HM7.out w3 st F hM1).1
            rw [HDD.out] at m73
            have HE := hide (HSET.out w3 6 hM1 hX1 hT1)
            have cx := hX1.cell
            have fx := hX1.frozen
            clear hb1 hb2 hb2' hb3 hM1 hX1 hT1
            go_wp2
            refine ⟨_, by simp [results, Tryz.results42, go_sem, HE.out.2.1]; rfl, ?_⟩
            rw [hR1.out]
            exact ⟨rfl, HE.out.1, HE.out.2.2⟩
          | false =>
            have HDD := hide hdd
            obtain ⟨m, hm⟩ : ∃ m : Nat, n = (m : Int) := ⟨n.toNat, by omega⟩
            obtain ⟨d, hd⟩ : ∃ d : Nat, c = (d : Int) := ⟨c.toNat, by omega⟩
            subst hm hd
            have HQA : Hid (∀ W, Calls Tryz.prog 79 #[.agg #[.slice (some ⟨L.pr k, 0, none⟩) nq nq], .int .i64 m] W fun e w' => e = .returned (.pointer (some ⟨L.pr k, m * 6, none⟩)) ∧ Below W.heap.size W w') := fun W => procAt_any (L.pr k) nq m W (by omega)
            have HFA : Hid (∀ W, Mo W L g st F → Calls Tryz.prog 78 #[.pointer (some ⟨L.mb, 0, none⟩), .pointer (some ⟨L.pb, k * 14, none⟩), .pointer (some ⟨L.pr k, m * 6, none⟩), .int .i64 d] W fun e w' => e = .returned (.bool (faultS k m d (st, F)).1) ∧ Mo w' L g (faultS k m d (st, F)).2.1 (faultS k m d (st, F)).2.2 ∧ Touch (Dm L g st) W w') := fun W hM => fault_any L g st F k m d _ W hM HKN.out (by rw [← HNQ.out]; omega) (by omega) (.inl rfl)
            have HRU : Hid (∀ W, Mo W L g st F → Calls Tryz.prog 77 #[.pointer (some ⟨L.pb, k * 14, none⟩)] W fun e w' => e = .returned (.bool ((st.part k).mode != 3)) ∧ w' = W) := fun W hM => runs_any L.pb (k * 14) _ W (HPC.out W hM).2
            have HDOOR : Hid (∀ (W : World) (s' : RSt) (F' : Fl) (x z : Int) (y : Bool), Mo W L g s' F' → Boxed W w.heap.size 24 (.int .i64 x) → Touch (Dm L g st) w W → (z == 6) = y →
                (W.setCell ⟨w.heap.size, 0, none⟩ (.int .i64 z)).cell? ⟨w.heap.size, 0, none⟩ = some (.int .i64 z) ∧ (W.setCell ⟨w.heap.size, 0, none⟩ (.int .i64 z)).cell? ⟨L.mb, 7, none⟩ = some (.bool s'.dead) ∧ (W.setCell ⟨w.heap.size, 0, none⟩ (.int .i64 z)).frozen? ⟨L.mb, 7, none⟩ = false ∧
                Mo ((W.setCell ⟨w.heap.size, 0, none⟩ (.int .i64 z)).setCell ⟨L.mb, 7, none⟩ (.bool (z == 6))) L g { s' with dead := y } F' ∧ Touch (Dm L g st) w ((W.setCell ⟨w.heap.size, 0, none⟩ (.int .i64 z)).setCell ⟨L.mb, 7, none⟩ (.bool (z == 6))) ∧ ((W.setCell ⟨w.heap.size, 0, none⟩ (.int .i64 z)).setCell ⟨L.mb, 7, none⟩ (.bool (z == 6))).cell? ⟨w.heap.size, 0, none⟩ = some (.int .i64 z)) := fun W s' F' x z y hM hB hT hy => by
              have hts : Touch (· = w.heap.size) W (W.setCell ⟨w.heap.size, 0, none⟩ (.int .i64 z)) := Touch.ofSet W _ _ _ rfl
              have hMb := hM.box hB (by decide) hts
              have hTb : Touch (Dm L g st) w (W.setCell ⟨w.heap.size, 0, none⟩ (.int .i64 z)) := hT.trans hts (fun i e => .inr (by have e2 : i = w.heap.size := e; omega))
              have hBb : Boxed (W.setCell ⟨w.heap.size, 0, none⟩ (.int .i64 z)) w.heap.size 24 (.int .i64 z) := hB.set _
              obtain ⟨a7, b7⟩ := HM7.out _ s' F' hMb
              have hts2 : Touch (· = L.mb) (W.setCell ⟨w.heap.size, 0, none⟩ (.int .i64 z)) ((W.setCell ⟨w.heap.size, 0, none⟩ (.int .i64 z)).setCell ⟨L.mb, 7, none⟩ (.bool (z == 6))) := Touch.ofSet _ _ _ _ rfl
              have hbx : Boxed ((W.setCell ⟨w.heap.size, 0, none⟩ (.int .i64 z)).setCell ⟨L.mb, 7, none⟩ (.bool (z == 6))) w.heap.size 24 (.int .i64 z) := (hts2.block _ hBb.lt (by intro e; have e2 : w.heap.size = L.mb := e; omega)).trans hBb
              exact ⟨hBb.cell, a7, b7, hMb.lost y (by rw [hy]), hTb.thenSet _ _ (.inl rfl), hbx.cell⟩
            have HLT : Hid (∀ b, Dm L g st b → b < w.heap.size) := fun b hb => h.lt b hb
            have HRA : Hid ((st.part k).mode = 3 → R = (0, (st, F))) := fun h3 => HR3.out HNB.out hdd k (by simp) h3
            have HRB : Hid ((st.part k).mode ≠ 3 → R = (if (faultS k m d (st, F)).1 = true then 0 else 6, withDead (faultS k m d (st, F)))) := fun h3 => HR4.out HNB.out hdd k m d (by simp) (by simp) (by simp) h3
            clear hi hnn hnb h hdd
            go_enter_defers Tryz.func42, Tryz.ntmps42
            go_wp2_with fail
            rw [← HW0.out]
            refine (HPH.out w0).mono ?_
            rintro e w1 ⟨rfl, hb1⟩
            have HM1 := hide (HWF.out w1 hb1).1
            have m31 := HM3.out w1 HM1.out
            go_wp2_with fail
            refine (HPA.out w1).mono ?_
            rintro e w2 ⟨rfl, hb2⟩
            have hb2' : Below w0.heap.size w0 w2 := hb1.trans (hb2.mono hb1.size)
            have HM2 := hide (HWF.out w2 hb2').1
            have m32 := (HPC.out w2 HM2.out).1
            go_wp2_with fail
            refine (HQH.out w2).mono ?_
            rintro e w3 ⟨rfl, hb3⟩
            obtain ⟨hM1, hX1, hT1⟩ := HWF.out w3 (hb2'.trans (hb3.mono hb2'.size))
            have m73 := (HM7.out w3 st F hM1).1
            rw [HDD.out] at m73
            have m33 := HM3.out w3 hM1
            have HX3 := hide hX1
            have HT3 := hide hT1
            have HM3' := hide hM1
            clear hb1 hb2 hb2' hb3 hM1 hX1 hT1
            go_wp2_with fail
            refine (HPA.out w3).mono ?_
            rintro e w4 ⟨rfl, hb4⟩
            have hM4 : Mo w4 L g st F := HM3'.out.mono hb4
            have hX4 : Boxed w4 w.heap.size 24 (.int .i64 0) := (hb4.block _ HX3.out.lt).trans HX3.out
            have hT4 : Touch (Dm L g st) w w4 := HT3.out.andThen (Touch.ofBelow hb4)
            have HM4 := hide hM4
            have HX4 := hide hX4
            have HT4 := hide hT4
            clear hM4 hX4 hT4 hb4
            go_wp2_with fail
            refine (HRU.out w4 HM4.out).mono ?_
            rintro e w5 ⟨rfl, rfl⟩
            by_cases h3 : (st.part k).mode = 3
            · have h3b : ((st.part k).mode != 3) = false := by simp [h3]
              have HRa := hide (HRA.out h3)
              have HDW := hide (HDOOR.out w5 st F 0 0 false HM4.out HX4.out HT4.out rfl)
              have cx := HX4.out.cell
              have fx := HX4.out.frozen
              clear h3
              go_wp2
              refine leaves_cons (f := 70) (args := #[.pointer (some ⟨L.mb, 0, none⟩), .pointer (some ⟨w.heap.size, 0, none⟩)]) (by simp) (by simp [go_sem]) ?_
              refine (note_deferred L.mb 0 w.heap.size 0 st.dead .returning _ HDW.out.1 HDW.out.2.1 HDW.out.2.2.1 rfl).mono ?_
              rintro e u' w6 ⟨rfl, rfl, hw6⟩
              have c6 : w6.cell? ⟨w.heap.size, 0, none⟩ = some (.int .i64 0) := by rw [hw6]; exact HDW.out.2.2.2.2.2
              have HF : Hid (Mo w6 L g st F ∧ Touch (Dm L g st) w w6) := by
                rw [hw6]
                refine ⟨?_, HDW.out.2.2.2.2.1⟩
                have := HDW.out.2.2.2.1
                rw [← HDD.out] at this
                exact this
              clear hw6
              refine ⟨_, by simp [results, Tryz.results42, go_sem, c6]; rfl, ?_⟩
              rw [HRa.out]
              exact ⟨rfl, HF.out.1, HF.out.2⟩
            · have h3b : ((st.part k).mode != 3) = true := by simp [h3]
              have HRb := hide (HRB.out h3)
              have m45 := (HPC.out w5 HM4.out).1
              clear h3
              go_wp2_with fail
              refine (HQA.out w5).mono ?_
              rintro e w6 ⟨rfl, hb6⟩
              have HM6 : Hid (Mo w6 L g st F) := HM4.out.mono hb6
              have HX6 : Hid (Boxed w6 w.heap.size 24 (.int .i64 0)) := (hb6.block _ HX4.out.lt).trans HX4.out
              have HT6 : Hid (Touch (Dm L g st) w w6) := HT4.out.andThen (Touch.ofBelow hb6)
              have HF6 := hide (HFA.out w6 HM6.out)
              clear hb6
              obtain ⟨r, hr⟩ : ∃ r, r = faultS k m d (st, F) := ⟨_, rfl⟩
              rw [← hr] at HF6 HRb
              clear hr
              obtain ⟨b, s1, F1⟩ := r
              simp only at *
              go_wp2_with fail
              refine HF6.out.mono ?_
              rintro e w7 ⟨rfl, hM7, hT7⟩
              have HT7 : Hid (Touch (Dm L g st) w w7) := HT6.out.andThen hT7
              have hX7 : Boxed w7 w.heap.size 24 (.int .i64 0) := (hT7.block _ HX6.out.lt (fun hd => by have := HLT.out _ hd; omega)).trans HX6.out
              have cx := hX7.cell
              have fx := hX7.frozen
              have HM7' := hide hM7
              have HX7 := hide hX7
              clear hM7 hT7 hX7
              cases b with
              | true =>
                have HDW := hide (HDOOR.out w7 s1 F1 0 0 false HM7'.out HX7.out HT7.out rfl)
                go_wp2
                refine leaves_cons (f := 70) (args := #[.pointer (some ⟨L.mb, 0, none⟩), .pointer (some ⟨w.heap.size, 0, none⟩)]) (by simp) (by simp [go_sem]) ?_
                refine (note_deferred L.mb 0 w.heap.size 0 s1.dead .returning _ HDW.out.1 HDW.out.2.1 HDW.out.2.2.1 rfl).mono ?_
                rintro e u' w8 ⟨rfl, rfl, hw8⟩
                have c8 : w8.cell? ⟨w.heap.size, 0, none⟩ = some (.int .i64 0) := by rw [hw8]; exact HDW.out.2.2.2.2.2
                have HF : Hid (Mo w8 L g { s1 with dead := false } F1 ∧ Touch (Dm L g st) w w8) := by rw [hw8]; exact ⟨HDW.out.2.2.2.1, HDW.out.2.2.2.2.1⟩
                clear hw8
                refine ⟨_, by simp [results, Tryz.results42, go_sem, c8]; rfl, ?_⟩
                rw [HRb.out]
                exact ⟨rfl, HF.out.1, HF.out.2⟩
              | false =>
                have HDW := hide (HDOOR.out w7 s1 F1 0 6 true HM7'.out HX7.out HT7.out rfl)
                go_wp2
                refine leaves_cons (f := 70) (args := #[.pointer (some ⟨L.mb, 0, none⟩), .pointer (some ⟨w.heap.size, 0, none⟩)]) (by simp) (by simp [go_sem]) ?_
                refine (note_deferred L.mb 0 w.heap.size 6 s1.dead .returning _ HDW.out.1 HDW.out.2.1 HDW.out.2.2.1 rfl).mono ?_
                rintro e u' w8 ⟨rfl, rfl, hw8⟩
                have c8 : w8.cell? ⟨w.heap.size, 0, none⟩ = some (.int .i64 6) := by rw [hw8]; exact HDW.out.2.2.2.2.2
                have HF : Hid (Mo w8 L g { s1 with dead := true } F1 ∧ Touch (Dm L g st) w w8) := by rw [hw8]; exact ⟨HDW.out.2.2.2.1, HDW.out.2.2.2.2.1⟩
                clear hw8
                refine ⟨_, by simp [results, Tryz.results42, go_sem, c8]; rfl, ?_⟩
                rw [HRb.out]
                exact ⟨rfl, HF.out.1, HF.out.2⟩
    · have hnb : (decide (0 ≤ n) && decide (n < (nq : Int))) = false := by
        by_cases h0 : 0 ≤ n
        · have : ¬ n < (nq : Int) := fun h1 => hnn ⟨h0, h1⟩
          simp [this]
        · simp [h0]
      rw [hnb] at HQH
      have hR1 : Hid (R = (1, (st, F))) := by
        show _ = _
        exact HR1.out (HBA.out.2 (by omega))
      clear hi hnn hnb h
      go_enter_defers Tryz.func42, Tryz.ntmps42
      go_wp2_with fail
      rw [← HW0.out]
      refine (HPH.out w0).mono ?_
      rintro e w1 ⟨rfl, hb1⟩
      have HM1 := hide (HWF.out w1 hb1).1
      have m31 := HM3.out w1 HM1.out
      go_wp2_with fail
      refine (HPA.out w1).mono ?_
      rintro e w2 ⟨rfl, hb2⟩
      have hb2' : Below w0.heap.size w0 w2 := hb1.trans (hb2.mono hb1.size)
      have HM2 := hide (HWF.out w2 hb2').1
      have m32 := (HPC.out w2 HM2.out).1
      go_wp2_with fail
      refine (HQH.out w2).mono ?_
      rintro e w3 ⟨rfl, hb3⟩
      obtain ⟨hM1, hX1, hT1⟩ := HWF.out w3 (hb2'.trans (hb3.mono hb2'.size))
      have HE := hide (HSET.out w3 1 hM1 hX1 hT1)
      have cx := hX1.cell
      have fx := hX1.frozen
      clear hb1 hb2 hb2' hb3 hM1 hX1 hT1
      go_wp2
      refine ⟨_, by simp [results, Tryz.results42, go_sem, HE.out.2.1]; rfl, ?_⟩
      rw [hR1.out]
      exact ⟨rfl, HE.out.1, HE.out.2.2⟩
  · have hib : (decide (0 ≤ i) && decide (i < np)) = false := by
      by_cases h0 : 0 ≤ i
      · have : ¬ i < (np : Int) := fun h1 => hi ⟨h0, h1⟩
        simp [this]
      · simp [h0]
    rw [hib] at HPH
    have hR1 : Hid (R = (1, (st, F))) := by
      show _ = _
      refine HR1.out ?_
      unfold badArg
      rw [← HNP.out]
      omega
    clear hi hib h
    go_enter_defers Tryz.func42, Tryz.ntmps42
    go_wp2_with fail
    rw [← HW0.out]
    refine (HPH.out w0).mono ?_
    rintro e w1 ⟨rfl, hb1⟩
    obtain ⟨hM1, hX1, hT1⟩ := HWF.out w1 hb1
    have HE := hide (HSET.out w1 1 hM1 hX1 hT1)
    have cx := hX1.cell
    have fx := hX1.frozen
    clear hb1 hM1 hX1 hT1
    go_wp2
    refine ⟨_, by simp [results, Tryz.results42, go_sem, HE.out.2.1]; rfl, ?_⟩
    rw [hR1.out]
    exact ⟨rfl, HE.out.1, HE.out.2.2⟩
end Go.Proofs.YtnjlbgolnbdkaaaGreat
namespace Go.Proofs.YtnjlbgolnbdkaaaGreat
open Go.RowKit Go.Shelf

set_option maxHeartbeats 1000000 in
theorem kinject_any (kb : Nat) (L : MLay) (g : Nat) (st : RSt) (F : Fl) (i n c : Int) (w : World) (h : Kn w kb L g st F) :
    Calls Tryz.prog 26 #[.pointer (some ⟨kb, 0, none⟩), .int .i64 i, .int .i64 n, .int .i64 c] w fun e w' => e = .returned (.int .i64 (injectCall i n c (st, F)).1) ∧ Kn w' kb L g (injectCall i n c (st, F)).2.1 (injectCall i n c (st, F)).2.2 ∧ Touch (Dm L g st) w w' := by
  have c0 : w.cell? ⟨kb, 0, none⟩ = some (.pointer (some ⟨L.mb, 0, none⟩)) := by rw [cell_of_row _ _ _ _ _ _ h.box]; rfl
  have HT := hide (mInject_any L g st F i n c w h.mo)
  have HH := hide h
  clear h
  generalize injectCall i n c (st, F) = r at *
  obtain ⟨a, s1, F1⟩ := r
  simp only at *
  go_enter Tryz.func26, Tryz.ntmps26
  go_wp2_with fail
  refine HT.out.mono ?_
  rintro e w1 ⟨rfl, h1, h2⟩
  have HE := hide (And.intro (HH.out.next h1 h2) h2)
  clear h1 h2
  go_wp2
  go_ret
  exact ⟨rfl, HE.out.1, HE.out.2⟩
theorem injectCall_tk (i n c : Int) (s : SF) (h : SRun s) : Tk s (injectCall i n c s).2 1000 := by
  have h0 : Tk s s 1000 := ⟨h, rfl, rfl, ⟨Int.le_refl _, by omega⟩⟩
  unfold injectCall
  by_cases h1 : i < 0 ∨ s.1.parts.length ≤ i ∨ c < 0 ∨ 4 < c ∨ n < 0 ∨ (s.1.part i.toNat).procs.length ≤ n
  · rw [if_pos h1]; exact h0
  · rw [if_neg h1]
    by_cases hd : s.1.dead = true
    · rw [if_pos hd]; exact h0
    · rw [if_neg hd]
      by_cases hm : (s.1.part i.toNat).mode = 3
      · rw [if_pos hm]; exact h0
      · rw [if_neg hm]
        have hr := SRun.fault h i.toNat n.toNat c.toNat (by omega) (by omega)
        have hl := Lk.fault i.toNat n.toNat c.toNat s
        refine ⟨hr.dead _, hl.cf, hl.len, ?_⟩
        show s.1.now ≤ (faultS i.toNat n.toNat c.toNat s).2.1.now ∧ (faultS i.toNat n.toNat c.toNat s).2.1.now ≤ _
        rw [hl.now]
        omega
end Go.Proofs.YtnjlbgolnbdkaaaGreat
namespace Go.Proofs.YtnjlbgolnbdkaaaGreat
open Go.RowKit

variable {base : Nat} {w w' : World} {kb : Nat} {L : MLay} {g : Nat} {s : SF}
theorem Kp.inject (h : Kp base w kb L g s) (i n c : Int) :
    Calls Tryz.prog 26 #[.pointer (some ⟨kb, 0, none⟩), .int .i64 i, .int .i64 n, .int .i64 c] w fun e w' => e = .returned (.int .i64 (injectCall i n c s).1) ∧ Kp base w' kb L g (injectCall i n c s).2 ∧ Below base w w' ∧ Keeps w w' := by
  refine (kinject_any kb L g s.1 s.2 i n c w h.kn).mono ?_
  rintro e w1 ⟨rfl, h1, h2⟩
  have ht := injectCall_tk i n c s h.run
  have hb := h2.below h.size h.low
  exact ⟨rfl, ⟨h1, ht.run, Nat.le_trans h.size hb.size, fun b hb => h.low b (dm_tk ht hb)⟩, hb, fun b c t hx ht => (h2.block b (lt_of_block hx) (h.kn.mo.outside hx ht)).trans hx⟩
end Go.Proofs.YtnjlbgolnbdkaaaGreat
