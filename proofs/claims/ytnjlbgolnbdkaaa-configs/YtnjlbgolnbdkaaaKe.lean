/- The hands: keepConfig. -/
import Derived.Test.YtnjlbgolnbdkaaaKd
import Derived.Deep.RegionLaw
import Derived.Deep.CutRange
namespace Go.Proofs.Ytnjlbgolnbdkaaa
open Go.RowKit

structure CfSmall (cf : Cf) : Prop where
  parts : cf.parts.length ≤ 20
  procs : ∀ p ∈ cf.parts, p.procs.length ≤ 20 ∧ ∀ q ∈ p.procs, q.code.length ≤ 1000
  wins : cf.wins.length ≤ 1000
  chans : cf.chans.length ≤ 1000
def lab0 (L : Nat → Nat) (s : Nat) : Nat → Nat := fun k => if k < s then L k else 100
theorem own_len {w : World} {base : Nat} {e : TypeId} {s : Nat} {ad : Option Addr} {m c n : Nat} {xs : List Value} (h : w.ownsRow base e s (.slice ad m c) n xs) : m = n := by
  obtain ⟨ad', c', hv⟩ := own_slice h
  simp at hv
  exact hv.2.1
theorem CKeep.start {L : Nat → Nat} {hb : Nat} {n : Int} {vs : Nat → Value} {A : Nat → List Kept} {w : World} {base : Nat} {vP vW vC : Value} {cf : Cf} (h : Hnd L hb n vs A A w) (hV : ConfS base vP vW vC cf w) (hb0 : base ≤ w.heap.size) (hL : ∀ b, base ≤ b → b < w.heap.size → 100 ≤ L b) (cs : Array Value) :
    ∃ (l : List (Pt × Value)) (c : Nat → Nat), l.map Prod.fst = cf.parts ∧ (∀ i, base ≤ c i) ∧ (∀ i j, i ≤ j → c i ≤ c j) ∧ (∀ i, c i ≤ w.heap.size) ∧ CKeep (w.alloc (.cells cs 48)) (lab0 L w.heap.size) A n base vP vW vC l cf.wins cf.chans c hb w.heap.size cs 0 n (lab0 L w.heap.size) vs A (w.alloc (.cells cs 48)) := by
  obtain ⟨⟨l, c, h1, h2, h3, h4, h5⟩, hw, hc⟩ := hV
  have hmono : ∀ i j, i ≤ j → c i ≤ c j := by
    intro i j hij
    obtain ⟨d, rfl⟩ := Nat.exists_eq_add_of_le hij
    clear hij
    induction d with
    | zero => exact Nat.le_refl _
    | succ d ih => exact Nat.le_trans ih (h4 (i + d))
  have hL0 : ∀ b, base ≤ b → b < w.heap.size → 100 ≤ lab0 L w.heap.size b := fun b e1 e2 => by unfold lab0; rw [if_pos e2]; exact hL b e1 e2
  have blk : ∀ b, b < w.heap.size → (w.alloc (.cells cs 48)).heap[b]? = w.heap[b]? := fun b hb => Below.heap_alloc w _ b hb
  refine ⟨l, fun i => min (c i) w.heap.size, h1, fun i => by have := h3 i; show base ≤ min (c i) w.heap.size; omega, fun i j hij => by have := hmono i j hij; show min (c i) w.heap.size ≤ min (c j) w.heap.size; omega, fun i => by show min (c i) w.heap.size ≤ w.heap.size; omega, ?_⟩
  refine ⟨(h.relabel (L' := lab0 L w.heap.size) (fun k hk _ => if_pos hk)).touch (Touch.alloc w _) (fun _ _ hk => hk.elim), by omega, fun f => by omega, fun _ _ => rfl, Touch.refl _ _, heap_alloc_new w _, by unfold lab0; rw [if_neg (by omega)]; omega, own_keep h2 (fun b e => blk b (World.ownsRow.lt h2 b e).2), fun b e => hL0 b (World.ownsRow.lt h2 b e).1 (World.ownsRow.lt h2 b e).2, own_keep hw (fun b e => blk b (World.ownsRow.lt hw b e).2), fun b e => hL0 b (World.ownsRow.lt hw b e).1 (World.ownsRow.lt hw b e).2, own_keep hc (fun b e => blk b (World.ownsRow.lt hc b e).2), fun b e => hL0 b (World.ownsRow.lt hc b e).1 (World.ownsRow.lt hc b e).2, fun i p hp _ => ⟨?_, fun b e1 e2 => ?_⟩⟩
  · exact ((h5 i p hp).clip).keep (fun b _ _ e3 _ => blk b e3)
  · have := h3 i
    change min (c i) w.heap.size ≤ b at e1
    change b < min (c (i + 1)) w.heap.size at e2
    exact hL0 b (by omega) (by omega)

set_option maxRecDepth 100000 in
set_option maxHeartbeats 8000000 in
theorem keepConfig_any (hb : Nat) (n : Int) (vs : Nat → Value) (L : Nat → Nat) (A : Nat → List Kept) (fr wt : Int) (adP : Option Addr) (mP cP : Nat) (adW : Option Addr) (mW cW : Nat) (adC : Option Addr) (mC cC : Nat) (cf : Cf) (base : Nat) (w : World)
    (h : Hnd L hb n vs A A w) (hV : ConfS base (.slice adP mP cP) (.slice adW mW cW) (.slice adC mC cC) cf w) (hb0 : base ≤ w.heap.size) (hL : ∀ b, base ≤ b → b < w.heap.size → 100 ≤ L b) (hS : CfSmall cf) (h0 : 0 ≤ n) (h1 : n ≤ 50000) (T : Nat) (hT : T ≤ 50000) (hA : ∀ f, (A f).length ≤ T) :
    Calls Try.prog 27 #[.pointer (some ⟨hb, 0, none⟩), .agg (cfCells fr wt (.slice adP mP cP) (.slice adW mW cW) (.slice adC mC cC))] w fun e w' => ∃ n' L' vs' A', e = .returned (.tuple #[]) ∧ (n ≤ n' ∧ n' ≤ n + 1000) ∧ Hnd L' hb n' vs' A' A' w' ∧ (∀ f, (A' f).length ≤ T + 3000) ∧ (∀ b, b < base → L' b = L b) ∧ Touch (fun b => L b ≤ 27 ∨ base ≤ b) w w' := by
  obtain ⟨j4, hj4, hj40, hj41, hj42⟩ := info_parts Try.info44
  obtain ⟨j7, hj7, hj70, hj71, hj72⟩ := info_parts Try.info45
  obtain ⟨j8, hj8, hj80, hj81, hj82⟩ := info_parts Try.info46
  obtain ⟨i4, hi4, hi40, hi41, hi42⟩ := info_parts Try.info90
  obtain ⟨i7, hi7, hi70, hi71, hi72⟩ := info_parts Try.info93
  obtain ⟨i8, hi8, hi80, hi81, hi82⟩ := info_parts Try.info95
  obtain ⟨k0, hk, hk0, hk1, hk2⟩ := info_parts Try.info3
  obtain ⟨l, c, hl1, hc1, hc2, hc3, hCK⟩ := CKeep.start h hV hb0 hL (cfCells fr wt (.slice adP mP cP) (.slice adW mW cW) (.slice adC mC cC))
  have hNP : mP = l.length := own_len hCK.row
  have hNW : mW = cf.wins.length := own_len hCK.win
  have hNC : mC = cf.chans.length := own_len hCK.cha
  have hP20 : mP ≤ 20 := by rw [hNP, ← List.length_map (f := Prod.fst), hl1]; exact hS.parts
  have hW20 : mW ≤ 1000 := by rw [hNW]; exact hS.wins
  have hC20 : mC ≤ 1000 := by rw [hNC]; exact hS.chans
  have HPR : Hid (∀ p ∈ l, p.1.procs.length ≤ 20 ∧ ∀ q ∈ p.1.procs, q.code.length ≤ 1000) := fun p hp => hS.procs p.1 (by rw [← hl1]; exact List.mem_map_of_mem hp)
  have HA := hide hA
  have HC := hide (And.intro hc1 (And.intro hc2 hc3))
  have HCK := hide hCK
  have HNP := hide hNP
  have HNW := hide hNW
  have HNC := hide hNC
  have HL0 : Hid (lab0 L w.heap.size = lab0 L w.heap.size) := rfl
  obtain ⟨L0, hL0e⟩ : ∃ L0, L0 = lab0 L w.heap.size := ⟨_, rfl⟩
  rw [← hL0e] at HCK
  have HL0E := hide hL0e
  clear h hV hL hS hA hl1 hc1 hc2 hc3 hCK hNP hNW hNC HL0 hL0e
  simp only [cfCells] at HCK ⊢
  go_enter Try.func27, Try.ntmps27
  go_wp2
  go_loopw [4] (fun i wr => ∃ (k : Nat) (nk : Int) (L' : Nat → Nat) (vs' : Nat → Value) (A' : Nat → List Kept), k ≤ mP ∧ i = .int .i64 k ∧ CKeep (w.alloc (.cells #[.int .i64 fr, .int .i64 wt, .slice adP mP cP, .slice adW mW cW, .slice adC mC cC] 48)) L0 A n base (.slice adP mP cP) (.slice adW mW cW) (.slice adC mC cC) l cf.wins cf.chans c hb w.heap.size #[.int .i64 fr, .int .i64 wt, .slice adP mP cP, .slice adW mW cW, .slice adC mC cC] k nk L' vs' A' wr) (fun i _ => mP - (intOf i).toNat)
  case atStart => exact ⟨0, n, _, vs, A, by omega, rfl, HCK.out⟩
  case round =>
    obtain ⟨k, nA, LA, vsA, AA, hkN, rfl, hCK⟩ := hrel
    have x2 : wr.cell? ⟨w.heap.size, 2, none⟩ = some (.slice adP mP cP) := by rw [cell_of_row _ _ _ _ _ _ hCK.box]; rfl
    by_cases hlt : k < mP
    · obtain ⟨p, hp⟩ : ∃ p, l[k]? = some p := ⟨l[k]'(by rw [← HNP.out]; exact hlt), List.getElem?_eq_getElem _⟩
      obtain ⟨_, ad', c', hv', hr⟩ := own_read (fun p : Pt × Value => (ptCells p.1.sys p.1.words p.1.limit (fun i => p.1.acts.getD i 0) p.2).toList) (fun _ => rfl) l rfl hCK.row
      obtain ⟨g, hg, hcell⟩ := hr k p hp
      simp at hv'
      obtain ⟨rfl, -, rfl⟩ := hv'
      subst hg
      have hc9 : wr.cell? ⟨g, k * 10 + 9, none⟩ = some p.2 := hcell 9 (by omega)
      obtain ⟨hPI, hPL⟩ := hCK.rest k p hp (Nat.le_refl _)
      obtain ⟨adp, mp, cp, hpv⟩ : ∃ ad m c, p.2 = .slice ad m c := by obtain ⟨l', _, h2, _⟩ := hPI; obtain ⟨a, c, h⟩ := own_slice h2; exact ⟨a, _, c, h⟩
      have hpm := HPR.out p (List.mem_of_getElem? hp)
      have HKP := hide (keepProcesses_any hb nA vsA LA AA p.2 (c k) (c (k + 1)) p.1.procs wr hCK.h hPI hPL (by omega) hpm.2 (by have := hCK.n1; omega) (by have := hCK.n1; omega) (fun f => by have := hCK.len f; have := HA.out f; omega))
      rw [hpv] at hc9 HKP
      have HCKk := hide hCK
      have HPN := hide hpm.1
      clear hCK hcell hr hp hPI hPL hpv hpm HCK
      go_wp2_with fail
      refine HKP.out.mono ?_
      rintro e w2 ⟨n2, L2, vs2, A2, rfl, hn2, hH, hlen, hlab, ht⟩
      have HN : Hid (CKeep _ L0 A n base _ _ _ l cf.wins cf.chans c hb _ _ (k + 1) n2 L2 vs2 A2 w2) := HCKk.out.next (by simp; omega) HC.out.1 HC.out.2.1 (fun i => by have := HC.out.2.2 i; simp; omega) (by have := HPN.out; omega) hH (fun f => by have := hlen f; have := HPN.out; omega) hlab ht
      clear hH hlen hlab ht HKP HCKk
      go_wp2
      go_roundw
      case rel => exact ⟨k + 1, n2, L2, vs2, A2, by omega, by go_num, HN.out⟩
      case measure => simp [intOf]; omega
    · obtain rfl : mP = k := by omega
      have HCKk := hide hCK
      have hn1 := hCK.n1
      clear hCK HCK
      go_wp2_with fail
      refine (mark_any hb _ _ nA vsA wr HCKk.out.h.blk (by omega) (by omega)).mono ?_
      rintro e w1 ⟨rfl, hB1, hT1⟩
      have HTR : Hid (Tri L0 (w.alloc (.cells #[.int .i64 fr, .int .i64 wt, .slice adP mP cP, .slice adW mW cW, .slice adC mC cC] 48)) base LA hb (nA + 1) vsA AA (T + 2400) (.slice adP mP cP) (.slice adW mW cW) (.slice adC mC cC) mP mW mC w.heap.size #[.int .i64 fr, .int .i64 wt, .slice adP mP cP, .slice adW mW cW, .slice adC mC cC] w1) := by
        have := HCKk.out.tri hB1 hT1 hP20 HA.out
        rwa [← HNP.out, ← HNW.out, ← HNC.out] at this
      clear hB1 hT1 HCKk x2
      go_wp2
      generalize (-77000000 - (nA + 1)) = m
      go_loopw [6] (fun i wr => ∃ (k : Nat), k ≤ mP ∧ i = .int .i64 k ∧ Fill 4 w1 (.slice adP mP cP) mP m k wr) (fun i _ => mP - (intOf i).toNat)
      case atStart => exact ⟨0, by omega, rfl, HTR.out.fP⟩
      case round =>
        obtain ⟨k, hk', rfl, hF⟩ := hrel
        have x2 : wr.cell? ⟨w.heap.size, 2, none⟩ = some (.slice adP mP cP) := by rw [cell_of_row _ _ _ _ _ _ (HTR.out.boxP hF)]; rfl
        by_cases hlt : k < mP
        · obtain ⟨g, u, rfl, hcc, hff⟩ := hF.at hlt
          have cc0 : wr.cell? ⟨g, k * 10, none⟩ = some (u 0) := hcc 0 (by decide)
          have cc1 : wr.cell? ⟨g, k * 10 + 1, none⟩ = some (u 1) := hcc 1 (by decide)
          have cc2 : wr.cell? ⟨g, k * 10 + 2, none⟩ = some (u 2) := hcc 2 (by decide)
          have cc3 : wr.cell? ⟨g, k * 10 + 3, none⟩ = some (u 3) := hcc 3 (by decide)
          have cc4 : wr.cell? ⟨g, k * 10 + 4, none⟩ = some (u 4) := hcc 4 (by decide)
          have cc5 : wr.cell? ⟨g, k * 10 + 5, none⟩ = some (u 5) := hcc 5 (by decide)
          have cc6 : wr.cell? ⟨g, k * 10 + 6, none⟩ = some (u 6) := hcc 6 (by decide)
          have cc7 : wr.cell? ⟨g, k * 10 + 7, none⟩ = some (u 7) := hcc 7 (by decide)
          have cc8 : wr.cell? ⟨g, k * 10 + 8, none⟩ = some (u 8) := hcc 8 (by decide)
          have cc9 : wr.cell? ⟨g, k * 10 + 9, none⟩ = some (u 9) := hcc 9 (by decide)
          have ff0 := hff (k * 10)
          have ff1 := hff (k * 10 + 1)
          have ff2 := hff (k * 10 + 2)
          have ff3 := hff (k * 10 + 3)
          have ff4 := hff (k * 10 + 4)
          have ff5 := hff (k * 10 + 5)
          have ff6 := hff (k * 10 + 6)
          have ff7 := hff (k * 10 + 7)
          have ff8 := hff (k * 10 + 8)
          have ff9 := hff (k * 10 + 9)
          have HF := hide hF
          clear hF hcc hff
          go_wp2
          go_roundw
          case rel => exact ⟨k + 1, by omega, by go_num, HF.out.step hlt⟩
          case measure => simp [intOf]; omega
        · obtain rfl : mP = k := by omega
          have HF4 := hide hF
          clear hF
          generalize wr = wB at *
          go_wp2
          clear x2
          go_loopw [7] (fun i wr => ∃ (k : Nat), k ≤ mW ∧ i = .int .i64 k ∧ Fill 7 wB (.slice adW mW cW) mW m k wr) (fun i _ => mW - (intOf i).toNat)
          case atStart => exact ⟨0, by omega, rfl, HTR.out.fW HF4.out⟩
          case round =>
            obtain ⟨k, hk', rfl, hF⟩ := hrel
            have x3 : wr.cell? ⟨w.heap.size, 3, none⟩ = some (.slice adW mW cW) := by rw [cell_of_row _ _ _ _ _ _ (HTR.out.boxW HF4.out hF)]; rfl
            by_cases hlt : k < mW
            · obtain ⟨g, u, rfl, hcc, hff⟩ := hF.at hlt
              have cc0 : wr.cell? ⟨g, k * 3, none⟩ = some (u 0) := hcc 0 (by decide)
              have cc1 : wr.cell? ⟨g, k * 3 + 1, none⟩ = some (u 1) := hcc 1 (by decide)
              have cc2 : wr.cell? ⟨g, k * 3 + 2, none⟩ = some (u 2) := hcc 2 (by decide)
              have ff0 := hff (k * 3)
              have ff1 := hff (k * 3 + 1)
              have ff2 := hff (k * 3 + 2)
              have HF := hide hF
              clear hF hcc hff
              go_wp2
              go_roundw
              case rel => exact ⟨k + 1, by omega, by go_num, HF.out.step hlt⟩
              case measure => simp [intOf]; omega
            · obtain rfl : mW = k := by omega
              have HF7 := hide hF
              clear hF
              generalize wr = wC at *
              go_wp2
              clear x3
              go_loopw [8] (fun i wr => ∃ (k : Nat), k ≤ mC ∧ i = .int .i64 k ∧ Fill 8 wC (.slice adC mC cC) mC m k wr) (fun i _ => mC - (intOf i).toNat)
              case atStart => exact ⟨0, by omega, rfl, HTR.out.fC HF4.out HF7.out⟩
              case round =>
                obtain ⟨k, hk', rfl, hF⟩ := hrel
                have x4 : wr.cell? ⟨w.heap.size, 4, none⟩ = some (.slice adC mC cC) := by rw [cell_of_row _ _ _ _ _ _ (HTR.out.boxC HF4.out HF7.out hF)]; rfl
                by_cases hlt : k < mC
                · obtain ⟨g, u, rfl, hcc, hff⟩ := hF.at hlt
                  have cc0 : wr.cell? ⟨g, k * 3, none⟩ = some (u 0) := hcc 0 (by decide)
                  have cc1 : wr.cell? ⟨g, k * 3 + 1, none⟩ = some (u 1) := hcc 1 (by decide)
                  have cc2 : wr.cell? ⟨g, k * 3 + 2, none⟩ = some (u 2) := hcc 2 (by decide)
                  have ff0 := hff (k * 3)
                  have ff1 := hff (k * 3 + 1)
                  have ff2 := hff (k * 3 + 2)
                  have HF := hide hF
                  clear hF hcc hff
                  go_wp2
                  go_roundw
                  case rel => exact ⟨k + 1, by omega, by go_num, HF.out.step hlt⟩
                  case measure => simp [intOf]; omega
                · obtain rfl : mC = k := by omega
                  have HST : Hid (∃ L', K3 L0 (w.alloc (.cells #[.int .i64 fr, .int .i64 wt, .slice adP mP cP, .slice adW mW cW, .slice adC mC cC] 48)) base L' hb (nA + 1) vsA AA AA (T + 2400) is3 (sel3 (.slice adP mP cP) (.slice adW mW cW) (.slice adC mC cC)) (sel3 mP mW mC) m w.heap.size #[.int .i64 fr, .int .i64 wt, .slice adP mP cP, .slice adW mW cW, .slice adC mC cC] wr) := HTR.out.full HF4.out HF7.out hF
                  clear hF HF4 HF7 HTR
                  generalize wr = wD at *
                  go_wp2
                  clear x4
                  go_loopw [9] (fun i wq => ∃ (j : Nat) (L' : Nat → Nat) (vs' : Nat → Value) (A' : Nat → List Kept) (aP : Option Addr) (dP : Nat) (aW : Option Addr) (dW : Nat) (aC : Option Addr) (dC : Nat), j ≤ 4 ∧ i = .int .i64 j ∧ K3 L0 (w.alloc (.cells #[.int .i64 fr, .int .i64 wt, .slice adP mP cP, .slice adW mW cW, .slice adC mC cC] 48)) base L' hb (nA + 1) vs' A' A' (T + 2400 + 9 * j) is3 (sel3 (.slice aP (mP + j) dP) (.slice aW (mW + j) dW) (.slice aC (mC + j) dC)) (sel3 (mP + j) (mW + j) (mC + j)) m w.heap.size #[.int .i64 fr, .int .i64 wt, .slice aP (mP + j) dP, .slice aW (mW + j) dW, .slice aC (mC + j) dC] wq) (fun i _ => 4 - (intOf i).toNat)
                  case atStart =>
                    obtain ⟨L', hk9⟩ := HST.out
                    exact ⟨0, L', vsA, AA, adP, cP, adW, cW, adC, cC, by omega, rfl, hk9⟩
                  case round =>
                    obtain ⟨j, L1, vs1, A1, aP, dP, aW, dW, aC, dC, hjle, rfl, hK⟩ := hrel
                    by_cases hlt : j < 4
                    · obtain ⟨T1, hT1e⟩ : ∃ T1, T1 = T + 2400 + 9 * j := ⟨_, rfl⟩
                      rw [← hT1e] at hK
                      have hT1 : T1 ≤ 60000 := by omega
                      have HT1E := hide hT1e
                      clear hT1e HST
                      generalize wr = w10 at *
                      have hl4 : (A1 4).length ≤ 60100 := by have := (hK.len 4).1; omega
                      have c11 := hK.h.cell 11 (by omega) (by omega)
                      have b2 : w10.cell? ⟨w.heap.size, 2, none⟩ = some (.slice aP (mP + j) dP) := by rw [cell_of_row _ _ _ _ _ _ hK.box]; rfl
                      have e11 : (w10.alloc (.cells #[.slice aP (mP + j) dP] 44)).cell? ⟨hb, 11, none⟩ = some (vs1 11) := by rw [World.cell?_of_block (w := w10) (Below.heap_alloc w10 _ hb (lt_of_block hK.h.blk))]; exact c11
                      have HROW : Hid (∀ g cap w1, w1.ownsRow 0 44 1 (.slice (some ⟨g, 0, none⟩) ((A1 4).length + 1) cap) ((A1 4).length + 1) ((A1 4).map Kept.v ++ [.slice aP (mP + j) dP]) → (w10.alloc (.cells #[.slice aP (mP + j) dP] 44)).grownBy w1 (vs1 11).ownBlock → ((vs1 11).ownBlock = some g ∨ g = w10.heap.size + 1) →
                          w1.cell? ⟨hb, 11, none⟩ = some (vs1 11) ∧ w1.frozen? ⟨hb, 11, none⟩ = false ∧ ∃ L2 vs2, K3 L0 (w.alloc (.cells #[.int .i64 fr, .int .i64 wt, .slice adP mP cP, .slice adW mW cW, .slice adC mC cC] 48)) base L2 hb (nA + 1) vs2 (updL A1 4 (A1 4 ++ [⟨.slice aP (mP + j) dP, m⟩])) A1 (T1 + 1) is3 (sel3 (.slice aP (mP + j) dP) (.slice aW (mW + j) dW) (.slice aC (mC + j) dC)) (sel3 (mP + j) (mW + j) (mC + j)) m w.heap.size #[.int .i64 fr, .int .i64 wt, .slice aP (mP + j) dP, .slice aW (mW + j) dW, .slice aC (mC + j) dC] (w1.setCell ⟨hb, 11, none⟩ (.slice (some ⟨g, 0, none⟩) ((A1 4).length + 1) cap))) := by
                        intro g cap w1 h1 h2 h3
                        obtain ⟨hB, L2, vs2, hk⟩ := hK.row (f := 4) (by simp; omega) (by omega) (.inl rfl) (by show (mP + j) ≤ 1000000; omega) h1 h2 h3
                        exact ⟨by rw [cell_of_row _ _ _ _ _ _ hB]; rfl, free_of_block hB 11, L2, vs2, hk⟩
                      have HK := hide hK
                      clear hK
                      go_wp2_with fail
                      go_cut [9] from 66 to 153 (fun s9 wx => s9 = .int .i64 j ∧ ∃ L2 vs2, K3 L0 (w.alloc (.cells #[.int .i64 fr, .int .i64 wt, .slice adP mP cP, .slice adW mW cW, .slice adC mC cC] 48)) base L2 hb (nA + 1) vs2 (updL A1 4 (A1 4 ++ [⟨.slice aP (mP + j) dP, m⟩])) A1 (T1 + 1) is3 (sel3 (.slice aP (mP + j) dP) (.slice aW (mW + j) dW) (.slice aC (mC + j) dC)) (sel3 (mP + j) (mW + j) (mC + j)) m w.heap.size #[.int .i64 fr, .int .i64 wt, .slice aP (mP + j) dP, .slice aW (mW + j) dW, .slice aC (mC + j) dC] wx)
                      case first =>
                        go_region_law (refine step_append_lies _ rfl (.tmp 74) (.tmp 77) 35 rfl 0 44 j4 (.slice none 0 0) 1 24 Try.underlying35 hj4 hj40 hj41 hj42 rfl (by decide) (vs1 11) (A1 4).length ((A1 4).map Kept.v) (by rfl) (by exact (HK.out.h.fam 4 (by omega)).own.alloc _) ⟨w10.heap.size, 0, none⟩ 1 1 [.slice aP (mP + j) dP] (by rfl) rfl (by exact news_at w10 #[.slice aP (mP + j) dP] 44) (slice_one _ _ _ _ rfl) (by omega) (by unfold maxLen; omega) (by omega) (by omega) (w10.heap.size + 1) (by simp) ?_; intro g cap w1 ho hg hat _; obtain ⟨d11, f11, hk2⟩ := HROW.out g cap w1 ho ⟨hg.os, hg.tape, hg.output, hg.size, hg.block⟩ hat; have HK2 := hide hk2; clear ho hg hat hk2)
                        all_goals (go_wp2_with fail; go_meet; obtain ⟨L2, vs2, hk⟩ := HK2.out; exact ⟨rfl, L2, vs2, hk.same rfl rfl rfl rfl⟩)
                      case rest =>
                      obtain ⟨rfl, L42, vs42, hK⟩ := hcut
                      clear HROW HK c11 b2 e11
                      obtain ⟨A4x, hA4x⟩ : ∃ A4x, A4x = updL A1 4 (A1 4 ++ [⟨.slice aP (mP + j) dP, m⟩]) := ⟨_, rfl⟩
                      rw [← hA4x] at hK
                      have HAX := hide hA4x
                      clear hA4x
                      generalize wc = w11 at *
                      have c12 := hK.h.cell 12 (by omega) (by omega)
                      have HK := hide hK
                      clear hK
                      go_wp2_with (at_builtin; go_must (refine wpList_append_lies _ rfl (.tmp 85) (.tmp 87) 32 rfl 0 3 k0 (.int .i64 0) 1 8 Try.underlying32 hk hk0 hk1 hk2 rfl (by decide) (vs42 12) (A1 4).length ((A1 4).map fun k => Value.int .i64 k.mark) rfl ((HK.out.h.fam 4 (by omega)).ownM.alloc _) ⟨w11.heap.size, 0, none⟩ 1 1 [.int .i64 m] (by rfl) rfl (news_at w11 #[.int .i64 m] 3) (ints_one _ (by simp)) (by omega) (by unfold maxLen; omega) (by omega) (by omega) _ rfl ?_))
                      intro gM cM w3 hownM hgrowM hatM _
                      obtain ⟨hB3, L43, vs43, hK⟩ := HK.out.mark (f := 4) (by simp; omega) (by omega) (.inl rfl) hownM hgrowM hatM
                      have f12 := free_of_block hB3 12
                      have d12 : w3.cell? ⟨hb, 12, none⟩ = some (vs42 12) := by rw [cell_of_row _ _ _ _ _ _ hB3]; rfl
                      obtain ⟨w4, hw4⟩ : ∃ w4, w4 = w3.setCell ⟨hb, 12, none⟩ (.slice (some ⟨gM, 0, none⟩) ((A1 4).length + 1) cM) := ⟨_, rfl⟩
                      have hs4 : w4.heap.size = w3.heap.size := by rw [hw4]; simp
                      have HK4 : Hid (K3 L0 (w.alloc (.cells #[.int .i64 fr, .int .i64 wt, .slice adP mP cP, .slice adW mW cW, .slice adC mC cC] 48)) base L43 hb (nA + 1) vs43 A4x A4x (T1 + 1 + 1) is3 (sel3 (.slice aP (mP + j) dP) (.slice aW (mW + j) dW) (.slice aC (mC + j) dC)) (sel3 (mP + j) (mW + j) (mC + j)) m w.heap.size #[.int .i64 fr, .int .i64 wt, .slice aP (mP + j) dP, .slice aW (mW + j) dW, .slice aC (mC + j) dC] w4) := by
                        have h' := hK
                        rw [show updL A1 4 (A1 4 ++ [⟨sel3 (.slice aP (mP + j) dP) (.slice aW (mW + j) dW) (.slice aC (mC + j) dC) 4, m⟩]) = A4x from HAX.out.symm] at h'
                        rw [hw4]; exact h'
                      have y2 : w4.cell? ⟨w.heap.size, 2, none⟩ = some (.slice aP (mP + j) dP) := by rw [cell_of_row _ _ _ _ _ _ HK4.out.box]; rfl
                      rw [hw4] at y2
                      have HW4 := hide hw4
                      clear hB3 hK HK hw4 hownM hgrowM hatM c12
                      go_wp2_with (at_builtin; go_must (refine wpList_append_list rfl (.tmp 92) (.tmp 95) 44 rfl 90 i4 _ 10 96 Try.underlying44 hi4 hi40 hi41 hi42 rfl (by decide) (.slice aP (mP + j) dP) (mP + j) (reps (mP + j) (elm 4 m)) rfl (by rw [← HW4.out]; exact (HK4.out.cur 4 (.inl rfl)).own.alloc _) ⟨w3.heap.size, 0, none⟩ 1 1 (elm 4 m) (by rfl) rfl (by rw [← HW4.out, ← hs4]; exact news_at w4 #[.bool false, .int .i64 m, .int .i64 0, .int .i64 0, .int .i64 0, .int .i64 0, .int .i64 0, .int .i64 0, .int .i64 0, .slice none 0 0] 90) (elm_one 4 m) (by omega) (by unfold maxLen; omega) (by omega) ?_))
                      rw [← HW4.out]
                      intro gP cP' w5 hownL hgrowL
                      obtain ⟨L45, hK5⟩ := HK4.out.list (f := 4) (V' := sel3 (.slice (some ⟨gP, 0, none⟩) (mP + j + 1) cP') (.slice aW (mW + j) dW) (.slice aC (mC + j) dC)) (N' := sel3 (mP + j + 1) (mW + j) (mC + j)) (by simp; omega) (by omega) (.inl rfl) hownL hgrowL (by rintro g (rfl | rfl | rfl) hne <;> first | exact ⟨rfl, rfl⟩ | exact absurd rfl hne) rfl rfl
                      have g2 := free_of_block hK5.box 2
                      have z2 : w5.cell? ⟨w.heap.size, 2, none⟩ = some (.slice aP (mP + j) dP) := by rw [cell_of_row _ _ _ _ _ _ hK5.box]; rfl
                      obtain ⟨w6, hw6⟩ : ∃ w6, w6 = w5.setCell ⟨w.heap.size, 2, none⟩ (.slice (some ⟨gP, 0, none⟩) (mP + j + 1) cP') := ⟨_, rfl⟩
                      have hK : K3 L0 (w.alloc (.cells #[.int .i64 fr, .int .i64 wt, .slice adP mP cP, .slice adW mW cW, .slice adC mC cC] 48)) base L45 hb (nA + 1) vs43 A4x A4x (T1 + 1 + 1 + 1) is3 (sel3 (.slice (some ⟨gP, 0, none⟩) (mP + j + 1) cP') (.slice aW (mW + j) dW) (.slice aC (mC + j) dC)) (sel3 (mP + j + 1) (mW + j) (mC + j)) m w.heap.size #[.int .i64 fr, .int .i64 wt, .slice (some ⟨gP, 0, none⟩) (mP + j + 1) cP', .slice aW (mW + j) dW, .slice aC (mC + j) dC] w6 := by rw [hw6]; exact hK5.store (by omega) (by rintro g (rfl | rfl | rfl) <;> omega) 2 _
                      have HW6 := hide hw6
                      clear hw6 hK5 hownL hgrowL HK4 HW4 HAX hs4 y2 d12 f12
                      have HKK := hide hK
                      clear hK
                      go_wp2_with fail
                      rw [← HW6.out]
                      have hK := HKK.out
                      clear HKK HW6 g2 z2
                      generalize w6 = w20 at *
                      have hl7 : (A4x 7).length ≤ 60100 := by have := (hK.len 7).1; omega
                      have c17 := hK.h.cell 17 (by omega) (by omega)
                      have b3 : w20.cell? ⟨w.heap.size, 3, none⟩ = some (.slice aW (mW + j) dW) := by rw [cell_of_row _ _ _ _ _ _ hK.box]; rfl
                      have e17 : (w20.alloc (.cells #[.slice aW (mW + j) dW] 45)).cell? ⟨hb, 17, none⟩ = some (vs43 17) := by rw [World.cell?_of_block (w := w20) (Below.heap_alloc w20 _ hb (lt_of_block hK.h.blk))]; exact c17
                      have HROW : Hid (∀ g cap w1, w1.ownsRow 0 45 1 (.slice (some ⟨g, 0, none⟩) ((A4x 7).length + 1) cap) ((A4x 7).length + 1) ((A4x 7).map Kept.v ++ [.slice aW (mW + j) dW]) → (w20.alloc (.cells #[.slice aW (mW + j) dW] 45)).grownBy w1 (vs43 17).ownBlock → ((vs43 17).ownBlock = some g ∨ g = w20.heap.size + 1) →
                          w1.cell? ⟨hb, 17, none⟩ = some (vs43 17) ∧ w1.frozen? ⟨hb, 17, none⟩ = false ∧ ∃ L2 vs2, K3 L0 (w.alloc (.cells #[.int .i64 fr, .int .i64 wt, .slice adP mP cP, .slice adW mW cW, .slice adC mC cC] 48)) base L2 hb (nA + 1) vs2 (updL A4x 7 (A4x 7 ++ [⟨.slice aW (mW + j) dW, m⟩])) A4x (T1 + 1 + 1 + 1 + 1) is3 (sel3 (.slice (some ⟨gP, 0, none⟩) (mP + j + 1) cP') (.slice aW (mW + j) dW) (.slice aC (mC + j) dC)) (sel3 (mP + j + 1) (mW + j) (mC + j)) m w.heap.size #[.int .i64 fr, .int .i64 wt, .slice (some ⟨gP, 0, none⟩) (mP + j + 1) cP', .slice aW (mW + j) dW, .slice aC (mC + j) dC] (w1.setCell ⟨hb, 17, none⟩ (.slice (some ⟨g, 0, none⟩) ((A4x 7).length + 1) cap))) := by
                        intro g cap w1 h1 h2 h3
                        obtain ⟨hB, L2, vs2, hk⟩ := hK.row (f := 7) (by simp; omega) (by omega) (.inr (.inl rfl)) (by show (mW + j) ≤ 1000000; omega) h1 h2 h3
                        exact ⟨by rw [cell_of_row _ _ _ _ _ _ hB]; rfl, free_of_block hB 17, L2, vs2, hk⟩
                      have HK := hide hK
                      clear hK
                      go_cut [9] from 66 to 153 (fun s9 wx => s9 = .int .i64 j ∧ ∃ L2 vs2, K3 L0 (w.alloc (.cells #[.int .i64 fr, .int .i64 wt, .slice adP mP cP, .slice adW mW cW, .slice adC mC cC] 48)) base L2 hb (nA + 1) vs2 (updL A4x 7 (A4x 7 ++ [⟨.slice aW (mW + j) dW, m⟩])) A4x (T1 + 1 + 1 + 1 + 1) is3 (sel3 (.slice (some ⟨gP, 0, none⟩) (mP + j + 1) cP') (.slice aW (mW + j) dW) (.slice aC (mC + j) dC)) (sel3 (mP + j + 1) (mW + j) (mC + j)) m w.heap.size #[.int .i64 fr, .int .i64 wt, .slice (some ⟨gP, 0, none⟩) (mP + j + 1) cP', .slice aW (mW + j) dW, .slice aC (mC + j) dC] wx)
                      case first =>
                        go_region_law (refine step_append_lies _ rfl (.tmp 102) (.tmp 105) 38 rfl 0 45 j7 (.slice none 0 0) 1 24 Try.underlying38 hj7 hj70 hj71 hj72 rfl (by decide) (vs43 17) (A4x 7).length ((A4x 7).map Kept.v) (by rfl) (by exact (HK.out.h.fam 7 (by omega)).own.alloc _) ⟨w20.heap.size, 0, none⟩ 1 1 [.slice aW (mW + j) dW] (by rfl) rfl (by exact news_at w20 #[.slice aW (mW + j) dW] 45) (slice_one _ _ _ _ rfl) (by omega) (by unfold maxLen; omega) (by omega) (by omega) (w20.heap.size + 1) (by simp) ?_; intro g cap w1 ho hg hat _; obtain ⟨d17, f17, hk2⟩ := HROW.out g cap w1 ho ⟨hg.os, hg.tape, hg.output, hg.size, hg.block⟩ hat; have HK2 := hide hk2; clear ho hg hat hk2)
                        all_goals (go_wp2_with fail; go_meet; obtain ⟨L2, vs2, hk⟩ := HK2.out; exact ⟨rfl, L2, vs2, hk.same rfl rfl rfl rfl⟩)
                      case rest =>
                      obtain ⟨rfl, L72, vs72, hK⟩ := hcut
                      clear HROW HK c17 b3 e17
                      obtain ⟨A7x, hA7x⟩ : ∃ A7x, A7x = updL A4x 7 (A4x 7 ++ [⟨.slice aW (mW + j) dW, m⟩]) := ⟨_, rfl⟩
                      rw [← hA7x] at hK
                      have HAX := hide hA7x
                      clear hA7x
                      generalize wc = w21 at *
                      have c18 := hK.h.cell 18 (by omega) (by omega)
                      have HK := hide hK
                      clear hK
                      go_wp2_with (at_builtin; go_must (refine wpList_append_lies _ rfl (.tmp 113) (.tmp 115) 32 rfl 0 3 k0 (.int .i64 0) 1 8 Try.underlying32 hk hk0 hk1 hk2 rfl (by decide) (vs72 18) (A4x 7).length ((A4x 7).map fun k => Value.int .i64 k.mark) rfl ((HK.out.h.fam 7 (by omega)).ownM.alloc _) ⟨w21.heap.size, 0, none⟩ 1 1 [.int .i64 m] (by rfl) rfl (news_at w21 #[.int .i64 m] 3) (ints_one _ (by simp)) (by omega) (by unfold maxLen; omega) (by omega) (by omega) _ rfl ?_))
                      intro gM cM w3 hownM hgrowM hatM _
                      obtain ⟨hB3, L73, vs73, hK⟩ := HK.out.mark (f := 7) (by simp; omega) (by omega) (.inr (.inl rfl)) hownM hgrowM hatM
                      have f18 := free_of_block hB3 18
                      have d18 : w3.cell? ⟨hb, 18, none⟩ = some (vs72 18) := by rw [cell_of_row _ _ _ _ _ _ hB3]; rfl
                      obtain ⟨w4, hw4⟩ : ∃ w4, w4 = w3.setCell ⟨hb, 18, none⟩ (.slice (some ⟨gM, 0, none⟩) ((A4x 7).length + 1) cM) := ⟨_, rfl⟩
                      have hs4 : w4.heap.size = w3.heap.size := by rw [hw4]; simp
                      have HK4 : Hid (K3 L0 (w.alloc (.cells #[.int .i64 fr, .int .i64 wt, .slice adP mP cP, .slice adW mW cW, .slice adC mC cC] 48)) base L73 hb (nA + 1) vs73 A7x A7x (T1 + 1 + 1 + 1 + 1 + 1) is3 (sel3 (.slice (some ⟨gP, 0, none⟩) (mP + j + 1) cP') (.slice aW (mW + j) dW) (.slice aC (mC + j) dC)) (sel3 (mP + j + 1) (mW + j) (mC + j)) m w.heap.size #[.int .i64 fr, .int .i64 wt, .slice (some ⟨gP, 0, none⟩) (mP + j + 1) cP', .slice aW (mW + j) dW, .slice aC (mC + j) dC] w4) := by
                        have h' := hK
                        rw [show updL A4x 7 (A4x 7 ++ [⟨sel3 (.slice (some ⟨gP, 0, none⟩) (mP + j + 1) cP') (.slice aW (mW + j) dW) (.slice aC (mC + j) dC) 7, m⟩]) = A7x from HAX.out.symm] at h'
                        rw [hw4]; exact h'
                      have y3 : w4.cell? ⟨w.heap.size, 3, none⟩ = some (.slice aW (mW + j) dW) := by rw [cell_of_row _ _ _ _ _ _ HK4.out.box]; rfl
                      rw [hw4] at y3
                      have HW4 := hide hw4
                      clear hB3 hK HK hw4 hownM hgrowM hatM c18
                      go_wp2_with (at_builtin; go_must (refine wpList_append_list rfl (.tmp 120) (.tmp 123) 45 rfl 93 i7 _ 3 24 Try.underlying45 hi7 hi70 hi71 hi72 rfl (by decide) (.slice aW (mW + j) dW) (mW + j) (reps (mW + j) (elm 7 m)) rfl (by rw [← HW4.out]; exact (HK4.out.cur 7 (.inr (.inl rfl))).own.alloc _) ⟨w3.heap.size, 0, none⟩ 1 1 (elm 7 m) (by rfl) rfl (by rw [← HW4.out, ← hs4]; exact news_at w4 #[.int .i64 m, .int .i64 0, .int .i64 0] 93) (elm_one 7 m) (by omega) (by unfold maxLen; omega) (by omega) ?_))
                      rw [← HW4.out]
                      intro gW cW' w5 hownL hgrowL
                      obtain ⟨L75, hK5⟩ := HK4.out.list (f := 7) (V' := sel3 (.slice (some ⟨gP, 0, none⟩) (mP + j + 1) cP') (.slice (some ⟨gW, 0, none⟩) (mW + j + 1) cW') (.slice aC (mC + j) dC)) (N' := sel3 (mP + j + 1) (mW + j + 1) (mC + j)) (by simp; omega) (by omega) (.inr (.inl rfl)) hownL hgrowL (by rintro g (rfl | rfl | rfl) hne <;> first | exact ⟨rfl, rfl⟩ | exact absurd rfl hne) rfl rfl
                      have g3 := free_of_block hK5.box 3
                      have z3 : w5.cell? ⟨w.heap.size, 3, none⟩ = some (.slice aW (mW + j) dW) := by rw [cell_of_row _ _ _ _ _ _ hK5.box]; rfl
                      obtain ⟨w6, hw6⟩ : ∃ w6, w6 = w5.setCell ⟨w.heap.size, 3, none⟩ (.slice (some ⟨gW, 0, none⟩) (mW + j + 1) cW') := ⟨_, rfl⟩
                      have hK : K3 L0 (w.alloc (.cells #[.int .i64 fr, .int .i64 wt, .slice adP mP cP, .slice adW mW cW, .slice adC mC cC] 48)) base L75 hb (nA + 1) vs73 A7x A7x (T1 + 1 + 1 + 1 + 1 + 1 + 1) is3 (sel3 (.slice (some ⟨gP, 0, none⟩) (mP + j + 1) cP') (.slice (some ⟨gW, 0, none⟩) (mW + j + 1) cW') (.slice aC (mC + j) dC)) (sel3 (mP + j + 1) (mW + j + 1) (mC + j)) m w.heap.size #[.int .i64 fr, .int .i64 wt, .slice (some ⟨gP, 0, none⟩) (mP + j + 1) cP', .slice (some ⟨gW, 0, none⟩) (mW + j + 1) cW', .slice aC (mC + j) dC] w6 := by rw [hw6]; exact hK5.store (by omega) (by rintro g (rfl | rfl | rfl) <;> omega) 3 _
                      have HW6 := hide hw6
                      clear hw6 hK5 hownL hgrowL HK4 HW4 HAX hs4 y3 d18 f18
                      have HKK := hide hK
                      clear hK
                      go_wp2_with fail
                      rw [← HW6.out]
                      have hK := HKK.out
                      clear HKK HW6 g3 z3
                      generalize w6 = w30 at *
                      have hl8 : (A7x 8).length ≤ 60100 := by have := (hK.len 8).1; omega
                      have c19 := hK.h.cell 19 (by omega) (by omega)
                      have b4 : w30.cell? ⟨w.heap.size, 4, none⟩ = some (.slice aC (mC + j) dC) := by rw [cell_of_row _ _ _ _ _ _ hK.box]; rfl
                      have e19 : (w30.alloc (.cells #[.slice aC (mC + j) dC] 46)).cell? ⟨hb, 19, none⟩ = some (vs73 19) := by rw [World.cell?_of_block (w := w30) (Below.heap_alloc w30 _ hb (lt_of_block hK.h.blk))]; exact c19
                      have HROW : Hid (∀ g cap w1, w1.ownsRow 0 46 1 (.slice (some ⟨g, 0, none⟩) ((A7x 8).length + 1) cap) ((A7x 8).length + 1) ((A7x 8).map Kept.v ++ [.slice aC (mC + j) dC]) → (w30.alloc (.cells #[.slice aC (mC + j) dC] 46)).grownBy w1 (vs73 19).ownBlock → ((vs73 19).ownBlock = some g ∨ g = w30.heap.size + 1) →
                          w1.cell? ⟨hb, 19, none⟩ = some (vs73 19) ∧ w1.frozen? ⟨hb, 19, none⟩ = false ∧ ∃ L2 vs2, K3 L0 (w.alloc (.cells #[.int .i64 fr, .int .i64 wt, .slice adP mP cP, .slice adW mW cW, .slice adC mC cC] 48)) base L2 hb (nA + 1) vs2 (updL A7x 8 (A7x 8 ++ [⟨.slice aC (mC + j) dC, m⟩])) A7x (T1 + 1 + 1 + 1 + 1 + 1 + 1 + 1) is3 (sel3 (.slice (some ⟨gP, 0, none⟩) (mP + j + 1) cP') (.slice (some ⟨gW, 0, none⟩) (mW + j + 1) cW') (.slice aC (mC + j) dC)) (sel3 (mP + j + 1) (mW + j + 1) (mC + j)) m w.heap.size #[.int .i64 fr, .int .i64 wt, .slice (some ⟨gP, 0, none⟩) (mP + j + 1) cP', .slice (some ⟨gW, 0, none⟩) (mW + j + 1) cW', .slice aC (mC + j) dC] (w1.setCell ⟨hb, 19, none⟩ (.slice (some ⟨g, 0, none⟩) ((A7x 8).length + 1) cap))) := by
                        intro g cap w1 h1 h2 h3
                        obtain ⟨hB, L2, vs2, hk⟩ := hK.row (f := 8) (by simp; omega) (by omega) (.inr (.inr rfl)) (by show (mC + j) ≤ 1000000; omega) h1 h2 h3
                        exact ⟨by rw [cell_of_row _ _ _ _ _ _ hB]; rfl, free_of_block hB 19, L2, vs2, hk⟩
                      have HK := hide hK
                      clear hK
                      go_cut [9] from 66 to 153 (fun s9 wx => s9 = .int .i64 j ∧ ∃ L2 vs2, K3 L0 (w.alloc (.cells #[.int .i64 fr, .int .i64 wt, .slice adP mP cP, .slice adW mW cW, .slice adC mC cC] 48)) base L2 hb (nA + 1) vs2 (updL A7x 8 (A7x 8 ++ [⟨.slice aC (mC + j) dC, m⟩])) A7x (T1 + 1 + 1 + 1 + 1 + 1 + 1 + 1) is3 (sel3 (.slice (some ⟨gP, 0, none⟩) (mP + j + 1) cP') (.slice (some ⟨gW, 0, none⟩) (mW + j + 1) cW') (.slice aC (mC + j) dC)) (sel3 (mP + j + 1) (mW + j + 1) (mC + j)) m w.heap.size #[.int .i64 fr, .int .i64 wt, .slice (some ⟨gP, 0, none⟩) (mP + j + 1) cP', .slice (some ⟨gW, 0, none⟩) (mW + j + 1) cW', .slice aC (mC + j) dC] wx)
                      case first =>
                        go_region_law (refine step_append_lies _ rfl (.tmp 130) (.tmp 133) 39 rfl 0 46 j8 (.slice none 0 0) 1 24 Try.underlying39 hj8 hj80 hj81 hj82 rfl (by decide) (vs73 19) (A7x 8).length ((A7x 8).map Kept.v) (by rfl) (by exact (HK.out.h.fam 8 (by omega)).own.alloc _) ⟨w30.heap.size, 0, none⟩ 1 1 [.slice aC (mC + j) dC] (by rfl) rfl (by exact news_at w30 #[.slice aC (mC + j) dC] 46) (slice_one _ _ _ _ rfl) (by omega) (by unfold maxLen; omega) (by omega) (by omega) (w30.heap.size + 1) (by simp) ?_; intro g cap w1 ho hg hat _; obtain ⟨d19, f19, hk2⟩ := HROW.out g cap w1 ho ⟨hg.os, hg.tape, hg.output, hg.size, hg.block⟩ hat; have HK2 := hide hk2; clear ho hg hat hk2)
                        all_goals (go_wp2_with fail; go_meet; obtain ⟨L2, vs2, hk⟩ := HK2.out; exact ⟨rfl, L2, vs2, hk.same rfl rfl rfl rfl⟩)
                      case rest =>
                      obtain ⟨rfl, L82, vs82, hK⟩ := hcut
                      clear HROW HK c19 b4 e19
                      obtain ⟨A8x, hA8x⟩ : ∃ A8x, A8x = updL A7x 8 (A7x 8 ++ [⟨.slice aC (mC + j) dC, m⟩]) := ⟨_, rfl⟩
                      rw [← hA8x] at hK
                      have HAX := hide hA8x
                      clear hA8x
                      generalize wc = w31 at *
                      have c20 := hK.h.cell 20 (by omega) (by omega)
                      have HK := hide hK
                      clear hK
                      go_wp2_with (at_builtin; go_must (refine wpList_append_lies _ rfl (.tmp 141) (.tmp 143) 32 rfl 0 3 k0 (.int .i64 0) 1 8 Try.underlying32 hk hk0 hk1 hk2 rfl (by decide) (vs82 20) (A7x 8).length ((A7x 8).map fun k => Value.int .i64 k.mark) rfl ((HK.out.h.fam 8 (by omega)).ownM.alloc _) ⟨w31.heap.size, 0, none⟩ 1 1 [.int .i64 m] (by rfl) rfl (news_at w31 #[.int .i64 m] 3) (ints_one _ (by simp)) (by omega) (by unfold maxLen; omega) (by omega) (by omega) _ rfl ?_))
                      intro gM cM w3 hownM hgrowM hatM _
                      obtain ⟨hB3, L83, vs83, hK⟩ := HK.out.mark (f := 8) (by simp; omega) (by omega) (.inr (.inr rfl)) hownM hgrowM hatM
                      have f20 := free_of_block hB3 20
                      have d20 : w3.cell? ⟨hb, 20, none⟩ = some (vs82 20) := by rw [cell_of_row _ _ _ _ _ _ hB3]; rfl
                      obtain ⟨w4, hw4⟩ : ∃ w4, w4 = w3.setCell ⟨hb, 20, none⟩ (.slice (some ⟨gM, 0, none⟩) ((A7x 8).length + 1) cM) := ⟨_, rfl⟩
                      have hs4 : w4.heap.size = w3.heap.size := by rw [hw4]; simp
                      have HK4 : Hid (K3 L0 (w.alloc (.cells #[.int .i64 fr, .int .i64 wt, .slice adP mP cP, .slice adW mW cW, .slice adC mC cC] 48)) base L83 hb (nA + 1) vs83 A8x A8x (T1 + 1 + 1 + 1 + 1 + 1 + 1 + 1 + 1) is3 (sel3 (.slice (some ⟨gP, 0, none⟩) (mP + j + 1) cP') (.slice (some ⟨gW, 0, none⟩) (mW + j + 1) cW') (.slice aC (mC + j) dC)) (sel3 (mP + j + 1) (mW + j + 1) (mC + j)) m w.heap.size #[.int .i64 fr, .int .i64 wt, .slice (some ⟨gP, 0, none⟩) (mP + j + 1) cP', .slice (some ⟨gW, 0, none⟩) (mW + j + 1) cW', .slice aC (mC + j) dC] w4) := by
                        have h' := hK
                        rw [show updL A7x 8 (A7x 8 ++ [⟨sel3 (.slice (some ⟨gP, 0, none⟩) (mP + j + 1) cP') (.slice (some ⟨gW, 0, none⟩) (mW + j + 1) cW') (.slice aC (mC + j) dC) 8, m⟩]) = A8x from HAX.out.symm] at h'
                        rw [hw4]; exact h'
                      have y4 : w4.cell? ⟨w.heap.size, 4, none⟩ = some (.slice aC (mC + j) dC) := by rw [cell_of_row _ _ _ _ _ _ HK4.out.box]; rfl
                      rw [hw4] at y4
                      have HW4 := hide hw4
                      clear hB3 hK HK hw4 hownM hgrowM hatM c20
                      go_wp2_with (at_builtin; go_must (refine wpList_append_list rfl (.tmp 148) (.tmp 151) 46 rfl 95 i8 _ 3 24 Try.underlying46 hi8 hi80 hi81 hi82 rfl (by decide) (.slice aC (mC + j) dC) (mC + j) (reps (mC + j) (elm 8 m)) rfl (by rw [← HW4.out]; exact (HK4.out.cur 8 (.inr (.inr rfl))).own.alloc _) ⟨w3.heap.size, 0, none⟩ 1 1 (elm 8 m) (by rfl) rfl (by rw [← HW4.out, ← hs4]; exact news_at w4 #[.int .i64 m, .int .i64 0, .int .i64 0] 95) (elm_one 8 m) (by omega) (by unfold maxLen; omega) (by omega) ?_))
                      rw [← HW4.out]
                      intro gC cC' w5 hownL hgrowL
                      obtain ⟨L85, hK5⟩ := HK4.out.list (f := 8) (V' := sel3 (.slice (some ⟨gP, 0, none⟩) (mP + j + 1) cP') (.slice (some ⟨gW, 0, none⟩) (mW + j + 1) cW') (.slice (some ⟨gC, 0, none⟩) (mC + j + 1) cC')) (N' := sel3 (mP + j + 1) (mW + j + 1) (mC + j + 1)) (by simp; omega) (by omega) (.inr (.inr rfl)) hownL hgrowL (by rintro g (rfl | rfl | rfl) hne <;> first | exact ⟨rfl, rfl⟩ | exact absurd rfl hne) rfl rfl
                      have g4 := free_of_block hK5.box 4
                      have z4 : w5.cell? ⟨w.heap.size, 4, none⟩ = some (.slice aC (mC + j) dC) := by rw [cell_of_row _ _ _ _ _ _ hK5.box]; rfl
                      obtain ⟨w6, hw6⟩ : ∃ w6, w6 = w5.setCell ⟨w.heap.size, 4, none⟩ (.slice (some ⟨gC, 0, none⟩) (mC + j + 1) cC') := ⟨_, rfl⟩
                      have hK : K3 L0 (w.alloc (.cells #[.int .i64 fr, .int .i64 wt, .slice adP mP cP, .slice adW mW cW, .slice adC mC cC] 48)) base L85 hb (nA + 1) vs83 A8x A8x (T1 + 1 + 1 + 1 + 1 + 1 + 1 + 1 + 1 + 1) is3 (sel3 (.slice (some ⟨gP, 0, none⟩) (mP + j + 1) cP') (.slice (some ⟨gW, 0, none⟩) (mW + j + 1) cW') (.slice (some ⟨gC, 0, none⟩) (mC + j + 1) cC')) (sel3 (mP + j + 1) (mW + j + 1) (mC + j + 1)) m w.heap.size #[.int .i64 fr, .int .i64 wt, .slice (some ⟨gP, 0, none⟩) (mP + j + 1) cP', .slice (some ⟨gW, 0, none⟩) (mW + j + 1) cW', .slice (some ⟨gC, 0, none⟩) (mC + j + 1) cC'] w6 := by rw [hw6]; exact hK5.store (by omega) (by rintro g (rfl | rfl | rfl) <;> omega) 4 _
                      have HW6 := hide hw6
                      clear hw6 hK5 hownL hgrowL HK4 HW4 HAX hs4 y4 d20 f20
                      have HKK := hide hK
                      clear hK
                      go_wp2
                      rw [← HW6.out]
                      go_roundw
                      case rel =>
                        refine ⟨j + 1, L85, vs83, A8x, some ⟨gP, 0, none⟩, cP', some ⟨gW, 0, none⟩, cW', some ⟨gC, 0, none⟩, cC', by omega, by go_num, ?_⟩
                        have := HKK.out
                        rw [HT1E.out] at this
                        exact this
                      case measure => simp [intOf]; omega
                    · have HKK := hide hK
                      clear hK HST
                      go_wp2
                      go_end0
                      have hsz : (w.alloc (.cells #[.int .i64 fr, .int .i64 wt, .slice adP mP cP, .slice adW mW cW, .slice adC mC cC] 48)).heap.size = w.heap.size + 1 := by simp
                      refine ⟨nA + 1, L1, vs1, A1, rfl, by omega, HKK.out.h, fun f => by have := (HKK.out.len f).1; omega, fun b hb' => ?_, Touch.trans ((Touch.alloc w _).mono (fun _ hk => hk.elim)) HKK.out.t (fun i hi => ?_)⟩
                      · rw [HKK.out.lab b hb', HL0E.out]; exact if_pos (by omega)
                      · by_cases hlt2 : i < w.heap.size
                        · left
                          rw [HL0E.out] at hi
                          unfold lab0 at hi
                          rw [if_pos hlt2] at hi
                          exact hi
                        · right; omega
end Go.Proofs.Ytnjlbgolnbdkaaa
