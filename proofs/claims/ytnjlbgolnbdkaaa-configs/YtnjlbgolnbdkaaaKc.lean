/- The hands: keepProcesses. -/
import Derived.Test.YtnjlbgolnbdkaaaKb
import Derived.Test.YtnjlbgolnbdkaaaQs
import Derived.Test.YtnjlbgolnbdkaaaTa
namespace Go.Proofs.Ytnjlbgolnbdkaaa
open Go.RowKit

/- the lists of processes and of instructions between two places -/
def PBlk (w : World) (lo hi b : Nat) : Prop := lo ≤ b ∧ b < hi ∧ OfType w b (fun t => t = 102 ∨ t = 104)
structure PKeep (w : World) (L : Nat → Nat) (A : Nat → List Kept) (n : Int) (lo hi : Nat) (v : Value) (l : List (Pr × Value)) (hb k : Nat) (nk : Int) (L' : Nat → Nat) (vs' : Nat → Value) (A' : Nat → List Kept) (wr : World) : Prop where
  h : Hnd L' hb nk vs' A' A' wr
  n1 : n ≤ nk ∧ nk ≤ n + k
  len : ∀ f, (A' f).length ≤ (A f).length + 4 * k
  lab : ∀ b, b < w.heap.size → ¬ PBlk w lo hi b → L' b = L b
  t : Touch (fun b => L b ≤ 27 ∨ PBlk w lo hi b) w wr
  row : wr.ownsRow lo 104 2 v l.length (procCells l)
  rowL : ∀ b, v.ownBlock = some b → 100 ≤ L' b
  rest : ∀ i p, l[i]? = some p → k ≤ i → CodeV lo p.2 p.1.code wr ∧ ∀ b, p.2.ownBlock = some b → 100 ≤ L' b
theorem PKeep.next {w : World} {L : Nat → Nat} {A : Nat → List Kept} {n : Int} {lo hi : Nat} {v : Value} {l : List (Pr × Value)} {hb k : Nat} {nk : Int} {L' L2 : Nat → Nat} {vs' vs2 : Nat → Value} {A' A2 : Nat → List Kept} {wr w2 : World} {p : Pr × Value}
    (h : PKeep w L A n lo hi v l hb k nk L' vs' A' wr) (hp : l[k]? = some p) (hin : ∀ p ∈ l, ∀ b, p.2.ownBlock = some b → PBlk w lo hi b) (hap : Aparts l) (hH : Hnd L2 hb (nk + 1) vs2 A2 A2 w2) (hlen : ∀ f, (A2 f).length ≤ (A' f).length + 4)
    (hlab : ∀ b, b < wr.heap.size → L2 b = lab1 L' 6 p.2 b) (ht : Touch (fun b => L' b ≤ 27 ∨ p.2.ownBlock = some b) wr w2) : PKeep w L A n lo hi v l hb (k + 1) (nk + 1) L2 vs2 A2 w2 := by
  have hsz := h.t.size
  have hpm : p ∈ l := List.mem_of_getElem? hp
  obtain ⟨hcode, hcl⟩ := h.rest k p hp (Nat.le_refl _)
  have hrng : ∀ b, p.2.ownBlock = some b → PBlk w lo hi b := fun b e => hin p hpm b e
  have hvne : ∀ b, v.ownBlock = some b → p.2.ownBlock ≠ some b := fun b e e2 => by
    obtain ⟨c1, h1⟩ := own_of h.row e
    obtain ⟨c2, h2⟩ := own_of hcode e2
    rw [h1] at h2
    simp at h2
  have hoff : ∀ b, b < wr.heap.size → p.2.ownBlock ≠ some b → L2 b = L' b := fun b hb hne => (hlab b hb).trans (if_neg hne)
  refine ⟨hH, ⟨by have := h.n1; omega, by have := h.n1; push_cast; omega⟩, fun f => by have := h.len f; have := hlen f; omega, fun b hb hr => ?_, Touch.trans h.t ht (fun i hi' => ?_), own_keep h.row (fun b e => ?_), fun b e => ?_, fun i q hq hi' => ?_⟩
  · rw [hoff b (by omega) (fun e => hr (hrng b e))]; exact h.lab b hb hr
  · by_cases hlt : i < w.heap.size
    · left
      rcases hi' with h1 | h1
      · by_cases hr : PBlk w lo hi i
        · exact .inr hr
        · left; rw [← h.lab i hlt hr]; exact h1
      · exact .inr (hrng i h1)
    · right; omega
  · exact ht.block b (World.ownsRow.lt h.row b e).2 (fun hs => by
      rcases hs with hs | hs
      · have := h.rowL b e; omega
      · exact hvne b e hs)
  · rw [hoff b (World.ownsRow.lt h.row b e).2 (hvne b e)]; exact h.rowL b e
  · obtain ⟨hc, hcl2⟩ := h.rest i q hq (by omega)
    have hne : ∀ b, q.2.ownBlock = some b → p.2.ownBlock ≠ some b := fun b e e2 => by
      have hk := (List.getElem?_eq_some_iff.1 hp)
      have hi2 := (List.getElem?_eq_some_iff.1 hq)
      have := (List.pairwise_iff_getElem.1 hap) k i hk.1 hi2.1 (by omega) b
      rw [hk.2, hi2.2] at this
      exact this e2 e
    refine ⟨own_keep hc (fun b e => ht.block b (World.ownsRow.lt hc b e).2 (fun hs => ?_)), fun b e => ?_⟩
    · rcases hs with hs | hs
      · have := hcl2 b e; omega
      · exact hne b e hs
    · rw [hoff b (World.ownsRow.lt hc b e).2 (hne b e)]; exact hcl2 b e

set_option maxRecDepth 100000 in
set_option maxHeartbeats 4000000 in
theorem keepProcesses_any (hb : Nat) (n : Int) (vs : Nat → Value) (L : Nat → Nat) (A : Nat → List Kept) (v : Value) (lo hi : Nat) (ps : List Pr) (w : World)
    (h : Hnd L hb n vs A A w) (hP : ProcsIn lo hi v ps w) (hL : ∀ b, lo ≤ b → b < hi → 100 ≤ L b) (hN : ps.length ≤ 100) (hC : ∀ p ∈ ps, p.code.length ≤ 1000) (h0 : 0 ≤ n) (h1 : n ≤ 90000) (hA : ∀ f, (A f).length ≤ 90000) :
    Calls Try.prog 44 #[.pointer (some ⟨hb, 0, none⟩), v] w fun e w' => ∃ n' L' vs' A', e = .returned (.tuple #[]) ∧ (n ≤ n' ∧ n' ≤ n + ps.length + 1) ∧ Hnd L' hb n' vs' A' A' w' ∧ (∀ f, (A' f).length ≤ (A f).length + 4 * (ps.length + 1)) ∧ (∀ b, b < w.heap.size → ¬ PBlk w lo hi b → L' b = L b) ∧ Touch (fun b => L b ≤ 27 ∨ PBlk w lo hi b) w w' := by
  obtain ⟨i0, hi', hz0, hz1, hz2⟩ := info_parts Try.info104
  obtain ⟨j0, hj, hj0, hj1, hj2⟩ := info_parts Try.info88
  obtain ⟨k0, hk, hk0, hk1, hk2⟩ := info_parts Try.info3
  obtain ⟨l, hl1, hl2, hl3, hl4, hl5⟩ := hP
  have hll : ps.length = l.length := by rw [← hl1, List.length_map]
  have hrd := own_read (fun p : Pr × Value => [.int .i64 p.1.prio, p.2]) (fun _ => rfl) l rfl hl2
  obtain ⟨_, ad, c, rfl, _⟩ := hrd
  have HP0 : Hid (PKeep w L A n lo hi (.slice ad l.length c) l hb 0 n L vs A w) := ⟨h, ⟨by omega, by omega⟩, fun f => by omega, fun _ _ _ => rfl, Touch.refl _ _, hl2, fun b e => hL b (World.ownsRow.lt hl2 b e).1 (hl3 b e), fun i p hp _ => ⟨(hl4 p (List.mem_of_getElem? hp)).1, fun b e => hL b (World.ownsRow.lt (hl4 p (List.mem_of_getElem? hp)).1 b e).1 ((hl4 p (List.mem_of_getElem? hp)).2 b e)⟩⟩
  have HIN : Hid (∀ p ∈ l, ∀ b, p.2.ownBlock = some b → PBlk w lo hi b) := fun p hp b e => ⟨(World.ownsRow.lt (hl4 p hp).1 b e).1, (hl4 p hp).2 b e, by obtain ⟨cur, hc⟩ := own_of (hl4 p hp).1 e; exact ⟨cur, 102, .inl rfl, hc⟩⟩
  have HAP := hide hl5
  have HCL : Hid (∀ p ∈ l, p.1.code.length ≤ 1000) := fun p hp => hC p.1 (by rw [← hl1]; exact List.mem_map_of_mem hp)
  have HA := hide hA
  have HV3 : Hid (∀ b, (Value.slice ad l.length c).ownBlock = some b → PBlk w lo hi b) := fun b e => ⟨(World.ownsRow.lt hl2 b e).1, hl3 b e, by obtain ⟨cur, hc⟩ := own_of hl2 e; exact ⟨cur, 104, .inr rfl, hc⟩⟩
  rw [hll] at hN ⊢
  clear h hL hC hA hl1 hl2 hl3 hl4 hl5 hll
  generalize hN' : l.length = N at *
  have HNL := hide hN'
  clear hN'
  go_enter Try.func44, Try.ntmps44
  go_wp2
  go_loopw [4] (fun i wr => ∃ (k : Nat) (nk : Int) (L' : Nat → Nat) (vs' : Nat → Value) (A' : Nat → List Kept), k ≤ N ∧ i = .int .i64 k ∧ PKeep w L A n lo hi (.slice ad N c) l hb k nk L' vs' A' wr) (fun i _ => N - (intOf i).toNat)
  case atStart => exact ⟨0, n, L, vs, A, by omega, rfl, HP0.out⟩
  case round =>
    obtain ⟨k, nA, LA, vsA, AA, hkN, rfl, hPK⟩ := hrel
    by_cases hlt : k < N
    · obtain ⟨p, hp⟩ : ∃ p, l[k]? = some p := ⟨l[k]'(by rw [HNL.out]; exact hlt), List.getElem?_eq_getElem _⟩
      obtain ⟨_, ad', c', hv', hr⟩ := own_read (fun p : Pr × Value => [.int .i64 p.1.prio, p.2]) (fun _ => rfl) l rfl hPK.row
      obtain ⟨g, hg, hcell⟩ := hr k p hp
      simp at hv'
      obtain ⟨rfl, -, rfl⟩ := hv'
      subst hg
      have hc1 : wr.cell? ⟨g, k * 2 + 1, none⟩ = some p.2 := by simpa using hcell 1 (by omega)
      have hco := (hPK.rest k p hp (Nat.le_refl _)).1
      obtain ⟨adp, cp, hpv⟩ := own_slice hco
      rw [hpv] at hc1
      have HKC := hide (keepCode_any hb nA vsA LA AA p.2 p.1.code.length (insCells p.1.code) wr hPK.h (own_low hco (Nat.zero_le _)) (hPK.rest k p hp (Nat.le_refl _)).2 (HCL.out p (List.mem_of_getElem? hp)) (by have := hPK.n1; omega) (by have := hPK.n1; omega) (fun f => by have := hPK.len f; have := HA.out f; omega))
      rw [hpv] at HKC
      have HPK := hide hPK
      have HPP := hide (And.intro hp hpv)
      clear hPK hcell hr hp hco hpv HP0
      go_wp2_with fail
      refine HKC.out.mono ?_
      rintro e w2 ⟨L2, vs2, A2, rfl, hH, hlen, hlab, ht⟩
      have HN : Hid (PKeep w L A n lo hi (.slice (some ⟨g, 0, none⟩) N c) l hb (k + 1) (nA + 1) L2 vs2 A2 w2) := HPK.out.next HPP.out.1 HIN.out HAP.out hH hlen (by rw [HPP.out.2]; exact hlab) (by rw [HPP.out.2]; exact ht)
      clear hH hlen hlab ht HKC HPK
      go_wp2
      go_roundw
      case rel => exact ⟨k + 1, nA + 1, L2, vs2, A2, by omega, by go_num, HN.out⟩
      case measure => simp [intOf]; omega
    · obtain rfl : N = k := by omega
      generalize wr = wA at *
      obtain ⟨xs, hxs⟩ : ∃ xs, xs = procCells l := ⟨_, rfl⟩
      have hLbA := hPK.h.lab
      have hn1 := hPK.n1
      have HHA := hide hPK.h
      have HVA : Hid (wA.ownsRow 0 104 2 (.slice ad N c) N xs) := by rw [hxs]; have := own_low hPK.row (Nat.zero_le _); rwa [HNL.out] at this
      have HLVA := hide hPK.rowL
      have HAA : Hid (∀ f, (AA f).length ≤ 100000) := fun f => by have := hPK.len f; have := HA.out f; omega
      have HPOST : Hid (∀ (m : Int) (j : Nat) L1 vs1 A1 v1 w', j ≤ 4 → Keeping 5 wA LA AA (.slice ad N c) hb (nA + 1) N m j L1 vs1 A1 v1 w' → ∃ n' L' vs' A', (n ≤ n' ∧ n' ≤ n + N + 1) ∧ Hnd L' hb n' vs' A' A' w' ∧ (∀ f, (A' f).length ≤ (A f).length + 4 * (N + 1)) ∧ (∀ b, b < w.heap.size → ¬ PBlk w lo hi b → L' b = L b) ∧ Touch (fun b => L b ≤ 27 ∨ PBlk w lo hi b) w w') := by
        intro m j L1 vs1 A1 v1 w' hj4 hK
        have hsz := hPK.t.size
        have hrng : ∀ b, (Value.slice ad N c).ownBlock = some b → PBlk w lo hi b := HV3.out
        refine ⟨nA + 1, L1, vs1, A1, ⟨by omega, by omega⟩, hK.h, fun f => by have := hPK.len f; have := hK.len f; split at this <;> omega, fun b hb hr => ?_, Touch.trans hPK.t hK.t (fun i hi' => ?_)⟩
        · rw [hK.lab b (by omega), ← hPK.lab b hb hr]; exact if_neg (fun e => hr (hrng b e))
        · by_cases hlt : i < w.heap.size
          · left
            rcases hi' with h1 | h1
            · by_cases hr : PBlk w lo hi i
              · exact .inr hr
              · left; rw [← hPK.lab i hlt hr]; exact h1
            · exact .inr (hrng i h1)
          · right; omega
      clear hPK HP0 hxs
      go_wp2_with fail
      refine (mark_any hb _ _ nA vsA wA HHA.out.blk (by omega) (by omega)).mono ?_
      rintro e w1 ⟨rfl, hB1, hT1⟩
      have HT1 := hide hT1
      have H1 : Hid (Hnd LA hb (nA + 1) vsA AA AA w1) := ⟨hB1, hLbA, HHA.out.fam.touch hT1 (fun k _ hk => .inl (by rw [hk]; exact hLbA))⟩
      have HV1 : Hid (w1.ownsRow 0 104 2 (.slice ad N c) N xs) := own_keep HVA.out (fun b e => hT1.block b (World.ownsRow.lt HVA.out b e).2 (fun hh => by have := HLVA.out b e; rw [hh, hLbA] at this; omega))
      clear hB1 hT1
      go_wp2
      generalize (-77000000 - (nA + 1)) = m
      go_loopw [6] (fun i wr => ∃ (k : Nat), k ≤ N ∧ i = .int .i64 k ∧ Fill 5 w1 (.slice ad N c) N m k wr) (fun i _ => N - (intOf i).toNat)
      case atStart => exact ⟨0, by omega, rfl, Fill.start HV1.out⟩
      case round =>
        obtain ⟨k, hk', rfl, hF⟩ := hrel
        by_cases hlt : k < N
        · obtain ⟨g, u, rfl, hcc, hff⟩ := hF.at hlt
          have cc0 : wr.cell? ⟨g, k * 2, none⟩ = some (u 0) := hcc 0 (by decide)
          have cc1 : wr.cell? ⟨g, k * 2 + 1, none⟩ = some (u 1) := hcc 1 (by decide)
          have ff0 := hff (k * 2)
          have ff1 := hff (k * 2 + 1)
          have HF := hide hF
          clear hF hcc hff
          go_wp2
          go_roundw
          case rel => exact ⟨k + 1, by omega, by go_num, HF.out.step hlt⟩
          case measure => simp [intOf]; omega
        · obtain rfl : k = N := by omega
          have HST : Hid (∃ L' vs' A', Keeping 5 wA LA AA (.slice ad k c) hb (nA + 1) k m 0 L' vs' A' (.slice ad k c) wr) := by
            obtain ⟨hH, hC⟩ := Hnd.begin (f := 5) (by omega) H1.out HLVA.out hF
            exact ⟨_, _, _, hH, hC, fun i => by simp, fun _ _ => rfl, Touch.trans (HT1.out.mono (fun k hk => .inl (by rw [hk, hLbA]; omega))) hF.t (fun i hi => .inl (.inr hi))⟩
          clear hF HV1 H1 HT1 HVA HHA
          go_wp2
          go_loopw [1, 7] (fun v i wq => ∃ (j : Nat) (L' : Nat → Nat) (vs' : Nat → Value) (A' : Nat → List Kept), j ≤ 4 ∧ i = .int .i64 j ∧ Keeping 5 wA LA AA (.slice ad k c) hb (nA + 1) k m j L' vs' A' v wq) (fun _ i _ => 4 - (intOf i).toNat)
          case atStart =>
            obtain ⟨L', vs', A', hk⟩ := HST.out
            exact ⟨0, L', vs', A', by omega, rfl, hk⟩
          case round =>
            obtain ⟨j, L1, vs1, A1, hj4, rfl, hK⟩ := hrel
            obtain ⟨ad1, c1, hv1⟩ := own_slice hK.c.own
            subst hv1
            have hl6 : (A1 5).length ≤ 110010 := by have := hK.len 5; have := HAA.out 5; simp at *; omega
            by_cases hlt : j < 4
            · have c13 := hK.h.cell 13 (by omega) (by omega)
              have HK := hide hK
              clear hK HST
              go_wp2_with (at_builtin; go_must (refine wpList_append_lies _ rfl (.tmp 42) (.tmp 44) 36 rfl 0 88 j0 (.slice none 0 0) 1 24 Try.underlying36 hj hj0 hj1 hj2 rfl (by decide) (vs1 13) (A1 5).length ((A1 5).map Kept.v) rfl ((HK.out.h.fam 5 (by omega)).own.alloc _) ⟨wr.heap.size, 0, none⟩ 1 1 [.slice ad1 (k + j) c1] (by rfl) rfl (news_at wr #[.slice ad1 (k + j) c1] 88) (slice_one _ _ _ _ rfl) (by omega) (by unfold maxLen; omega) (by omega) (by omega) _ rfl ?_))
              intro gB cB w1 hownB hgrowB hatB _
              obtain ⟨hB1, L2, vs2, A2, hH2, hC2, hA2, hS2⟩ := HK.out.h.row (f := 5) (by omega) HK.out.c (by omega) hownB hgrowB hatB
              have f13 := free_of_block hB1 13
              have d13 : w1.cell? ⟨hb, 13, none⟩ = some (vs1 13) := by rw [cell_of_row _ _ _ _ _ _ hB1]; rfl
              obtain ⟨w2, hw2⟩ : ∃ w2, w2 = w1.setCell ⟨hb, 13, none⟩ (.slice (some ⟨gB, 0, none⟩) ((A1 5).length + 1) cB) := ⟨_, rfl⟩
              have hs2 : w2.heap.size = w1.heap.size := by rw [hw2]; simp
              have H2 : Hid (Hnd L2 hb (nA + 1) vs2 A2 A1 w2 ∧ Cur 5 L2 A2 w2 (.slice ad1 (k + j) c1) (k + j) m ∧ A2 = updL A1 5 (A1 5 ++ [⟨.slice ad1 (k + j) c1, m⟩]) ∧ Step 5 L1 L2 wr w2) := by show _ ∧ _; rw [hw2]; exact ⟨hH2, hC2, hA2, hS2⟩
              have c14 : w2.cell? ⟨hb, 14, none⟩ = some (vs2 14) := H2.out.1.cell 14 (by omega) (by omega)
              rw [hw2] at c14
              have HW2 := hide hw2
              clear hB1 hH2 hC2 hA2 hS2 hw2 hownB hgrowB hatB c13
              go_wp2_with (at_builtin; go_must (refine wpList_append_lies _ rfl (.tmp 52) (.tmp 54) 32 rfl 0 3 k0 (.int .i64 0) 1 8 Try.underlying32 hk hk0 hk1 hk2 rfl (by decide) (vs2 14) (A1 5).length ((A1 5).map fun k => Value.int .i64 k.mark) rfl (by rw [← HW2.out]; exact (H2.out.1.fam 5 (by omega)).ownM.alloc _) ⟨w1.heap.size, 0, none⟩ 1 1 [.int .i64 m] (by rfl) rfl (by rw [← HW2.out, ← hs2]; exact news_at w2 #[.int .i64 m] 3) (ints_one _ (by simp)) (by omega) (by unfold maxLen; omega) (by omega) (by omega) _ rfl ?_))
              rw [← HW2.out]
              intro gM cM w3 hownM hgrowM hatM _
              obtain ⟨hH2, hC2, hA2, hS2⟩ := H2.out
              obtain ⟨hB3, L3, vs3, M3, hH3, hC3, hM3, hS3⟩ := hH2.mark (f := 5) (by omega) hC2 hownM hgrowM (by rw [hs2]; exact hatM)
              have f14 := free_of_block hB3 14
              have d14 : w3.cell? ⟨hb, 14, none⟩ = some (vs2 14) := by rw [cell_of_row _ _ _ _ _ _ hB3]; rfl
              obtain ⟨w4, hw4⟩ : ∃ w4, w4 = w3.setCell ⟨hb, 14, none⟩ (.slice (some ⟨gM, 0, none⟩) ((A1 5).length + 1) cM) := ⟨_, rfl⟩
              have hs4 : w4.heap.size = w3.heap.size := by rw [hw4]; simp
              have H4 : Hid (Hnd L3 hb (nA + 1) vs3 A2 A2 w4 ∧ Cur 5 L3 A2 w4 (.slice ad1 (k + j) c1) (k + j) m ∧ Step 5 L1 L3 wr w4) := by
                show _ ∧ _
                rw [hw4]
                exact ⟨by rw [show A2 = M3 from hA2.trans hM3.symm] at hH3 ⊢; exact hH3, hC3, hS2.trans hS3⟩
              have HA2 := hide hA2
              have HW4 := hide hw4
              clear hB3 hH2 hC2 hA2 hS2 hH3 hC3 hM3 hS3 hw4 hownM hgrowM hatM c14 H2 HW2 d13 f13
              go_wp2_with (at_builtin; go_must (refine wpList_append_list rfl (.tmp 58) (.tmp 61) 88 rfl 104 i0 (.agg #[.int .i64 0, .slice none 0 0]) 2 32 Try.underlying88 hi' hz0 hz1 hz2 rfl (by decide) (.slice ad1 (k + j) c1) (k + j) (reps (k + j) (elm 5 m)) rfl (by rw [← HW4.out]; exact H4.out.2.1.own.alloc _) ⟨w3.heap.size, 0, none⟩ 1 1 (elm 5 m) (by rfl) rfl (by rw [← HW4.out, ← hs4]; exact news_at w4 #[.int .i64 m, .slice none 0 0] 104) (elm_one 5 m) (by omega) (by unfold maxLen; omega) (by omega) ?_))
              rw [← HW4.out]
              intro gL cL w5 hownL hgrowL
              obtain ⟨hH4, hC4, hS4⟩ := H4.out
              obtain ⟨L5, hH5, hC5, hS5⟩ := hH4.list (f := 5) (by omega) hC4 (Touch.alloc w4 _) hownL hgrowL
              have H5 : Hid (Keeping 5 wA LA AA (.slice ad k c) hb (nA + 1) k m (j + 1) L5 vs3 A2 (.slice (some ⟨gL, 0, none⟩) (k + j + 1) cL) w5) := HK.out.next (by omega) HA2.out (hS4.trans hS5) hH5 hC5
              clear hH4 hC4 hS4 hH5 hC5 hS5 hownL hgrowL H4 HW4 d14 f14
              go_wp2
              go_roundw
              case rel => exact ⟨j + 1, L5, vs3, A2, by omega, by go_num, H5.out⟩
              case measure => simp [intOf]; omega
            · have HF : Hid (Keeping 5 wA LA AA (.slice ad k c) hb (nA + 1) k m j L1 vs1 A1 (.slice ad1 (k + j) c1) wr) := hK
              clear hK HST
              go_wp2
              go_end0
              obtain ⟨n', L', vs', A', r⟩ := HPOST.out _ _ _ _ _ _ _ hj4 HF.out
              exact ⟨n', L', vs', A', rfl, r⟩
end Go.Proofs.Ytnjlbgolnbdkaaa
