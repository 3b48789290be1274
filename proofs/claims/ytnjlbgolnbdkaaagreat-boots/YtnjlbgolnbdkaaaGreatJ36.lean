/- Texts of the proof of Boots, one behind the other. -/
import Derived.Test.YtnjlbgolnbdkaaaGreatJ09
/- The hands: keepInts. -/
namespace Go.Proofs.YtnjlbgolnbdkaaaGreat
open Go.RowKit

set_option maxRecDepth 100000 in
set_option maxHeartbeats 4000000 in
theorem keepInts_any (p : Nat → Value) (hb : Nat) (n : Int) (vs : Nat → Value) (L : Nat → Nat) (A : Nat → List Kept) (v : Value) (N : Nat) (xs : List Value) (w : World)
    (h : Hnd p L hb n vs A A w) (hV : w.ownsRow 0 3 1 v N xs) (hLv : ∀ b, v.ownBlock = some b → 100 ≤ L b) (hN : N ≤ 1000) (h0 : 0 ≤ n) (h1 : n ≤ 100000000000) (hA : ∀ f, (A f).length ≤ 100000000000) :
    Calls Tryz.prog 100 #[.pointer (some ⟨hb, 5, none⟩), v] w fun e w' => ∃ L' vs' A', e = .returned (.tuple #[]) ∧ Hnd p L' hb (n + 1) vs' A' A' w' ∧ (∀ f, (A' f).length ≤ (A f).length + 4) ∧ (∀ k, k < w.heap.size → L' k = lab1 L 1 v k) ∧ Touch (fun k => L k ≤ 27 ∨ v.ownBlock = some k) w w' := by
  obtain ⟨i0, hi, hz0, hz1, hz2⟩ := info_parts Tryz.info3
  obtain ⟨j0, hj, hj0, hj1, hj2⟩ := info_parts Tryz.info40
  obtain ⟨k0, hk, hk0, hk1, hk2⟩ := info_parts Tryz.info3
  obtain ⟨ad, c, rfl⟩ := own_slice hV
  have HH := hide h
  have HV := hide hV
  have HLV := hide hLv
  have HA := hide hA
  have hLb := h.lab
  clear h hV hLv hA
  go_enter Tryz.func100, Tryz.ntmps100
  go_wp2_with fail
  refine (mark_big p hb _ _ n vs w HH.out.blk h0 (by omega)).mono ?_
  rintro e w1 ⟨rfl, hB1, hT1⟩
  have HT1 := hide hT1
  have H1 : Hid (Hnd p L hb (n + 1) vs A A w1) := ⟨hB1, hLb, HH.out.fam.touch hT1 (fun k _ hk => .inl (by rw [hk]; exact hLb))⟩
  have HV1 : Hid (w1.ownsRow 0 3 1 (.slice ad N c) N xs) := own_keep HV.out (fun b e => hT1.block b (World.ownsRow.lt HV.out b e).2 (fun hh => by have := HLV.out b e; rw [hh, hLb] at this; omega))
  clear hB1 hT1
  go_wp2
  generalize (-77000000 - (n + 1)) = m
  go_loopw [5] (fun i wr => ∃ (k : Nat), k ≤ N ∧ i = .int .i64 k ∧ Fill 1 w1 (.slice ad N c) N m k wr) (fun i _ => N - (intOf i).toNat)
  case atStart => exact ⟨0, by omega, rfl, Fill.start HV1.out⟩
  case round =>
    obtain ⟨k, hk', rfl, hF⟩ := hrel
    by_cases hlt : k < N
    · obtain ⟨g, u, rfl, hcc, hff⟩ := hF.at hlt
      have cc0 : wr.cell? ⟨g, k, none⟩ = some (u 0) := by have := hcc 0 (by decide); simpa [esz] using this
      have ff0 := hff (k)
      have HF := hide hF
      clear hF hcc hff
      go_wp2
      go_roundw
      case rel => exact ⟨k + 1, by omega, by go_num, by have := HF.out.step hlt; simpa [esz, setW, elm] using this⟩
      case measure => simp [intOf]; omega
    · obtain rfl : k = N := by omega
      have HST : Hid (∃ L' vs' A', Keeping p 1 w L A (.slice ad k c) hb (n + 1) k m 0 L' vs' A' (.slice ad k c) wr) := by
        obtain ⟨hH, hC⟩ := Hnd.begin (f := 1) (by omega) H1.out HLV.out hF
        exact ⟨_, _, _, hH, hC, fun i => by simp, fun _ _ => rfl, Touch.trans (HT1.out.mono (fun k hk => .inl (by rw [hk, hLb]; omega))) hF.t (fun i hi => .inl (.inr hi))⟩
      clear hF HV1 H1 HT1 HV HH
      go_wp2
      go_loopw [1, 6] (fun v i wq => ∃ (j : Nat) (L' : Nat → Nat) (vs' : Nat → Value) (A' : Nat → List Kept), j ≤ 4 ∧ i = .int .i64 j ∧ Keeping p 1 w L A (.slice ad k c) hb (n + 1) k m j L' vs' A' v wq) (fun _ i _ => 4 - (intOf i).toNat)
      case atStart =>
        obtain ⟨L', vs', A', hk⟩ := HST.out
        exact ⟨0, L', vs', A', by omega, rfl, hk⟩
      case round =>
        obtain ⟨j, L1, vs1, A1, hj4, rfl, hK⟩ := hrel
        obtain ⟨ad1, c1, hv1⟩ := own_slice hK.c.own
        subst hv1
        have hl6 : (A1 1).length ≤ 100000000010 := by have := hK.len 1; have := HA.out 1; simp at *; omega
        by_cases hlt : j < 4
        · have c5 := (show wr.cell? ⟨hb, 10, none⟩ = some (vs1 5) from hK.h.cell 5 (by omega) (by omega))
          have HK := hide hK
          clear hK HST
          go_wp2_with (at_builtin; go_must (refine wpList_append_lies _ rfl (.tmp 27) (.tmp 29) 83 rfl 0 40 j0 (.slice none 0 0) 1 24 Tryz.underlying83 hj hj0 hj1 hj2 rfl (by decide) (vs1 5) (A1 1).length ((A1 1).map Kept.v) rfl ((HK.out.h.fam 1 (by omega)).own.alloc _) ⟨wr.heap.size, 0, none⟩ 1 1 [.slice ad1 (k + j) c1] (by rfl) rfl (news_at wr #[.slice ad1 (k + j) c1] 40) (slice_one _ _ _ _ rfl) (by omega) (by unfold maxLen; omega) (by omega) (by omega) _ rfl ?_))
          intro gB cB w1 hownB hgrowB hatB _
          obtain ⟨hB1, L2, vs2, A2, hH2, hC2, hA2, hS2⟩ := HK.out.h.row (f := 1) (by omega) HK.out.c (by omega) hownB hgrowB hatB
          have f5 := free_of_block hB1 10
          have d5 : w1.cell? ⟨hb, 10, none⟩ = some (vs1 5) := by rw [cell_of_row _ _ _ _ _ _ hB1]; rfl
          obtain ⟨w2, hw2⟩ : ∃ w2, w2 = w1.setCell ⟨hb, 10, none⟩ (.slice (some ⟨gB, 0, none⟩) ((A1 1).length + 1) cB) := ⟨_, rfl⟩
          have hs2 : w2.heap.size = w1.heap.size := by rw [hw2]; simp
          have H2 : Hid (Hnd p L2 hb (n + 1) vs2 A2 A1 w2 ∧ Cur 1 L2 A2 w2 (.slice ad1 (k + j) c1) (k + j) m ∧ A2 = updL A1 1 (A1 1 ++ [⟨.slice ad1 (k + j) c1, m⟩]) ∧ Step 1 L1 L2 wr w2) := by show _ ∧ _; rw [hw2]; exact ⟨hH2, hC2, hA2, hS2⟩
          have c6 : w2.cell? ⟨hb, 11, none⟩ = some (vs2 6) := H2.out.1.cell 6 (by omega) (by omega)
          rw [hw2] at c6
          have HW2 := hide hw2
          clear hB1 hH2 hC2 hA2 hS2 hw2 hownB hgrowB hatB c5
          go_wp2_with (at_builtin; go_must (refine wpList_append_lies _ rfl (.tmp 37) (.tmp 39) 40 rfl 0 3 k0 (.int .i64 0) 1 8 Tryz.underlying40 hk hk0 hk1 hk2 rfl (by decide) (vs2 6) (A1 1).length ((A1 1).map fun k => Value.int .i64 k.mark) rfl (by rw [← HW2.out]; exact (H2.out.1.fam 1 (by omega)).ownM.alloc _) ⟨w1.heap.size, 0, none⟩ 1 1 [.int .i64 m] (by rfl) rfl (by rw [← HW2.out, ← hs2]; exact news_at w2 #[.int .i64 m] 3) (ints_one _ (by simp)) (by omega) (by unfold maxLen; omega) (by omega) (by omega) _ rfl ?_))
          rw [← HW2.out]
          intro gM cM w3 hownM hgrowM hatM _
          obtain ⟨hH2, hC2, hA2, hS2⟩ := H2.out
          obtain ⟨hB3, L3, vs3, M3, hH3, hC3, hM3, hS3⟩ := hH2.mark (f := 1) (by omega) hC2 hownM hgrowM (by rw [hs2]; exact hatM)
          have f6 := free_of_block hB3 11
          have d6 : w3.cell? ⟨hb, 11, none⟩ = some (vs2 6) := by rw [cell_of_row _ _ _ _ _ _ hB3]; rfl
          obtain ⟨w4, hw4⟩ : ∃ w4, w4 = w3.setCell ⟨hb, 11, none⟩ (.slice (some ⟨gM, 0, none⟩) ((A1 1).length + 1) cM) := ⟨_, rfl⟩
          have hs4 : w4.heap.size = w3.heap.size := by rw [hw4]; simp
          have H4 : Hid (Hnd p L3 hb (n + 1) vs3 A2 A2 w4 ∧ Cur 1 L3 A2 w4 (.slice ad1 (k + j) c1) (k + j) m ∧ Step 1 L1 L3 wr w4) := by
            show _ ∧ _
            rw [hw4]
            exact ⟨by rw [show A2 = M3 from hA2.trans hM3.symm] at hH3 ⊢; exact hH3, hC3, hS2.trans hS3⟩
          have HA2 := hide hA2
          have HW4 := hide hw4
          clear hB3 hH2 hC2 hA2 hS2 hH3 hC3 hM3 hS3 hw4 hownM hgrowM hatM c6 H2 HW2 d5 f5
          go_wp2_with (at_builtin; go_must (refine wpList_append_list rfl (.tmp 43) (.tmp 45) 40 rfl 3 i0 (.int .i64 0) 1 8 Tryz.underlying40 hi hz0 hz1 hz2 rfl (by decide) (.slice ad1 (k + j) c1) (k + j) (reps (k + j) (elm 1 m)) rfl (by rw [← HW4.out]; exact H4.out.2.1.own.alloc _) ⟨w3.heap.size, 0, none⟩ 1 1 (elm 1 m) (by rfl) rfl (by rw [← HW4.out, ← hs4]; exact news_at w4 #[.int .i64 m] 3) (elm_one 1 m) (by omega) (by unfold maxLen; omega) (by omega) ?_))
          rw [← HW4.out]
          intro gL cL w5 hownL hgrowL
          obtain ⟨hH4, hC4, hS4⟩ := H4.out
          obtain ⟨L5, hH5, hC5, hS5⟩ := hH4.list (f := 1) (by omega) hC4 (Touch.alloc w4 _) hownL hgrowL
          have H5 : Hid (Keeping p 1 w L A (.slice ad k c) hb (n + 1) k m (j + 1) L5 vs3 A2 (.slice (some ⟨gL, 0, none⟩) (k + j + 1) cL) w5) := HK.out.next (by omega) HA2.out (hS4.trans hS5) hH5 hC5
          clear hH4 hC4 hS4 hH5 hC5 hS5 hownL hgrowL H4 HW4 d6 f6
          go_wp2
          go_roundw
          case rel => exact ⟨j + 1, L5, vs3, A2, by omega, by go_num, H5.out⟩
          case measure => simp [intOf]; omega
        · have HF : Hid (Keeping p 1 w L A (.slice ad k c) hb (n + 1) k m j L1 vs1 A1 (.slice ad1 (k + j) c1) wr) := hK
          clear hK HST
          go_wp2
          go_end0
          exact ⟨L1, vs1, A1, rfl, HF.out.h, fun f => by have := HF.out.len f; split at this <;> omega, HF.out.lab, HF.out.t⟩
end Go.Proofs.YtnjlbgolnbdkaaaGreat
