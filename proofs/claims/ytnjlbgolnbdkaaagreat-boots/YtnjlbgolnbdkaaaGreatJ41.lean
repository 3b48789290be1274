/- Texts of the proof of Boots, one behind the other. -/
import Derived.Test.YtnjlbgolnbdkaaaGreatJ39
import Derived.Test.YtnjlbgolnbdkaaaGreatJ40
import Derived.Deep.RegionHeld
/- The law's whole: Log, every Look, the bytes. -/
namespace Go.Proofs.YtnjlbgolnbdkaaaGreat
open Go.RowKit

theorem RefK.low {base base' kb g : Nat} {st : RSt} {w : World} (h : RefK base kb g st w) (hb : base' ≤ base) : RefK base' kb g st w := by
  obtain ⟨h0, vP, vW, vC, vR, vQ, h1, h2, h3, h4⟩ := h
  exact ⟨Nat.le_trans hb h0, vP, vW, vC, vR, vQ, h1, h2.base hb, h3.low hb, h4.low hb⟩
theorem RefK.rows {base kb g : Nat} {st : RSt} {w : World} (h : RefK base kb g st w) : ∃ a c, w.cell? ⟨kb, 6, none⟩ = some (.slice a st.parts.length c) := by
  obtain ⟨_, vP, vW, vC, vR, vQ, hK, _, ⟨l, hl1, hl2, _⟩, _⟩ := h
  obtain ⟨a, c, rfl⟩ := own_slice hl2
  refine ⟨a, c, ?_⟩
  rw [cell_of_row _ _ _ _ _ _ hK, ← hl1, List.length_map]
  rfl
/- all that the law's world holds, once it has booted -/
structure Wd (p : Nat → Value) (L : Nat → Nat) (hb : Nat) (n : Int) (vs : Nat → Value) (A : Nat → List Kept) (kx fx gx kr : Nat) (M : MLay) (st : RSt) (R : Nat → Prop) (bs : List Int) (left res : Int) (dead : Bool) (done : Int) (w : World) : Prop where
  hnd : Hnd p L hb n vs A A w
  p0 : p 0 = .pointer (some ⟨kx, 0, none⟩)
  p1 : p 1 = .pointer (some ⟨fx, 0, none⟩)
  p2 : p 2 = .pointer (some ⟨kr, 0, none⟩)
  p3 : p 3 = .pointer (some ⟨gx, 0, none⟩)
  kern : KernAt w kx M fx st
  kl : ∀ b, KBlk kx M st b → 28 ≤ L b
  ref : Fr R (RefK 0 kr gx st) w
  rl : ∀ b, R b → b < w.heap.size ∧ 28 ≤ L b
  ff : FlashAt w fx bs left res dead done
  fl : 28 ≤ L fx
  gf : FlashAt w gx bs left res dead done
  gl : 28 ≤ L gx
section
variable {p : Nat → Value} {L L' : Nat → Nat} {hb : Nat} {n n' : Int} {vs vs' : Nat → Value} {A A' : Nat → List Kept} {kx fx gx kr : Nat} {M : MLay} {st : RSt} {R : Nat → Prop} {bs : List Int} {left res : Int} {dead : Bool} {done : Int} {w w' : World}
theorem Wd.next (h : Wd p L hb n vs A kx fx gx kr M st R bs left res dead done w) (hh : Hnd p L' hb n' vs' A' A' w') (hL : ∀ k, k < w.heap.size → L' k = L k) (ht : Touch (fun k => L k ≤ 27) w w') : Wd p L' hb n' vs' A' kx fx gx kr M st R bs left res dead done w' := by
  have hk : ∀ b, b < w.heap.size → 28 ≤ L b → w'.heap[b]? = w.heap[b]? := fun b h1 h2 => ht.block b h1 (by omega)
  have hl : ∀ b, b < w.heap.size → 28 ≤ L b → 28 ≤ L' b := fun b h1 h2 => by rw [hL b h1]; exact h2
  exact ⟨hh, h.p0, h.p1, h.p2, h.p3, h.kern.keep2 (fun b hB => hk b (h.kern.lt b hB) (h.kl b hB)), fun b hB => hl b (h.kern.lt b hB) (h.kl b hB), h.ref.keep (fun b hB => hk b (h.rl b hB).1 (h.rl b hB).2), fun b hB => ⟨Nat.lt_of_lt_of_le (h.rl b hB).1 ht.size, hl b (h.rl b hB).1 (h.rl b hB).2⟩, h.ff.keep (hk fx h.ff.lt h.fl), hl fx h.ff.lt h.fl, h.gf.keep (hk gx h.gf.lt h.gl), hl gx h.gf.lt h.gl⟩
theorem Wd.below (h : Wd p L hb n vs A kx fx gx kr M st R bs left res dead done w) (hB : Below w.heap.size w w') : Wd p (fun k => if k < w.heap.size then L k else 100) hb n vs A kx fx gx kr M st R bs left res dead done w' :=
  h.next (h.hnd.fresh hB) (fun k hk => by simp [hk]) (Touch.ofBelow hB)
theorem Wd.cells (h : Wd p L hb n vs A kx fx gx kr M st R bs left res dead done w) : w.cell? ⟨hb, 1, none⟩ = some (.pointer (some ⟨fx, 0, none⟩)) ∧ w.cell? ⟨hb, 2, none⟩ = some (.pointer (some ⟨kr, 0, none⟩)) ∧ w.cell? ⟨hb, 3, none⟩ = some (.pointer (some ⟨gx, 0, none⟩)) ∧ w.cell? ⟨hb, 0, none⟩ = some (.pointer (some ⟨kx, 0, none⟩)) := by
  refine ⟨?_, ?_, ?_, ?_⟩
  · rw [cell_of_row _ _ _ _ _ _ h.hnd.blk, ← h.p1]; rfl
  · rw [cell_of_row _ _ _ _ _ _ h.hnd.blk, ← h.p2]; rfl
  · rw [cell_of_row _ _ _ _ _ _ h.hnd.blk, ← h.p3]; rfl
  · rw [cell_of_row _ _ _ _ _ _ h.hnd.blk, ← h.p0]; rfl
end
theorem conv_own2 {w : World} {base g cap n : Nat} {zs : List Int} (hl : zs.length = n) (h : w.ownsRow base 5 1 (.slice (some ⟨g, 0, none⟩) n cap) n (vals zs)) : (convert 22 9 (.slice (some ⟨g, 0, none⟩) n cap)).run Tryz.prog w = .ok (.string (strOf zs)) w := by
  rw [run_convert_bytes_string w 22 9 5 _ _ _ Tryz.underlying22 Tryz.underlying5 Tryz.underlying9]
  refine run_bytesToString w ⟨g, 0, none⟩ n cap zs ?_
  have := run_loadCells_list (P := Tryz.prog) (w := w) ⟨g, 0, none⟩ (vals zs) (fun j v hv => h.cells rfl j v hv)
  rw [vals_length, hl] at this
  exact this
set_option maxRecDepth 100000 in
set_option maxHeartbeats 8000000 in
theorem lwhole_any (p : Nat → Value) (L : Nat → Nat) (hb : Nat) (n : Int) (vs : Nat → Value) (A : Nat → List Kept) (kx fx gx kr : Nat) (M : MLay) (st : RSt) (R : Nat → Prop) (bs : List Int) (left res : Int) (dead : Bool) (done : Int) (w : World)
    (h : Wd p L hb n vs A kx fx gx kr M st R bs left res dead done w) (h0 : 0 ≤ n) (h1 : n + 20 ≤ 100000000000) (hA : ∀ f, (A f).length + 100 ≤ 100000000000) :
    Calls Tryz.prog 32 #[.pointer (some ⟨hb, 0, none⟩)] w fun e w' => e = .returned (.bool true) ∧ ∃ L' n' vs' A', Wd p L' hb n' vs' A' kx fx gx kr M st R bs left res dead done w' ∧ (0 ≤ n' ∧ n' ≤ n + 20) ∧ (∀ f, (A' f).length ≤ (A f).length + 100) ∧ (∀ k, k < w.heap.size → L' k = L k) ∧ Touch (fun k => L k ≤ 27) w w' := by
  obtain ⟨I, hI⟩ : ∃ I : Nat → World → Prop, I = fun (k : Nat) (W : World) => ∃ L' vs' A', Wd p L' hb (n + 1 + 2 * (k : Int)) vs' A' kx fx gx kr M st R bs left res dead done W ∧ (∀ f, (A' f).length ≤ (A f).length + 4 + 8 * k) ∧ (∀ k, k < w.heap.size → L' k = L k) ∧ Touch (fun k => L k ≤ 27) w W := ⟨_, rfl⟩
  have hfew := h.kern.ok.few
  have HI0 : Hid (Calls Tryz.prog 62 #[.pointer (some ⟨hb, 0, none⟩)] w fun e w' => e = .returned (.bool true) ∧ I 0 w') := (llog_any p L hb n vs A kx fx gx M st bs left res dead done left res dead done w h.hnd h0 (by omega) (fun f => by have := hA f; omega) h.p0 h.p3 h.kern h.ff h.gf).mono (by
    rintro e w' ⟨L', vs', A', rfl, a1, a2, a3, a4⟩
    refine ⟨rfl, ?_⟩
    subst hI
    exact ⟨L', vs', A', h.next (by simpa using a1) a3 a4, fun f => by have := a2 f; omega, a3, a4⟩)
  have HI1 : Hid (∀ k W, k < st.parts.length → I k W → Calls Tryz.prog 63 #[.pointer (some ⟨hb, 0, none⟩), .int .i64 (k : Nat)] W fun e w' => e = .returned (.bool true) ∧ I (k + 1) w') := fun k W hk hi => by
    subst hI
    obtain ⟨L1, vs1, A1, b1, b2, b3, b4⟩ := hi
    refine (llook_yes p L1 hb _ vs1 A1 kx fx gx kr M st bs left res dead done left res dead done k W b1.hnd (by omega) (by omega) (fun f => by have := hA f; have := b2 f; omega) b1.p0 b1.p2 b1.kern b1.ref.here b1.ff b1.gf hk).mono ?_
    rintro e w' ⟨L', vs', A', rfl, a1, a2, a3, a4⟩
    refine ⟨rfl, L', vs', A', b1.next ?_ a3 a4, fun f => ?_, fun j hj => (a3 j (Nat.lt_of_lt_of_le hj b4.size)).trans (b3 j hj), b4.trans a4 (fun i hi => ?_)⟩
    · have : n + 1 + 2 * ((k + 1 : Nat) : Int) = n + 1 + 2 * (k : Int) + 2 := by omega
      rw [this]; exact a1
    · have := a2 f; have := b2 f; omega
    · by_cases hlt : i < w.heap.size
      · rw [b3 i hlt] at hi; exact .inl hi
      · exact .inr (by omega)
  have HIC : Hid (∀ k W, I k W → W.cell? ⟨hb, 2, none⟩ = some (.pointer (some ⟨kr, 0, none⟩)) ∧ ∃ a c, W.cell? ⟨kr, 6, none⟩ = some (.slice a st.parts.length c)) := fun k W hi => by
    subst hI
    obtain ⟨L1, vs1, A1, b1, b2, b3, b4⟩ := hi
    obtain ⟨a, c, hc⟩ := b1.ref.here.rows
    exact ⟨b1.cells.2.1, a, c, hc⟩
  have HIE : Hid (∀ W, I st.parts.length W → (W.cell? ⟨hb, 1, none⟩ = some (.pointer (some ⟨fx, 0, none⟩)) ∧ W.cell? ⟨hb, 3, none⟩ = some (.pointer (some ⟨gx, 0, none⟩)) ∧ FlashAt W fx bs left res dead done ∧ FlashAt W gx bs left res dead done) ∧ ∀ W', Below W.heap.size W W' → ∃ L' n' vs' A', Wd p L' hb n' vs' A' kx fx gx kr M st R bs left res dead done W' ∧ (0 ≤ n' ∧ n' ≤ n + 20) ∧ (∀ f, (A' f).length ≤ (A f).length + 100) ∧ (∀ k, k < w.heap.size → L' k = L k) ∧ Touch (fun k => L k ≤ 27) w W') := fun W hi => by
    subst hI
    obtain ⟨L1, vs1, A1, b1, b2, b3, b4⟩ := hi
    refine ⟨⟨b1.cells.1, b1.cells.2.2.1, b1.ff, b1.gf⟩, fun W' hB => ⟨_, _, _, _, b1.below hB, by omega, fun f => by have := b2 f; omega, fun j hj => ?_, b4.trans (Touch.ofBelow (S := fun _ => False) hB) (fun _ h => h.elim)⟩⟩
    have : j < W.heap.size := Nat.lt_of_lt_of_le hj b4.size
    simp [this, b3 j hj]
  clear hI h hA
  generalize st.parts.length = np at *
  go_enter Tryz.func32, Tryz.ntmps32
  go_wp2_with fail
  refine HI0.out.mono ?_
  rintro e w1 ⟨rfl, hi0⟩
  have HJ0 := hide hi0
  clear hi0 HI0
  go_wp2
  go_loopw [3, 4] (fun t i wr => ∃ k : Nat, k ≤ np ∧ t = .bool true ∧ i = .int .i64 k ∧ Hid (I k wr)) (fun _ i _ => np - (intOf i).toNat)
  case atStart => exact ⟨0, by omega, rfl, rfl, HJ0⟩
  case round =>
    obtain ⟨k, hk, rfl, rfl, hik⟩ := hrel
    obtain ⟨e2, a, c, ec⟩ := HIC.out k wr hik.out
    by_cases hlt : k < np
    · have HC := hide (HI1.out k wr hlt hik.out)
      go_wp2_with fail
      refine HC.out.mono ?_
      rintro e w2 ⟨rfl, hi2⟩
      have HJ2 := hide hi2
      clear hi2
      go_wp2
      go_roundw
      case rel => exact ⟨k + 1, by omega, rfl, by go_num, HJ2⟩
      case measure => simp [intOf]; omega
    · obtain rfl : k = np := by omega
      obtain ⟨⟨c1, c3, hff, hgf⟩, hend⟩ := HIE.out wr hik.out
      obtain ⟨P, hP⟩ : ∃ P : World → Prop, P = fun W => Below wr.heap.size wr W := ⟨_, rfl⟩
      obtain ⟨Q, hQ⟩ : ∃ Q : Nat → Nat → World → Prop, Q = fun x cap W => W.ownsRow 0 5 1 (.slice (some ⟨x, 0, none⟩) 256 cap) 256 (vals bs) := ⟨_, rfl⟩
      have hl1 := lt_of_cell c1
      have HP0 : Hid (P wr) := by subst hP; exact Below.refl _ _
      have HPD : Hid (P wr.drew) := by subst hP; exact (Below.refl _ _).drew
      have HPC : Hid (∀ W, P W → W.cell? ⟨hb, 1, none⟩ = some (.pointer (some ⟨fx, 0, none⟩)) ∧ W.cell? ⟨hb, 3, none⟩ = some (.pointer (some ⟨gx, 0, none⟩))) := fun W h => by
        subst hP
        exact ⟨(h.cell (p := ⟨hb, 1, none⟩) hl1).trans c1, (h.cell (p := ⟨hb, 3, none⟩) hl1).trans c3⟩
      have HQC : Hid (∀ x cap W, Q x cap W → (convert 22 9 (.slice (some ⟨x, 0, none⟩) 256 cap)).run Tryz.prog W = .ok (.string (strOf bs)) W) := fun x cap W h => by
        subst hQ
        exact conv_own2 hff.len h
      have HBY : Hid (∀ y W, y = fx ∨ y = gx → P W → Calls Tryz.prog 35 #[.pointer (some ⟨y, 0, none⟩)] W fun e w' => ∃ x cap, e = .returned (.slice (some ⟨x, 0, none⟩) 256 cap) ∧ P w' ∧ Q x cap w' ∧ ∀ a c, Q a c W → Q a c w') := fun y W hy h => by
        subst hP
        subst hQ
        have hF : FlashAt W y bs left res dead done := by rcases hy with rfl | rfl; exact hff.below h; exact hgf.below h
        refine (bytes_any y bs left res dead done W hF).mono ?_
        rintro e w' ⟨x, cap, rfl, h1, h2⟩
        exact ⟨x, cap, rfl, h.trans (h2.mono h.size), own_low h1 (Nat.zero_le _), fun a c hq => own_keep hq (fun b e => h2.block b (World.ownsRow.lt hq b e).2)⟩
      have HDN : Hid (∀ y W, y = fx ∨ y = gx → P W → Calls Tryz.prog 64 #[.pointer (some ⟨y, 0, none⟩)] W fun e w' => e = .returned (.int .i64 done) ∧ w' = W) := fun y W hy h => by
        subst hP
        have hF : FlashAt W y bs left res dead done := by rcases hy with rfl | rfl; exact hff.below h; exact hgf.below h
        exact done_any y bs left res dead done W hF
      have HEND : Hid (∀ W, P W → ∃ L' n' vs' A', Wd p L' hb n' vs' A' kx fx gx kr M st R bs left res dead done W ∧ (0 ≤ n' ∧ n' ≤ n + 20) ∧ (∀ f, (A' f).length ≤ (A f).length + 100) ∧ (∀ k, k < w.heap.size → L' k = L k) ∧ Touch (fun k => L k ≤ 27) w W) := fun W h => by
        subst hP
        exact hend W h
      have hdd : (done == done) = true := by simp
      generalize strOf bs = S at *
      clear hP hQ hff hgf hend hik HIE HIC HI1 HJ0
      go_wp2_with fail
      go_cut [2] from 25 to 54 (fun s wx => s = .bool true ∧ P wx)
      case first =>
        go_region_held (fun W : World => W.cell? ⟨hb, 1, none⟩ = some (.pointer (some ⟨fx, 0, none⟩)) ∧ W.cell? ⟨hb, 3, none⟩ = some (.pointer (some ⟨gx, 0, none⟩)))
          ((first | exact ⟨c1, c3⟩ | assumption))
          (first
          | (go_at_call 35; refine (HBY.out _ _ (by first | exact .inl rfl | exact .inr rfl) (by first | assumption | exact HPD.out)).mono ?_; rintro e w' ⟨x, cap, rfl, hp', hq', hqq⟩; have hS := HPC.out _ hp'; have hcv := HQC.out _ _ _ hq'; try (have hcv2 := HQC.out _ _ _ (hqq _ _ (by assumption))))
          | (go_at_call 64; refine (HDN.out _ _ (by first | exact .inl rfl | exact .inr rfl) (by first | assumption | exact HPD.out)).mono ?_; rintro e w' ⟨rfl, hw'⟩; obtain rfl := hw'.symm))
        all_goals (go_wp2_with fail; go_meet; exact ⟨by first | rfl | simp, by assumption⟩)
      case rest =>
        obtain ⟨rfl, hp⟩ := hcut
        go_wp2
        go_ret
        exact ⟨rfl, HEND.out _ hp⟩
end Go.Proofs.YtnjlbgolnbdkaaaGreat
