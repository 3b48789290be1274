/- Texts of the proof of Boots, one behind the other. -/
import Derived.Test.YtnjlbgolnbdkaaaGreatJ31
import Derived.Test.YtnjlbgolnbdkaaaGreatJ32
import Derived.Test.YtnjlbgolnbdkaaaGreatJ17
import Derived.Test.YtnjlbgolnbdkaaaGreatJ29
/- The law's log: what Log answers is what the document says; the list is kept. -/
namespace Go.Proofs.YtnjlbgolnbdkaaaGreat
open Go.RowKit

/- what holds by some blocks alone -/
def Fr (R : Nat → Prop) (F : World → Prop) (w : World) : Prop := ∀ w' : World, (∀ b, R b → w'.heap[b]? = w.heap[b]?) → F w'
theorem Fr.here {R : Nat → Prop} {F : World → Prop} {w : World} (h : Fr R F w) : F w := h w (fun _ _ => rfl)
theorem Fr.keep {R : Nat → Prop} {F : World → Prop} {w w' : World} (h : Fr R F w) (hk : ∀ b, R b → w'.heap[b]? = w.heap[b]?) : Fr R F w' := fun w2 h2 => h w2 (fun b hb => (h2 b hb).trans (hk b hb))
theorem Hnd.fresh {p : Nat → Value} {L : Nat → Nat} {hb : Nat} {n : Int} {vs : Nat → Value} {A M : Nat → List Kept} {w w' : World} (h : Hnd p L hb n vs A M w) (hB : Below w.heap.size w w') : Hnd p (fun k => if k < w.heap.size then L k else 100) hb n vs A M w' :=
  (h.relabel (L' := fun k => if k < w.heap.size then L k else 100) (fun k hk _ => by simp [hk])).touch (S := fun _ => False) (Touch.ofBelow hB) (fun _ _ hs => hs.elim)
/- a list that came out anew, kept: what that does -/
theorem kept_frame {L L' : Nat → Nat} {f : Nat} {v : Value} {w w2 w' : World} (hB : Below w.heap.size w w2) (hv : ∀ b, v.ownBlock = some b → w.heap.size ≤ b) (hL : ∀ k, k < w2.heap.size → L' k = lab1 (fun k => if k < w.heap.size then L k else 100) f v k) (ht : Touch (fun k => (if k < w.heap.size then L k else 100) ≤ 27 ∨ v.ownBlock = some k) w2 w') : (∀ k, k < w.heap.size → L' k = L k) ∧ Touch (fun k => L k ≤ 27) w w' := by
  refine ⟨fun k hk => ?_, Touch.trans (Touch.ofBelow hB) ht (fun i hi => ?_)⟩
  · rw [hL k (Nat.lt_of_lt_of_le hk hB.size)]
    unfold lab1
    rw [if_neg (fun e => by have := hv k e; omega)]
    simp [hk]
  · rcases hi with hi | hi
    · by_cases hlt : i < w.heap.size
      · rw [if_pos hlt] at hi
        exact .inl hi
      · exact .inr (by omega)
    · exact .inr (hv i hi)
set_option maxRecDepth 100000 in
set_option maxHeartbeats 8000000 in
theorem llog_any (p : Nat → Value) (L : Nat → Nat) (hb : Nat) (n : Int) (vs : Nat → Value) (A : Nat → List Kept) (kx fx gx : Nat) (M : MLay) (st : RSt) (bs : List Int) (left res : Int) (dead : Bool) (done : Int) (left' res' : Int) (dead' : Bool) (done' : Int) (w : World)
    (h : Hnd p L hb n vs A A w) (h0 : 0 ≤ n) (h1 : n ≤ 100000000000) (hA : ∀ f, (A f).length ≤ 100000000000) (p0 : p 0 = .pointer (some ⟨kx, 0, none⟩)) (p3 : p 3 = .pointer (some ⟨gx, 0, none⟩)) (hk : KernAt w kx M fx st) (hf : FlashAt w fx bs left res dead done) (hg : FlashAt w gx bs left' res' dead' done') :
    Calls Tryz.prog 62 #[.pointer (some ⟨hb, 0, none⟩)] w fun e w' => ∃ L' vs' A', e = .returned (.bool true) ∧ Hnd p L' hb (n + 1) vs' A' A' w' ∧ (∀ f, (A' f).length ≤ (A f).length + 4) ∧ (∀ k, k < w.heap.size → L' k = L k) ∧ Touch (fun k => L k ≤ 27) w w' := by
  have c0 : w.cell? ⟨hb, 0, none⟩ = some (.pointer (some ⟨kx, 0, none⟩)) := by rw [cell_of_row _ _ _ _ _ _ h.blk, ← p0]; rfl
  have c3 : w.cell? ⟨hb, 3, none⟩ = some (.pointer (some ⟨gx, 0, none⟩)) := by rw [cell_of_row _ _ _ _ _ _ h.blk, ← p3]; rfl
  have hlb := lt_of_cell c0
  have HL1 := hide (klog_any kx M fx st bs left res dead done w hk hf)
  have HL2 : Hid (∀ W, Below w.heap.size w W → Calls Tryz.prog 97 #[.pointer (some ⟨gx, 0, none⟩)] W fun e w' => ∃ v, e = .returned v ∧ (RecsV W.heap.size v (logOf bs) w' ∧ (logOf bs = [] → v = .slice none 0 0)) ∧ Below W.heap.size W w') := fun W hW => rlog_any gx bs left' res' dead' done' W (hg.below hW)
  have HH := hide h
  have hll := logOf_le bs
  clear h hk hf hg p0 p3
  generalize logOf bs = lg at *
  go_enter Tryz.func62, Tryz.ntmps62
  go_wp2_with fail
  refine HL1.out.mono ?_
  rintro e w1 ⟨v1, rfl, ⟨hV1, _⟩, hb1⟩
  have d3 := (hb1.cell (p := ⟨hb, 3, none⟩) hlb).trans c3
  have HL2' := hide (HL2.out w1 hb1)
  have HB1 := hide hb1
  have HV1 := hide hV1
  obtain ⟨ad1, k1, rfl⟩ := own_slice hV1
  clear hb1 hV1 HL1 HL2 c0 c3
  go_wp2_with fail
  refine HL2'.out.mono ?_
  rintro e w2 ⟨v2, rfl, ⟨hV2, _⟩, hb2⟩
  obtain ⟨ad2, k2, hv2, hrd2⟩ := recs_read2 hV2
  subst hv2
  have hV1' : RecsV w.heap.size (.slice ad1 lg.length k1) lg w2 := own_keep HV1.out (fun b e => hb2.block b (World.ownsRow.lt HV1.out b e).2)
  obtain ⟨ad1', k1', hv1, hrd1⟩ := recs_read2 hV1'
  obtain ⟨rfl, _, rfl⟩ := Value.slice.inj hv1
  have HB2 : Hid (Below w.heap.size w w2) := HB1.out.trans (hb2.mono HB1.out.size)
  have HV1' := hide hV1'
  have HRD1 := hide hrd1
  have HRD2 := hide hrd2
  clear hv1 hV1' hV2 hb2 hrd1 hrd2 HL2'
  generalize hN : lg.length = N at *
  have HN := hide hN
  clear hN
  have heq : ((N : Int) == (N : Int)) = true := by simp
  go_wp2
  go_loopw [5, 6] (fun o t wr => ∃ k q : Nat, k ≤ N ∧ t = .int .i64 k ∧ o = .bool true ∧ wr = w2.drewN q) (fun _ t _ => N - (intOf t).toNat)
  case atStart => exact ⟨0, 0, by omega, rfl, rfl, rfl⟩
  case round =>
    obtain ⟨k, q, hk, rfl, rfl, rfl⟩ := hrel
    by_cases hlt : k < N
    · obtain ⟨r, hr⟩ : ∃ r, lg[k]? = some r := ⟨lg[k]'(by rw [HN.out]; exact hlt), List.getElem?_eq_getElem _⟩
      obtain ⟨g1, e1, _, x0, x1, x2, x3, x4⟩ := HRD1.out k r hr
      obtain ⟨g2, e2, _, y0, y1, y2, y3, y4⟩ := HRD2.out k r hr
      subst e1
      subst e2
      clear hr
      generalize r 0 = r0 at *
      generalize r 1 = r1 at *
      generalize r 2 = r2 at *
      generalize r 3 = r3 at *
      generalize r 4 = r4 at *
      go_wp2_with fail
      go_quiet (fail)
      go_wp2
      exact ⟨⟨k + 1, q + nq, by omega, by go_num, rfl, rfl⟩, by simp [intOf]; omega⟩
    · obtain rfl : k = N := by omega
      have hB : Below w.heap.size w (w2.drewN q) := below_drewN HB2.out q
      have hV : (w2.drewN q).ownsRow 0 52 5 (.slice ad1 k k1) k (recsCells lg) := by
        have := HV1'.out
        unfold RecsV at this
        rw [HN.out] at this
        exact own_low this (Nat.zero_le _)
      have hvb : ∀ b, (Value.slice ad1 k k1).ownBlock = some b → w.heap.size ≤ b := fun b e => (World.ownsRow.lt HV1'.out b e).1
      have HK := hide (keepRecords_any p hb n vs _ A (.slice ad1 k k1) k (recsCells lg) (w2.drewN q) (HH.out.fresh hB) hV (fun b e => by have := hvb b e; rw [if_neg (by omega)]; omega) (by omega) h0 h1 hA)
      have HB := hide hB
      have HVB := hide hvb
      clear hB hV hvb
      go_wp2_with fail
      refine HK.out.mono ?_
      rintro e w4 ⟨L', vs', A', rfl, hH, hAl, hL, ht⟩
      have HE : Hid (Hnd p L' hb (n + 1) vs' A' A' w4 ∧ (∀ f, (A' f).length ≤ (A f).length + 4) ∧ (∀ k, k < w.heap.size → L' k = L k) ∧ Touch (fun k => L k ≤ 27) w w4) := ⟨hH, hAl, kept_frame HB.out HVB.out hL ht⟩
      clear hH hAl hL ht HK
      go_wp2
      go_ret
      exact ⟨L', vs', A', rfl, HE.out⟩
end Go.Proofs.YtnjlbgolnbdkaaaGreat
