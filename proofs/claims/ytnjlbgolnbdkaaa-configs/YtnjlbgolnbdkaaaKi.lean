/- The statement Configs: the walk. -/
import Derived.Test.YtnjlbgolnbdkaaaKh
namespace Go.Proofs.Ytnjlbgolnbdkaaa
open Go.RowKit

theorem handsC_new (w : World) : HandsC w.heap.size w.heap.size 0 0 (w.alloc (.cells (handCells (.slice none 0 0) (.slice none 0 0) 0 (fun _ => .slice none 0 0)) 41)) := by
  refine ⟨Nat.le_refl _, fun k => if k = w.heap.size then 0 else 100, fun _ => .slice none 0 0, fun _ => [], ⟨heap_alloc_new w _, by simp, fun f _ => ?_⟩, fun k hk => by show 100 ≤ (if k = w.heap.size then 0 else 100); rw [if_neg (by omega)]; omega, fun _ => Nat.le_refl _⟩
  exact ⟨World.ownsRow_nil _ _ _ _, fun b e => by simp [Value.ownBlock] at e, World.ownsRow_nil _ _ _ _, fun b e => by simp [Value.ownBlock] at e, fun k hk => by simp at hk⟩
theorem held_new (w : World) (zs : List Int) (n : Nat) (hl : zs.length = n) (hn : n ≤ 9223372036854775807) (hb : Bytes zs) : Held (w.alloc (.cells (vals zs).toArray 5)) (some ⟨w.heap.size, 0, none⟩) n n zs := by
  refine ⟨hl, Nat.le_refl _, hn, hb, fun h => by simp at h, fun ad e j u hu => ?_, fun ad e _ => ?_⟩
  · obtain rfl : ⟨w.heap.size, 0, none⟩ = ad := by simpa using e
    exact news_at w (vals zs).toArray 5 j u hu
  · obtain rfl : ⟨w.heap.size, 0, none⟩ = ad := by simpa using e
    simp
theorem two_bytes : Bytes [72, 0] := by
  intro z hz
  simp at hz
  omega

set_option maxRecDepth 100000 in
set_option maxHeartbeats 4000000 in
theorem configs_walk (ab : Option Addr) (nb cb : Nat) (zb : List Int) (ac : Option Addr) (nc cc : Nat) (zc : List Int) (w : World)
    (hzb : Held w ab nb cb zb) (hnb : nb ≤ 140737488351232) (hzc : Held w ac nc cc zc) (hnc : nc ≤ 140737488351232) :
    Calls Try.prog 4 #[.slice ab nb cb, .slice ac nc cc] w fun e w' => e = .returned (.bool true) ∧ Below w.heap.size w w' := by
  have H0 : Hid (∀ W, Below w.heap.size w W → Held W ab nb cb zb ∧ Held W ac nc cc zc) := fun W hW => ⟨hzb.touch (Touch.ofBelow (S := fun _ => False) hW) (fun _ _ _ => id), hzc.touch (Touch.ofBelow (S := fun _ => False) hW) (fun _ _ _ => id)⟩
  have HN : Hid ((∀ ad, ab = some ad → 0 < nb → ad.block ≠ w.heap.size) ∧ (∀ ad, ac = some ad → 0 < nc → ad.block ≠ w.heap.size)) := ⟨fun ad e h => by have := hzb.lt ad e h; omega, fun ad e h => by have := hzc.lt ad e h; omega⟩
  have HH1 := hide (handsC_new w)
  have HPG : Hid (∀ W : World, Calls Try.prog 10 #[.slice (some ⟨W.heap.size, 0, none⟩) 2 2] (W.alloc (.cells (vals [72, 0]).toArray 5)) fun e w' => ∃ adP mP cP adW mW cW adC mC cC, e = .returned (.tuple #[.agg #[.int .i64 0, .int .i64 0, .slice adP mP cP, .slice adW mW cW, .slice adC mC cC], .int .i64 1, .int .i64 3]) ∧ Below (W.heap.size + 1) (W.alloc (.cells (vals [72, 0]).toArray 5)) w') := by
    intro W
    have := pgbulwark_any (some ⟨W.heap.size, 0, none⟩) 2 2 [72, 0] (W.alloc (.cells (vals [72, 0]).toArray 5)) (held_new W [72, 0] 2 rfl (by omega) two_bytes) (by omega)
    rw [parse_same, parse_two] at this
    refine this.mono ?_
    rintro e w' ⟨adP, mP, cP, adW, mW, cW, adC, mC, cC, he, _, hb⟩
    exact ⟨adP, mP, cP, adW, mW, cW, adC, mC, cC, he, by simpa using hb⟩
  have HP1 : Hid (Calls Try.prog 10 #[.slice (some ⟨w.heap.size + 1, 0, none⟩) 2 2] ((w.alloc (.cells (handCells (.slice none 0 0) (.slice none 0 0) 0 (fun _ => .slice none 0 0)) 41)).alloc (.cells (vals [72, 0]).toArray 5)) fun e w' => ∃ adP mP cP adW mW cW adC mC cC, e = .returned (.tuple #[.agg #[.int .i64 0, .int .i64 0, .slice adP mP cP, .slice adW mW cW, .slice adC mC cC], .int .i64 1, .int .i64 3]) ∧ HandsC w.heap.size w.heap.size 0 0 (w'.alloc (confObj 0 0 (.slice adP mP cP) (.slice adW mW cW) (.slice adC mC cC))) ∧ Below w.heap.size w (w'.alloc (confObj 0 0 (.slice adP mP cP) (.slice adW mW cW) (.slice adC mC cC)))) := by
    have h1 := HPG.out (w.alloc (.cells (handCells (.slice none 0 0) (.slice none 0 0) 0 (fun _ => .slice none 0 0)) 41))
    have hsz : (w.alloc (.cells (handCells (.slice none 0 0) (.slice none 0 0) 0 (fun _ => .slice none 0 0)) 41)).heap.size = w.heap.size + 1 := by simp
    have hH1 := HH1.out
    have hB1 : Below w.heap.size w (w.alloc (.cells (handCells (.slice none 0 0) (.slice none 0 0) 0 (fun _ => .slice none 0 0)) 41)) := (Below.refl _ _).alloc (Nat.le_refl _) _
    generalize w.alloc (.cells (handCells (.slice none 0 0) (.slice none 0 0) 0 (fun _ => .slice none 0 0)) 41) = W at h1 hsz hH1 hB1 ⊢
    rw [hsz] at h1
    refine h1.mono ?_
    rintro e w' ⟨adP, mP, cP, adW, mW, cW, adC, mC, cC, he, hb⟩
    have hsz2 : (W.alloc (.cells (vals [72, 0]).toArray 5)).heap.size = W.heap.size + 1 := by simp
    have hs' := hb.size
    have b1 : Below W.heap.size W (W.alloc (.cells (vals [72, 0]).toArray 5)) := (Below.refl _ _).alloc (Nat.le_refl _) _
    have b2 : Below W.heap.size W w' := b1.trans (hb.mono (by omega))
    have b3 : Below W.heap.size W (w'.alloc (confObj 0 0 (.slice adP mP cP) (.slice adW mW cW) (.slice adC mC cC))) := b2.alloc b2.size _
    exact ⟨adP, mP, cP, adW, mW, cW, adC, mC, cC, he, hH1.below b3, hB1.trans (b3.mono hB1.size)⟩
  have HRB : Hid (∀ W : World, w.heap.size < W.heap.size → Held (W.alloc (.cells (vals raiserBytes).toArray 5)) (some ⟨W.heap.size, 0, none⟩) 27 27 raiserBytes ∧ ∀ ad, (some ⟨W.heap.size, 0, none⟩ : Option Addr) = some ad → 0 < 27 → ad.block ≠ w.heap.size) := fun W hW => ⟨held_new W raiserBytes 27 rfl (by omega) raiser_bytes, fun ad e _ => by obtain rfl : ⟨W.heap.size, 0, none⟩ = ad := (by simpa using e); show W.heap.size ≠ w.heap.size; omega⟩
  clear hzb hzc HPG HH1
  go_enter Try.func4, Try.ntmps4
  go_wp2_with fail
  refine HP1.out.mono ?_
  rintro e w2 ⟨adP, mP, cP, adW, mW, cW, adC, mC, cC, rfl, hH2, hb2⟩
  have HH2 := hide hH2
  have HB2 := hide hb2
  clear hH2 hb2 HP1
  go_wp2_with fail
  refine (parsed_any w.heap.size w.heap.size 0 0 ab nb cb zb _ HH2.out (by omega) (by omega) (by omega) (H0.out _ HB2.out).1 hnb HN.out.1).mono ?_
  rintro e wA ⟨rfl, ⟨n1, hn1, hHA⟩, hbA⟩
  have HHA := hide hHA
  have HBA : Hid (Below w.heap.size w wA) := HB2.out.trans hbA
  clear hHA hbA HH2 HB2
  go_wp2_with fail
  refine (parsed_any w.heap.size w.heap.size n1 _ ac nc cc zc _ HHA.out (by omega) (by omega) (by omega) (H0.out _ HBA.out).2 hnc HN.out.2).mono ?_
  rintro e wB ⟨rfl, ⟨n2, hn2, hHB⟩, hbB⟩
  have HHB := hide hHB
  have HBB : Hid (Below w.heap.size w wB) := HBA.out.trans hbB
  clear hHB hbB HHA HBA
  go_wp2_with fail
  refine (parsed_any w.heap.size w.heap.size n2 _ ab nb cb zb _ HHB.out (by omega) (by omega) (by omega) (H0.out _ HBB.out).1 hnb HN.out.1).mono ?_
  rintro e wC ⟨rfl, ⟨n3, hn3, hHC⟩, hbC⟩
  have HHC := hide hHC
  have HBC : Hid (Below w.heap.size w wC) := HBB.out.trans hbC
  clear hHC hbC HHB HBB
  have hsC : w.heap.size < wC.heap.size := by
    obtain ⟨_, _, _, _, h, _⟩ := HHC.out
    exact lt_of_block h.blk
  have HHD : Hid (HandsC w.heap.size w.heap.size n3 (0 + 3000 + 3000 + 3000) (wC.alloc (.cells (vals raiserBytes).toArray 5))) := HHC.out.below ((Below.refl _ _).alloc (Nat.le_refl _) _)
  have HBD : Hid (Below w.heap.size w (wC.alloc (.cells (vals raiserBytes).toArray 5))) := HBC.out.alloc (by omega) _
  have HLAST := hide (parsed_any w.heap.size w.heap.size n3 _ (some ⟨wC.heap.size, 0, none⟩) 27 27 raiserBytes _ HHD.out (by omega) (by omega) (by omega) (HRB.out wC hsC).1 (by omega) (HRB.out wC hsC).2)
  go_wp2_with fail
  refine (raiser_any _).mono ?_
  rintro e wR ⟨rfl, rfl⟩
  go_wp2_with fail
  refine HLAST.out.mono ?_
  rintro e wE ⟨rfl, _, hbE⟩
  have HEND : Hid (Below w.heap.size w wE) := HBD.out.trans hbE
  clear hbE
  go_wp2
  go_ret
  exact ⟨rfl, HEND.out⟩
end Go.Proofs.Ytnjlbgolnbdkaaa
