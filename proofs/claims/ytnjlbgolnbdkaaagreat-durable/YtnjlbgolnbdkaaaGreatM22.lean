/- Texts of the proofs of Watched and Clocked, one behind the other. -/
import Derived.Test.YtnjlbgolnbdkaaaGreatM21
/- Texts of the proof of Boots, one behind the other. -/
namespace Go.Proofs.YtnjlbgolnbdkaaaGreat
open Go.RowKit

theorem logOf_le (bs : List Int) : (logOf bs).length ≤ 14 := by
  unfold logOf
  rw [List.length_append]
  have := faultsOf_le bs (sectorsOf bs).1
  have := faultsOf_le bs (sectorsOf bs).2
  omega
set_option maxRecDepth 100000 in
set_option maxHeartbeats 40000000 in
theorem mstart_any (g lo xW cW cC : Nat) (xC : Option Addr) (D : CLay) (cf : Cf) (bs : List Int) (left res : Int) (dead : Bool) (done : Int) (w : World) (hf : FlashAt w g bs left res dead done) (hlo : lo ≤ w.heap.size) (hgd : CfGood cf) (hcl : ∀ i r, r ∈ D.l i → ∀ b, r.2.ownBlock = some b → lo ≤ b) (hm : PartsMem w D cf.parts) (hr : RestMem w xW xC cf) :
    Calls Tryz.prog 30 #[.agg #[.int .i64 cf.frame, .int .i64 cf.watch, .slice (some ⟨D.px, 0, none⟩) cf.parts.length D.pc, .slice (some ⟨xW, 0, none⟩) cf.wins.length cW, .slice xC cf.chans.length cC], .pointer (some ⟨g, 0, none⟩)] w fun e w' => ∃ L : MLay, e = .returned (.pointer (some ⟨L.mb, 0, none⟩)) ∧ MachAt w' L g (bootSt cf bs) ∧ LayOk L cf.parts.length cf.chans.length ∧ StOk (bootSt cf bs) ∧ (∀ b, MBlk L (bootSt cf bs) b → lo ≤ b) ∧ Below w.heap.size w w' := by
  have hb0 : Below w.heap.size w (w.alloc (.cells #[.int .i64 cf.frame, .int .i64 cf.watch, .slice (some ⟨D.px, 0, none⟩) cf.parts.length D.pc, .slice (some ⟨xW, 0, none⟩) cf.wins.length cW, .slice xC cf.chans.length cC] 71)) := (Below.refl _ _).alloc (Nat.le_refl _) _
  have HON := hide (on_any g (w.alloc (.cells #[.int .i64 cf.frame, .int .i64 cf.watch, .slice (some ⟨D.px, 0, none⟩) cf.parts.length D.pc, .slice (some ⟨xW, 0, none⟩) cf.wins.length cW, .slice xC cf.chans.length cC] 71)))
  have HB0 := hide hb0
  have HFL := hide hf
  clear hb0
  go_enter Tryz.func30, Tryz.ntmps30
  go_wp2_with fail
  refine HON.out.mono ?_
  rintro e w1 ⟨rfl, hb1⟩
  have hs1 := hb1.size
  simp at hs1
  have hc1 : w1.heap[w.heap.size]? = some (.cells #[.int .i64 cf.frame, .int .i64 cf.watch, .slice (some ⟨D.px, 0, none⟩) cf.parts.length D.pc, .slice (some ⟨xW, 0, none⟩) cf.wins.length cW, .slice xC cf.chans.length cC] 71 (0, 0)) := (hb1.block _ (by simp)).trans (heap_at rfl)
  have HC1 := hide hc1
  have HB1 : Hid (Below w.heap.size w w1) := HB0.out.trans (hb1.mono (by simp))
  have hf1 := HFL.out.below HB1.out
  have hb2 : Below w1.heap.size w1 (w1.alloc (.cells #[.pointer (some ⟨g, 0, none⟩)] 107)) := (Below.refl _ _).alloc (Nat.le_refl _) _
  have HLG := hide (jlog_any g bs left res dead done _ (hf1.below hb2))
  have HB2 := hide hb2
  clear hb1 hc1 hf1 hb2 HON
  go_wp2_with fail
  refine HLG.out.mono ?_
  rintro e w3 ⟨v, rfl, ⟨hV, _⟩, hb3⟩
  have hs3 := hb3.size
  simp at hs3
  obtain ⟨ad, lc, rfl⟩ := own_slice hV
  obtain ⟨jb, hjb⟩ : ∃ jb, jb = w1.heap.size := ⟨_, rfl⟩
  obtain ⟨lb, hlb⟩ : ∃ lb, lb = w3.heap.size := ⟨_, rfl⟩
  obtain ⟨w4, hw4⟩ : ∃ w4, w4 = w3.alloc (.cells #[.slice ad (logOf bs).length lc] 49) := ⟨_, rfl⟩
  have hs4 : w4.heap.size = w3.heap.size + 1 := by rw [hw4]; simp
  have hb34 : Below w3.heap.size w3 w4 := by rw [hw4]; exact (Below.refl _ _).alloc (Nat.le_refl _) _
  have hb14 : Below w1.heap.size w1 w4 := (HB2.out.trans (hb3.mono (by simp))).trans (hb34.mono (by omega))
  have hj4 : w4.heap[jb]? = some (.cells #[.pointer (some ⟨g, 0, none⟩)] 107 (0, 0)) := keepB hb34 (keepB hb3 (heap_at hjb))
  have hl4 : w4.heap[lb]? = some (.cells #[.slice ad (logOf bs).length lc] 49 (0, 0)) := by rw [hw4]; exact heap_at hlb
  have hc4 := keepB hb14 HC1.out
  have HV4 : Hid (RecsV 0 (.slice ad (logOf bs).length lc) (logOf bs) w4) := own_low (own_keep hV (fun b e => hb34.block b (World.ownsRow.lt hV b e).2)) (Nat.zero_le _)
  have hB4 : Below w.heap.size w w4 := HB1.out.trans (hb14.mono (by omega))
  obtain ⟨P, hP⟩ : ∃ P : World → Prop, P = fun W => Below w4.heap.size w4 W := ⟨_, rfl⟩
  have HP4 : Hid (P w4) := by show P w4; rw [hP]; exact Below.refl _ _
  have HPb : Hid (∀ W, P W → Below w4.heap.size w4 W) := fun W h => by rw [hP] at h; exact h
  have HPk : Hid (∀ W W', P W → Below W.heap.size W W' → P W') := fun W W' h hb => by rw [hP] at h ⊢; exact h.trans (hb.mono h.size)
  have HPd : Hid (∀ W, P W → P W.drew) := fun W h => by rw [hP] at h ⊢; exact h.drew
  have HPa : Hid (∀ W o, P W → P (W.alloc o)) := fun W o h => by rw [hP] at h ⊢; exact h.alloc h.size _
  have HPW : Hid (∀ W, P W → Below w.heap.size w W) := fun W hW => hB4.trans ((HPb.out W hW).mono (by have := hB4.size; omega))
  have HPC : Hid (∀ W, P W → W.cell? ⟨jb, 0, none⟩ = some (.pointer (some ⟨g, 0, none⟩)) ∧ W.cell? ⟨w.heap.size, 0, none⟩ = some (.int .i64 cf.frame) ∧ W.cell? ⟨w.heap.size, 1, none⟩ = some (.int .i64 cf.watch) ∧ W.cell? ⟨w.heap.size, 2, none⟩ = some (.slice (some ⟨D.px, 0, none⟩) cf.parts.length D.pc) ∧ W.cell? ⟨w.heap.size, 3, none⟩ = some (.slice (some ⟨xW, 0, none⟩) cf.wins.length cW) ∧ W.cell? ⟨w.heap.size, 4, none⟩ = some (.slice xC cf.chans.length cC)) := fun W hW => by
    have a := ((HPb.out W hW).block _ (lt_of_heap hj4)).trans hj4
    have b := ((HPb.out W hW).block _ (lt_of_heap hc4)).trans hc4
    refine ⟨by rw [cell_of_row _ _ _ _ _ _ a]; rfl, ?_, ?_, ?_, ?_, ?_⟩ <;> (rw [cell_of_row _ _ _ _ _ _ b]; rfl)
  have HPT : Hid (∀ W, P W → Calls Tryz.prog 49 #[.int .i64 cf.parts.length, .func (.func 50) #[] #[.pointer (some ⟨w.heap.size, 0, none⟩), .pointer (some ⟨lb, 0, none⟩)]] W fun e w' => ∃ (y : Nat) (wd pr tn : Nat → Nat), e = .returned (.agg #[.slice (some ⟨y, 0, none⟩) cf.parts.length cf.parts.length]) ∧ W.heap.size ≤ y ∧ w'.heap[y]? = some (.cells (rowsL cf.parts.length fun i => mpartC (wd i) (pr i) (tn i) i (cf.parts.getD i default) (part0 (logOf bs) i (cf.parts.getD i default))).toArray 120 (0, 0)) ∧ Parts0 w' lo D cf.parts (logOf bs) cf.parts.length wd pr tn ∧ Below W.heap.size W w' ∧ P w') := fun W hW =>
    (parts_any w.heap.size lb 0 D cf.parts _ (logOf bs) W hgd.few.2 hgd.parts (by have := logOf_le bs; omega) (own_keep HV4.out (fun b e => (HPb.out W hW).block b (World.ownsRow.lt HV4.out b e).2)) (hm.keep (HPW.out W hW)) (HPC.out W hW).2.2.2.1 (by have a := ((HPb.out W hW).block _ (lt_of_heap hl4)).trans hl4; rw [cell_of_row _ _ _ _ _ _ a]; rfl)).mono (fun e w' ⟨y, wd, pr, tn, he, h1, h2, h3, h4⟩ => ⟨y, wd, pr, tn, he, h1, h2, h3.low (Nat.le_trans hlo (HPW.out W hW).size), h4, HPk.out W w' hW h4⟩)
  have HWN : Hid (∀ W, P W → Calls Tryz.prog 53 #[.int .i64 cf.wins.length, .func (.func 54) #[] #[.pointer (some ⟨w.heap.size, 0, none⟩)]] W fun e w' => ∃ y, e = .returned (.agg #[.slice (some ⟨y, 0, none⟩) cf.wins.length cf.wins.length]) ∧ W.heap.size ≤ y ∧ w'.heap[y]? = some (.cells (cf.wins.flatMap mwinCells).toArray 131 (0, 0)) ∧ Below W.heap.size W w' ∧ P w') := fun W hW =>
    (wins_any w.heap.size xW cW cf.wins W hgd.nwins.2 (by have := (HPW.out W hW).size; have := lt_of_heap hc4; have := (HPb.out W hW).size; omega) (HPC.out W hW).2.2.2.2.1 (hr.keep (HPW.out W hW)).wins).mono (fun e w' ⟨y, he, h1, h2, h4⟩ => ⟨y, he, h1, h2, h4, HPk.out W w' hW h4⟩)
  have HCN : Hid (∀ W, P W → Calls Tryz.prog 55 #[.int .i64 cf.chans.length, .func (.func 56) #[] #[.pointer (some ⟨w.heap.size, 0, none⟩)]] W fun e w' => ∃ (y : Nat) (ch : Nat → Nat), e = .returned (.agg #[.slice (some ⟨y, 0, none⟩) cf.chans.length cf.chans.length]) ∧ W.heap.size ≤ y ∧ w'.heap[y]? = some (.cells (rowsL cf.chans.length fun j => [.int .i64 (cf.chans.getD j default).src, .int .i64 (cf.chans.getD j default).dst, .chan (some (ch j))]).toArray 139 (0, 0)) ∧ ((∀ j, j < cf.chans.length → lo ≤ ch j ∧ w'.heap[ch j]? = some (.chan (cf.chans.getD j default).depth.toNat #[] false 0 0 false)) ∧ (∀ i j, i < cf.chans.length → j < cf.chans.length → ch i = ch j → i = j)) ∧ Below W.heap.size W w' ∧ P w') := fun W hW =>
    (chans_any w.heap.size cC xC cf.chans W hgd.nchans (fun p hp => (hgd.chans p hp).2.2.2) (by have := lt_of_heap hc4; have := (HPb.out W hW).size; omega) (HPC.out W hW).2.2.2.2.2 (hr.keep (HPW.out W hW)).chans).mono (fun e w' ⟨y, ch, he, h1, h2, h3, h5, h4⟩ => ⟨y, ch, he, h1, h2, ⟨fun j hj => ⟨Nat.le_trans (Nat.le_trans hlo (HPW.out W hW).size) (h3 j hj).1, (h3 j hj).2⟩, h5⟩, h4, HPk.out W w' hW h4⟩)
  have HPS : Hid (∀ W, P W → w.heap.size ≤ W.heap.size) := fun W hW => (HPW.out W hW).size
  have HEND : Hid (∀ (up uw uc : World) (yp yw yc : Nat) (wd pr tn ch : Nat → Nat), w.heap.size ≤ yp → up.heap[yp]? = some (.cells (rowsL cf.parts.length fun i => mpartC (wd i) (pr i) (tn i) i (cf.parts.getD i default) (part0 (logOf bs) i (cf.parts.getD i default))).toArray 120 (0, 0)) → Parts0 up lo D cf.parts (logOf bs) cf.parts.length wd pr tn → w.heap.size ≤ yw → uw.heap[yw]? = some (.cells (cf.wins.flatMap mwinCells).toArray 131 (0, 0)) → Below up.heap.size up uw → w.heap.size ≤ yc → uc.heap[yc]? = some (.cells (rowsL cf.chans.length fun j => [.int .i64 (cf.chans.getD j default).src, .int .i64 (cf.chans.getD j default).dst, .chan (some (ch j))]).toArray 139 (0, 0)) → ((∀ j, j < cf.chans.length → lo ≤ ch j ∧ uc.heap[ch j]? = some (.chan (cf.chans.getD j default).depth.toNat #[] false 0 0 false)) ∧ (∀ i j, i < cf.chans.length → j < cf.chans.length → ch i = ch j → i = j)) → Below uw.heap.size uw uc → P uc → ∃ L : MLay, L.mb = uc.heap.size ∧ MachAt (uc.alloc (.cells #[.pointer (some ⟨g, 0, none⟩), .int .i64 cf.frame, .int .i64 cf.watch, .slice (some ⟨yp, 0, none⟩) cf.parts.length cf.parts.length, .slice (some ⟨yw, 0, none⟩) cf.wins.length cf.wins.length, .slice (some ⟨yc, 0, none⟩) cf.chans.length cf.chans.length, .int .i64 0, .bool false] 145)) L g (bootSt cf bs) ∧ LayOk L cf.parts.length cf.chans.length ∧ StOk (bootSt cf bs) ∧ (∀ b, MBlk L (bootSt cf bs) b → lo ≤ b) ∧ Below w.heap.size w (uc.alloc (.cells #[.pointer (some ⟨g, 0, none⟩), .int .i64 cf.frame, .int .i64 cf.watch, .slice (some ⟨yp, 0, none⟩) cf.parts.length cf.parts.length, .slice (some ⟨yw, 0, none⟩) cf.wins.length cf.wins.length, .slice (some ⟨yc, 0, none⟩) cf.chans.length cf.chans.length, .int .i64 0, .bool false] 145))) := fun up uw uc yp yw yc wd pr tn ch y1 hp2 hp3 y2 hw2 hw4 y3 hc2 hc3 hc4 hc6 => by
    have hF : Below uc.heap.size uc (uc.alloc (.cells #[.pointer (some ⟨g, 0, none⟩), .int .i64 cf.frame, .int .i64 cf.watch, .slice (some ⟨yp, 0, none⟩) cf.parts.length cf.parts.length, .slice (some ⟨yw, 0, none⟩) cf.wins.length cf.wins.length, .slice (some ⟨yc, 0, none⟩) cf.chans.length cf.chans.length, .int .i64 0, .bool false] 145)) := (Below.refl _ _).alloc (Nat.le_refl _) _
    have huw : Below uw.heap.size uw (uc.alloc (.cells #[.pointer (some ⟨g, 0, none⟩), .int .i64 cf.frame, .int .i64 cf.watch, .slice (some ⟨yp, 0, none⟩) cf.parts.length cf.parts.length, .slice (some ⟨yw, 0, none⟩) cf.wins.length cf.wins.length, .slice (some ⟨yc, 0, none⟩) cf.chans.length cf.chans.length, .int .i64 0, .bool false] 145)) := hc4.trans (hF.mono hc4.size)
    have hup : Below up.heap.size up (uc.alloc (.cells #[.pointer (some ⟨g, 0, none⟩), .int .i64 cf.frame, .int .i64 cf.watch, .slice (some ⟨yp, 0, none⟩) cf.parts.length cf.parts.length, .slice (some ⟨yw, 0, none⟩) cf.wins.length cf.wins.length, .slice (some ⟨yc, 0, none⟩) cf.chans.length cf.chans.length, .int .i64 0, .bool false] 145)) := hw4.trans (huw.mono hw4.size)
    obtain ⟨L, hL, r1, r2, r3, r4⟩ := mach_made (uc.alloc (.cells #[.pointer (some ⟨g, 0, none⟩), .int .i64 cf.frame, .int .i64 cf.watch, .slice (some ⟨yp, 0, none⟩) cf.parts.length cf.parts.length, .slice (some ⟨yw, 0, none⟩) cf.wins.length cf.wins.length, .slice (some ⟨yc, 0, none⟩) cf.chans.length cf.chans.length, .int .i64 0, .bool false] 145)) lo g uc.heap.size yp yw yc D cf bs wd pr tn ch hgd ⟨Nat.le_trans hlo (HPW.out uc hc6).size, by omega, by omega, by omega⟩ hcl (hm.keep (HPW.out _ (HPa.out _ _ hc6))) (hp3.keep (fun b _ hl => hup.block b hl)) (heap_at rfl) (keepB hup hp2) (keepB huw hw2) (keepB hF hc2) (fun j hj => ⟨(hc3.1 j hj).1, keepB hF (hc3.1 j hj).2⟩) hc3.2
    exact ⟨L, hL, r1, r2, r3, r4, HPW.out _ (HPa.out _ _ hc6)⟩
  have HW4 := hide hw4
  have HJB := hide hjb
  have HLB := hide hlb
  have n1 := hgd.few.2
  have n2 := hgd.nwins.2
  have n3 := hgd.nchans
  clear hb3 hV hb34 hb14 hj4 hl4 hc4 hB4 hP hw4 hm hr hgd hcl hf hs4 HLG hs3 hjb hlb
  obtain ⟨q0, q1, q2, q3, q4, q5⟩ := HPC.out _ HP4.out
  go_wp2_with fail
  rw [← HW4.out, ← HJB.out, ← HLB.out]
  go_region_held3 (fun w' => w'.cell? ⟨jb, 0, none⟩ = some (.pointer (some ⟨g, 0, none⟩)) ∧ w'.cell? ⟨w.heap.size, 0, none⟩ = some (.int .i64 cf.frame) ∧ w'.cell? ⟨w.heap.size, 1, none⟩ = some (.int .i64 cf.watch) ∧ w'.cell? ⟨w.heap.size, 2, none⟩ = some (.slice (some ⟨D.px, 0, none⟩) cf.parts.length D.pc) ∧ w'.cell? ⟨w.heap.size, 3, none⟩ = some (.slice (some ⟨xW, 0, none⟩) cf.wins.length cW) ∧ w'.cell? ⟨w.heap.size, 4, none⟩ = some (.slice xC cf.chans.length cC))
    ((first | exact HPC.out _ HP4.out | exact HPC.out _ (HPd.out _ HP4.out) | exact HPC.out _ (by assumption) | exact HPC.out _ (HPa.out _ _ (by assumption))))
    (first
      | (go_at_call 49; refine (HPT.out _ (by first | assumption | exact HPd.out _ HP4.out)).mono ?_; rintro e up ⟨yp, wd, pr, tn, rfl, hp1, hp2, hp3, hp4, hp6⟩; have HP3 := hide hp3; clear hp3)
      | (go_at_call 53; refine (HWN.out _ (by first | assumption | exact HPd.out _ HP4.out)).mono ?_; rintro e uw ⟨yw, rfl, hw1, hw2, hw4, hw6⟩)
      | (go_at_call 55; refine (HCN.out _ (by first | assumption | exact HPd.out _ HP4.out)).mono ?_; rintro e uc ⟨yc, ch, rfl, hc1, hc2, hc3, hc4, hc6⟩; have HC3 := hide hc3; clear hc3))
  all_goals
    go_wp2
    go_ret
    obtain ⟨L, hL, hr⟩ := HEND.out up uw uc yp yw yc wd pr tn ch (Nat.le_trans (HPS.out _ (HPd.out _ HP4.out)) hp1) hp2 HP3.out (Nat.le_trans (HPS.out _ hp6) hw1) hw2 hw4 (Nat.le_trans (HPS.out _ hw6) hc1) hc2 HC3.out hc4 hc6
    exact ⟨L, by rw [hL]; rfl, hr⟩
end Go.Proofs.YtnjlbgolnbdkaaaGreat
