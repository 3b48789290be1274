/- Texts of the proof of Boots, one behind the other. -/
import Derived.Test.YtnjlbgolnbdkaaaGreatJ31
import Derived.Test.YtnjlbgolnbdkaaaGreatJ05
import Derived.Test.YtnjlbgolnbdkaaaGreatJ28
/- The law's boot. -/
namespace Go.Proofs.YtnjlbgolnbdkaaaGreat
open Go.RowKit

section
variable {w w' : World} {L : MLay} {g kb : Nat} {st : RSt}
theorem MachAt.keep2 (h : MachAt w L g st) (hk : ∀ b, MBlk L st b → w'.heap[b]? = w.heap[b]?) : MachAt w' L g st := by
  refine ⟨(hk _ (.inl rfl)).trans h.mach, (hk _ (.inr (.inl rfl))).trans h.parts, fun i hi => (hk _ (.inr (.inr (.inr (.inr (.inl ⟨i, hi, .inl rfl⟩)))))).trans (h.words i hi), fun i hi => (hk _ (.inr (.inr (.inr (.inr (.inl ⟨i, hi, .inr (.inl rfl)⟩)))))).trans (h.procs i hi), fun i hi => (hk _ (.inr (.inr (.inr (.inr (.inl ⟨i, hi, .inr (.inr rfl)⟩)))))).trans (h.turns i hi), (hk _ (.inr (.inr (.inl rfl)))).trans h.wins, (hk _ (.inr (.inr (.inr (.inl rfl))))).trans h.chans, fun j hj => ?_, fun i k hi hj => ?_⟩
  · obtain ⟨s, r, hc⟩ := h.queue j hj
    exact ⟨s, r, (hk _ (.inr (.inr (.inr (.inr (.inr (.inl ⟨j, hj, rfl⟩))))))).trans hc⟩
  · exact own_keep (h.code i k hi hj) (fun b e => hk b (.inr (.inr (.inr (.inr (.inr (.inr ⟨i, k, hi, hj, e⟩)))))))
theorem KernAt.keep2 (h : KernAt w kb L g st) (hk : ∀ b, KBlk kb L st b → w'.heap[b]? = w.heap[b]?) : KernAt w' kb L g st :=
  ⟨(hk _ (.inl rfl)).trans h.box, h.mach.keep2 (fun b hb => hk b (.inr hb)), h.lay, h.ok⟩
theorem MachAt.lt (h : MachAt w L g st) (b : Nat) (hb : MBlk L st b) : b < w.heap.size := by
  rcases hb with rfl | rfl | rfl | rfl | ⟨i, hi, rfl | rfl | rfl⟩ | ⟨j, hj, rfl⟩ | ⟨i, k, hi, hk, e⟩
  · exact lt_of_heap h.mach
  · exact lt_of_heap h.parts
  · exact lt_of_heap h.wins
  · exact lt_of_heap h.chans
  · exact lt_of_heap (h.words i hi)
  · exact lt_of_heap (h.procs i hi)
  · exact lt_of_heap (h.turns i hi)
  · obtain ⟨s, r, hc⟩ := h.queue j hj
    exact lt_of_heap hc
  · exact (World.ownsRow.lt (h.code i k hi hk) b e).2
theorem KernAt.lt (h : KernAt w kb L g st) (b : Nat) (hb : KBlk kb L st b) : b < w.heap.size := by
  rcases hb with rfl | hb
  · exact lt_of_heap h.box
  · exact h.mach.lt b hb
end
def pset (p : Nat → Value) (kx kr : Nat) : Nat → Value := fun | 0 => .pointer (some ⟨kx, 0, none⟩) | 2 => .pointer (some ⟨kr, 0, none⟩) | k => p k
set_option maxRecDepth 100000 in
set_option maxHeartbeats 8000000 in
theorem lboot_any (p : Nat → Value) (hb : Nat) (n0 : Int) (vs : Nat → Value) (ao : Option Addr) (n cap : Nat) (zs : List Int) (fx gx : Nat) (bs : List Int) (left res : Int) (dead : Bool) (done : Int) (left' res' : Int) (dead' : Bool) (done' : Int) (w : World)
    (hB : w.heap[hb]? = some (.cells (handCells p (.slice none 0 0) (.slice none 0 0) n0 vs) 94 (0, 0))) (p1 : p 1 = .pointer (some ⟨fx, 0, none⟩)) (p3 : p 3 = .pointer (some ⟨gx, 0, none⟩)) (p4 : p 4 = .slice ao n cap) (hz : Held w ao n cap zs) (hn : n ≤ 140737488351232) (hfb : fx ≠ hb) (hgb : gx ≠ hb) (hcb : ∀ ad, ao = some ad → 0 < n → ad.block ≠ hb) (hf : FlashAt w fx bs left res dead done) (hg : FlashAt w gx bs left' res' dead' done') :
    Calls Tryz.prog 31 #[.pointer (some ⟨hb, 0, none⟩)] w fun e w' => e = .returned (.bool true) ∧ Touch (· = hb) w w' ∧ (((parseOf zs).2.2 ≠ 0 ∧ w'.heap[hb]? = some (.cells (handCells p (.slice none 0 0) (.slice none 0 0) n0 vs) 94 (0, 0))) ∨ ((parseOf zs).2.2 = 0 ∧ ∃ kx M kr m, w'.heap[hb]? = some (.cells (handCells (pset p kx kr) (.slice none 0 0) (.slice none 0 0) n0 vs) 94 (0, 0)) ∧ KernAt w' kx M fx (bootSt (parseOf zs).1 bs) ∧ (w.heap.size ≤ m ∧ ∀ b, KBlk kx M (bootSt (parseOf zs).1 bs) b → w.heap.size ≤ b ∧ b < m) ∧ RefK m kr gx (bootSt (parseOf zs).1 bs) w')) := by
  have c1 : w.cell? ⟨hb, 1, none⟩ = some (.pointer (some ⟨fx, 0, none⟩)) := by rw [cell_of_row _ _ _ _ _ _ hB, ← p1]; rfl
  have c4 : w.cell? ⟨hb, 4, none⟩ = some (.slice ao n cap) := by rw [cell_of_row _ _ _ _ _ _ hB, ← p4]; rfl
  have HP : Hid (∀ (W : World) vI vW, W.heap[hb]? = some (.cells (handCells p vI vW n0 vs) 94 (0, 0)) → W.cell? ⟨hb, 1, none⟩ = some (.pointer (some ⟨fx, 0, none⟩)) ∧ W.cell? ⟨hb, 3, none⟩ = some (.pointer (some ⟨gx, 0, none⟩)) ∧ W.cell? ⟨hb, 4, none⟩ = some (.slice ao n cap)) := fun W vI vW a => ⟨by rw [cell_of_row _ _ _ _ _ _ a, ← p1]; rfl, by rw [cell_of_row _ _ _ _ _ _ a, ← p3]; rfl, by rw [cell_of_row _ _ _ _ _ _ a, ← p4]; rfl⟩
  have hlb := lt_of_heap hB
  have HLE : Hid (Calls Tryz.prog 58 #[.pointer (some ⟨hb, 5, none⟩), .slice ao n cap] w.drew fun e w' => ∃ x, e = .returned (.slice (some ⟨x, 0, none⟩) n (n + 2)) ∧ (w'.cell? ⟨hb, 1, none⟩ = some (.pointer (some ⟨fx, 0, none⟩)) ∧ w'.cell? ⟨hb, 4, none⟩ = some (.slice ao n cap)) ∧ Held w' (some ⟨x, 0, none⟩) n (n + 2) zs ∧ ∃ a1 c1 a2 c2, (w.heap.size ≤ x ∧ w.heap.size ≤ a1 ∧ w.heap.size ≤ a2) ∧ w'.heap[x]? = some (.cells (vals (zs ++ [165, 165])).toArray 5 (0, 0)) ∧ w'.cell? ⟨a1, 0, none⟩ = some (.slice (some ⟨x, 0, none⟩) (n + 2) (n + 2)) ∧ w'.cell? ⟨a2, 0, none⟩ = some (.slice ao n cap) ∧ w'.heap[hb]? = some (.cells (handCells p (.slice (some ⟨a1, 0, none⟩) 1 c1) (.slice (some ⟨a2, 0, none⟩) 1 c2) n0 vs) 94 (0, 0)) ∧ Touch (· = hb) w w') := by
    refine (lend_any p hb n0 vs ao n cap zs w.drew hB ⟨hz.len, hz.cap1, hz.cap2, hz.bytes, hz.none, hz.cells, hz.lt⟩ hn).mono ?_
    rintro e w' ⟨x, a1, k1, a2, k2, rfl, g1, g2, g3, g4, g5, g6, g7, g8⟩
    exact ⟨x, rfl, ⟨(HP.out w' _ _ g7).1, (HP.out w' _ _ g7).2.2⟩, held_lent g4 hz.len hz.bytes hn, a1, k1, a2, k2, ⟨g1, g2, g3⟩, g4, g5, g6, g7, ⟨g8.os, g8.tape, g8.output, g8.size, g8.block⟩⟩
  have HBT : Hid (∀ (W : World) x, FlashAt W fx bs left res dead done → Held W (some ⟨x, 0, none⟩) n (n + 2) zs → Calls Tryz.prog 11 #[.slice (some ⟨x, 0, none⟩) n (n + 2), .pointer (some ⟨fx, 0, none⟩)] W fun e w' => (((parseOf zs).2.2 ≠ 0 ∧ e = .returned (.tuple #[.pointer none, .int .i64 (parseOf zs).2.2])) ∨ ((parseOf zs).2.2 = 0 ∧ ∃ kb L, e = .returned (.tuple #[.pointer (some ⟨kb, 0, none⟩), .int .i64 0]) ∧ KernAt w' kb L fx (bootSt (parseOf zs).1 bs) ∧ ∀ b, KBlk kb L (bootSt (parseOf zs).1 bs) b → W.heap.size ≤ b)) ∧ Below W.heap.size W w') := fun W x h1 h2 => pboot_any _ n _ zs fx bs left res dead done W h2 hn h1
  have HRB : Hid (∀ (W : World), FlashAt W gx bs left' res' dead' done' → Held W ao n cap zs → Calls Tryz.prog 60 #[.slice ao n cap, .pointer (some ⟨gx, 0, none⟩)] W fun e w' => (((parseOf zs).2.2 ≠ 0 ∧ e = .returned (.tuple #[.pointer none, .int .i64 (parseOf zs).2.2])) ∨ ((parseOf zs).2.2 = 0 ∧ ∃ kb, e = .returned (.tuple #[.pointer (some ⟨kb, 0, none⟩), .int .i64 0]) ∧ RefK W.heap.size kb gx (bootSt (parseOf zs).1 bs) w')) ∧ Below W.heap.size W w') := fun W h1 h2 => rboot_any ao n cap zs gx bs left' res' dead' done' W h2 hn h1
  have HF := hide hf
  have HG := hide hg
  have HZ := hide hz
  have HCB := hide hcb
  clear hf hg hz hcb hB p1 p3 p4
  generalize bootSt (parseOf zs).1 bs = st at *
  generalize (parseOf zs).2.2 = er at *
  by_cases her : er = 0
  · subst her
    have HBT0 : Hid (∀ (W : World) x, hb < W.heap.size → FlashAt W fx bs left res dead done → Held W (some ⟨x, 0, none⟩) n (n + 2) zs → W.cell? ⟨hb, 1, none⟩ = some (.pointer (some ⟨fx, 0, none⟩)) → W.cell? ⟨hb, 4, none⟩ = some (.slice ao n cap) → Calls Tryz.prog 11 #[.slice (some ⟨x, 0, none⟩) n (n + 2), .pointer (some ⟨fx, 0, none⟩)] W fun e w' => ∃ kb, e = .returned (.tuple #[.pointer (some ⟨kb, 0, none⟩), .int .i64 0]) ∧ (w'.cell? ⟨hb, 1, none⟩ = some (.pointer (some ⟨fx, 0, none⟩)) ∧ w'.cell? ⟨hb, 4, none⟩ = some (.slice ao n cap)) ∧ (∃ L, KernAt w' kb L fx st ∧ ∀ b, KBlk kb L st b → W.heap.size ≤ b) ∧ Below W.heap.size W w') := fun W x h0 h1 h2 e1 e4 => (HBT.out W x h1 h2).mono (by
      rintro e w' ⟨⟨h, -⟩ | ⟨-, kb, L, rfl, h3, h4⟩, h5⟩
      · exact absurd rfl h
      · exact ⟨kb, rfl, ⟨(h5.cell (p := ⟨hb, 1, none⟩) h0).trans e1, (h5.cell (p := ⟨hb, 4, none⟩) h0).trans e4⟩, ⟨L, h3, h4⟩, h5⟩)
    have HRB0 : Hid (∀ (W : World), FlashAt W gx bs left' res' dead' done' → Held W ao n cap zs → Calls Tryz.prog 60 #[.slice ao n cap, .pointer (some ⟨gx, 0, none⟩)] W fun e w' => ∃ kb, e = .returned (.tuple #[.pointer (some ⟨kb, 0, none⟩), .int .i64 0]) ∧ RefK W.heap.size kb gx st w' ∧ Below W.heap.size W w') := fun W h1 h2 => (HRB.out W h1 h2).mono (by
      rintro e w' ⟨⟨h, -⟩ | ⟨-, kb, rfl, h3⟩, h5⟩
      · exact absurd rfl h
      · exact ⟨kb, rfl, h3, h5⟩)
    clear HBT HRB
    go_enter Tryz.func31, Tryz.ntmps31
    go_wp2_with fail
    go_region_held3 (fun w' => w'.cell? ⟨hb, 1, none⟩ = some (.pointer (some ⟨fx, 0, none⟩)) ∧ w'.cell? ⟨hb, 4, none⟩ = some (.slice ao n cap))
      ((first | exact ⟨c1, c4⟩ | assumption))
      (first
        | (go_at_call 58; refine HLE.out.mono ?_; rintro e wl ⟨x, rfl, hcl, hxh, hrest⟩; have HRST := hide hrest; clear hrest; obtain ⟨cl1, cl4⟩ := hcl; have hcl := And.intro cl1 cl4)
        | (go_at_call 11; refine (HBT0.out _ x (lt_of_cell cl1) (HF.out.keep (HRST.out.choose_spec.choose_spec.choose_spec.choose_spec.2.2.2.2.2.block fx HF.out.lt hfb)) hxh cl1 cl4).mono ?_; rintro e wk ⟨kb, rfl, hck, hkn, hbk⟩; have HKN := hide hkn; have HBK := hide hbk; clear hkn hbk; have HWK := hide (show wl = wl from rfl)))
    obtain ⟨a1, k1, a2, k2, ⟨hx, ha1, ha2⟩, g4, g5, g6, g7, g8⟩ := HRST.out
    obtain ⟨M, hkn, hkb⟩ := HKN.out
    have hbk := HBK.out
    have hxb : x ≠ hb := by omega
    have HB2 := hide (back_any p hb x a1 k1 a2 k2 n0 vs ao n cap zs wk ((hbk.block hb (lt_of_heap g7)).trans g7) ((HZ.out.touch g8 HCB.out).touch (Touch.ofBelow (S := fun _ => False) hbk) (fun _ _ _ h => h)) ((hbk.block x (lt_of_heap g4)).trans g4) ((hbk.cell (p := ⟨a1, 0, none⟩) (lt_of_cell g5)).trans g5) ((hbk.cell (p := ⟨a2, 0, none⟩) (lt_of_cell g6)).trans g6) hxb hn)
    have HKX : Hid (∀ b, KBlk kb M st b → b ≠ hb ∧ b ≠ x ∧ w.heap.size ≤ b) := fun b hB => by
      have h1 := hkb b hB
      have h2 := lt_of_heap g4
      have h3 := g8.size
      refine ⟨?_, ?_, ?_⟩ <;> omega
    have HT1 : Hid (Touch (· = hb) w wk) := g8.trans (Touch.ofBelow (S := fun _ => False) hbk) (fun _ h => h.elim)
    have HXW := hide hx
    have HHK := hide hkn
    clear HRST HKN HBK hkn hkb hbk g4 g5 g6 g7 g8 hx ha1 ha2 hck hcl cl1 cl4 hxh HLE HBT0 HWK c1 c4
    go_wp2_with fail
    refine HB2.out.mono ?_
    rintro e wb ⟨rfl, hbb, htb⟩
    have hT2 : Touch (· = hb) w wb := HT1.out.trans htb (fun i hi => by rcases hi with rfl | rfl; exact .inl rfl; exact .inr HXW.out)
    have HKB : Hid (KernAt wb kb M fx st) := HHK.out.keep2 (fun b hB => htb.block b (HHK.out.lt b hB) (by rintro (rfl | rfl); exact (HKX.out _ hB).1 rfl; exact (HKX.out _ hB).2.1 rfl))
    have HR2 := hide (HRB0.out wb (HG.out.keep (hT2.block gx HG.out.lt hgb)) (HZ.out.touch hT2 HCB.out))
    have d3 := (HP.out wb _ _ hbb).2.1
    have d4 := (HP.out wb _ _ hbb).2.2
    have HBB := hide hbb
    have HT2 := hide hT2
    clear hbb hT2 htb HB2 HT1 HHK HXW
    have HR3 : Hid (Calls Tryz.prog 60 #[.slice ao n cap, .pointer (some ⟨gx, 0, none⟩)] wb.drew fun e w' => ∃ kb, e = .returned (.tuple #[.pointer (some ⟨kb, 0, none⟩), .int .i64 0]) ∧ RefK wb.heap.size kb gx st w' ∧ Below wb.heap.size wb w') := (HRB0.out wb.drew (HG.out.keep (HT2.out.block gx HG.out.lt hgb)) (have h := HZ.out.touch HT2.out HCB.out; ⟨h.len, h.cap1, h.cap2, h.bytes, h.none, h.cells, h.lt⟩)).mono (by
      rintro e w' ⟨kb, rfl, h3, h5⟩
      exact ⟨kb, rfl, h3, h5.os, h5.tape, h5.output, h5.size, h5.block⟩)
    clear HR2
    go_wp2_with fail
    go_cut [6, 7] from 28 to 40 (fun s6 s7 wx => ∃ kr, s6 = .pointer (some ⟨kr, 0, none⟩) ∧ s7 = .int .i64 0 ∧ RefK wb.heap.size kr gx st wx ∧ Below wb.heap.size wb wx)
    case first =>
      go_region_with (go_at_call 60; refine HR3.out.mono ?_; rintro e wx ⟨kr, rfl, hr1, hr2⟩)
      all_goals (go_wp2_with fail; go_meet; exact ⟨kr, rfl, rfl, hr1, hr2⟩)
    case rest =>
      obtain ⟨kr, rfl, rfl, hR, hBc⟩ := hcut
      have hlw : hb < wb.heap.size := lt_of_heap HBB.out
      have hB1 := (hBc.block hb hlw).trans HBB.out
      have e0 : wc.cell? ⟨hb, 0, none⟩ = some (p 0) := by rw [cell_of_row _ _ _ _ _ _ hB1]; rfl
      have e2 : wc.cell? ⟨hb, 2, none⟩ = some (p 2) := by rw [cell_of_row _ _ _ _ _ _ hB1]; rfl
      have u0 := free_of_block hB1 0
      have u2 := free_of_block hB1 2
      have hFB := block_set (block_set hB1 0 (.pointer (some ⟨kb, 0, none⟩))) 2 (.pointer (some ⟨kr, 0, none⟩))
      have hFT : Touch (· = hb) wb ((wc.setCell ⟨hb, 0, none⟩ (.pointer (some ⟨kb, 0, none⟩))).setCell ⟨hb, 2, none⟩ (.pointer (some ⟨kr, 0, none⟩))) := ((Touch.ofBelow (S := (· = hb)) hBc).trans (T := (· = hb)) (Touch.ofSet wc hb 0 _ rfl) (fun _ h => .inl h)).trans (T := (· = hb)) (Touch.ofSet _ hb 2 _ rfl) (fun _ h => .inl h)
      have hFR : RefK wb.heap.size kr gx st ((wc.setCell ⟨hb, 0, none⟩ (.pointer (some ⟨kb, 0, none⟩))).setCell ⟨hb, 2, none⟩ (.pointer (some ⟨kr, 0, none⟩))) := hR.keep (fun b h1 h2 => by
        have t1 := (Touch.ofSet (S := (· = hb)) wc hb 0 (.pointer (some ⟨kb, 0, none⟩)) rfl)
        have t2 := t1.trans (T := (· = hb)) (Touch.ofSet (S := (· = hb)) (wc.setCell ⟨hb, 0, none⟩ (.pointer (some ⟨kb, 0, none⟩))) hb 2 (.pointer (some ⟨kr, 0, none⟩)) rfl) (fun _ h => .inl h)
        exact t2.block b h2 (by omega))
      have HFB := hide hFB
      have HFT := hide hFT
      have HFR := hide hFR
      clear hFB hFT hFR hB1 hR hBc d3 d4 HR3 HRB0
      go_wp2_with fail
      refine (num_any _ _).mono ?_
      rintro e wn ⟨rfl, hwn⟩
      obtain ⟨wF, hwF⟩ : ∃ wF, wF = ((wc.setCell ⟨hb, 0, none⟩ (.pointer (some ⟨kb, 0, none⟩))).setCell ⟨hb, 2, none⟩ (.pointer (some ⟨kr, 0, none⟩))) := ⟨_, rfl⟩
      rw [← hwF] at hwn HFB HFT HFR
      subst hwn
      clear hwF
      go_wp2
      go_ret
      exact ⟨rfl, HT2.out.trans HFT.out (fun _ h => .inl h), .inr ⟨trivial, kb, M, kr, wb.heap.size, HFB.out, HKB.out.keep2 (fun b hB => HFT.out.block b (HKB.out.lt b hB) (HKX.out b hB).1), ⟨HT2.out.size, fun b hB => ⟨(HKX.out b hB).2.2, HKB.out.lt b hB⟩⟩, HFR.out⟩⟩
  · have HBT0 : Hid (∀ (W : World) x, hb < W.heap.size → FlashAt W fx bs left res dead done → Held W (some ⟨x, 0, none⟩) n (n + 2) zs → W.cell? ⟨hb, 1, none⟩ = some (.pointer (some ⟨fx, 0, none⟩)) → W.cell? ⟨hb, 4, none⟩ = some (.slice ao n cap) → Calls Tryz.prog 11 #[.slice (some ⟨x, 0, none⟩) n (n + 2), .pointer (some ⟨fx, 0, none⟩)] W fun e w' => e = .returned (.tuple #[.pointer none, .int .i64 er]) ∧ (w'.cell? ⟨hb, 1, none⟩ = some (.pointer (some ⟨fx, 0, none⟩)) ∧ w'.cell? ⟨hb, 4, none⟩ = some (.slice ao n cap)) ∧ Below W.heap.size W w') := fun W x h0 h1 h2 e1 e4 => (HBT.out W x h1 h2).mono (by
      rintro e w' ⟨⟨-, rfl⟩ | ⟨h, -⟩, h5⟩
      rotate_left
      · exact absurd h her
      · exact ⟨rfl, ⟨(h5.cell (p := ⟨hb, 1, none⟩) h0).trans e1, (h5.cell (p := ⟨hb, 4, none⟩) h0).trans e4⟩, h5⟩)
    have HRB0 : Hid (∀ (W : World), FlashAt W gx bs left' res' dead' done' → Held W ao n cap zs → Calls Tryz.prog 60 #[.slice ao n cap, .pointer (some ⟨gx, 0, none⟩)] W fun e w' => e = .returned (.tuple #[.pointer none, .int .i64 er]) ∧ Below W.heap.size W w') := fun W h1 h2 => (HRB.out W h1 h2).mono (by
      rintro e w' ⟨⟨-, rfl⟩ | ⟨h, -⟩, h5⟩
      rotate_left
      · exact absurd h her
      · exact ⟨rfl, h5⟩)
    clear HBT HRB
    go_enter Tryz.func31, Tryz.ntmps31
    go_wp2_with fail
    go_region_held3 (fun w' => w'.cell? ⟨hb, 1, none⟩ = some (.pointer (some ⟨fx, 0, none⟩)) ∧ w'.cell? ⟨hb, 4, none⟩ = some (.slice ao n cap))
      ((first | exact ⟨c1, c4⟩ | assumption))
      (first
        | (go_at_call 58; refine HLE.out.mono ?_; rintro e wl ⟨x, rfl, hcl, hxh, hrest⟩; have HRST := hide hrest; clear hrest; obtain ⟨cl1, cl4⟩ := hcl; have hcl := And.intro cl1 cl4)
        | (go_at_call 11; refine (HBT0.out _ x (lt_of_cell cl1) (HF.out.keep (HRST.out.choose_spec.choose_spec.choose_spec.choose_spec.2.2.2.2.2.block fx HF.out.lt hfb)) hxh cl1 cl4).mono ?_; rintro e wk ⟨rfl, hck, hbk⟩; have HBK := hide hbk; clear hbk; have HWK := hide (show wl = wl from rfl)))
    obtain ⟨a1, k1, a2, k2, ⟨hx, ha1, ha2⟩, g4, g5, g6, g7, g8⟩ := HRST.out
    have hbk := HBK.out
    have hxb : x ≠ hb := by omega
    have HB2 := hide (back_any p hb x a1 k1 a2 k2 n0 vs ao n cap zs wk ((hbk.block hb (lt_of_heap g7)).trans g7) ((HZ.out.touch g8 HCB.out).touch (Touch.ofBelow (S := fun _ => False) hbk) (fun _ _ _ h => h)) ((hbk.block x (lt_of_heap g4)).trans g4) ((hbk.cell (p := ⟨a1, 0, none⟩) (lt_of_cell g5)).trans g5) ((hbk.cell (p := ⟨a2, 0, none⟩) (lt_of_cell g6)).trans g6) hxb hn)
    have HT1 : Hid (Touch (· = hb) w wk) := g8.trans (Touch.ofBelow (S := fun _ => False) hbk) (fun _ h => h.elim)
    have HXW := hide hx
    clear HRST HBK hbk g4 g5 g6 g7 g8 hx ha1 ha2 hck hcl cl1 cl4 hxh HLE HBT0 HWK c1 c4
    go_wp2_with fail
    refine HB2.out.mono ?_
    rintro e wb ⟨rfl, hbb, htb⟩
    have hT2 : Touch (· = hb) w wb := HT1.out.trans htb (fun i hi => by rcases hi with rfl | rfl; exact .inl rfl; exact .inr HXW.out)
    have HR2 := hide (HRB0.out wb (HG.out.keep (hT2.block gx HG.out.lt hgb)) (HZ.out.touch hT2 HCB.out))
    have d3 := (HP.out wb _ _ hbb).2.1
    have d4 := (HP.out wb _ _ hbb).2.2
    have HBB := hide hbb
    have HT2 := hide hT2
    clear hbb hT2 htb HB2 HT1 HXW
    have HR3 : Hid (Calls Tryz.prog 60 #[.slice ao n cap, .pointer (some ⟨gx, 0, none⟩)] wb.drew fun e w' => e = .returned (.tuple #[.pointer none, .int .i64 er]) ∧ Below wb.heap.size wb w') := (HRB0.out wb.drew (HG.out.keep (HT2.out.block gx HG.out.lt hgb)) (have h := HZ.out.touch HT2.out HCB.out; ⟨h.len, h.cap1, h.cap2, h.bytes, h.none, h.cells, h.lt⟩)).mono (by
      rintro e w' ⟨rfl, h5⟩
      exact ⟨rfl, h5.os, h5.tape, h5.output, h5.size, h5.block⟩)
    clear HR2
    go_wp2_with fail
    go_cut [6, 7] from 28 to 40 (fun s6 s7 wx => s6 = .pointer none ∧ s7 = .int .i64 er ∧ Below wb.heap.size wb wx)
    case first =>
      go_region_with (go_at_call 60; refine HR3.out.mono ?_; rintro e wx ⟨rfl, hr2⟩)
      all_goals (go_wp2_with fail; go_meet; exact ⟨rfl, rfl, hr2⟩)
    case rest =>
      obtain ⟨rfl, rfl, hBc⟩ := hcut
      have hlw : hb < wb.heap.size := lt_of_heap HBB.out
      have HB1 := hide ((hBc.block hb hlw).trans HBB.out)
      have HBC := hide hBc
      clear hBc d3 d4 HR3 HRB0
      go_wp2_with fail
      refine (num_any _ _).mono ?_
      rintro e wn ⟨rfl, hwn⟩
      subst hwn
      go_wp2
      go_ret
      exact ⟨rfl, HT2.out.trans (Touch.ofBelow (S := fun _ => False) HBC.out) (fun _ h => h.elim), .inl ⟨her, HB1.out⟩⟩
end Go.Proofs.YtnjlbgolnbdkaaaGreat
