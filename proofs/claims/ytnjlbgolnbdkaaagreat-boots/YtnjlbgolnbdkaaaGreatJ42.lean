/- Texts of the proof of Boots, one behind the other. -/
import Derived.Test.YtnjlbgolnbdkaaaGreatJ24
import Derived.Test.YtnjlbgolnbdkaaaGreatJ07
import Derived.Test.YtnjlbgolnbdkaaaGreatJ40
import Derived.Test.YtnjlbgolnbdkaaaGreatJ41
/- The flash: NewFlash. -/
namespace Go.Proofs.YtnjlbgolnbdkaaaGreat
open Go.RowKit
attribute [-go_sem] Instr.build

theorem build80 (W : World) : (Instr.build 80 #[(1, .int .i64 (-1))]).run Tryz.prog W = .ok (.agg (flashCells (List.replicate 256 0) (-1) 0 false 0).toArray) W := by kernel_rfl
def fillTo (zs : List Int) : List Int := (List.range 256).map fun i => if i < zs.length then zs.getD i 0 else 255
def fillK (zs : List Int) (k : Nat) : List Int := (List.range 256).map fun i => if i < k then (if i < zs.length then zs.getD i 0 else 255) else 0
theorem fillK_length (zs : List Int) (k : Nat) : (fillK zs k).length = 256 := by simp [fillK]
theorem fillK_all (zs : List Int) : fillK zs 256 = fillTo zs := by
  unfold fillK fillTo
  apply List.map_congr_left
  intro i hi
  rw [if_pos (by simpa using hi)]
theorem map_zero (n : Nat) (f : Nat → Int) (h : ∀ i, f i = 0) : (List.range n).map f = List.replicate n 0 := by
  induction n with
  | zero => rfl
  | succ n ih => rw [List.range_succ, List.map_append, ih, List.replicate_succ', List.map_singleton, h n]
theorem fillK_zero (zs : List Int) : fillK zs 0 = List.replicate 256 0 := map_zero 256 _ (fun i => if_neg (by omega))
theorem fillK_set (zs : List Int) (k : Nat) (z : Int) (hk : k < 256) (hz : z = if k < zs.length then zs.getD k 0 else 255) : (fillK zs k).set k z = fillK zs (k + 1) := by
  unfold fillK
  apply List.ext_getElem?
  intro i
  by_cases h : i < 256
  · rw [List.getElem?_set]
    by_cases hi : k = i
    · subst hi
      simp [hk, hz]
    · rw [if_neg hi]
      simp only [List.getElem?_map, List.getElem?_range h, Option.map_some]
      have e : (i < k) ↔ (i < k + 1) := by omega
      simp only [e]
  · rw [List.getElem?_eq_none (by simp; omega), List.getElem?_eq_none (by simp; omega)]
theorem fillK_bytes (zs : List Int) (hz : Bytes zs) (k : Nat) : Bytes (fillK zs k) := by
  intro z h
  obtain ⟨i, _, rfl⟩ := List.mem_map.1 h
  have := hz.getD i
  split
  · split <;> omega
  · omega
theorem flash_set (bs : List Int) (left res : Int) (dead : Bool) (done : Int) (k : Nat) (z : Int) (hk : k < bs.length) : (flashCells bs left res dead done).toArray.setIfInBounds k (.int .u8 z) = (flashCells (bs.set k z) left res dead done).toArray := by
  apply Array.ext'
  rw [Array.toList_setIfInBounds]
  show (vals bs ++ _).set k _ = vals (bs.set k z) ++ _
  rw [List.set_append_left _ _ (by rw [vals_length]; exact hk)]
  congr 1
  unfold vals
  rw [List.map_set]
theorem FlashAt.put {w : World} {g : Nat} {bs : List Int} {left res : Int} {dead : Bool} {done : Int} (h : FlashAt w g bs left res dead done) (k : Nat) (z : Int) (hk : k < 256) (hz : 0 ≤ z ∧ z < 256) : FlashAt (w.setCell ⟨g, k, none⟩ (.int .u8 z)) g (bs.set k z) left res dead done := by
  refine ⟨?_, by rw [List.length_set]; exact h.len, fun y hy => ?_⟩
  · rw [block_set h.blk k _, flash_set _ _ _ _ _ _ _ (by rw [h.len]; exact hk)]
  · rcases List.mem_or_eq_of_mem_set hy with h1 | rfl
    · exact h.bytes y h1
    · exact hz
set_option maxRecDepth 100000 in
set_option maxHeartbeats 4000000 in
theorem newFlash_any (ao : Option Addr) (n cap : Nat) (zs : List Int) (w : World) (hz : Held w ao n cap zs) (hn : n ≤ 140737488351232) :
    Calls Tryz.prog 13 #[.slice ao n cap] w fun e w' => ∃ g, e = .returned (.pointer (some ⟨g, 0, none⟩)) ∧ w.heap.size ≤ g ∧ FlashAt w' g (fillTo zs) (-1) 0 false 0 ∧ Below w.heap.size w w' := by
  have hbd := build80
  obtain ⟨M, hM⟩ : ∃ M, M = (flashCells (List.replicate 256 0) (-1) 0 false 0).toArray := ⟨_, rfl⟩
  rw [← hM] at hbd
  have HM := hide hM
  have HZ := hide hz
  have hlen := hz.len
  clear hM hz
  go_enter Tryz.func13, Tryz.ntmps13
  go_wp2_with fail
  go_loopw [7] (fun t wr => ∃ k : Nat, k ≤ 256 ∧ t = .int .i64 k ∧ FlashAt wr w.heap.size (fillK zs k) (-1) 0 false 0 ∧ Below w.heap.size w wr) (fun t _ => 256 - (intOf t).toNat)
  case atStart =>
    refine ⟨0, by omega, rfl, ⟨?_, fillK_length zs 0, fillK_bytes zs HZ.out.bytes 0⟩, (Below.refl _ _).alloc (Nat.le_refl _) _⟩
    rw [fillK_zero, ← HM.out]
    exact heap_at rfl
  case round =>
    obtain ⟨k, hk, rfl, hF, hB⟩ := hrel
    by_cases hlt : k < 256
    · have c0 := hF.byte k hlt
      have ff := free_of_block hF.blk k
      have hsz := hF.lt
      generalize (fillK zs k).getD k 0 = u at c0
      by_cases hkn : k < n
      · obtain ⟨b, off, hao, hrow⟩ := held_row HZ.out (by omega)
        subst hao
        have hbl := HZ.out.lt _ rfl (by omega)
        have c1 : wr.cell? ⟨b, off + k, none⟩ = some (.int .u8 (zs.getD k 0)) := (hB.cell (p := ⟨b, off + k, none⟩) hbl).trans (hrow k (by omega))
        have hzb := HZ.out.bytes.getD k
        have hne : ¬ b = w.heap.size := by simp at hbl; omega
        have HEND : Hid (FlashAt ((wr.setCell ⟨w.heap.size, k, none⟩ (.int .u8 255)).setCell ⟨w.heap.size, k, none⟩ (.int .u8 (zs.getD k 0))) w.heap.size (fillK zs (k + 1)) (-1) 0 false 0 ∧ Below w.heap.size w ((wr.setCell ⟨w.heap.size, k, none⟩ (.int .u8 255)).setCell ⟨w.heap.size, k, none⟩ (.int .u8 (zs.getD k 0)))) := by
          have h1 := (hF.put k 255 hlt (by omega)).put k (zs.getD k 0) hlt hzb
          rw [List.set_set, fillK_set zs k _ hlt (by rw [if_pos (by omega)])] at h1
          exact ⟨h1, Below.thenSet (Below.thenSet hB (Nat.le_refl _) _ _) (Nat.le_refl _) _ _⟩
        clear hF hB hrow
        generalize zs.getD k 0 = z at c1 hzb HEND
        go_wp2_with fail
        go_region
        all_goals
          go_wp2
          go_roundw
          case rel => exact ⟨k + 1, by omega, by go_num, HEND.out.1.keep rfl, HEND.out.2.trans ⟨rfl, rfl, rfl, Nat.le_refl _, fun _ _ => rfl⟩⟩
          case measure => simp [intOf]; omega
      · have HEND : Hid (FlashAt (wr.setCell ⟨w.heap.size, k, none⟩ (.int .u8 255)) w.heap.size (fillK zs (k + 1)) (-1) 0 false 0 ∧ Below w.heap.size w (wr.setCell ⟨w.heap.size, k, none⟩ (.int .u8 255))) := by
          have h1 := hF.put k 255 hlt (by omega)
          rw [fillK_set zs k _ hlt (by rw [if_neg (by omega)])] at h1
          exact ⟨h1, Below.thenSet hB (Nat.le_refl _) _ _⟩
        clear hF hB
        go_wp2
        go_roundw
        case rel => exact ⟨k + 1, by omega, by go_num, HEND.out.1, HEND.out.2⟩
        case measure => simp [intOf]; omega
    · obtain rfl : k = 256 := by omega
      rw [fillK_all] at hF
      have HF := hide hF
      have HB := hide hB
      clear hF hB
      go_wp2
      go_ret
      exact ⟨_, rfl, Nat.le_refl _, HF.out, HB.out⟩
end Go.Proofs.YtnjlbgolnbdkaaaGreat
/- The start of the law's run: raiser, the empty hands, the world's literal. -/
namespace Go.Proofs.YtnjlbgolnbdkaaaGreat
open Go.RowKit

def raiserBs : List Int := [72, 1, 1, 0, 0, 1, 1, 1, 1, 1, 4, 1, 1, 1, 0, 1, 8, 0, 1, 0, 0, 1, 0, 179, 39, 139, 174]
theorem raiser_bytes : Bytes raiserBs := by
  intro x hx
  simp [raiserBs] at hx
  omega
set_option maxRecDepth 100000 in
theorem raiser_good : (parseOf raiserBs).2.2 = 0 := by kernel_rfl
theorem held_new (w : World) (zs : List Int) (n : Nat) (hl : zs.length = n) (hn : n ≤ 9223372036854775807) (hb : Bytes zs) : Held (w.alloc (.cells (vals zs).toArray 5)) (some ⟨w.heap.size, 0, none⟩) n n zs := by
  refine ⟨hl, Nat.le_refl _, hn, hb, fun h => by simp at h, fun ad e j u hu => ?_, fun ad e _ => ?_⟩
  · obtain rfl : ⟨w.heap.size, 0, none⟩ = ad := by simpa using e
    exact news_at w (vals zs).toArray 5 j u hu
  · obtain rfl : ⟨w.heap.size, 0, none⟩ = ad := by simpa using e
    simp
set_option maxRecDepth 100000 in
set_option maxHeartbeats 8000000 in
theorem raiser_any (w : World) : Calls Tryz.prog 12 #[] w fun e w' => ∃ x, e = .returned (.slice (some ⟨x, 0, none⟩) 27 27) ∧ Held w' (some ⟨x, 0, none⟩) 27 27 raiserBs ∧ Below w.heap.size w w' := by
  have HH := hide (held_new w raiserBs 27 rfl (by omega) raiser_bytes)
  have HB : Hid (Below w.heap.size w (w.alloc (.cells (vals raiserBs).toArray 5))) := (Below.refl _ _).alloc (Nat.le_refl _) _
  go_enter Tryz.func12, Tryz.ntmps12
  go_wp2
  go_ret
  exact ⟨w.heap.size, rfl, HH.out, HB.out⟩
/- the hands, empty -/
theorem hnd_nil (p : Nat → Value) (hb : Nat) (L : Nat → Nat) (w : World) (h0 : L hb = 0) (hB : w.heap[hb]? = some (.cells (handCells p (.slice none 0 0) (.slice none 0 0) 0 (fun _ => .slice none 0 0)) 94 (0, 0))) : Hnd p L hb 0 (fun _ => .slice none 0 0) (fun _ => []) (fun _ => []) w :=
  ⟨hB, h0, fun f _ => ⟨World.ownsRow_nil _ _ _ _, fun b e => by simp [Value.ownBlock] at e, World.ownsRow_nil _ _ _ _, fun b e => by simp [Value.ownBlock] at e, fun k hk => by simp at hk⟩⟩
def p0 (fx gx : Nat) (v : Value) : Nat → Value := fun | 1 => .pointer (some ⟨fx, 0, none⟩) | 3 => .pointer (some ⟨gx, 0, none⟩) | 4 => v | _ => .pointer none
theorem build94 (fx gx : Nat) (ao : Option Addr) (n cap : Nat) (W : World) : (Instr.build 94 #[(1, .pointer (some ⟨fx, 0, none⟩)), (3, .pointer (some ⟨gx, 0, none⟩)), (4, .slice ao n cap)]).run Tryz.prog W = .ok (.agg (handCells (p0 fx gx (.slice ao n cap)) (.slice none 0 0) (.slice none 0 0) 0 (fun _ => .slice none 0 0))) W := by kernel_rfl
end Go.Proofs.YtnjlbgolnbdkaaaGreat
/- The law's run, with no script. -/
namespace Go.Proofs.YtnjlbgolnbdkaaaGreat
open Go.RowKit
attribute [-go_sem] Instr.build

/- what the boot leaves is a law's world -/
theorem wd_boot (fx gx hb kx kr m : Nat) (M : MLay) (cv : Value) (st : RSt) (bs : List Int) (left res : Int) (dead : Bool) (done : Int) (w0 w : World)
    (hB : w.heap[hb]? = some (.cells (handCells (pset (p0 fx gx cv) kx kr) (.slice none 0 0) (.slice none 0 0) 0 (fun _ => .slice none 0 0)) 94 (0, 0))) (hk : KernAt w kx M fx st) (hlo : w0.heap.size ≤ m) (hkb : ∀ b, KBlk kx M st b → w0.heap.size ≤ b ∧ b < m) (hr : RefK m kr gx st w) (hbl : hb < w0.heap.size) (hf : FlashAt w fx bs left res dead done) (hg : FlashAt w gx bs left res dead done) (hfb : fx ≠ hb) (hgb : gx ≠ hb) :
    Wd (pset (p0 fx gx cv) kx kr) (fun k => if k = hb then 0 else 100) hb 0 (fun _ => .slice none 0 0) (fun _ => []) kx fx gx kr M st (fun b => m ≤ b ∧ b < w.heap.size) bs left res dead done w := by
  refine ⟨hnd_nil _ hb _ w (by simp) hB, rfl, rfl, rfl, rfl, hk, fun b hb' => ?_, fun w' hw' => ?_, fun b hb' => ⟨hb'.2, ?_⟩, hf, ?_, hg, ?_⟩
  · have := hkb b hb'
    simp [show b ≠ hb by omega]
  · exact (hr.keep (fun b h1 h2 => hw' b ⟨h1, h2⟩)).low (Nat.zero_le _)
  · simp [show b ≠ hb by omega]
  · simp [hfb]
  · simp [hgb]
set_option maxRecDepth 100000 in
set_option maxHeartbeats 8000000 in
theorem lrun_any (ao : Option Addr) (n cap : Nat) (zs : List Int) (bo : Option Addr) (m mcap : Nat) (ys : List Int) (w : World) (hz : Held w ao n cap zs) (hn : n ≤ 140737488351232) (hy : Held w bo m mcap ys) (hm : m ≤ 140737488351232) :
    Calls Tryz.prog 14 #[.slice ao n cap, .slice bo m mcap, .slice none 0 0, .int .i64 0] w fun e w' => e = .returned (.bool true) ∧ Below w.heap.size w w' := by
  have HZ := hide hz
  have HY := hide hy
  clear hz hy
  have HN1 := hide (newFlash_any bo m mcap ys w HY.out hm)
  go_enter Tryz.func14, Tryz.ntmps14
  go_wp2_with fail
  refine HN1.out.mono ?_
  rintro e w1 ⟨fx, rfl, hfx, hF, hb1⟩
  have HN2 := hide (newFlash_any bo m mcap ys w1 (HY.out.touch (Touch.ofBelow (S := fun _ => False) hb1) (fun _ _ _ h => h)) hm)
  have HF := hide hF
  have HB1 := hide hb1
  have HFX := hide hfx
  clear hF hb1 hfx HN1
  go_wp2_with fail
  refine HN2.out.mono ?_
  rintro e w2 ⟨gx, rfl, hgx, hG, hb2⟩
  have hbd := build94 fx gx ao n cap
  obtain ⟨p, hp⟩ : ∃ p, p = p0 fx gx (.slice ao n cap) := ⟨_, rfl⟩
  rw [← hp] at hbd
  obtain ⟨H, hH⟩ : ∃ H, H = handCells p (.slice none 0 0) (.slice none 0 0) 0 (fun _ => .slice none 0 0) := ⟨_, rfl⟩
  rw [← hH] at hbd
  obtain ⟨w3, hw3⟩ : ∃ w3, w3 = w2.alloc (.cells H 94) := ⟨_, rfl⟩
  have hb3 : Below w2.heap.size w2 w3 := by rw [hw3]; exact (Below.refl _ _).alloc (Nat.le_refl _) _
  have hblk : w3.heap[w2.heap.size]? = some (.cells (handCells p (.slice none 0 0) (.slice none 0 0) 0 (fun _ => .slice none 0 0)) 94 (0, 0)) := by rw [hw3, hH]; exact heap_alloc_new w2 _
  have hgl := hG.lt
  have hfl := (HF.out.below hb2).lt
  have hZ3 : Held w3 ao n cap zs := ((HZ.out.touch (Touch.ofBelow (S := fun _ => False) HB1.out) (fun _ _ _ h => h)).touch (Touch.ofBelow (S := fun _ => False) hb2) (fun _ _ _ h => h)).touch (Touch.ofBelow (S := fun _ => False) hb3) (fun _ _ _ h => h)
  have hs1 := HB1.out.size
  have hs2 := hb2.size
  have HBO := hide (lboot_any p w2.heap.size 0 (fun _ => .slice none 0 0) ao n cap zs fx gx (fillTo ys) (-1) 0 false 0 (-1) 0 false 0 w3 hblk (by rw [hp]; rfl) (by rw [hp]; rfl) (by rw [hp]; rfl) hZ3 hn (by omega) (by omega) (fun ad e h0 => by have := HZ.out.lt ad e h0; omega) ((HF.out.below hb2).below hb3) (hG.below hb3))
  have HB3 : Hid (Below w.heap.size w w3 ∧ w.heap.size ≤ w2.heap.size) := ⟨(HB1.out.trans (hb2.mono hs1)).trans (hb3.mono (by omega)), by omega⟩
  have HF3 := hide ((HF.out.below hb2).below hb3)
  have HG3 := hide (hG.below hb3)
  have HNE : Hid (fx ≠ w2.heap.size ∧ gx ≠ w2.heap.size ∧ w2.heap.size < w3.heap.size) := ⟨by omega, by omega, lt_of_heap hblk⟩
  have HW3 := hide hw3
  have HPP := hide hp
  clear hp hH hw3 hb3 hblk hZ3 hs1 hs2 hgl hfl HN2 HF HB1 HFX hgx hG hb2 HZ HY
  go_wp2_with fail
  rw [← HW3.out]
  refine HBO.out.mono ?_
  rintro e w4 ⟨rfl, hT4, ⟨_, hB4⟩ | ⟨_, kx, M, kr, m', hB4, hK4, ⟨hm1, hm2⟩, hR4⟩⟩
  · have c0 : w4.cell? ⟨w2.heap.size, 0, none⟩ = some (.pointer none) := by rw [cell_of_row _ _ _ _ _ _ hB4, HPP.out]; rfl
    have HB4 : Hid (Below w.heap.size w w4) := HB3.out.1.trans (hT4.below (Nat.le_trans HB3.out.2 (Nat.le_of_lt HNE.out.2.2)) (fun k hk => by have := HB3.out.2; omega))
    clear hB4 hT4
    go_wp2
    go_ret
    exact ⟨rfl, HB4.out⟩
  · have hW := wd_boot fx gx (w2.heap.size) kx kr m' M (.slice ao n cap) _ (fillTo ys) (-1) 0 false 0 w3 w4 (by rw [← HPP.out]; exact hB4) hK4 hm1 hm2 hR4 HNE.out.2.2 (HF3.out.keep (hT4.block fx HF3.out.lt HNE.out.1)) (HG3.out.keep (hT4.block gx HG3.out.lt HNE.out.2.1)) HNE.out.1 HNE.out.2.1
    have c0 := hW.cells.2.2.2
    have HT4 := hide hT4
    have HWH := hide (lwhole_any _ _ (w2.heap.size) 0 _ _ kx fx gx kr M _ _ _ _ _ _ _ w4 hW (by omega) (by omega) (fun f => by simp))
    clear hW hB4 hK4 hm1 hm2 hR4 hT4
    go_wp2_with fail
    refine HWH.out.mono ?_
    rintro e w5 ⟨rfl, L', n', vs', A', hW5, ⟨h5a, h5b⟩, hA5, hL5, hT5⟩
    have HW2 := hide (lwhole_any _ _ (w2.heap.size) n' _ _ kx fx gx kr M _ _ _ _ _ _ _ w5 hW5 h5a (by omega) (fun f => by have := hA5 f; simp at this; omega))
    have hT45 : Touch (· = w2.heap.size) w3 w5 := HT4.out.trans hT5 (fun i hi => by
      rcases Nat.decEq i (w2.heap.size) with h | h
      · simp [h] at hi
      · exact .inl h)
    have HT5 := hide hT45
    have HL5 : Hid (∀ i, L' i ≤ 27 → i = w2.heap.size ∨ w3.heap.size ≤ i) := fun i hi => by
      by_cases hlt : i < w4.heap.size
      · rw [hL5 i hlt] at hi
        by_cases h : i = w2.heap.size
        · exact .inl h
        · simp [h] at hi
      · exact .inr (by have := HT4.out.size; omega)
    clear hW5 h5a h5b hA5 HWH c0 hL5 hT5 hT45
    go_wp2
    go_loopw [10, 11] (fun o t wr => o = .bool true ∧ t = .int .i64 0 ∧ w5 = wr) (fun _ _ _ => 0)
    case atStart => exact ⟨rfl, rfl, rfl⟩
    case round =>
      obtain ⟨rfl, rfl, rfl⟩ := hrel
      go_wp2_with fail
      refine HW2.out.mono ?_
      rintro e w6 ⟨rfl, L6, n6, vs6, A6, _, _, _, _, hT6⟩
      have HB6 : Hid (Below w.heap.size w w6) := HB3.out.1.trans ((HT5.out.trans hT6 HL5.out).below (Nat.le_trans HB3.out.2 (Nat.le_of_lt HNE.out.2.2)) (fun k hk => by have := HB3.out.2; omega))
      clear hT6
      go_wp2
      go_ret
      exact ⟨rfl, HB6.out⟩
end Go.Proofs.YtnjlbgolnbdkaaaGreat
