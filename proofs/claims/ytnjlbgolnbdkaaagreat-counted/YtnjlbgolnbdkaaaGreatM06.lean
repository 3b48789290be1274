/- Texts of the proofs of Watched and Clocked, one behind the other. -/
import Derived.Test.YtnjlbgolnbdkaaaGreatM05
import Derived.DeepKeys
import Derived.Test.YtnjlbgolnbdkaaaGreatM03
import Derived.RangeFuncBox
import Derived.RangeFuncLeaves
import Derived.RangeFuncFrom
import Derived.Shelf.Abstract
import Derived.WalkKit
import Derived.OwnWalkIn
import Derived.TacticsInMore
import Derived.LoopNIn
import Derived.LoopIn
import Derived.RangeFuncNested
import Derived.RangeFuncWrites
import Derived.RangeFuncCalls
import Derived.Stop.RegionWithIn
/- Texts of the proof of Boots, one behind the other. -/
namespace Go.Proofs.YtnjlbgolnbdkaaaGreat
open Go.RowKit

def pgConf (zs : List Int) (s : Rs) : Cf × Rs :=
  let a := (pgB zs 72 72 [] s).2
  let N := pgB zs 1 4 [] a
  let f := pgB zs 1 64 [] N.2
  let wt := pgB zs 0 200 [] f.2
  let ps := pgTo (pgPart zs) N.1.toNat wt.2
  let ws := pgWins zs N.1 f.1 ps.2
  let k := pgB zs 0 4 [] ws.2
  let cs := pgTo (pgChan zs N.1) k.1.toNat k.2
  (⟨f.1, wt.1, ps.1, ws.1, cs.1⟩, cs.2)

structure CMk (rb : Nat) (ao : Option Addr) (n cap : Nat) (zs : List Int) (w : World) (p : Nat) (N : Int) (cells : Array Value) (s : Rs) (wr : World) : Prop where
  box : wr.heap[w.heap.size]? = some (.cells #[.pointer (some ⟨rb, 0, none⟩)] 102 (0, 0))
  zero : wr.heap[w.heap.size + 1]? = some (.cells (cfCells 0 0 (.slice none 0 0) (.slice none 0 0) (.slice none 0 0)) 71 (0, 0))
  many : wr.heap[p]? = some (.cells #[.int .i64 N] 3 (0, 0))
  cur : wr.heap[p + 1]? = some (.cells cells 71 (0, 0))
  rd : PgAt rb ao n cap zs s wr
  t : Touch (· = rb) w wr
section
variable {rb : Nat} {ao : Option Addr} {n cap : Nat} {zs : List Int} {w : World} {p : Nat} {N : Int} {cells : Array Value} {s s' : Rs} {wr w' : World}
theorem CMk.byte (h : CMk rb ao n cap zs w p N cells s wr) (hrb : rb < w.heap.size) (hp : w.heap.size + 2 ≤ p) (hr : PgAt rb ao n cap zs s' w') (ht : Touch (· = rb) wr w') : CMk rb ao n cap zs w p N cells s' w' :=
  ⟨(ht.block _ (lt_of_block h.box) (by omega)).trans h.box, (ht.block _ (lt_of_block h.zero) (by omega)).trans h.zero, (ht.block _ (lt_of_block h.many) (by omega)).trans h.many, (ht.block _ (lt_of_block h.cur) (by omega)).trans h.cur, hr, h.t.andThen ht⟩
theorem CMk.set (h : CMk rb ao n cap zs w p N cells s wr) (hrb : rb < w.heap.size) (hp : w.heap.size + 2 ≤ p) (hlt : ∀ ad, ao = some ad → 0 < n → ad.block < w.heap.size) (o : Nat) (v : Value) : CMk rb ao n cap zs w p N (cells.setIfInBounds o v) s (wr.setCell ⟨p + 1, o, none⟩ v) := by
  have t : Touch (· = p + 1) wr (wr.setCell ⟨p + 1, o, none⟩ v) := Touch.ofSet wr _ o v rfl
  exact ⟨(t.block _ (lt_of_block h.box) (by omega)).trans h.box, (t.block _ (lt_of_block h.zero) (by omega)).trans h.zero, (t.block _ (lt_of_block h.many) (by omega)).trans h.many, block_set h.cur o v, h.rd.new hrb hlt (t.mono (fun k hk => by omega)), h.t.andNew (t.mono (fun k hk => by omega))⟩
end
theorem ConfV.low {base : Nat} {vP vW vC : Value} {cf : Cf} {w w' : World} (h : ConfV base vP vW vC cf w) {S : Nat → Prop} (t : Touch S w w') (hS : ∀ b, S b → b < base) : ConfV base vP vW vC cf w' := h.keep (fun b h1 h2 => t.block b h2 (fun hs => by have := hS b hs; omega))

set_option maxRecDepth 100000 in
set_option maxHeartbeats 8000000 in
theorem pgconfig_any (rb : Nat) (ao : Option Addr) (n cap : Nat) (zs : List Int) (s : Rs) (w : World) (h : PgAt rb ao n cap zs s w) :
    Calls Tryz.prog 44 #[.pointer (some ⟨rb, 0, none⟩)] w fun e w' => ∃ adP mP cP adW mW cW adC mC cC, e = .returned (.agg (cfCells (pgConf zs s).1.frame (pgConf zs s).1.watch (.slice adP mP cP) (.slice adW mW cW) (.slice adC mC cC))) ∧ ConfS w.heap.size (.slice adP mP cP) (.slice adW mW cW) (.slice adC mC cC) (pgConf zs s).1 w' ∧ PgAt rb ao n cap zs (pgConf zs s).2 w' ∧ Touch (· = rb) w w' := by
  have hrb := lt_of_block h.obj
  have HLT : Hid (∀ ad, ao = some ad → 0 < n → ad.block < w.heap.size) := h.held.lt
  have HBY := hide h.held.bytes
  have HZ : Hid (∃ Z, Z = cfCells 0 0 (.slice none 0 0) (.slice none 0 0) (.slice none 0 0)) := ⟨_, rfl⟩
  obtain ⟨w0, hw0⟩ : ∃ w0, w0 = ((w.alloc (.cells #[.pointer (some ⟨rb, 0, none⟩)] 102)).alloc (.cells #[.int .i64 0, .int .i64 0, .slice none 0 0, .slice none 0 0, .slice none 0 0] 71)) := ⟨_, rfl⟩
  have hs0 : w0.heap.size = w.heap.size + 2 := by rw [hw0]; simp
  have hA : w0.heap[w.heap.size]? = some (.cells #[.pointer (some ⟨rb, 0, none⟩)] 102 (0, 0)) := by rw [hw0]; exact (Below.heap_alloc _ _ _ (by simp)).trans (heap_alloc_new w _)
  have hB : w0.heap[w.heap.size + 1]? = some (.cells (cfCells 0 0 (.slice none 0 0) (.slice none 0 0) (.slice none 0 0)) 71 (0, 0)) := by rw [hw0]; exact new_two w _ _
  have hT : Touch (· = rb) w w0 := by rw [hw0]; exact (touch_alloc _ _).andThen (touch_alloc _ _)
  have hP : PgAt rb ao n cap zs s w0 := by rw [hw0]; exact (h.alloc _).alloc _
  have a0 : w0.cell? ⟨w.heap.size, 0, none⟩ = some (.pointer (some ⟨rb, 0, none⟩)) := by rw [cell_of_row _ _ _ _ _ _ hA]; rfl
  have HB1 := hide (pgnum0 rb ao n cap zs s 72 72 _ hP)
  obtain ⟨r1, hr1⟩ : ∃ r1, (pgB zs 72 72 [] s).2 = r1 := ⟨_, rfl⟩
  rw [hr1] at HB1
  have HW := hide hw0
  have H0 := hide (And.intro hA (And.intro hB hT))
  clear h hA hB hT hP hw0 HZ
  go_enter Tryz.func44, Tryz.ntmps44
  go_wp2_with fail
  rw [← HW.out]
  refine HB1.out.mono ?_
  rintro e w1 ⟨rfl, hp1, ht1⟩
  have hs1 := ht1.size
  have hA1 := (ht1.block _ (by omega) (by omega)).trans H0.out.1
  have hB1 := (ht1.block _ (by omega) (by omega)).trans H0.out.2.1
  have hT1 := H0.out.2.2.andThen ht1
  have a1 : w1.cell? ⟨w.heap.size, 0, none⟩ = some (.pointer (some ⟨rb, 0, none⟩)) := by rw [cell_of_row _ _ _ _ _ _ hA1]; rfl
  have HB2 := hide (pgnum0 rb ao n cap zs r1 1 4 _ hp1)
  have hN1 := pgB_small zs 1 4 [] r1 HBY.out
  have hN2 := pgB_le zs 1 4 [] r1 (by omega)
  obtain ⟨N, hNN⟩ : ∃ N, (pgB zs 1 4 [] r1).1 = N := ⟨_, rfl⟩
  obtain ⟨r2, hr2⟩ : ∃ r2, (pgB zs 1 4 [] r1).2 = r2 := ⟨_, rfl⟩
  rw [hNN, hr2] at HB2
  rw [hNN] at hN1 hN2
  have HE1 := hide (And.intro hr1 (And.intro hNN hr2))
  have H1 := hide (And.intro hA1 (And.intro hB1 hT1))
  clear hp1 ht1 hA1 hB1 hT1 a0 HB1 H0 HW hr1 hNN hr2
  go_wp2_with fail
  refine HB2.out.mono ?_
  rintro e w2 ⟨rfl, hp2, ht2⟩
  have hs2 := ht2.size
  obtain ⟨w3, hw3⟩ : ∃ w3, w3 = (w2.alloc (.cells #[.int .i64 N] 3)).alloc (.cells #[.int .i64 0, .int .i64 0, .slice none 0 0, .slice none 0 0, .slice none 0 0] 71) := ⟨_, rfl⟩
  have t3 : Touch (· = rb) w2 w3 := by rw [hw3]; exact (touch_alloc _ _).andThen (touch_alloc _ _)
  have HM3 : Hid (CMk rb ao n cap zs w w2.heap.size N (cfCells 0 0 (.slice none 0 0) (.slice none 0 0) (.slice none 0 0)) r2 w3) := by
    have t := ht2.andThen t3
    refine ⟨(t.block _ (by omega) (by omega)).trans H1.out.1, (t.block _ (by omega) (by omega)).trans H1.out.2.1, ?_, ?_, ?_, H1.out.2.2.andThen t⟩
    · rw [hw3]; exact (Below.heap_alloc _ _ _ (by simp)).trans (heap_alloc_new w2 _)
    · rw [hw3]; exact new_two w2 _ _
    · rw [hw3]; exact (hp2.alloc _).alloc _
  have a3 : w3.cell? ⟨w.heap.size, 0, none⟩ = some (.pointer (some ⟨rb, 0, none⟩)) := by rw [cell_of_row _ _ _ _ _ _ HM3.out.box]; rfl
  have a2 : w2.cell? ⟨w.heap.size, 0, none⟩ = some (.pointer (some ⟨rb, 0, none⟩)) := by rw [cell_of_row _ _ _ _ _ _ ((ht2.block _ (by omega) (by omega)).trans H1.out.1)]; rfl
  have hl2 : w.heap.size < w2.heap.size := by omega
  have HB3 := hide (pgnum0 rb ao n cap zs r2 1 64 _ HM3.out.rd)
  have hF1 := pgB_small zs 1 64 [] r2 HBY.out
  have hF2 := pgB_le zs 1 64 [] r2 (by omega)
  obtain ⟨fr, hfr⟩ : ∃ fr, (pgB zs 1 64 [] r2).1 = fr := ⟨_, rfl⟩
  obtain ⟨r3, hr3⟩ : ∃ r3, (pgB zs 1 64 [] r2).2 = r3 := ⟨_, rfl⟩
  rw [hfr, hr3] at HB3
  rw [hfr] at hF1 hF2
  have HE2 := hide (And.intro hfr hr3)
  have HW3 := hide hw3
  clear hp2 ht2 t3 hw3 HB2 H1 a1 hfr hr3
  go_wp2_with fail
  rw [← HW3.out]
  refine HB3.out.mono ?_
  clear a2 a3
  rintro e w4 ⟨rfl, hp4, ht4⟩
  have HM4 := hide (HM3.out.byte hrb (by omega) hp4 ht4)
  have z0 : w4.cell? ⟨w2.heap.size + 1, 0, none⟩ = some (.int .i64 0) := by rw [cell_of_row _ _ _ _ _ _ HM4.out.cur]; rfl
  have f0 := free_of_block HM4.out.cur 0
  have a4 : w4.cell? ⟨w.heap.size, 0, none⟩ = some (.pointer (some ⟨rb, 0, none⟩)) := by rw [cell_of_row _ _ _ _ _ _ HM4.out.box]; rfl
  have n1 : ¬ w.heap.size = w2.heap.size + 1 := by omega
  have n2 : ¬ w2.heap.size + 1 = w.heap.size := by omega
  have n3 : ¬ w.heap.size + 1 = w2.heap.size + 1 := by omega
  have n4 : ¬ w2.heap.size + 1 = w.heap.size + 1 := by omega
  have HM5 : Hid (CMk rb ao n cap zs w w2.heap.size N (cfCells fr 0 (.slice none 0 0) (.slice none 0 0) (.slice none 0 0)) r3 (w4.setCell ⟨w2.heap.size + 1, 0, none⟩ (.int .i64 fr))) := HM4.out.set hrb (by omega) HLT.out 0 (.int .i64 fr)
  have HB5 := hide (pgnum0 rb ao n cap zs r3 0 200 _ HM5.out.rd)
  have hW1 := pgB_small zs 0 200 [] r3 HBY.out
  obtain ⟨wt, hwt⟩ : ∃ wt, (pgB zs 0 200 [] r3).1 = wt := ⟨_, rfl⟩
  obtain ⟨r4, hr4⟩ : ∃ r4, (pgB zs 0 200 [] r3).2 = r4 := ⟨_, rfl⟩
  rw [hwt, hr4] at HB5
  rw [hwt] at hW1
  have HE3 := hide (And.intro hwt hr4)
  clear hp4 ht4 HB3 HM3 HW3 hwt hr4
  go_wp2_with fail
  refine HB5.out.mono ?_
  rintro e w6 ⟨rfl, hp6, ht6⟩
  have HM6 := hide (HM5.out.byte hrb (by omega) hp6 ht6)
  clear hp6 ht6 HB5 HM5 HM4 z0 f0 a4
  obtain ⟨w7, hw7⟩ : ∃ w7, w7 = w6.setCell ⟨w2.heap.size + 1, 1, none⟩ (.int .i64 wt) := ⟨_, rfl⟩
  have HM7 : Hid (CMk rb ao n cap zs w w2.heap.size N (cfCells fr wt (.slice none 0 0) (.slice none 0 0) (.slice none 0 0)) r4 w7) := by rw [hw7]; exact HM6.out.set hrb (by omega) HLT.out 1 (.int .i64 wt)
  have z1 : w6.cell? ⟨w2.heap.size + 1, 1, none⟩ = some (.int .i64 0) := by rw [cell_of_row _ _ _ _ _ _ HM6.out.cur]; rfl
  have f1 := free_of_block HM6.out.cur 1
  have a6 : w6.cell? ⟨w.heap.size, 0, none⟩ = some (.pointer (some ⟨rb, 0, none⟩)) := by rw [cell_of_row _ _ _ _ _ _ HM6.out.box]; rfl
  have b6 : w6.cell? ⟨w2.heap.size, 0, none⟩ = some (.int .i64 N) := by rw [cell_of_row _ _ _ _ _ _ HM6.out.many]; rfl
  have hs7 := lt_of_block HM7.out.cur
  have hLI := list_part rb N.toNat (by omega) (· = rb) w7 (fun b hb => by omega) (fun j l wr => l.map Prod.fst = (pgTo (pgPart zs) j r4).1 ∧ PgAt rb ao n cap zs (pgTo (pgPart zs) j r4).2 wr ∧ Touch (· = rb) w7 wr ∧ PartsAt w7.heap.size l wr)
    (fun j l wr w' hI t => ⟨hI.1, hI.2.1.new (B := w7.heap.size) (by omega) (fun ad e hn => by have := HLT.out ad e hn; omega) (t.mono (fun k hk => hk.1)), hI.2.2.1.andNew (t.mono (fun k hk => hk.1)), hI.2.2.2.touch t (fun b hb => .inr hb.2)⟩)
    (fun j l wr hj hI => (pgpartition_any rb ao n cap zs _ wr hI.2.1).mono (fun e w' ⟨ad, m, c, he, hc, hp, ht⟩ => ⟨_, ad, m, c, he, ⟨by rw [List.map_append, hI.1]; rfl, hp, hI.2.2.1.andThen ht, hI.2.2.2.snoc hI.2.2.1.size ht (fun b hb => by omega) hc⟩, ht⟩))
    ⟨rfl, HM7.out.rd, Touch.refl _ _, PartsAt.nil _⟩
  rw [show ((N.toNat : Nat) : Int) = N from by omega] at hLI
  have HLI := hide hLI
  have HW7 := hide hw7
  clear hLI hw7
  go_wp2_with fail
  rw [← HW7.out]
  refine HLI.out.mono ?_
  rintro e w8 ⟨vP, lP, rfl, ⟨hl, hp, ht, hpr⟩, hll, hV⟩
  obtain ⟨adP, cP, rfl⟩ := own_slice hV
  have hs8 := ht.size
  have HM8 := hide (HM7.out.byte hrb (by omega) hp ht)
  have HVP8 : Hid (PartsS w7.heap.size (.slice adP lP.length cP) (lP.map Prod.fst) w8) := by
    obtain ⟨c, h1, h2, _, h4⟩ := hpr.ex
    exact ⟨lP, c, rfl, hV, h1, h2, h4⟩
  obtain ⟨r5, hr5⟩ : ∃ r5, (pgTo (pgPart zs) N.toNat r4).2 = r5 := ⟨_, rfl⟩
  rw [hr5] at HM8
  have HE4 := hide (And.intro hl.symm hr5)
  generalize lP.length = mP at HVP8
  clear hl hp ht hpr hll hV HLI hr5 HM7 HM6 HW7 z1 f1 a6 b6
  obtain ⟨w9, hw9⟩ : ∃ w9, w9 = w8.setCell ⟨w2.heap.size + 1, 2, none⟩ (.slice adP mP cP) := ⟨_, rfl⟩
  have t9 : Touch (· = w2.heap.size + 1) w8 w9 := by rw [hw9]; exact Touch.ofSet _ _ _ _ rfl
  have hs9 : w9.heap.size = w8.heap.size := by rw [hw9]; simp
  have HM9 : Hid (CMk rb ao n cap zs w w2.heap.size N (cfCells fr wt (.slice adP mP cP) (.slice none 0 0) (.slice none 0 0)) r5 w9) := by rw [hw9]; exact HM8.out.set hrb (by omega) HLT.out 2 _
  have HVP9 : Hid (PartsS w7.heap.size (.slice adP mP cP) (lP.map Prod.fst) w9) := HVP8.out.keep (fun b h1 h2 _ => t9.block b h2 (by omega))
  have z2 : w8.cell? ⟨w2.heap.size + 1, 2, none⟩ = some (.slice none 0 0) := by rw [cell_of_row _ _ _ _ _ _ HM8.out.cur]; rfl
  have f2 := free_of_block HM8.out.cur 2
  have a8 : w8.cell? ⟨w.heap.size, 0, none⟩ = some (.pointer (some ⟨rb, 0, none⟩)) := by rw [cell_of_row _ _ _ _ _ _ HM8.out.box]; rfl
  have b8 : w8.cell? ⟨w2.heap.size, 0, none⟩ = some (.int .i64 N) := by rw [cell_of_row _ _ _ _ _ _ HM8.out.many]; rfl
  have d8 : w8.cell? ⟨w2.heap.size + 1, 0, none⟩ = some (.int .i64 fr) := by rw [cell_of_row _ _ _ _ _ _ HM8.out.cur]; rfl
  have HB9 := hide (pgwindows_any rb ao n cap zs r5 N fr _ HM9.out.rd (by omega) (by omega))
  obtain ⟨Ws, hWs⟩ : ∃ Ws, (pgWins zs N fr r5).1 = Ws := ⟨_, rfl⟩
  obtain ⟨r6, hr6⟩ : ∃ r6, (pgWins zs N fr r5).2 = r6 := ⟨_, rfl⟩
  rw [hWs, hr6] at HB9
  have HE5 := hide (And.intro hWs hr6)
  have HW9 := hide hw9
  clear hWs hr6 hw9 t9
  go_wp2_with fail
  rw [← HW9.out]
  refine HB9.out.mono ?_
  rintro e wA ⟨adW, mW, cW, rfl, hV, hp, ht⟩
  have hsA := ht.size
  have HMA := hide (HM9.out.byte hrb (by omega) hp ht)
  have HVA : Hid (PartsS w7.heap.size (.slice adP mP cP) (lP.map Prod.fst) wA ∧ WinsV w7.heap.size (.slice adW mW cW) Ws wA) := ⟨HVP9.out.keep (fun b h1 h2 _ => ht.block b h2 (by omega)), own_low hV (by omega)⟩
  clear hV hp ht HB9 HM9 HM8 HW9 HVP9 HVP8 z2 f2 a8 b8 d8
  have zA : wA.cell? ⟨w2.heap.size + 1, 3, none⟩ = some (.slice none 0 0) := by rw [cell_of_row _ _ _ _ _ _ HMA.out.cur]; rfl
  have fA := free_of_block HMA.out.cur 3
  have aA : wA.cell? ⟨w.heap.size, 0, none⟩ = some (.pointer (some ⟨rb, 0, none⟩)) := by rw [cell_of_row _ _ _ _ _ _ HMA.out.box]; rfl
  obtain ⟨wB, hwB⟩ : ∃ wB, wB = wA.setCell ⟨w2.heap.size + 1, 3, none⟩ (.slice adW mW cW) := ⟨_, rfl⟩
  have tB : Touch (· = w2.heap.size + 1) wA wB := by rw [hwB]; exact Touch.ofSet _ _ _ _ rfl
  have hsB : wB.heap.size = wA.heap.size := by rw [hwB]; simp
  have HMB : Hid (CMk rb ao n cap zs w w2.heap.size N (cfCells fr wt (.slice adP mP cP) (.slice adW mW cW) (.slice none 0 0)) r6 wB) := by rw [hwB]; exact HMA.out.set hrb (by omega) HLT.out 3 _
  have HVB : Hid (PartsS w7.heap.size (.slice adP mP cP) (lP.map Prod.fst) wB ∧ WinsV w7.heap.size (.slice adW mW cW) Ws wB) := ⟨HVA.out.1.keep (fun b h1 h2 _ => tB.block b h2 (by omega)), own_type HVA.out.2 (fun b h1 h2 _ => tB.block b h2 (by omega))⟩
  have HBB := hide (pgnum0 rb ao n cap zs r6 0 4 _ HMB.out.rd)
  have hK1 := pgB_small zs 0 4 [] r6 HBY.out
  have hK2 := pgB_le zs 0 4 [] r6 (by omega)
  obtain ⟨K, hK⟩ : ∃ K, (pgB zs 0 4 [] r6).1 = K := ⟨_, rfl⟩
  obtain ⟨r7, hr7⟩ : ∃ r7, (pgB zs 0 4 [] r6).2 = r7 := ⟨_, rfl⟩
  rw [hK, hr7] at HBB
  rw [hK] at hK1 hK2
  have HE6 := hide (And.intro hK hr7)
  have HWB := hide hwB
  clear hK hr7 hwB tB HMA HVA
  go_wp2_with fail
  rw [← HWB.out]
  refine HBB.out.mono ?_
  rintro e wC ⟨rfl, hp, ht⟩
  have hsC := ht.size
  have HMC := hide (HMB.out.byte hrb (by omega) hp ht)
  have HVC : Hid (PartsS w7.heap.size (.slice adP mP cP) (lP.map Prod.fst) wC ∧ WinsV w7.heap.size (.slice adW mW cW) Ws wC) := ⟨HVB.out.1.keep (fun b h1 h2 _ => ht.block b h2 (by omega)), own_type HVB.out.2 (fun b h1 h2 _ => ht.block b h2 (by omega))⟩
  clear hp ht HBB HMB HVB HWB zA fA aA
  have hLI := list_chan w.heap.size w2.heap.size K.toNat (by omega) (· = rb) wC (fun b hb => by omega) (fun j l wr => l = (pgTo (pgChan zs N) j r7).1 ∧ PgAt rb ao n cap zs (pgTo (pgChan zs N) j r7).2 wr ∧ Touch (· = rb) wC wr)
    (fun j l wr w' hI t => ⟨hI.1, hI.2.1.new (B := wC.heap.size) (by omega) (fun ad e hn => by have := HLT.out ad e hn; omega) (t.mono (fun k hk => hk.1)), hI.2.2.andNew (t.mono (fun k hk => hk.1))⟩)
    (fun j l wr hj hI => (pgchan_lit w.heap.size w2.heap.size rb ao n cap zs _ N wr hI.2.1 (by omega) ((hI.2.2.block _ (by omega) (by omega)).trans HMC.out.box) ((hI.2.2.block _ (by omega) (by omega)).trans HMC.out.many)).mono (fun e w' ⟨he, hp, ht⟩ => ⟨_, he, ⟨by rw [hI.1]; rfl, hp, hI.2.2.andThen ht⟩, ht⟩))
    ⟨rfl, HMC.out.rd, Touch.refl _ _⟩
  rw [show ((K.toNat : Nat) : Int) = K from by omega] at hLI
  have HLI := hide hLI
  clear hLI
  go_wp2_with fail
  refine HLI.out.mono ?_
  rintro e wD ⟨v, lC, rfl, ⟨hl, hp, ht⟩, hll, hV⟩
  obtain ⟨adC, cC, rfl⟩ := own_slice hV
  have hsD := ht.size
  have HMD := hide (HMC.out.byte hrb (by omega) hp ht)
  have HVD : Hid (ConfS w7.heap.size (.slice adP mP cP) (.slice adW mW cW) (.slice adC lC.length cC) ⟨fr, wt, lP.map Prod.fst, Ws, lC⟩ wD) := ⟨HVC.out.1.keep (fun b h1 h2 _ => ht.block b h2 (by omega)), own_type HVC.out.2 (fun b h1 h2 _ => ht.block b h2 (by omega)), own_low hV (by omega)⟩
  obtain ⟨r8, hr8⟩ : ∃ r8, (pgTo (pgChan zs N) K.toNat r7).2 = r8 := ⟨_, rfl⟩
  rw [hr8] at HMD
  have HSP : Hid (pgConf zs s = (⟨fr, wt, lP.map Prod.fst, Ws, lC⟩, r8)) := by
    show _ = _
    obtain ⟨e1, e2, e3⟩ := HE1.out
    obtain ⟨e4, e5⟩ := HE2.out
    obtain ⟨e6, e7⟩ := HE3.out
    obtain ⟨e8, e9⟩ := HE4.out
    obtain ⟨e10, e11⟩ := HE5.out
    obtain ⟨e12, e13⟩ := HE6.out
    unfold pgConf
    simp only [e1, e2, e3, e4, e5, e6, e7, e8, e9, e10, e11, e12, e13, hr8, ← hl]
  generalize lC.length = mC at HVD
  clear hl hp ht hll hV hr8 HLI HMC HVC HE1 HE2 HE3 HE4 HE5 HE6
  have hcur := HMD.out.cur
  have hzero := HMD.out.zero
  have x0 : wD.cell? ⟨w2.heap.size + 1, 0, none⟩ = some (.int .i64 fr) := by rw [cell_of_row _ _ _ _ _ _ hcur]; rfl
  have x1 : wD.cell? ⟨w2.heap.size + 1, 1, none⟩ = some (.int .i64 wt) := by rw [cell_of_row _ _ _ _ _ _ hcur]; rfl
  have x2 : wD.cell? ⟨w2.heap.size + 1, 2, none⟩ = some (.slice adP mP cP) := by rw [cell_of_row _ _ _ _ _ _ hcur]; rfl
  have x3 : wD.cell? ⟨w2.heap.size + 1, 3, none⟩ = some (.slice adW mW cW) := by rw [cell_of_row _ _ _ _ _ _ hcur]; rfl
  have x4 : wD.cell? ⟨w2.heap.size + 1, 4, none⟩ = some (.slice none 0 0) := by rw [cell_of_row _ _ _ _ _ _ hcur]; rfl
  have f4 := free_of_block hcur 4
  have q0 : wD.cell? ⟨w.heap.size + 1, 0, none⟩ = some (.int .i64 0) := by rw [cell_of_row _ _ _ _ _ _ hzero]; rfl
  have q1 : wD.cell? ⟨w.heap.size + 1, 1, none⟩ = some (.int .i64 0) := by rw [cell_of_row _ _ _ _ _ _ hzero]; rfl
  have q2 : wD.cell? ⟨w.heap.size + 1, 2, none⟩ = some (.slice none 0 0) := by rw [cell_of_row _ _ _ _ _ _ hzero]; rfl
  have q3 : wD.cell? ⟨w.heap.size + 1, 3, none⟩ = some (.slice none 0 0) := by rw [cell_of_row _ _ _ _ _ _ hzero]; rfl
  have q4 : wD.cell? ⟨w.heap.size + 1, 4, none⟩ = some (.slice none 0 0) := by rw [cell_of_row _ _ _ _ _ _ hzero]; rfl
  have g0 := free_of_block hzero 0
  have g1 := free_of_block hzero 1
  have g2 := free_of_block hzero 2
  have g3 := free_of_block hzero 3
  have g4 := free_of_block hzero 4
  clear hcur hzero
  have HOK : Hid (∀ W', Touch (fun i => i = w.heap.size + 1 ∨ i = w2.heap.size + 1) wD W' → ConfS w.heap.size (.slice adP mP cP) (.slice adW mW cW) (.slice adC mC cC) ⟨fr, wt, lP.map Prod.fst, Ws, lC⟩ W' ∧ PgAt rb ao n cap zs r8 W' ∧ Touch (· = rb) w W') := fun W' t => ⟨(HVD.out.low t (fun b hb => by omega)).base (by omega), HMD.out.rd.new hrb HLT.out (t.mono (fun k hk => by omega)), HMD.out.t.andNew (t.mono (fun k hk => by omega))⟩
  go_wp2
  refine bodyPost_ret (v := .agg (cfCells fr wt (.slice adP mP cP) (.slice adW mW cW) (.slice adC mC cC))) (by simp [results, Tryz.results44, go_sem, cfCells, q0, q1, q2, q3, q4]) rfl ?_
  rw [HSP.out]
  refine ⟨adP, mP, cP, adW, mW, cW, adC, mC, cC, rfl, HOK.out _ ?_⟩
  iterate 5 refine Touch.thenSet (g := w.heap.size + 1) ?_ _ _ (.inl rfl)
  refine Touch.thenSet (g := w2.heap.size + 1) ?_ _ _ (.inr rfl)
  exact Touch.refl _ _
end Go.Proofs.YtnjlbgolnbdkaaaGreat
namespace Go.Proofs.YtnjlbgolnbdkaaaGreat
open Go.RowKit

def pgCheck (zs : List Int) (s : Rs) : Rs :=
  if s.err ≠ 0 then s
  else if zs.length < s.pos + 4 then ⟨zs.length, 2⟩
  else if numFrom 0 ((zs.drop s.pos).take 4) ≠ crcOf (zs.take s.pos) then ⟨s.pos, 5⟩
  else ⟨s.pos + 4, s.err⟩
def pgEnd (zs : List Int) (s : Rs) : Rs := if s.err = 0 ∧ s.pos < zs.length then ⟨s.pos, 4⟩ else s

set_option maxRecDepth 100000 in
set_option maxHeartbeats 2000000 in
theorem pgcheck_any (rb : Nat) (ao : Option Addr) (n cap : Nat) (zs : List Int) (s : Rs) (w : World) (h : PgAt rb ao n cap zs s w) :
    Calls Tryz.prog 45 #[.pointer (some ⟨rb, 0, none⟩)] w fun e w' => e = .returned (.tuple #[]) ∧ PgAt rb ao n cap zs (pgCheck zs s) w' ∧ Touch (· = rb) w w' := by
  have hr := h.obj
  have c0 : w.cell? ⟨rb, 0, none⟩ = some (.slice ao n cap) := by rw [cell_of_row _ _ _ _ _ _ hr]; rfl
  have c1 : w.cell? ⟨rb, 1, none⟩ = some (.int .i64 s.pos) := by rw [cell_of_row _ _ _ _ _ _ hr]; rfl
  have c2 : w.cell? ⟨rb, 2, none⟩ = some (.int .i64 s.err) := by rw [cell_of_row _ _ _ _ _ _ hr]; rfl
  have f1 := free_of_block hr 1
  have f2 := free_of_block hr 2
  have hlen := h.held.len
  have hp := h.pos
  have hsm := h.small
  have hn0 : (0 : Int) ≤ (n : Int) := by omega
  have H := hide h
  have back : Hid (∀ (s' : Rs) (w' : World), w'.heap[rb]? = some (PgObj (.slice ao n cap) s') → Touch (· = rb) w w' → s'.pos ≤ n → PgAt rb ao n cap zs s' w') := fun r' w' ho ht hp' => ⟨ho, H.out.held.touch ht (fun ad e hn hs => H.out.apart ad e hn hs), H.out.apart, H.out.small, hp'⟩
  have HOBJ := hide hr
  clear h hr
  by_cases h1 : s.err = 0
  · have b1 : (s.err != 0) = false := by simp [h1]
    by_cases h2 : zs.length < s.pos + 4
    · have HR : Hid (pgCheck zs s = ⟨n, 2⟩) := by show _ = _; unfold pgCheck; rw [if_neg (by simpa using h1), if_pos h2, hlen]
      have h2' : (n : Int) < (s.pos : Int) + 4 := by omega
      clear h1 h2 hlen
      go_enter Tryz.func45, Tryz.ntmps45
      go_wp2
      refine bodyPost_ret (results_none rfl _ _ _) rfl ?_
      rw [HR.out]
      have t : Touch (· = rb) w ((w.setCell ⟨rb, 1, none⟩ (.int .i64 n)).setCell ⟨rb, 2, none⟩ (.int .i64 2)) := Touch.thenSet (S := (· = rb)) (Touch.thenSet (S := (· = rb)) (Touch.refl _ _) _ _ rfl) _ _ rfl
      refine ⟨rfl, back.out _ _ ?_ t (Nat.le_refl n), t⟩
      rw [block_set (block_set HOBJ.out 1 _) 2 _]
      rfl
    · have h2' : ¬ (n : Int) < (s.pos : Int) + 4 := by omega
      obtain ⟨b, off, hao, hrow⟩ := held_row H.out.held (by omega)
      have hcap1 := H.out.held.cap1
      have hcap2 := H.out.held.cap2
      have b3 : (s.pos : Int) + 4 ≤ (cap : Int) := by omega
      have b4 : ¬ cap = s.pos := by omega
      have b5 : (0 : Int) ≤ (s.pos : Int) := by omega
      have b6 : (s.pos : Int) ≤ (s.pos : Int) + 4 := by omega
      have b7 : (s.pos : Int) ≤ (cap : Int) := by omega
      have HBY := hide H.out.held.bytes
      have HNUM : Hid (∀ q c, Calls Tryz.prog 87 #[.slice (some ⟨b, off + s.pos, none⟩) 4 c] (w.drewN q) fun e w' => e = .returned (.int .u32 (numFrom 0 ((zs.drop s.pos).take 4) : Nat)) ∧ w' = w.drewN q) := fun q c => number_at b (off + s.pos) 4 c ((zs.drop s.pos).take 4) (w.drewN q) (by simp; omega) ((HBY.out.drop _).take _) ((hrow.drewN q).piece s.pos 4) (by omega)
      have HCHK : Hid (∀ q c, Calls Tryz.prog 88 #[.slice (some ⟨b, off, none⟩) s.pos c] (w.drewN q) fun e w' => e = .returned (.int .u32 (crcOf (zs.take s.pos) : Nat)) ∧ w' = w.drewN q) := fun q c => check_at b off s.pos c (zs.take s.pos) (w.drewN q) (by simp; omega) (HBY.out.take _) (by have := (hrow.drewN q).piece 0 s.pos; simpa using this) (by omega)
      subst hao
      by_cases h3 : numFrom 0 ((zs.drop s.pos).take 4) = crcOf (zs.take s.pos)
      · have HR : Hid (pgCheck zs s = ⟨s.pos + 4, s.err⟩) := by show _ = _; unfold pgCheck; rw [if_neg (by simpa using h1), if_neg h2, if_neg (by simpa using h3)]
        have b8 : (((numFrom 0 ((zs.drop s.pos).take 4) : Nat) : Int) != ((crcOf (zs.take s.pos) : Nat) : Int)) = false := by simp [h3]
        have HPN : Hid (s.pos + 4 ≤ n) := (by omega : s.pos + 4 ≤ n)
        generalize numFrom 0 ((zs.drop s.pos).take 4) = nu at HNUM b8
        generalize crcOf (zs.take s.pos) = cr at HCHK b8
        clear h1 h2 h3 hlen hrow
        go_enter Tryz.func45, Tryz.ntmps45
        go_wp2
        go_quiet ((first | (go_at_call 87; exact Calls.quiet_of_same (HNUM.out _ _)) | (go_at_call 88; exact Calls.quiet_of_same (HCHK.out _ _))))
        go_wp2
        go_end0
        rw [HR.out]
        have t : Touch (· = rb) w ((w.drewN nq).setCell ⟨rb, 1, none⟩ (.int .i64 ((s.pos : Int) + 4))) := (Touch.ofDrewN w nq).thenSet _ _ rfl
        refine ⟨rfl, back.out _ _ ?_ t HPN.out, t⟩
        rw [block_set (w := w.drewN nq) HOBJ.out 1 _]
        rfl
      · have HR : Hid (pgCheck zs s = ⟨s.pos, 5⟩) := by show _ = _; unfold pgCheck; rw [if_neg (by simpa using h1), if_neg h2, if_pos h3]
        have b8 : (((numFrom 0 ((zs.drop s.pos).take 4) : Nat) : Int) != ((crcOf (zs.take s.pos) : Nat) : Int)) = true := by rw [bne_iff_ne]; omega
        generalize numFrom 0 ((zs.drop s.pos).take 4) = nu at HNUM b8
        generalize crcOf (zs.take s.pos) = cr at HCHK b8
        clear h1 h2 h3 hlen hrow
        go_enter Tryz.func45, Tryz.ntmps45
        go_wp2
        go_quiet ((first | (go_at_call 87; exact Calls.quiet_of_same (HNUM.out _ _)) | (go_at_call 88; exact Calls.quiet_of_same (HCHK.out _ _))))
        go_wp2
        refine bodyPost_ret (results_none rfl _ _ _) rfl ?_
        rw [HR.out]
        have t : Touch (· = rb) w ((w.drewN nq).setCell ⟨rb, 2, none⟩ (.int .i64 5)) := (Touch.ofDrewN w nq).thenSet _ _ rfl
        refine ⟨rfl, back.out _ _ ?_ t hp, t⟩
        rw [block_set (w := w.drewN nq) HOBJ.out 2 _]
        rfl
  · have b1 : (s.err != 0) = true := by simpa using h1
    have HR : Hid (pgCheck zs s = s) := by show _ = _; unfold pgCheck; rw [if_pos h1]
    clear h1
    go_enter Tryz.func45, Tryz.ntmps45
    go_wp2
    refine bodyPost_ret (results_none rfl _ _ _) rfl ?_
    rw [HR.out]
    exact ⟨rfl, H.out, Touch.refl _ _⟩

set_option maxRecDepth 100000 in
set_option maxHeartbeats 2000000 in
theorem pgend_any (rb : Nat) (ao : Option Addr) (n cap : Nat) (zs : List Int) (s : Rs) (w : World) (h : PgAt rb ao n cap zs s w) :
    Calls Tryz.prog 46 #[.pointer (some ⟨rb, 0, none⟩)] w fun e w' => e = .returned (.tuple #[]) ∧ PgAt rb ao n cap zs (pgEnd zs s) w' ∧ Touch (· = rb) w w' := by
  have hr := h.obj
  have c0 : w.cell? ⟨rb, 0, none⟩ = some (.slice ao n cap) := by rw [cell_of_row _ _ _ _ _ _ hr]; rfl
  have c1 : w.cell? ⟨rb, 1, none⟩ = some (.int .i64 s.pos) := by rw [cell_of_row _ _ _ _ _ _ hr]; rfl
  have c2 : w.cell? ⟨rb, 2, none⟩ = some (.int .i64 s.err) := by rw [cell_of_row _ _ _ _ _ _ hr]; rfl
  have f2 := free_of_block hr 2
  have hlen := h.held.len
  have hp := h.pos
  have hsm := h.small
  have hn0 : (0 : Int) ≤ (n : Int) := by omega
  have H := hide h
  have back : Hid (∀ (s' : Rs) (w' : World), w'.heap[rb]? = some (PgObj (.slice ao n cap) s') → Touch (· = rb) w w' → s'.pos ≤ n → PgAt rb ao n cap zs s' w') := fun r' w' ho ht hp' => ⟨ho, H.out.held.touch ht (fun ad e hn hs => H.out.apart ad e hn hs), H.out.apart, H.out.small, hp'⟩
  have t0 : Hid (∀ nq, PgAt rb ao n cap zs s (w.drewN nq) ∧ Touch (· = rb) w (w.drewN nq)) := fun nq => ⟨⟨H.out.obj, H.out.held.touch (S := fun _ => False) (Touch.ofDrewN w nq) (fun _ _ _ h => h), H.out.apart, H.out.small, H.out.pos⟩, Touch.ofDrewN w nq⟩
  have HOBJ := hide hr
  clear h hr
  by_cases h1 : s.err = 0
  · have b1 : (s.err == 0) = true := by simp [h1]
    by_cases h2 : s.pos < zs.length
    · have HR : Hid (pgEnd zs s = ⟨s.pos, 4⟩) := by show _ = _; unfold pgEnd; rw [if_pos ⟨h1, h2⟩]
      have h2' : s.pos < n := by omega
      clear h1 h2 hlen
      go_enter Tryz.func46, Tryz.ntmps46
      go_wp2
      go_quiet (fail)
      go_wp2
      go_end0
      rw [HR.out]
      have t : Touch (· = rb) w ((w.drewN nq).setCell ⟨rb, 2, none⟩ (.int .i64 4)) := (Touch.ofDrewN w nq).thenSet _ _ rfl
      refine ⟨rfl, back.out _ _ ?_ t hp, t⟩
      rw [block_set (w := w.drewN nq) HOBJ.out 2 _]
      rfl
    · have HR : Hid (pgEnd zs s = s) := by show _ = _; unfold pgEnd; rw [if_neg (fun h => h2 h.2)]
      have h2' : ¬ s.pos < n := by omega
      clear h1 h2 hlen
      go_enter Tryz.func46, Tryz.ntmps46
      go_wp2
      go_quiet (fail)
      go_wp2
      go_end0
      rw [HR.out]
      exact ⟨rfl, t0.out _⟩
  · have b1 : (s.err == 0) = false := by simpa using h1
    have HR : Hid (pgEnd zs s = s) := by show _ = _; unfold pgEnd; rw [if_neg (fun h => h1 h.1)]
    clear h1
    go_enter Tryz.func46, Tryz.ntmps46
    go_wp2
    go_quiet (fail)
    go_wp2
    go_end0
    rw [HR.out]
    exact ⟨rfl, t0.out _⟩
end Go.Proofs.YtnjlbgolnbdkaaaGreat
namespace Go.Proofs.YtnjlbgolnbdkaaaGreat
open Go.RowKit

def pgLast (zs : List Int) : Rs := pgEnd zs (pgCheck zs (pgConf zs ⟨0, 0⟩).2)
def pgParse (zs : List Int) : Cf × Int × Int := if (pgLast zs).err ≠ 0 then (noCf, (pgLast zs).pos, (pgLast zs).err) else ((pgConf zs ⟨0, 0⟩).1, 0, 0)

set_option maxRecDepth 100000 in
set_option maxHeartbeats 8000000 in
theorem pgparse_any (ao : Option Addr) (n cap : Nat) (zs : List Int) (w : World) (hz : Held w ao n cap zs) (hn : n ≤ 140737488351232) :
    Calls Tryz.prog 29 #[.slice ao n cap] w fun e w' => ∃ adP mP cP adW mW cW adC mC cC, e = .returned (.tuple #[.agg (cfCells (pgParse zs).1.frame (pgParse zs).1.watch (.slice adP mP cP) (.slice adW mW cW) (.slice adC mC cC)), .int .i64 (pgParse zs).2.1, .int .i64 (pgParse zs).2.2]) ∧ ConfS w.heap.size (.slice adP mP cP) (.slice adW mW cW) (.slice adC mC cC) (pgParse zs).1 w' ∧ Below w.heap.size w w' := by
  have HLT : Hid (∀ ad, ao = some ad → 0 < n → ad.block < w.heap.size) := hz.lt
  obtain ⟨w0, hw0⟩ : ∃ w0, w0 = ((w.alloc (.cells #[.int .i64 0, .int .i64 0, .slice none 0 0, .slice none 0 0, .slice none 0 0] 71)).alloc (.cells #[.slice ao n cap, .int .i64 0, .int .i64 0] 104)) := ⟨_, rfl⟩
  have hs0 : w0.heap.size = w.heap.size + 2 := by rw [hw0]; simp
  have hT0 : Touch (fun i => w.heap.size ≤ i) w w0 := by rw [hw0]; exact (touch_alloc _ _).andThen (touch_alloc _ _)
  have hB0 : w0.heap[w.heap.size]? = some (.cells (cfCells 0 0 (.slice none 0 0) (.slice none 0 0) (.slice none 0 0)) 71 (0, 0)) := by rw [hw0]; exact (Below.heap_alloc _ _ _ (by simp)).trans (heap_alloc_new w _)
  have hP0 : PgAt (w.heap.size + 1) ao n cap zs ⟨0, 0⟩ w0 := ⟨by rw [hw0]; exact new_two w _ _, hz.touch hT0 (fun ad e h hs => by have := HLT.out ad e h; omega), fun ad e h => by have := HLT.out ad e h; omega, hn, Nat.zero_le _⟩
  have HB := hide (pgconfig_any (w.heap.size + 1) ao n cap zs ⟨0, 0⟩ _ hP0)
  have HW := hide hw0
  have H0 := hide (And.intro hT0 hB0)
  have HSP : Hid (pgParse zs = if (pgEnd zs (pgCheck zs (pgConf zs ⟨0, 0⟩).2)).err ≠ 0 then (noCf, ((pgEnd zs (pgCheck zs (pgConf zs ⟨0, 0⟩).2)).pos : Int), (pgEnd zs (pgCheck zs (pgConf zs ⟨0, 0⟩).2)).err) else ((pgConf zs ⟨0, 0⟩).1, 0, 0)) := rfl
  clear hT0 hB0 hP0 hw0 hz
  generalize (pgConf zs ⟨0, 0⟩).1 = cf at HB HSP
  generalize (pgConf zs ⟨0, 0⟩).2 = s1 at HB HSP
  obtain ⟨fr, hfr⟩ : ∃ fr, fr = cf.frame := ⟨_, rfl⟩
  obtain ⟨wt, hwt⟩ : ∃ wt, wt = cf.watch := ⟨_, rfl⟩
  rw [← hfr, ← hwt] at HB
  simp only [cfCells] at HB
  have HCF := hide (And.intro hfr hwt)
  clear hfr hwt
  go_enter Tryz.func29, Tryz.ntmps29
  go_wp2_with fail
  rw [← HW.out]
  refine HB.out.mono ?_
  rintro e w1 ⟨adP, mP, cP, adW, mW, cW, adC, mC, cC, rfl, hV, hp, ht⟩
  have hs1 := ht.size
  have hB1 := (ht.block _ (by omega) (by omega)).trans H0.out.2
  have hT1 : Touch (fun i => w.heap.size ≤ i) w w1 := H0.out.1.andThen (ht.mono (fun k hk => by omega))
  obtain ⟨w2, hw2⟩ : ∃ w2, w2 = w1.alloc (.cells #[.int .i64 fr, .int .i64 wt, .slice adP mP cP, .slice adW mW cW, .slice adC mC cC] 71) := ⟨_, rfl⟩
  have t2 : Touch (· = w.heap.size + 1) w1 w2 := by rw [hw2]; exact touch_alloc _ _
  have hs2 : w2.heap.size = w1.heap.size + 1 := by rw [hw2]; simp
  have hC2 : w2.heap[w1.heap.size]? = some (.cells (cfCells fr wt (.slice adP mP cP) (.slice adW mW cW) (.slice adC mC cC)) 71 (0, 0)) := by rw [hw2]; exact heap_alloc_new w1 _
  have hB2 := (t2.block _ (by omega) (by omega)).trans hB1
  have hT2 : Touch (fun i => w.heap.size ≤ i) w w2 := hT1.andThen (t2.mono (fun k hk => by omega))
  have hV2 := hV.low t2 (fun b hb => by omega)
  have hP2 : PgAt (w.heap.size + 1) ao n cap zs s1 w2 := by rw [hw2]; exact hp.alloc _
  have HB2 := hide (pgcheck_any (w.heap.size + 1) ao n cap zs s1 _ hP2)
  generalize pgCheck zs s1 = s2 at HB2 HSP
  have HW2 := hide hw2
  have H2 := hide (And.intro hB2 (And.intro hC2 (And.intro hT2 hV2)))
  clear hV hp ht hB1 hT1 t2 hC2 hB2 hT2 hV2 hP2 hw2 HB HW H0
  go_wp2_with fail
  rw [← HW2.out]
  refine HB2.out.mono ?_
  rintro e w3 ⟨rfl, hp3, ht3⟩
  have hs3 := ht3.size
  have HB3 := hide (pgend_any (w.heap.size + 1) ao n cap zs s2 _ hp3)
  generalize pgEnd zs s2 = s3 at HB3 HSP
  have HT3 := hide ht3
  clear hp3 ht3 HB2
  go_wp2_with fail
  refine HB3.out.mono ?_
  rintro e w4 ⟨rfl, hp4, ht4⟩
  have hs4 := ht4.size
  have t4 := HT3.out.andThen ht4
  have hB4 := (t4.block _ (by omega) (by omega)).trans H2.out.1
  have hC4 := (t4.block _ (by omega) (by omega)).trans H2.out.2.1
  have HT4 : Hid (Touch (fun i => w.heap.size ≤ i) w w4) := H2.out.2.2.1.andThen (t4.mono (fun k hk => by omega))
  have HV4 := hide (H2.out.2.2.2.low t4 (fun b hb => by omega))
  have hob := hp4.obj
  have c1 : w4.cell? ⟨w.heap.size + 1, 1, none⟩ = some (.int .i64 s3.pos) := by rw [cell_of_row _ _ _ _ _ _ hob]; rfl
  have c2 : w4.cell? ⟨w.heap.size + 1, 2, none⟩ = some (.int .i64 s3.err) := by rw [cell_of_row _ _ _ _ _ _ hob]; rfl
  have x0 : w4.cell? ⟨w1.heap.size, 0, none⟩ = some (.int .i64 fr) := by rw [cell_of_row _ _ _ _ _ _ hC4]; rfl
  have x1 : w4.cell? ⟨w1.heap.size, 1, none⟩ = some (.int .i64 wt) := by rw [cell_of_row _ _ _ _ _ _ hC4]; rfl
  have x2 : w4.cell? ⟨w1.heap.size, 2, none⟩ = some (.slice adP mP cP) := by rw [cell_of_row _ _ _ _ _ _ hC4]; rfl
  have x3 : w4.cell? ⟨w1.heap.size, 3, none⟩ = some (.slice adW mW cW) := by rw [cell_of_row _ _ _ _ _ _ hC4]; rfl
  have x4 : w4.cell? ⟨w1.heap.size, 4, none⟩ = some (.slice adC mC cC) := by rw [cell_of_row _ _ _ _ _ _ hC4]; rfl
  have q0 : w4.cell? ⟨w.heap.size, 0, none⟩ = some (.int .i64 0) := by rw [cell_of_row _ _ _ _ _ _ hB4]; rfl
  have q1 : w4.cell? ⟨w.heap.size, 1, none⟩ = some (.int .i64 0) := by rw [cell_of_row _ _ _ _ _ _ hB4]; rfl
  have q2 : w4.cell? ⟨w.heap.size, 2, none⟩ = some (.slice none 0 0) := by rw [cell_of_row _ _ _ _ _ _ hB4]; rfl
  have q3 : w4.cell? ⟨w.heap.size, 3, none⟩ = some (.slice none 0 0) := by rw [cell_of_row _ _ _ _ _ _ hB4]; rfl
  have q4 : w4.cell? ⟨w.heap.size, 4, none⟩ = some (.slice none 0 0) := by rw [cell_of_row _ _ _ _ _ _ hB4]; rfl
  have g0 := free_of_block hB4 0
  have g1 := free_of_block hB4 1
  have g2 := free_of_block hB4 2
  have g3 := free_of_block hB4 3
  have g4 := free_of_block hB4 4
  have n1 : ¬ w1.heap.size = w.heap.size := by omega
  have n2 : ¬ w.heap.size = w1.heap.size := by omega
  clear hp4 ht4 t4 hB4 hC4 hob HB3 HT3 H2 HW2
  have HOK : Hid (∀ W' m, Touch (fun i => i = w.heap.size) (w4.drewN m) W' → ConfS w.heap.size (.slice adP mP cP) (.slice adW mW cW) (.slice adC mC cC) cf W' ∧ Below w.heap.size w W') := fun W' m t => by
    have t' : Touch (fun i => i = w.heap.size) w4 W' := (Touch.ofDrewN w4 m).andThen t
    exact ⟨(HV4.out.low t' (fun b hb => by omega)).base (by omega), (HT4.out.andThen (t'.mono (fun k hk => by omega))).below (Nat.le_refl _) (fun k hk => hk)⟩
  have HNO : Hid (∀ W' m, Touch (fun i => i = w.heap.size) (w4.drewN m) W' → Below w.heap.size w W') := fun W' m t => (HOK.out W' m t).2
  by_cases h1 : s3.err = 0
  · have b1 : (s3.err != 0) = false := by simp [h1]
    have HP : Hid (pgParse zs = (cf, 0, 0)) := by show _ = _; rw [HSP.out, if_neg (by simpa using h1)]
    clear h1 HSP
    go_wp2
    refine bodyPost_ret (v := .tuple #[.agg (cfCells fr wt (.slice adP mP cP) (.slice adW mW cW) (.slice adC mC cC)), .int .i64 0, .int .i64 0]) (by simp [results, Tryz.results29, go_sem, cfCells, q0, q1, q2, q3, q4]) rfl ?_
    rw [HP.out]
    refine ⟨adP, mP, cP, adW, mW, cW, adC, mC, cC, by rw [HCF.out.1, HCF.out.2], HOK.out _ 0 ?_⟩
    iterate 5 refine Touch.thenSet (g := w.heap.size) ?_ _ _ rfl
    exact Touch.refl _ _
  · have b1 : (s3.err != 0) = true := by simpa using h1
    have HP : Hid (pgParse zs = (noCf, (s3.pos : Int), s3.err)) := by show _ = _; rw [HSP.out, if_pos h1]
    clear h1 HSP x0 x1 x2 x3 x4
    go_wp2
    go_region
    all_goals
      go_wp2
      refine bodyPost_ret (v := .tuple #[.agg (cfCells 0 0 (.slice none 0 0) (.slice none 0 0) (.slice none 0 0)), .int .i64 (s3.pos : Int), .int .i64 s3.err]) (by simp [results, Tryz.results29, go_sem, cfCells, q0, q1, q2, q3, q4]) rfl ?_
      rw [HP.out]
      refine ⟨none, 0, 0, none, 0, 0, none, 0, 0, rfl, confS_nil _ _, (HNO.out _ 0 ?_).drew⟩
      iterate 5 refine Touch.thenSet (g := w.heap.size) ?_ _ _ rfl
      exact Touch.refl _ _

end Go.Proofs.YtnjlbgolnbdkaaaGreat
/- Texts of the proof of Boots, one behind the other. -/
namespace Go.Proofs.YtnjlbgolnbdkaaaGreat
open Go.RowKit

structure Sim (zs : List Int) (r : Rd) (s : Rs) : Prop where
  err : s.err = r.err
  pos : r.err = 0 → s.pos = r.pos
  pl : r.err ≠ 0 → (s.pos : Int) = r.pl
  le : r.pos ≤ zs.length
structure Same (r r' : Rd) : Prop where
  err : r'.err = r.err
  pos : r'.pos = r.pos
  pl : r'.pl = r.pl
theorem Sim.same {zs : List Int} {r r' : Rd} {s : Rs} (h : Sim zs r s) (k : Same r r') : Sim zs r' s := ⟨by rw [k.err]; exact h.err, by rw [k.err, k.pos]; exact h.pos, by rw [k.err, k.pl]; exact h.pl, by rw [k.pos]; exact h.le⟩
structure Good {α : Type} (zs : List Int) (f : Rd → α × Rd) (g : Rs → α × Rs) : Prop where
  step : ∀ r s, Sim zs r s → Sim zs (f r).2 (g s).2 ∧ ((f r).2.err = 0 → (g s).1 = (f r).1)
  still : ∀ r, r.err ≠ 0 → Same r (f r).2
  stuck : ∀ s, s.err ≠ 0 → (g s).2 = s
theorem Same.refl (r : Rd) : Same r r := ⟨rfl, rfl, rfl⟩
theorem Same.trans {a b c : Rd} (h : Same a b) (k : Same b c) : Same a c := ⟨k.err.trans h.err, k.pos.trans h.pos, k.pl.trans h.pl⟩

section
variable {zs : List Int} {lo hi : Int} {es : List Int} {r : Rd} {s : Rs}
theorem rdB_err (h : r.err ≠ 0) : rdB zs lo hi r = (lo, r) := by unfold rdB; rw [if_pos h]
theorem rdB_short (h : r.err = 0) (h2 : zs.length ≤ r.pos) : rdB zs lo hi r = (lo, { r with err := 2, pl := zs.length }) := by unfold rdB; rw [if_neg (by simpa using h), if_pos h2]
theorem rdB_bad (h : r.err = 0) (h2 : ¬ zs.length ≤ r.pos) (h3 : zs.getD r.pos 0 < lo ∨ hi < zs.getD r.pos 0) : rdB zs lo hi r = (lo, { r with err := 3, pl := r.pos }) := by unfold rdB; rw [if_neg (by simpa using h), if_neg h2, if_pos h3]
theorem rdB_good (h : r.err = 0) (h2 : ¬ zs.length ≤ r.pos) (h3 : ¬ (zs.getD r.pos 0 < lo ∨ hi < zs.getD r.pos 0)) : rdB zs lo hi r = (zs.getD r.pos 0, { r with pos := r.pos + 1 }) := by unfold rdB; rw [if_neg (by simpa using h), if_neg h2, if_neg h3]
theorem pgB_err (h : s.err ≠ 0) : pgB zs lo hi es s = (0, s) := by unfold pgB; rw [if_pos h]
theorem pgB_short (h : s.err = 0) (h2 : zs.length ≤ s.pos) : pgB zs lo hi es s = (0, { s with err := 2 }) := by unfold pgB; rw [if_neg (by simpa using h), if_pos h2]
theorem pgB_bad (h : s.err = 0) (h2 : ¬ zs.length ≤ s.pos) (h3 : zs.getD s.pos 0 < lo ∨ hi < zs.getD s.pos 0 ∨ zs.getD s.pos 0 ∈ es) : pgB zs lo hi es s = (0, { s with err := 3 }) := by unfold pgB; rw [if_neg (by simpa using h), if_neg h2, if_pos h3]
theorem pgB_good (h : s.err = 0) (h2 : ¬ zs.length ≤ s.pos) (h3 : ¬ (zs.getD s.pos 0 < lo ∨ hi < zs.getD s.pos 0 ∨ zs.getD s.pos 0 ∈ es)) : pgB zs lo hi es s = (zs.getD s.pos 0, { s with pos := s.pos + 1 }) := by unfold pgB; rw [if_neg (by simpa using h), if_neg h2, if_neg h3]
end
theorem good_B (zs : List Int) (lo hi : Int) : Good zs (rdB zs lo hi) (pgB zs lo hi []) := by
  refine ⟨fun r s h => ?_, fun r h => by rw [rdB_err h]; exact Same.refl r, fun s h => by rw [pgB_err h]⟩
  by_cases h1 : r.err = 0
  · have h1' : s.err = 0 := h.err.trans h1
    have hp := h.pos h1
    by_cases h2 : zs.length ≤ r.pos
    · rw [rdB_short h1 h2, pgB_short h1' (by omega)]
      refine ⟨⟨rfl, fun h => by simp at h, fun _ => ?_, h.le⟩, fun h => by simp at h⟩
      have := h.le
      show (s.pos : Int) = (zs.length : Int)
      omega
    · by_cases h3 : zs.getD r.pos 0 < lo ∨ hi < zs.getD r.pos 0
      · rw [rdB_bad h1 h2 h3, pgB_bad h1' (by omega) (by rw [hp]; exact h3.elim .inl (fun h => .inr (.inl h)))]
        refine ⟨⟨rfl, fun h => by simp at h, fun _ => ?_, h.le⟩, fun h => by simp at h⟩
        show (s.pos : Int) = (r.pos : Int)
        rw [hp]
      · rw [rdB_good h1 h2 h3, pgB_good h1' (by omega) (by rw [hp]; exact fun h => h.elim (fun a => h3 (.inl a)) (fun b => b.elim (fun a => h3 (.inr a)) (fun c => by simp at c)))]
        refine ⟨⟨h.err, fun _ => ?_, fun hh => absurd h1 hh, by simp only; omega⟩, fun _ => ?_⟩
        · show s.pos + 1 = r.pos + 1
          rw [hp]
        · show zs.getD s.pos 0 = zs.getD r.pos 0
          rw [hp]
  · have h1' : s.err ≠ 0 := by rw [h.err]; exact h1
    rw [rdB_err h1, pgB_err h1']
    exact ⟨h, fun h => absurd h h1⟩

theorem good_not (zs : List Int) (lo hi : Int) (es : List Int) (F : Int → Rd → Rd) (hF : ∀ v r, F v r = if r.err = 0 ∧ v ∈ es then { r with err := 3, pl := (r.pos : Int) - 1 } else r) : Good zs (fun r => ((rdB zs lo hi r).1, F (rdB zs lo hi r).1 (rdB zs lo hi r).2)) (pgB zs lo hi es) := by
  have hb := good_B zs lo hi
  refine ⟨fun r s h => ?_, fun r h => ?_, fun s h => ?_⟩
  · have hs := hb.step r s h
    simp only [hF]
    by_cases h0 : (rdB zs lo hi r).2.err = 0
    · obtain ⟨h1, h2, h3, h4, h5, h6⟩ := rdB_ok zs lo hi r h0
      have h1' : s.err = 0 := h.err.trans h1
      have hp := h.pos h1
      have h3' : ¬ (zs.getD s.pos 0 < lo ∨ hi < zs.getD s.pos 0 ∨ zs.getD s.pos 0 ∈ ([] : List Int)) := by rw [hp]; exact fun h => h.elim (fun a => by omega) (fun b => b.elim (fun a => by omega) (fun c => by simp at c))
      by_cases hm : zs.getD r.pos 0 ∈ es
      · rw [if_pos ⟨h0, by rw [h3]; exact hm⟩, pgB_bad h1' (by omega) (by rw [hp]; exact .inr (.inr hm))]
        refine ⟨⟨rfl, fun h => by simp at h, fun _ => ?_, rdB_le zs lo hi r h.le⟩, fun h => by simp at h⟩
        show (s.pos : Int) = ((rdB zs lo hi r).2.pos : Int) - 1
        omega
      · rw [if_neg (fun hh => hm (by rw [← h3]; exact hh.2))]
        have hg : pgB zs lo hi es s = pgB zs lo hi [] s := by
          rw [pgB_good h1' (by omega) h3', pgB_good h1' (by omega) (by rw [hp]; exact fun h => h.elim (fun a => by omega) (fun b => b.elim (fun a => by omega) (fun c => hm c)))]
        rw [hg]
        exact hs
    · rw [if_neg (fun hh => h0 hh.1)]
      refine ⟨?_, fun hh => absurd hh h0⟩
      by_cases h1 : r.err = 0
      · have h1' : s.err = 0 := h.err.trans h1
        have hp := h.pos h1
        have hg : (pgB zs lo hi es s).2 = (pgB zs lo hi [] s).2 := by
          by_cases h2 : zs.length ≤ r.pos
          · rw [pgB_short h1' (by omega), pgB_short h1' (by omega)]
          · by_cases h3 : zs.getD r.pos 0 < lo ∨ hi < zs.getD r.pos 0
            · rw [pgB_bad h1' (by omega) (by rw [hp]; exact h3.elim .inl (fun h => .inr (.inl h))), pgB_bad h1' (by omega) (by rw [hp]; exact h3.elim .inl (fun h => .inr (.inl h)))]
            · rw [rdB_good h1 h2 h3] at h0
              exact absurd h1 h0
        rw [hg]
        exact hs.1
      · have h1' : s.err ≠ 0 := by rw [h.err]; exact h1
        have hs1 := hs.1
        rw [hb.stuck s h1'] at hs1
        rw [pgB_err h1']
        exact hs1
  · have hs := hb.still r h
    simp only [hF]
    rw [if_neg (fun hh => h (hs.err ▸ hh.1))]
    exact hs
  · rw [pgB_err h]

theorem Good.bind {α β γ : Type} {zs : List Int} {f : Rd → α × Rd} {g : Rs → α × Rs} {f2 : α → Rd → β × Rd} {g2 : α → Rs → β × Rs} (h : α → β → γ) (k1 : Good zs f g) (k2 : ∀ a, Good zs (f2 a) (g2 a)) :
    Good zs (fun r => (h (f r).1 (f2 (f r).1 (f r).2).1, (f2 (f r).1 (f r).2).2)) (fun s => (h (g s).1 (g2 (g s).1 (g s).2).1, (g2 (g s).1 (g s).2).2)) := by
  refine ⟨fun r s hs => ?_, fun r hr => ?_, fun s hs => ?_⟩
  · obtain ⟨h1, h2⟩ := k1.step r s hs
    by_cases he : (f r).2.err = 0
    · have ha := h2 he
      simp only [ha]
      obtain ⟨h3, h4⟩ := (k2 (f r).1).step _ _ h1
      exact ⟨h3, fun e => by rw [h4 e]⟩
    · have he' : (g s).2.err ≠ 0 := by rw [h1.err]; exact he
      have hs1 := (k2 (f r).1).still _ he
      refine ⟨?_, fun e => absurd (hs1.err.symm.trans e) he⟩
      simp only [(k2 (g s).1).stuck _ he']
      exact h1.same hs1
  · have h1 := k1.still r hr
    exact h1.trans ((k2 _).still _ (by rw [h1.err]; exact hr))
  · simp only [k1.stuck s hs, (k2 _).stuck s hs]

theorem good_to {α : Type} {zs : List Int} {f : Rd → α × Rd} {g : Rs → α × Rs} (k1 : Good zs f g) (k : Nat) : Good zs (rdTo f k) (pgTo g k) := by
  have hst : ∀ k s, s.err ≠ 0 → (pgTo g k s).2 = s := by
    intro k s hs
    induction k with
    | zero => rfl
    | succ k ih => show (g (pgTo g k s).2).2 = s; rw [ih]; exact k1.stuck s hs
  refine ⟨fun r s h => ?_, fun r h => ?_, hst k⟩
  · induction k with
    | zero => exact ⟨h, fun _ => rfl⟩
    | succ k ih =>
      by_cases he : (rdTo f k r).2.err = 0
      · rw [rdTo_go f k r he]
        obtain ⟨h1, h2⟩ := k1.step _ _ ih.1
        exact ⟨h1, fun e => by show (pgTo g k s).1 ++ [_] = _; rw [ih.2 he, h2 e]⟩
      · rw [rdTo_stop f k r he (k + 1) (by omega)]
        refine ⟨?_, fun e => absurd e he⟩
        show Sim zs _ (g (pgTo g k s).2).2
        rw [k1.stuck _ (by rw [ih.1.err]; exact he)]
        exact ih.1
  · have := rdTo_stop f 0 r h k (by omega)
    rw [this]
    exact Same.refl r

theorem good_ins (zs : List Int) (n : Int) : Good zs (rdIns zs n) (pgIns zs n) := Good.bind (fun a b => (a, b)) (good_B zs 0 13) (fun a => good_B zs 0 (if a = 4 then n - 1 else 255))
theorem good_proc (zs : List Int) : Good zs (rdProc zs) (pgProc zs) := Good.bind (fun p c => Pr.mk p c) (good_B zs 0 9) (fun _ => Good.bind (fun _ c => c) (good_B zs 1 20) (fun m => good_to (good_ins zs m) m.toNat))
theorem good_act (zs : List Int) (c : Nat) : Good zs (rdAct zs c) (pgAct zs c) := by
  by_cases h : c = 5
  · subst h
    refine good_not zs 1 7 [2, 3] (fun v r => rdNot v 3 (rdNot v 2 r)) ?_
    intro v r
    have hit : ∀ v bad (r : Rd), r.err = 0 → v = bad → rdNot v bad r = { r with err := 3, pl := (r.pos : Int) - 1 } := fun v bad r h1 h2 => by unfold rdNot; rw [if_pos ⟨h1, h2⟩]
    have miss : ∀ v bad (r : Rd), ¬ (r.err = 0 ∧ v = bad) → rdNot v bad r = r := fun v bad r h => by unfold rdNot; rw [if_neg h]
    show rdNot v 3 (rdNot v 2 r) = _
    by_cases h1 : r.err = 0
    · by_cases h2 : v = 2
      · rw [hit v 2 r h1 h2, miss _ _ _ (fun hh => by simp at hh), if_pos ⟨h1, by simp [h2]⟩]
      · rw [miss v 2 r (fun hh => h2 hh.2)]
        by_cases h3 : v = 3
        · rw [hit v 3 r h1 h3, if_pos ⟨h1, by simp [h3]⟩]
        · rw [miss v 3 r (fun hh => h3 hh.2), if_neg (fun hh => by simpa [h2, h3] using hh.2)]
    · rw [miss v 2 r (fun hh => h1 hh.1), miss v 3 r (fun hh => h1 hh.1), if_neg (fun hh => h1 hh.1)]
  · have h1 : rdAct zs c = rdB zs 1 7 := by funext r; unfold rdAct; rw [if_neg h]
    have h2 : pgAct zs c = pgB zs 1 7 [] := by funext s; unfold pgAct; rw [if_neg h]
    rw [h1, h2]
    exact good_B zs 1 7
theorem good_acts (zs : List Int) (k : Nat) : Good zs (rdActs zs k) (pgActs zs k) := by
  induction k with
  | zero => exact ⟨fun r s h => ⟨h, fun _ => rfl⟩, fun r _ => Same.refl r, fun _ _ => rfl⟩
  | succ k ih => exact Good.bind (fun l a => l ++ [a]) ih (fun _ => good_act zs k)
theorem good_part (zs : List Int) : Good zs (rdPart zs) (pgPart zs) :=
  Good.bind (fun (a : Int) (x : Int × Int × List Int × List Pr) => Pt.mk (a == 1) x.1 x.2.1 x.2.2.1 x.2.2.2) (good_B zs 0 1) (fun _ => Good.bind (fun b x => (b, x)) (good_B zs 1 16) (fun _ => Good.bind (fun c x => (c, x)) (good_B zs 0 9) (fun _ => Good.bind (fun d q => (d, q)) (good_acts zs 6) (fun _ => Good.bind (fun _ q => q) (good_B zs 1 2) (fun m => good_to (good_proc zs) m.toNat)))))
theorem good_chan (zs : List Int) (n : Int) : Good zs (rdChan zs n) (pgChan zs n) :=
  Good.bind (fun (a : Int) (x : Int × Int) => Ch.mk a x.1 x.2) (good_B zs 0 (n - 1)) (fun a => Good.bind (fun b c => (b, c)) (good_not zs 0 (n - 1) [a] (fun v r => rdNot v a r) (by intro v r; simp [rdNot])) (fun _ => good_B zs 1 4))
def rdW3 (zs : List Int) (n frame fin : Int) (r : Rd) : (Int × Int × Int) × Rd :=
  (((rdB zs 0 (n - 1) r).1, (rdB zs fin (frame - 1) (rdB zs 0 (n - 1) r).2).1, (rdB zs 1 (frame - (rdB zs fin (frame - 1) (rdB zs 0 (n - 1) r).2).1) (rdB zs fin (frame - 1) (rdB zs 0 (n - 1) r).2).2).1), (rdB zs 1 (frame - (rdB zs fin (frame - 1) (rdB zs 0 (n - 1) r).2).1) (rdB zs fin (frame - 1) (rdB zs 0 (n - 1) r).2).2).2)
def pgW3 (zs : List Int) (n frame fin : Int) (s : Rs) : (Int × Int × Int) × Rs :=
  (((pgB zs 0 (n - 1) [] s).1, (pgB zs fin (frame - 1) [] (pgB zs 0 (n - 1) [] s).2).1, (pgB zs 1 (frame - (pgB zs fin (frame - 1) [] (pgB zs 0 (n - 1) [] s).2).1) [] (pgB zs fin (frame - 1) [] (pgB zs 0 (n - 1) [] s).2).2).1), (pgB zs 1 (frame - (pgB zs fin (frame - 1) [] (pgB zs 0 (n - 1) [] s).2).1) [] (pgB zs fin (frame - 1) [] (pgB zs 0 (n - 1) [] s).2).2).2)
theorem good_w3 (zs : List Int) (n frame fin : Int) : Good zs (rdW3 zs n frame fin) (pgW3 zs n frame fin) :=
  Good.bind (fun a x => (a, x.1, x.2)) (good_B zs 0 (n - 1)) (fun _ => Good.bind (fun b c => (b, c)) (good_B zs fin (frame - 1)) (fun b => good_B zs 1 (frame - b)))
theorem rdWin_eq (zs : List Int) (n frame : Int) (r : Rd) : rdWin zs n frame r = (⟨(rdW3 zs n frame r.fin r).1.1, (rdW3 zs n frame r.fin r).1.2.1, (rdW3 zs n frame r.fin r).1.2.2⟩, { (rdW3 zs n frame r.fin r).2 with fin := (rdW3 zs n frame r.fin r).1.2.1 + (rdW3 zs n frame r.fin r).1.2.2 }) := rfl
theorem pgWin_eq (zs : List Int) (n frame : Int) (s : Rs) (fin : Int) : pgWin zs n frame (s, fin) = (⟨(pgW3 zs n frame fin s).1.1, (pgW3 zs n frame fin s).1.2.1, (pgW3 zs n frame fin s).1.2.2⟩, ((pgW3 zs n frame fin s).2, (pgW3 zs n frame fin s).1.2.1 + (pgW3 zs n frame fin s).1.2.2)) := rfl
def rdWs (zs : List Int) (n frame : Int) (k : Nat) (r : Rd) : List Wn × Rd := rdTo (rdWin zs n frame) k { r with fin := 0 }
def pgWs (zs : List Int) (n frame : Int) (k : Nat) (s : Rs) : List Wn × Rs := ((pgTo (pgWin zs n frame) k (s, 0)).1, (pgTo (pgWin zs n frame) k (s, 0)).2.1)
theorem good_ws (zs : List Int) (n frame : Int) (k : Nat) : Good zs (rdWs zs n frame k) (pgWs zs n frame k) := by
  have hone : ∀ p : Rs × Int, p.1.err ≠ 0 → (pgWin zs n frame p).2.1 = p.1 := fun p hp => by
    obtain ⟨s, fin⟩ := p
    rw [pgWin_eq]
    exact (good_w3 zs n frame fin).stuck s hp
  refine ⟨fun r s h => ?_, fun r h => ?_, fun s h => ?_⟩
  · have h0 : Sim zs { r with fin := 0 } s := ⟨h.err, h.pos, h.pl, h.le⟩
    have key : Sim zs (rdTo (rdWin zs n frame) k { r with fin := 0 }).2 (pgTo (pgWin zs n frame) k (s, 0)).2.1 ∧ ((rdTo (rdWin zs n frame) k { r with fin := 0 }).2.err = 0 → (pgTo (pgWin zs n frame) k (s, 0)).1 = (rdTo (rdWin zs n frame) k { r with fin := 0 }).1 ∧ (pgTo (pgWin zs n frame) k (s, 0)).2.2 = (rdTo (rdWin zs n frame) k { r with fin := 0 }).2.fin) := by
      induction k with
      | zero => exact ⟨h0, fun _ => ⟨rfl, rfl⟩⟩
      | succ k ih =>
        by_cases he : (rdTo (rdWin zs n frame) k { r with fin := 0 }).2.err = 0
        · rw [rdTo_go _ k _ he]
          obtain ⟨i1, i2⟩ := ih
          obtain ⟨i3, i4⟩ := i2 he
          generalize rdTo (rdWin zs n frame) k { r with fin := 0 } = R at *
          have hstep : pgTo (pgWin zs n frame) (k + 1) (s, 0) = ((pgTo (pgWin zs n frame) k (s, 0)).1 ++ [(pgWin zs n frame (pgTo (pgWin zs n frame) k (s, 0)).2).1], (pgWin zs n frame (pgTo (pgWin zs n frame) k (s, 0)).2).2) := rfl
          rw [hstep]
          generalize pgTo (pgWin zs n frame) k (s, 0) = P at *
          obtain ⟨l, s', fin⟩ := P
          simp only at i1 i3 i4
          subst i4
          rw [rdWin_eq, pgWin_eq]
          obtain ⟨j1, j2⟩ := (good_w3 zs n frame R.2.fin).step _ _ i1
          refine ⟨⟨j1.err, j1.pos, j1.pl, j1.le⟩, fun e => ?_⟩
          have := j2 e
          rw [i3, this]
          exact ⟨rfl, rfl⟩
        · rw [rdTo_stop _ k _ he (k + 1) (by omega)]
          refine ⟨?_, fun e => absurd e he⟩
          show Sim zs _ (pgWin zs n frame (pgTo (pgWin zs n frame) k (s, 0)).2).2.1
          rw [hone _ (by rw [ih.1.err]; exact he)]
          exact ih.1
    exact ⟨key.1, fun e => (key.2 e).1⟩
  · have := rdTo_stop (rdWin zs n frame) 0 { r with fin := 0 } h k (by omega)
    unfold rdWs
    rw [this]
    exact ⟨rfl, rfl, rfl⟩
  · show (pgTo (pgWin zs n frame) k (s, 0)).2.1 = s
    induction k with
    | zero => rfl
    | succ k ih =>
      show (pgWin zs n frame (pgTo (pgWin zs n frame) k (s, 0)).2).2.1 = s
      rw [hone _ (by rw [ih]; exact h), ih]
theorem good_wins (zs : List Int) (n frame : Int) : Good zs (fun r => rdWs zs n frame (rdB zs 1 8 r).1.toNat (rdB zs 1 8 r).2) (pgWins zs n frame) := Good.bind (fun _ q => q) (good_B zs 1 8) (fun m => good_ws zs n frame m.toNat)
def rdAll (zs : List Int) (r0 : Rd) : Cf × Rd :=
  let r1 := (rdB zs 72 72 r0).2
  let n := rdB zs 1 4 r1
  let f := rdB zs 1 64 n.2
  let wt := rdB zs 0 200 f.2
  let ps := rdTo (rdPart zs) n.1.toNat wt.2
  let ws := rdWs zs n.1 f.1 (rdB zs 1 8 ps.2).1.toNat (rdB zs 1 8 ps.2).2
  let k := rdB zs 0 4 ws.2
  let cs := rdTo (rdChan zs n.1) k.1.toNat k.2
  (⟨f.1, wt.1, ps.1, ws.1, cs.1⟩, cs.2)
theorem rdAll_eq (zs : List Int) : rdAll zs ⟨0, 0, 0, 0⟩ = rdConf zs := rfl
theorem good_conf (zs : List Int) : Good zs (rdAll zs) (pgConf zs) :=
  Good.bind (fun _ x => x) (good_B zs 72 72) (fun _ => Good.bind (fun _ x => x) (good_B zs 1 4) (fun n => Good.bind (fun (f : Int) (x : Int × List Pt × List Wn × List Ch) => Cf.mk f x.1 x.2.1 x.2.2.1 x.2.2.2) (good_B zs 1 64) (fun f => Good.bind (fun wt x => (wt, x)) (good_B zs 0 200) (fun _ => Good.bind (fun ps x => (ps, x)) (good_to (good_part zs) n.toNat) (fun _ => Good.bind (fun ws x => (ws, x)) (good_wins zs n f) (fun _ => Good.bind (fun _ x => x) (good_B zs 0 4) (fun k => good_to (good_chan zs n) k.toNat)))))))

theorem parse_same (zs : List Int) : pgParse zs = parseOf zs := by
  have h0 : Sim zs ⟨0, 0, 0, 0⟩ ⟨0, 0⟩ := ⟨rfl, fun _ => rfl, fun h => absurd rfl h, Nat.zero_le _⟩
  have hg := (good_conf zs).step _ _ h0
  rw [rdAll_eq] at hg
  obtain ⟨h1, h2⟩ := hg
  unfold pgParse parseOf pgLast
  generalize rdConf zs = C at *
  generalize pgConf zs ⟨0, 0⟩ = D at *
  by_cases he : C.2.err = 0
  · have he' : D.2.err = 0 := h1.err.trans he
    have hp := h1.pos he
    have hv := h2 he
    have hc : pgCheck zs D.2 = if zs.length < C.2.pos + 4 then ⟨zs.length, 2⟩ else if numFrom 0 ((zs.drop C.2.pos).take 4) ≠ crcOf (zs.take C.2.pos) then ⟨C.2.pos, 5⟩ else ⟨C.2.pos + 4, 0⟩ := by
      unfold pgCheck
      rw [if_neg (show ¬ D.2.err ≠ 0 by simpa using he'), hp, he']
    simp only
    rw [if_neg (show ¬ C.2.err ≠ 0 by simpa using he)]
    by_cases h3 : zs.length < C.2.pos + 4
    · rw [if_pos h3] at hc
      rw [hc, if_pos h3]
      simp [pgEnd]
    · rw [if_neg h3] at hc
      rw [if_neg h3]
      by_cases h4 : numFrom 0 ((zs.drop C.2.pos).take 4) ≠ crcOf (zs.take C.2.pos)
      · rw [if_pos h4] at hc
        rw [hc, if_pos h4]
        simp [pgEnd]
      · rw [if_neg h4] at hc
        rw [hc, if_neg h4]
        by_cases h5 : C.2.pos + 4 < zs.length
        · simp [pgEnd, h5]
        · simp [pgEnd, h5, hv]
  · have he' : D.2.err ≠ 0 := by rw [h1.err]; exact he
    have hp := h1.pl he
    have hc : pgCheck zs D.2 = D.2 := by unfold pgCheck; rw [if_pos he']
    have hd : pgEnd zs D.2 = D.2 := by unfold pgEnd; rw [if_neg (fun hh => he' hh.1)]
    rw [hc, hd, if_pos he']
    simp only
    rw [if_pos he, hp, h1.err]
end Go.Proofs.YtnjlbgolnbdkaaaGreat
namespace Go.Proofs.YtnjlbgolnbdkaaaGreat
open Go.RowKit

theorem flat_get {α : Type} (F : α → List Value) (sz : Nat) (hF : ∀ a, (F a).length = sz) (l : List α) (i : Nat) (a : α) (hi : l[i]? = some a) (f : Nat) (hf : f < sz) : (l.flatMap F)[i * sz + f]? = (F a)[f]? := by
  induction l generalizing i with
  | nil => simp at hi
  | cons x l ih =>
    rw [List.flatMap_cons]
    cases i with
    | zero =>
      simp at hi
      subst hi
      rw [Nat.zero_mul, Nat.zero_add, List.getElem?_append_left (by rw [hF]; exact hf)]
    | succ i =>
      have hx := hF x
      rw [List.getElem?_append_right (by rw [hx, Nat.add_mul]; omega), hx, show (i + 1) * sz + f - sz = i * sz + f from by rw [Nat.add_mul]; omega]
      exact ih i (by simpa using hi)
theorem own_read {w : World} {base : Nat} {e : TypeId} {sz : Nat} {v : Value} {n : Nat} {α : Type} (F : α → List Value) (hF : ∀ a, (F a).length = sz) (l : List α) (hn : l.length = n) (h : w.ownsRow base e sz v n (l.flatMap F)) : n ≤ 9223372036854775807 ∧ ∃ ad c, v = .slice ad n c ∧ ∀ i a, l[i]? = some a → ∃ g, ad = some ⟨g, 0, none⟩ ∧ ∀ f, f < sz → w.cell? ⟨g, i * sz + f, none⟩ = (F a)[f]? := by
  rcases h.2 with ⟨h1, h2⟩ | ⟨g, cap, cur, hv, hb, hh, hc, hm, _⟩
  · subst h2
    refine ⟨by omega, none, 0, h1, fun i a hi => ?_⟩
    rw [List.length_eq_zero_iff.1 hn] at hi
    simp at hi
  · refine ⟨by unfold maxLen at hm; omega, some ⟨g, 0, none⟩, cap, hv, fun i a hi => ⟨g, rfl, fun f hf => ?_⟩⟩
    subst hv
    have hlt : i < l.length := (List.getElem?_eq_some_iff.1 hi).1
    rw [World.ownsRow.cellAt h (i * sz + f) (by
      have : (i + 1) * sz ≤ n * sz := Nat.mul_le_mul_right sz (by omega)
      rw [Nat.add_mul] at this
      omega)]
    exact flat_get F sz hF l i a hi f hf
end Go.Proofs.YtnjlbgolnbdkaaaGreat
namespace Go.Proofs.YtnjlbgolnbdkaaaGreat
open Go.RowKit

def SecAt (x : Nat) (bs : List Int) (s : Nat) (w : World) : Prop := w.ownsRow 0 259 6 (.slice (some ⟨x, 0, none⟩) 8 8) 8 (entsCells (entsTo bs s 8))
theorem SecAt.below {x : Nat} {bs : List Int} {s : Nat} {w w' : World} (h : SecAt x bs s w) (hb : Below w.heap.size w w') : SecAt x bs s w' := own_keep h (fun b e => hb.block b (World.ownsRow.lt h b e).2)
theorem SecAt.lt {x : Nat} {bs : List Int} {s : Nat} {w : World} (h : SecAt x bs s w) : x < w.heap.size := (World.ownsRow.lt h x rfl).2
theorem SecAt.cell {x : Nat} {bs : List Int} {s : Nat} {w : World} (h : SecAt x bs s w) (i o : Nat) (hi : i < 8) (ho : o < 6) : w.cell? ⟨x, i * 6 + o, none⟩ = some (.int .i64 (entOf bs s i o)) := by
  obtain ⟨_, ad, c, hv, hr⟩ := own_read entCells (fun _ => rfl) (entsTo bs s 8) rfl h
  simp at hv
  obtain ⟨g, hg, hc⟩ := hr i (entOf bs s i) (by rcases (show i = 0 ∨ i = 1 ∨ i = 2 ∨ i = 3 ∨ i = 4 ∨ i = 5 ∨ i = 6 ∨ i = 7 from by omega) with rfl | rfl | rfl | rfl | rfl | rfl | rfl | rfl <;> rfl)
  rw [← hv.1] at hg
  simp at hg
  subst hg
  rw [hc o ho]
  rcases (show o = 0 ∨ o = 1 ∨ o = 2 ∨ o = 3 ∨ o = 4 ∨ o = 5 from by omega) with rfl | rfl | rfl | rfl | rfl | rfl <;> rfl

set_option maxHeartbeats 1000000 in
theorem entAt_any (x i : Nat) (w : World) (hi : i < 8) :
    Calls Tryz.prog 170 #[.agg #[.slice (some ⟨x, 0, none⟩) 8 8], .int .i64 i] w fun e w' => e = .returned (.pointer (some ⟨x, i * 6, none⟩)) ∧ Below w.heap.size w w' := by
  have HB : Hid (Below w.heap.size w (w.alloc (.cells #[.slice (some ⟨x, 0, none⟩) 8 8] 181))) := (Below.refl _ _).alloc (Nat.le_refl _) _
  go_enter Tryz.func170, Tryz.ntmps170
  go_wp2
  go_ret
  exact ⟨by simp, HB.out⟩
set_option maxHeartbeats 1000000 in
theorem entIs_any (e0 e1 e2 e3 e4 e5 kind : Int) (w : World) :
    Calls Tryz.prog 171 #[.agg #[.int .i64 e0, .int .i64 e1, .int .i64 e2, .int .i64 e3, .int .i64 e4, .int .i64 e5], .int .i64 kind] w fun e w' => e = .returned (.bool (e0 == 3 && e1 == kind)) ∧ Below w.heap.size w w' := by
  have HB : Hid (Below w.heap.size w (w.alloc (.cells #[.int .i64 e0, .int .i64 e1, .int .i64 e2, .int .i64 e3, .int .i64 e4, .int .i64 e5] 259))) := (Below.refl _ _).alloc (Nat.le_refl _) _
  by_cases h : e0 = 3
  · have h3 : (e0 == 3) = true := by simp [h]
    clear h
    go_enter Tryz.func171, Tryz.ntmps171
    go_wp2
    go_ret
    exact ⟨by simp [h3], HB.out⟩
  · have h3 : (e0 == 3) = false := by simp [h]
    clear h
    go_enter Tryz.func171, Tryz.ntmps171
    go_wp2
    go_ret
    exact ⟨by simp [h3], HB.out⟩

set_option maxHeartbeats 1000000 in
theorem headed_any (x : Nat) (bs : List Int) (s : Nat) (w : World) (h : SecAt x bs s w) :
    Calls Tryz.prog 125 #[.agg #[.int .i64 s, .slice (some ⟨x, 0, none⟩) 8 8]] w fun e w' => e = .returned (.bool (headB bs s)) ∧ Below w.heap.size w w' := by
  have HH := hide h
  have HE : Hid (headB bs s = (entOf bs s 0 0 == 3 && entOf bs s 0 1 == 2)) := rfl
  have hb0 : Below w.heap.size w (w.alloc (.cells #[.int .i64 s, .slice (some ⟨x, 0, none⟩) 8 8] 183)) := (Below.refl _ _).alloc (Nat.le_refl _) _
  have HB0 := hide hb0
  have HAT := hide (entAt_any x 0 (w.alloc (.cells #[.int .i64 s, .slice (some ⟨x, 0, none⟩) 8 8] 183)) (by omega))
  clear h hb0
  go_enter Tryz.func125, Tryz.ntmps125
  go_wp2_with fail
  refine HAT.out.mono ?_
  rintro e w1 ⟨rfl, hb1⟩
  have HB1 : Hid (Below w.heap.size w w1) := HB0.out.trans (hb1.mono (by simp))
  have hS1 := HH.out.below HB1.out
  have c0 : w1.cell? ⟨x, 0, none⟩ = some (.int .i64 (entOf bs s 0 0)) := by simpa using hS1.cell 0 0 (by omega) (by omega)
  have c1 : w1.cell? ⟨x, 1, none⟩ = some (.int .i64 (entOf bs s 0 1)) := by simpa using hS1.cell 0 1 (by omega) (by omega)
  have c2 : w1.cell? ⟨x, 2, none⟩ = some (.int .i64 (entOf bs s 0 2)) := by simpa using hS1.cell 0 2 (by omega) (by omega)
  have c3 : w1.cell? ⟨x, 3, none⟩ = some (.int .i64 (entOf bs s 0 3)) := by simpa using hS1.cell 0 3 (by omega) (by omega)
  have c4 : w1.cell? ⟨x, 4, none⟩ = some (.int .i64 (entOf bs s 0 4)) := by simpa using hS1.cell 0 4 (by omega) (by omega)
  have c5 : w1.cell? ⟨x, 5, none⟩ = some (.int .i64 (entOf bs s 0 5)) := by simpa using hS1.cell 0 5 (by omega) (by omega)
  have HIS := hide (fun kind W => entIs_any (entOf bs s 0 0) (entOf bs s 0 1) (entOf bs s 0 2) (entOf bs s 0 3) (entOf bs s 0 4) (entOf bs s 0 5) kind W)
  have hs1 := HB1.out.size
  clear hb1 hS1 HAT
  generalize entOf bs s 0 0 = e0 at *
  generalize entOf bs s 0 1 = e1 at *
  generalize entOf bs s 0 2 = e2 at *
  generalize entOf bs s 0 3 = e3 at *
  generalize entOf bs s 0 4 = e4 at *
  generalize entOf bs s 0 5 = e5 at *
  go_wp2_with fail
  refine (HIS.out 2 w1).mono ?_
  rintro e w2 ⟨rfl, hb2⟩
  have HEND : Hid (Below w.heap.size w w2) := HB1.out.trans (hb2.mono hs1)
  clear hb2
  go_wp2
  go_ret
  exact ⟨by rw [HE.out]; rfl, HEND.out⟩
def hdrOf (bs : List Int) (s : Nat) (k : Nat) : Int := if headB bs s = true then recOf bs s 0 k else 0

set_option maxRecDepth 100000 in
set_option maxHeartbeats 2000000 in
theorem header_any (x : Nat) (bs : List Int) (s : Nat) (w : World) (h : SecAt x bs s w) :
    Calls Tryz.prog 153 #[.agg #[.int .i64 s, .slice (some ⟨x, 0, none⟩) 8 8]] w fun e w' => e = .returned (.agg #[.int .i64 (hdrOf bs s 0), .int .i64 (hdrOf bs s 1), .int .i64 (hdrOf bs s 2), .int .i64 (hdrOf bs s 3), .int .i64 (hdrOf bs s 4)]) ∧ Below w.heap.size w w' := by
  have HH := hide h
  obtain ⟨w2, hw2⟩ : ∃ w2, w2 = (w.alloc (.cells #[.int .i64 s, .slice (some ⟨x, 0, none⟩) 8 8] 183)).alloc (.cells #[.int .i64 0, .int .i64 0, .int .i64 0, .int .i64 0, .int .i64 0] 52) := ⟨_, rfl⟩
  have hb2 : Below w.heap.size w w2 := by rw [hw2]; exact ((Below.refl _ _).alloc (Nat.le_refl _) _).alloc (by simp) _
  have hs2 : w2.heap.size = w.heap.size + 2 := by rw [hw2]; simp
  have hx2 : w2.heap[w.heap.size]? = some (.cells #[.int .i64 s, .slice (some ⟨x, 0, none⟩) 8 8] 183 (0, 0)) := by rw [hw2, Below.heap_alloc _ _ _ (by simp)]; exact heap_alloc_new w _
  have hr2 : w2.heap[w.heap.size + 1]? = some (.cells #[.int .i64 0, .int .i64 0, .int .i64 0, .int .i64 0, .int .i64 0] 52 (0, 0)) := by
    rw [hw2]
    have := heap_alloc_new (w.alloc (.cells #[.int .i64 s, .slice (some ⟨x, 0, none⟩) 8 8] 183)) (.cells #[.int .i64 0, .int .i64 0, .int .i64 0, .int .i64 0, .int .i64 0] 52)
    rwa [show (w.alloc (.cells #[.int .i64 s, .slice (some ⟨x, 0, none⟩) 8 8] 183)).heap.size = w.heap.size + 1 from by simp] at this
  have HHD := hide (headed_any x bs s w2 (h.below hb2))
  have HB2 := hide hb2
  have HX2 := hide hx2
  have HR2 := hide hr2
  have HW2 := hide hw2
  have HE : Hid (∀ k, hdrOf bs s k = if headB bs s = true then recOf bs s 0 k else 0) := fun k => rfl
  clear h hb2 hx2 hr2 hw2
  go_enter Tryz.func153, Tryz.ntmps153
  go_wp2_with fail
  rw [← HW2.out]
  refine HHD.out.mono ?_
  rintro e w3 ⟨rfl, hb3⟩
  have hs3 := hb3.size
  have HB3 : Hid (Below w.heap.size w w3) := HB2.out.trans (hb3.mono (by omega))
  have hx3 := (hb3.block _ (by omega)).trans HX2.out
  have hr3 := (hb3.block _ (by omega)).trans HR2.out
  have b1 : w3.cell? ⟨w.heap.size, 1, none⟩ = some (.slice (some ⟨x, 0, none⟩) 8 8) := by rw [cell_of_row _ _ _ _ _ _ hx3]; rfl
  have HR3 := hide hr3
  clear hb3 HHD hx3 hr3 HX2 HR2 HB2
  cases hd : headB bs s with
  | false =>
    have z0 : w3.cell? ⟨w.heap.size + 1, 0, none⟩ = some (.int .i64 0) := by rw [cell_of_row _ _ _ _ _ _ HR3.out]; rfl
    have z1 : w3.cell? ⟨w.heap.size + 1, 1, none⟩ = some (.int .i64 0) := by rw [cell_of_row _ _ _ _ _ _ HR3.out]; rfl
    have z2 : w3.cell? ⟨w.heap.size + 1, 2, none⟩ = some (.int .i64 0) := by rw [cell_of_row _ _ _ _ _ _ HR3.out]; rfl
    have z3 : w3.cell? ⟨w.heap.size + 1, 3, none⟩ = some (.int .i64 0) := by rw [cell_of_row _ _ _ _ _ _ HR3.out]; rfl
    have z4 : w3.cell? ⟨w.heap.size + 1, 4, none⟩ = some (.int .i64 0) := by rw [cell_of_row _ _ _ _ _ _ HR3.out]; rfl
    have f0 := free_of_block HR3.out 0
    have f1 := free_of_block HR3.out 1
    have f2 := free_of_block HR3.out 2
    have f3 := free_of_block HR3.out 3
    have f4 := free_of_block HR3.out 4
    have HD := hide hd
    clear hd
    go_wp2
    refine bodyPost_ret (v := .agg #[.int .i64 0, .int .i64 0, .int .i64 0, .int .i64 0, .int .i64 0]) (by simp [results, Tryz.results153, go_sem, z0, z1, z2, z3, z4]) rfl ?_
    refine ⟨by simp [HE.out, HD.out], ?_⟩
    iterate 5 refine Below.thenSet ?_ (by omega) _ _
    exact HB3.out
  | true =>
    have HAT := hide (entAt_any x 0 w3 (by omega))
    have HD := hide hd
    clear hd
    go_wp2_with fail
    refine HAT.out.mono ?_
    rintro e w4 ⟨rfl, hb4⟩
    have hs4 := hb4.size
    have HB4 : Hid (Below w.heap.size w w4) := HB3.out.trans (hb4.mono (by omega))
    have hr4 := (hb4.block _ (by omega)).trans HR3.out
    have hS4 := HH.out.below HB4.out
    have c1 : w4.cell? ⟨x, 1, none⟩ = some (.int .i64 (recOf bs s 0 0)) := by simpa [entOf] using hS4.cell 0 1 (by omega) (by omega)
    have c2 : w4.cell? ⟨x, 2, none⟩ = some (.int .i64 (recOf bs s 0 1)) := by simpa [entOf] using hS4.cell 0 2 (by omega) (by omega)
    have c3 : w4.cell? ⟨x, 3, none⟩ = some (.int .i64 (recOf bs s 0 2)) := by simpa [entOf] using hS4.cell 0 3 (by omega) (by omega)
    have c4 : w4.cell? ⟨x, 4, none⟩ = some (.int .i64 (recOf bs s 0 3)) := by simpa [entOf] using hS4.cell 0 4 (by omega) (by omega)
    have c5 : w4.cell? ⟨x, 5, none⟩ = some (.int .i64 (recOf bs s 0 4)) := by simpa [entOf] using hS4.cell 0 5 (by omega) (by omega)
    have z0 : w4.cell? ⟨w.heap.size + 1, 0, none⟩ = some (.int .i64 0) := by rw [cell_of_row _ _ _ _ _ _ hr4]; rfl
    have z1 : w4.cell? ⟨w.heap.size + 1, 1, none⟩ = some (.int .i64 0) := by rw [cell_of_row _ _ _ _ _ _ hr4]; rfl
    have z2 : w4.cell? ⟨w.heap.size + 1, 2, none⟩ = some (.int .i64 0) := by rw [cell_of_row _ _ _ _ _ _ hr4]; rfl
    have z3 : w4.cell? ⟨w.heap.size + 1, 3, none⟩ = some (.int .i64 0) := by rw [cell_of_row _ _ _ _ _ _ hr4]; rfl
    have z4 : w4.cell? ⟨w.heap.size + 1, 4, none⟩ = some (.int .i64 0) := by rw [cell_of_row _ _ _ _ _ _ hr4]; rfl
    have f0 := free_of_block hr4 0
    have f1 := free_of_block hr4 1
    have f2 := free_of_block hr4 2
    have f3 := free_of_block hr4 3
    have f4 := free_of_block hr4 4
    clear hb4 hr4 hS4 HAT HR3
    go_wp2
    refine bodyPost_ret (v := .agg #[.int .i64 (recOf bs s 0 0), .int .i64 (recOf bs s 0 1), .int .i64 (recOf bs s 0 2), .int .i64 (recOf bs s 0 3), .int .i64 (recOf bs s 0 4)]) (by simp [results, Tryz.results153, go_sem, z0, z1, z2, z3, z4]) rfl ?_
    refine ⟨by simp [HE.out, HD.out], ?_⟩
    iterate 5 refine Below.thenSet ?_ (by omega) _ _
    exact HB4.out

def genOf (bs : List Int) (s : Nat) : Int := hdrOf bs s 3
set_option maxRecDepth 100000 in
set_option maxHeartbeats 2000000 in
theorem generation_any (x : Nat) (bs : List Int) (s : Nat) (w : World) (h : SecAt x bs s w) :
    Calls Tryz.prog 126 #[.agg #[.int .i64 s, .slice (some ⟨x, 0, none⟩) 8 8]] w fun e w' => e = .returned (.int .i64 (genOf bs s)) ∧ Below w.heap.size w w' := by
  have hb0 : Below w.heap.size w (w.alloc (.cells #[.int .i64 s, .slice (some ⟨x, 0, none⟩) 8 8] 183)) := (Below.refl _ _).alloc (Nat.le_refl _) _
  have HHD := hide (header_any x bs s _ (h.below hb0))
  have HB0 := hide hb0
  have HE : Hid (genOf bs s = hdrOf bs s 3) := rfl
  clear h hb0
  generalize hdrOf bs s 0 = r0 at *
  generalize hdrOf bs s 1 = r1 at *
  generalize hdrOf bs s 2 = r2 at *
  generalize hdrOf bs s 3 = r3 at *
  generalize hdrOf bs s 4 = r4 at *
  have hfld : ∀ W : World, (Instr.field 52 (.agg #[.int .i64 r0, .int .i64 r1, .int .i64 r2, .int .i64 r3, .int .i64 r4]) 3).run Tryz.prog W = .ok (.int .i64 r3) W := fun W => by kernel_rfl
  go_enter Tryz.func126, Tryz.ntmps126
  go_wp2_with fail
  refine HHD.out.mono ?_
  rintro e w1 ⟨rfl, hb1⟩
  have HB1 : Hid (Below w.heap.size w w1) := HB0.out.trans (hb1.mono (by simp))
  clear hb1 HHD
  go_wp2
  go_ret
  exact ⟨by rw [HE.out]; rfl, HB1.out⟩
end Go.Proofs.YtnjlbgolnbdkaaaGreat
/- Texts of the proof of Boots, one behind the other. -/
namespace Go.Proofs.YtnjlbgolnbdkaaaGreat
open Go.RowKit Go.Shelf

attribute [local go_sem] Oper.semAt_some

def upto (N k : Nat) : List (Fin N) := (List.finRange N).take k
theorem upto_succ (N k : Nat) (h : k < N) : upto N (k + 1) = upto N k ++ [⟨k, h⟩] := by
  unfold upto
  rw [List.take_add_one, List.getElem?_eq_getElem (by simp; exact h)]
  simp
theorem upto_length (N k : Nat) (h : k ≤ N) : (upto N k).length = k := by simp [upto]; omega

set_option maxRecDepth 100000 in
set_option maxHeartbeats 2000000 in
theorem entAllOne_in (F : Fence) (n : Nat) (h199 : F.fn 199) (hro : F.round = none) (hn : 1 ≤ n) (l B x : Nat) (J Jx : List (Fin 8) → World → Prop)
    (hY : ∀ pre (i : Fin 8) W, J pre W → pre.length < 8 → YieldAt F (n - 1) Tryz.prog l #[.int .i64 (i.1 : Int), .pointer (some ⟨x, i.1 * 6, none⟩)] W fun e W' =>
      (e = .returned (.bool true) ∧ J (pre ++ [i]) W' ∧ W'.heap[B]? = W.heap[B]?) ∨ (e = .returned (.bool false) ∧ Jx (pre ++ [i]) W'))
    (W : World) (hB : W.heap[B]? = some (.cells #[.slice (some ⟨x, 0, none⟩) 8 8] 181 (0, 0))) (h0 : J [] W) :
    CallsIn F n Tryz.prog 199 #[.func (.yield l) #[] #[], .pointer (some ⟨B, 0, none⟩)] W fun e W' => (∃ v, e = .returned v) ∧
      ((∃ ys, ys = upto 8 8 ∧ J ys W') ∨ (∃ pre, (∃ k, k ≤ 8 ∧ pre = upto 8 k) ∧ Jx pre W')) := by
  have c0 : W.cell? ⟨B, 0, none⟩ = some (.slice (some ⟨x, 0, none⟩) 8 8) := by rw [cell_of_row _ _ _ _ _ _ hB]; rfl
  refine callsIn_of_wp Tryz.func199 rfl h199 ?_ hro
  simp only [Tryz.ntmps199, List.size_toArray, List.length_cons, List.length_nil, Nat.reduceAdd, Nat.reduceSub, Array.replicate_succ, Array.replicate_zero, List.push_toArray, List.append_toArray, List.nil_append, List.cons_append]
  gi_wp2
  gi_loopw [7] (fun i wr => ∃ k : Nat, k ≤ 8 ∧ i = .int .i64 k ∧ J (upto 8 k) wr ∧ wr.heap[B]? = some (.cells #[.slice (some ⟨x, 0, none⟩) 8 8] 181 (0, 0))) (fun i _ => 8 - (intOf i).toNat)
  case atStart => exact ⟨0, by omega, rfl, h0, hB⟩
  case round =>
    obtain ⟨k, hk, rfl, hJs, hB1⟩ := hrel
    by_cases hlt : k < 8
    · obtain ⟨fn, tmps, assign, body, hy, hR⟩ := hY _ ⟨k, hlt⟩ wr hJs (by rw [upto_length 8 k (by omega)]; exact hlt)
      dsimp only at hy
      have c1 : wr.cell? ⟨B, 0, none⟩ = some (.slice (some ⟨x, 0, none⟩) 8 8) := by rw [cell_of_row _ _ _ _ _ _ hB1]; rfl
      gi_wp2
      refine hR.mono ?_
      rintro e W3 (⟨rfl, hJ3, hk3⟩ | ⟨rfl, hJx3⟩)
      · gi_wp2
        go_roundw
        case rel => exact ⟨k + 1, by omega, by simp, by rw [upto_succ 8 k hlt]; exact hJ3, hk3.trans hB1⟩
        case measure => simp [intOf]; omega
      · gi_wp2
        refine bodyPost_ret (results_none rfl _ _ _) rfl ?_
        exact ⟨⟨_, rfl⟩, .inr ⟨_, ⟨k + 1, by omega, (upto_succ 8 k hlt).symm⟩, hJx3⟩⟩
    · obtain rfl : k = 8 := by omega
      gi_wp2
      go_end0
      exact ⟨⟨_, rfl⟩, .inl ⟨_, rfl, hJs⟩⟩
theorem entAll_stops (F : Fence) (n : Nat) (h199 : F.fn 199) (hro : F.round = none) (hn : 1 ≤ n) (B x : Nat) (w : World) (hBl : B < w.heap.size) (hB : w.heap[B]? = some (.cells #[.slice (some ⟨x, 0, none⟩) 8 8] 181 (0, 0))) :
    SeqStopsK F n Tryz.prog 199 #[.pointer (some ⟨B, 0, none⟩)] (fun i : Fin 8 => #[.int .i64 (i.1 : Int), .pointer (some ⟨x, i.1 * 6, none⟩)]) (fun W W' => W'.heap[B]? = W.heap[B]?) (fun ys => ys = upto 8 8) (fun pre => ∃ k, k ≤ 8 ∧ pre = upto 8 k) 8 w :=
  fun l J Jx W hW _ _ hY h0 => entAllOne_in F n h199 hro hn l B x J Jx hY W ((hW.block B hBl).trans hB) h0
set_option maxHeartbeats 1000000 in
theorem entAll_any (x : Nat) (w : World) : Calls Tryz.prog 172 #[.agg #[.slice (some ⟨x, 0, none⟩) 8 8]] w fun e w' => e = .returned (.func (.func 199) #[] #[.pointer (some ⟨w.heap.size, 0, none⟩)]) ∧ w' = w.alloc (.cells #[.slice (some ⟨x, 0, none⟩) 8 8] 181) := by
  go_enter Tryz.func172, Tryz.ntmps172
  go_wp2
  go_ret
  exact ⟨rfl, rfl⟩
end Go.Proofs.YtnjlbgolnbdkaaaGreat
namespace Go.Proofs.YtnjlbgolnbdkaaaGreat
open Go.RowKit

def recCells (r : Nat → Int) : List Value := [.int .i64 (r 0), .int .i64 (r 1), .int .i64 (r 2), .int .i64 (r 3), .int .i64 (r 4)]
def recsCells (l : List (Nat → Int)) : List Value := l.flatMap recCells
theorem recsCells_append (a b : List (Nat → Int)) : recsCells (a ++ b) = recsCells a ++ recsCells b := by simp [recsCells]
theorem recsCells_length (l : List (Nat → Int)) : (recsCells l).length = l.length * 5 := by
  induction l with
  | nil => rfl
  | cons a l ih => show (recCells a ++ recsCells l).length = _; rw [List.length_append, ih]; show 5 + _ = _; simp; omega
theorem recsCells_one (l : List (Nat → Int)) : ∀ u ∈ recsCells l, u.oneCell' = true := by
  apply ints_one
  intro u hu
  obtain ⟨r, _, hr⟩ := List.mem_flatMap.1 hu
  simp [recCells] at hr
  rcases hr with rfl | rfl | rfl | rfl | rfl <;> exact ⟨_, _, rfl⟩
def RecsV (base : Nat) (v : Value) (l : List (Nat → Int)) (w : World) : Prop := w.ownsRow base 52 5 v l.length (recsCells l)

def isFault (bs : List Int) (s i : Nat) : Bool := kindAt bs s i == 3 && recOf bs s i 0 == 1
def faultsTo (bs : List Int) (s : Nat) : Nat → List (Nat → Int)
  | 0 => []
  | k + 1 => faultsTo bs s k ++ if isFault bs s (k + 1) then [recOf bs s (k + 1)] else []
theorem faultsTo_le (bs : List Int) (s k : Nat) : (faultsTo bs s k).length ≤ k := by
  induction k with
  | zero => exact Nat.le_refl _
  | succ k ih => show (faultsTo bs s k ++ _).length ≤ _; rw [List.length_append]; split <;> simp <;> omega
def faultsOf (bs : List Int) (s : Int) : List (Nat → Int) := if s < 0 then [] else faultsTo bs s.toNat 7
def logOf (bs : List Int) : List (Nat → Int) := faultsOf bs (sectorsOf bs).2 ++ faultsOf bs (sectorsOf bs).1
theorem faultsOf_le (bs : List Int) (s : Int) : (faultsOf bs s).length ≤ 7 := by
  unfold faultsOf
  split
  · simp
  · exact faultsTo_le _ _ _
end Go.Proofs.YtnjlbgolnbdkaaaGreat
/- Texts of the proof of Boots, one behind the other. -/
namespace Go.Proofs.YtnjlbgolnbdkaaaGreat
open Go.RowKit Go.Shelf

attribute [local go_sem] Oper.semAt_some
attribute [-go_sem] Builtin.append_

def pfTo (bs : List Int) (s : Nat) (pre : List (Fin 8)) : List (Nat → Int) := pre.flatMap fun i => if headB bs s && isFault bs s i.1 then [recOf bs s i.1] else []
theorem pfTo_hit (bs : List Int) (s : Nat) (pre : List (Fin 8)) (i : Fin 8) (h : (headB bs s && isFault bs s i.1) = true) : pfTo bs s (pre ++ [i]) = pfTo bs s pre ++ [recOf bs s i.1] := by simp at h; simp [pfTo, h]
theorem pfTo_miss (bs : List Int) (s : Nat) (pre : List (Fin 8)) (i : Fin 8) (h : (headB bs s && isFault bs s i.1) = false) : pfTo bs s (pre ++ [i]) = pfTo bs s pre := by simp at h; simp only [pfTo, List.flatMap_append, List.flatMap_cons, List.flatMap_nil, List.append_nil]; simp; exact h
theorem pfTo_le (bs : List Int) (s : Nat) (pre : List (Fin 8)) : (pfTo bs s pre).length ≤ pre.length := by
  induction pre with
  | nil => exact Nat.le_refl _
  | cons a l ih => show ((if _ then _ else _) ++ pfTo bs s l).length ≤ _; rw [List.length_append]; split <;> simp <;> omega

theorem keepsOthers_below {W W' : World} (h : Below W.heap.size W W') : KeepsOthers W W' := ⟨h.size, fun k _ hk _ => (h.block k (Array.getElem?_eq_some_iff.1 hk).1).trans hk⟩

set_option maxRecDepth 100000 in
set_option maxHeartbeats 2000000 in
theorem faults_any (x : Nat) (bs : List Int) (s : Nat) (w : World) (h : SecAt x bs s w) :
    Calls Tryz.prog 127 #[.agg #[.int .i64 s, .slice (some ⟨x, 0, none⟩) 8 8]] w fun e w' => ∃ v, e = .returned v ∧ (RecsV w.heap.size v (pfTo bs s (upto 8 8)) w' ∧ (v = .slice none 0 0 ↔ pfTo bs s (upto 8 8) = [])) ∧ Below w.heap.size w w' := by
  obtain ⟨i0, hi, hz0, hz1, hz2⟩ := info_parts Tryz.info52
  have hmx : Tryz.prog.follows .mixedOrders = true := by kernel_rfl
  refine (callsIn_wide (n := 4)).1 ?_
  refine callsIn_of_wp_marks Tryz.func127 rfl trivial ?_ rfl
  simp only [Tryz.ntmps127, List.size_toArray, List.length_cons, List.length_nil, Nat.reduceAdd, Nat.reduceSub, Array.replicate_succ, Array.replicate_zero, List.push_toArray, List.append_toArray, List.nil_append, List.cons_append]
  gi_wp2_with (refine ⟨trivial, ?_⟩; gi_at_call 172; refine (callsIn_wide.2 (entAll_any _ _)).mono ?_; rintro e w' ⟨rfl, rfl⟩)
  have hb1 : Below w.heap.size w (w.alloc (.cells #[.int .i64 s, .slice (some ⟨x, 0, none⟩) 8 8] 183)) := (Below.refl _ _).alloc (Nat.le_refl _) _
  obtain ⟨w1, hw1⟩ : ∃ w1, w1 = w.alloc (.cells #[.int .i64 s, .slice (some ⟨x, 0, none⟩) 8 8] 183) := ⟨_, rfl⟩
  have hs1 : w1.heap.size = w.heap.size + 1 := by rw [hw1]; simp
  have hA1 : w1.heap[w.heap.size]? = some (.cells #[.int .i64 s, .slice (some ⟨x, 0, none⟩) 8 8] 183 (0, 0)) := by rw [hw1]; exact heap_alloc_new w _
  rw [← hw1] at hb1 ⊢
  have hS1 := h.below hb1
  have bO := Boxed.new w1 49 (.slice none 0 0)
  have bC := Boxed.new (w1.alloc (.cells #[.slice none 0 0] 49)) 181 (.slice (some ⟨x, 0, none⟩) 8 8)
  rw [World.size_alloc] at bC
  rw [hs1] at bO bC
  have hB0 : Below (w.heap.size + 1) w1 ((w1.alloc (.cells #[.slice none 0 0] 49)).alloc (.cells #[.slice (some ⟨x, 0, none⟩) 8 8] 181)) := ((Below.refl _ w1).alloc (by omega) _).alloc (by simp; omega) _
  obtain ⟨w2, hw2⟩ : ∃ w2, w2 = (w1.alloc (.cells #[.slice none 0 0] 49)).alloc (.cells #[.slice (some ⟨x, 0, none⟩) 8 8] 181) := ⟨_, rfl⟩
  have hs2 : w2.heap.size = w.heap.size + 3 := by rw [hw2]; simp; omega
  have bO2 := bO.alloc (.cells #[.slice (some ⟨x, 0, none⟩) 8 8] 181)
  rw [← hw2] at bC hB0 bO2 ⊢
  refine wpIn_rangeFunc_ownF rfl (by omega) (gf := 199) (lb := #[.pointer (some ⟨w.heap.size + 1 + 1, 0, none⟩)]) rfl trivial (enters_of Tryz.func199 (by kernel_rfl) rfl)
    (entAll_stops _ _ trivial rfl (by omega) (w.heap.size + 1 + 1) x w2 (by omega) bC) (fun h k => k.trans h) (fun W l o o' hl _ _ _ => World.putObj_heap_other (by omega)) (Below.refl _ _) (fun _ => rfl)
    (fun pre W => (∃ v, Boxed W (w.heap.size + 1) 49 v ∧ W.ownsRow (w.heap.size + 1) 52 5 v (pfTo bs s pre).length (recsCells (pfTo bs s pre)) ∧ (v = .slice none 0 0 ↔ pfTo bs s pre = [])) ∧ Boxed W (w.heap.size + 1 + 1) 181 (.slice (some ⟨x, 0, none⟩) 8 8) ∧ Below (w.heap.size + 1) w1 W)
    (fun _ _ _ => False)
    (OwnFrom.and (Own.from (holdsRow_own (w.heap.size + 1) (w.heap.size + 1) 49 52 5 (fun pre => (pfTo bs s pre).length) (fun pre => recsCells (pfTo bs s pre)) (fun pre v => v = .slice none 0 0 ↔ pfTo bs s pre = [])) _) (OwnFrom.and (Own.from (boxed_own _ _ _) _) (ownFrom_below (by omega) (by omega))))
    (fun _ _ _ _ _ hs _ _ => hs)
    ⟨⟨_, bO2, World.ownsRow_nil _ _ _ _, by simp [pfTo]⟩, bC, hB0⟩
    (fun i => { tmps := #[.agg #[.int .i64 s, .slice (some ⟨x, 0, none⟩) 8 8], .pointer (some ⟨w.heap.size, 0, none⟩), .slice none 0 0, .pointer (some ⟨w.heap.size + 1, 0, none⟩), undef, .pointer (some ⟨x, i.1 * 6, none⟩), .pointer (some ⟨w.heap.size, 1, none⟩), .agg #[.slice (some ⟨x, 0, none⟩) 8 8], .func (.func 199) #[] #[.pointer (some ⟨w.heap.size + 1 + 1, 0, none⟩)], .int .i64 i.1, .pointer (some ⟨x, i.1 * 6, none⟩), undef, undef, undef, undef, undef, undef, undef, undef, undef, undef, undef, undef, undef, undef, undef, undef], defers := [] }) ?assign ?body ?done ?stop
  case assign =>
    intro l i W K hK
    gi_wp2
    exact hK
  case body =>
    rintro l pre i W ⟨⟨v, hv, hrow, hnil⟩, hC, hB⟩ hlt
    have hsW := hB.size
    have hAW := (hB.block w.heap.size (by omega)).trans hA1
    have a0 : W.cell? ⟨w.heap.size, 0, none⟩ = some (.int .i64 s) := by rw [cell_of_row _ _ _ _ _ _ hAW]; rfl
    have a1 : W.cell? ⟨w.heap.size, 1, none⟩ = some (.slice (some ⟨x, 0, none⟩) 8 8) := by rw [cell_of_row _ _ _ _ _ _ hAW]; rfl
    have hSW : SecAt x bs s W := hS1.below (by rw [hs1]; exact hB)
    have HV := hide hv
    have HROW := hide hrow
    have HNIL := hide hnil
    have HC := hide hC
    have HB := hide hB
    have HSW := hide hSW
    have hi8 := i.2
    obtain ⟨P2, hP2⟩ : ∃ P2 : World → Prop, P2 = fun W' => Below W.heap.size W W' := ⟨_, rfl⟩
    have HP2 := hide hP2
    have HHD : Hid (Calls Tryz.prog 125 #[.agg #[.int .i64 s, .slice (some ⟨x, 0, none⟩) 8 8]] W fun e w' => e = .returned (.bool (headB bs s)) ∧ Below W.heap.size W w') := headed_any x bs s W hSW
    have HLT := hide hlt
    have HSZW := hide hsW
    clear hv hrow hnil hC hB hSW hP2 hlt hAW hsW
    gi_wp2_with fail
    refine ⟨trivial, ?_⟩
    refine (CallsIn.inRound l (callsIn_wide.2 HHD.out)).mono ?_
    rintro e W2 ⟨rfl, hb2⟩
    have HB2 := hide hb2
    clear hb2 HHD
    cases hd : headB bs s with
    | false =>
      have HD := hide hd
      clear hd
      gi_wp2
      refine ⟨trivial, ?_⟩
      gi_wp2
      have hpf := pfTo_miss bs s pre i (by rw [HD.out]; rfl)
      refine ⟨keepsOthers_below HB2.out, HB2.out.block _ HC.out.lt, ⟨⟨v, (HB2.out.block _ HV.out.lt).trans HV.out, by rw [hpf]; exact own_keep HROW.out (fun b e => HB2.out.block b (World.ownsRow.lt HROW.out b e).2), by rw [hpf]; exact HNIL.out⟩, (HB2.out.block _ HC.out.lt).trans HC.out, HB.out.trans (HB2.out.mono (by have := HSZW.out; omega))⟩⟩
    | true =>
      have HD := hide hd
      clear hd
      have hS2 := HSW.out.below HB2.out
      have c0 : W2.cell? ⟨x, i.1 * 6, none⟩ = some (.int .i64 (entOf bs s i.1 0)) := by simpa using hS2.cell i.1 0 (by omega) (by omega)
      have c1 : W2.cell? ⟨x, i.1 * 6 + 1, none⟩ = some (.int .i64 (entOf bs s i.1 1)) := by simpa using hS2.cell i.1 1 (by omega) (by omega)
      have c2 : W2.cell? ⟨x, i.1 * 6 + 2, none⟩ = some (.int .i64 (entOf bs s i.1 2)) := by simpa using hS2.cell i.1 2 (by omega) (by omega)
      have c3 : W2.cell? ⟨x, i.1 * 6 + 3, none⟩ = some (.int .i64 (entOf bs s i.1 3)) := by simpa using hS2.cell i.1 3 (by omega) (by omega)
      have c4 : W2.cell? ⟨x, i.1 * 6 + 4, none⟩ = some (.int .i64 (entOf bs s i.1 4)) := by simpa using hS2.cell i.1 4 (by omega) (by omega)
      have c5 : W2.cell? ⟨x, i.1 * 6 + 5, none⟩ = some (.int .i64 (entOf bs s i.1 5)) := by simpa using hS2.cell i.1 5 (by omega) (by omega)
      have HIS := hide (entIs_any (entOf bs s i.1 0) (entOf bs s i.1 1) (entOf bs s i.1 2) (entOf bs s i.1 3) (entOf bs s i.1 4) (entOf bs s i.1 5) 1 W2)
      have HF : Hid (isFault bs s i.1 = (entOf bs s i.1 0 == 3 && entOf bs s i.1 1 == 1)) := rfl
      have HR : Hid (recCells (recOf bs s i.1) = [.int .i64 (entOf bs s i.1 1), .int .i64 (entOf bs s i.1 2), .int .i64 (entOf bs s i.1 3), .int .i64 (entOf bs s i.1 4), .int .i64 (entOf bs s i.1 5)]) := rfl
      clear hS2
      generalize entOf bs s i.1 0 = e0 at *
      generalize entOf bs s i.1 1 = e1 at *
      generalize entOf bs s i.1 2 = e2 at *
      generalize entOf bs s i.1 3 = e3 at *
      generalize entOf bs s i.1 4 = e4 at *
      generalize entOf bs s i.1 5 = e5 at *
      gi_wp2_with fail
      refine ⟨trivial, ?_⟩
      refine (CallsIn.inRound l (callsIn_wide.2 HIS.out)).mono ?_
      rintro e W3 ⟨rfl, hb3⟩
      have HB3 : Hid (Below W.heap.size W W3) := HB2.out.trans (hb3.mono HB2.out.size)
      have d1 : W3.cell? ⟨x, i.1 * 6 + 1, none⟩ = some (.int .i64 e1) := (hb3.cell (p := ⟨x, i.1 * 6 + 1, none⟩) (Nat.lt_of_lt_of_le HSW.out.lt HB2.out.size)).trans c1
      have d2 : W3.cell? ⟨x, i.1 * 6 + 2, none⟩ = some (.int .i64 e2) := (hb3.cell (p := ⟨x, i.1 * 6 + 2, none⟩) (Nat.lt_of_lt_of_le HSW.out.lt HB2.out.size)).trans c2
      have d3 : W3.cell? ⟨x, i.1 * 6 + 3, none⟩ = some (.int .i64 e3) := (hb3.cell (p := ⟨x, i.1 * 6 + 3, none⟩) (Nat.lt_of_lt_of_le HSW.out.lt HB2.out.size)).trans c3
      have d4 : W3.cell? ⟨x, i.1 * 6 + 4, none⟩ = some (.int .i64 e4) := (hb3.cell (p := ⟨x, i.1 * 6 + 4, none⟩) (Nat.lt_of_lt_of_le HSW.out.lt HB2.out.size)).trans c4
      have d5 : W3.cell? ⟨x, i.1 * 6 + 5, none⟩ = some (.int .i64 e5) := (hb3.cell (p := ⟨x, i.1 * 6 + 5, none⟩) (Nat.lt_of_lt_of_le HSW.out.lt HB2.out.size)).trans c5
      clear hb3 HIS c0 c1 c2 c3 c4 c5 a0 a1
      cases hf : (e0 == 3 && e1 == 1) with
      | false =>
        have HD2 := hide hf
        clear hf
        gi_wp2
        have hpf := pfTo_miss bs s pre i (by rw [HF.out, HD2.out, Bool.and_false])
        refine ⟨keepsOthers_below HB3.out, HB3.out.block _ HC.out.lt, ⟨⟨v, (HB3.out.block _ HV.out.lt).trans HV.out, by rw [hpf]; exact own_keep HROW.out (fun b e => HB3.out.block b (World.ownsRow.lt HROW.out b e).2), by rw [hpf]; exact HNIL.out⟩, (HB3.out.block _ HC.out.lt).trans HC.out, HB.out.trans (HB3.out.mono (by have := HSZW.out; omega))⟩⟩
      | true =>
        have HD2 := hide hf
        clear hf
        have hpl := pfTo_le bs s pre
        have hv3 : Boxed W3.drew (w.heap.size + 1) 49 v := (HB3.out.block _ HV.out.lt).trans HV.out
        have hC3 : Boxed W3.drew (w.heap.size + 1 + 1) 181 (.slice (some ⟨x, 0, none⟩) 8 8) := (HB3.out.block _ HC.out.lt).trans HC.out
        have hr3 : W3.drew.ownsRow (w.heap.size + 1) 52 5 v (pfTo bs s pre).length (recsCells (pfTo bs s pre)) := own_keep HROW.out (fun b e => HB3.out.block b (World.ownsRow.lt HROW.out b e).2)
        have hz3 : w.heap.size + 1 ≤ W3.drew.heap.size := by have := HSZW.out; have := HB3.out.size; show _ ≤ W3.heap.size; omega
        obtain ⟨v', w4, hrun, hown', hgrow, hnil'⟩ := run_append_own (P := Tryz.prog) (W3.drew.alloc (.cells #[.int .i64 e1, .int .i64 e2, .int .i64 e3, .int .i64 e4, .int .i64 e5] 52)) (w.heap.size + 1) 49 49 52 i0 _ 5 40 Tryz.underlying49 hi hz0 hz1 hz2 rfl (by decide) v _ _ (hr3.alloc _) ⟨W3.heap.size, 0, none⟩ 1 1 [.int .i64 e1, .int .i64 e2, .int .i64 e3, .int .i64 e4, .int .i64 e5] rfl (by have := news_at W3.drew #[.int .i64 e1, .int .i64 e2, .int .i64 e3, .int .i64 e4, .int .i64 e5] 52; simpa using this) (ints_one _ (by simp)) (by have := HLT.out; unfold maxLen; omega) (by have := HLT.out; omega) (Nat.le_trans hz3 (by simp))
        obtain ⟨g', cap', rfl⟩ := ownsRow_succ hown'
        have hrun2 : (Builtin.append_ #[49, 49] 49 #[v, .slice (some ⟨W3.heap.size, 0, none⟩) 1 1]).run Tryz.prog (W3.alloc (.cells #[.int .i64 e1, .int .i64 e2, .int .i64 e3, .int .i64 e4, .int .i64 e5] 52)).drew = _ := hrun
        obtain ⟨hv4, hv5, hr5, hk5, hb5⟩ := hv3.appended (by decide) hr3 hz3 (Nat.le_refl _) hown' hgrow
        have hC4 : Boxed w4 (w.heap.size + 1 + 1) 181 (.slice (some ⟨x, 0, none⟩) 8 8) := (hC3.alloc _).kept hgrow (hC3.not_row (by decide) hr3)
        have hC5 := hC4.other (B' := w.heap.size + 1) (by omega) (.slice (some ⟨g', 0, none⟩) ((pfTo bs s pre).length + 1) cap')
        have hc3 : W3.cell? ⟨w.heap.size + 1, 0, none⟩ = some v := hv3.cell
        have hc3a : ∀ o, (W3.alloc o).cell? ⟨w.heap.size + 1, 0, none⟩ = some v := fun o => (hv3.alloc o).cell
        have hc4 := hv4.cell
        have hf4 := hv4.frozen
        have hpf := pfTo_hit bs s pre i (by rw [HF.out, HD2.out, HD.out]; rfl)
        have HEND : Hid (KeepsOthers W (w4.setCell ⟨w.heap.size + 1, 0, none⟩ (.slice (some ⟨g', 0, none⟩) ((pfTo bs s pre).length + 1) cap')) ∧ (w4.setCell ⟨w.heap.size + 1, 0, none⟩ (.slice (some ⟨g', 0, none⟩) ((pfTo bs s pre).length + 1) cap')).heap[w.heap.size + 1 + 1]? = W.heap[w.heap.size + 1 + 1]? ∧ ((∃ v, Boxed (w4.setCell ⟨w.heap.size + 1, 0, none⟩ (.slice (some ⟨g', 0, none⟩) ((pfTo bs s pre).length + 1) cap')) (w.heap.size + 1) 49 v ∧ (w4.setCell ⟨w.heap.size + 1, 0, none⟩ (.slice (some ⟨g', 0, none⟩) ((pfTo bs s pre).length + 1) cap')).ownsRow (w.heap.size + 1) 52 5 v (pfTo bs s (pre ++ [i])).length (recsCells (pfTo bs s (pre ++ [i]))) ∧ (v = .slice none 0 0 ↔ pfTo bs s (pre ++ [i]) = [])) ∧ Boxed (w4.setCell ⟨w.heap.size + 1, 0, none⟩ (.slice (some ⟨g', 0, none⟩) ((pfTo bs s pre).length + 1) cap')) (w.heap.size + 1 + 1) 181 (.slice (some ⟨x, 0, none⟩) 8 8) ∧ Below (w.heap.size + 1) w1 (w4.setCell ⟨w.heap.size + 1, 0, none⟩ (.slice (some ⟨g', 0, none⟩) ((pfTo bs s pre).length + 1) cap')))) := by
          refine ⟨(keepsOthers_below HB3.out.drew).trans hk5, hC5.trans HC.out.symm, ⟨_, hv5, ?_, ?_⟩, hC5, HB.out.trans ((HB3.out.drew.mono (by have := HSZW.out; omega)).trans hb5)⟩
          · rw [hpf, List.length_append, recsCells_append, show recsCells [recOf bs s i.1] = recCells (recOf bs s i.1) from by simp [recsCells], HR.out]
            exact hr5
          · rw [hpf]
            simp
        clear hv3 hC3 hr3 hz3 hown' hgrow hnil' hv4 hv5 hr5 hk5 hb5 hC4 hC5 hpf hpl hrun
        obtain ⟨K, hK⟩ : ∃ K : Nat, K = (pfTo bs s pre).length := ⟨_, rfl⟩
        rw [← hK] at hrun2 HEND
        have HKK := hide hK
        clear hK
        gi_wp2_with fail
        gi_region_with fail
        all_goals gi_wp2
        all_goals exact HEND.out
  case done =>
    rintro D ys W hD rfl ⟨⟨v, hv, hrow, hnil⟩, hC, hB⟩ hK
    have hc := hv.cell
    gi_wp2
    refine ⟨by simp, .inl ⟨_, _, rfl, run_takeDeferred hK, ?_⟩⟩
    refine ⟨_, results_tmp rfl _ _ _, v, rfl, ⟨own_low (ownsRow_putObj hrow _ hK rfl) (by omega), hnil⟩, ?_⟩
    exact hb1.trans ((hB.mono (by omega)).trans (belowK_b (w := w) (Nat.le_refl _) W D _ _ (by omega) hK rfl rfl))
  case stop =>
    rintro D c pre W _ _ h _
    exact h.elim
end Go.Proofs.YtnjlbgolnbdkaaaGreat
namespace Go.Proofs.YtnjlbgolnbdkaaaGreat
open Go.RowKit

theorem RecsV.below {base : Nat} {v : Value} {l : List (Nat → Int)} {w w' : World} (h : RecsV base v l w) (hb : Below w.heap.size w w') : RecsV base v l w' := own_keep h (fun b e => hb.block b (World.ownsRow.lt h b e).2)

end Go.Proofs.YtnjlbgolnbdkaaaGreat
