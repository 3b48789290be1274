/- Texts of the proof of Boots, one behind the other. -/
import Derived.Test.YtnjlbgolnbdkaaaGreatJ13
/- The program's reader: config. -/
namespace Go.Proofs.YtnjlbgolnbdkaaaGreat
open Go.RowKit

def pgConf (zs : List Int) (s : Rs) : Cf × Rs :=
  let a := (pgB zs 72 72 [] s).2
  let N := pgB zs 1 4 [] a
  let f := pgB zs 1 64 [] N.2
  let wt := pgB zs 0 200 [] f.2
  let ps := pgTo (pgPart zs) N.1.toNat wt.2
  let ws := pgWins zs N.1 f.1 ps.2
  let k := pgB zs 0 4 [] ws.2
  let cs := pgTo (pgChan zs N.1) k.1.toNat k.2
  (⟨f.1, wt.1, ps.1, ws.1, cs.1⟩, cs.2)

/- a configuration in the making: the reader's box (B), the result (B + 1), how many partitions (p), the configuration (p + 1) -/
structure CMk (rb : Nat) (ao : Option Addr) (n cap : Nat) (zs : List Int) (w : World) (p : Nat) (N : Int) (cells : Array Value) (s : Rs) (wr : World) : Prop where
  box : wr.heap[w.heap.size]? = some (.cells #[.pointer (some ⟨rb, 0, none⟩)] 102 (0, 0))
  zero : wr.heap[w.heap.size + 1]? = some (.cells (cfCells 0 0 (.slice none 0 0) (.slice none 0 0) (.slice none 0 0)) 71 (0, 0))
  many : wr.heap[p]? = some (.cells #[.int .i64 N] 3 (0, 0))
  cur : wr.heap[p + 1]? = some (.cells cells 71 (0, 0))
  rd : PgAt rb ao n cap zs s wr
  t : Touch (· = rb) w wr
section
variable {rb : Nat} {ao : Option Addr} {n cap : Nat} {zs : List Int} {w : World} {p : Nat} {N : Int} {cells : Array Value} {s s' : Rs} {wr w' : World}
theorem CMk.byte (h : CMk rb ao n cap zs w p N cells s wr) (hrb : rb < w.heap.size) (hp : w.heap.size + 2 ≤ p) (hr : PgAt rb ao n cap zs s' w') (ht : Touch (· = rb) wr w') : CMk rb ao n cap zs w p N cells s' w' :=
  ⟨(ht.block _ (lt_of_block h.box) (by omega)).trans h.box, (ht.block _ (lt_of_block h.zero) (by omega)).trans h.zero, (ht.block _ (lt_of_block h.many) (by omega)).trans h.many, (ht.block _ (lt_of_block h.cur) (by omega)).trans h.cur, hr, h.t.andThen ht⟩
theorem CMk.set (h : CMk rb ao n cap zs w p N cells s wr) (hrb : rb < w.heap.size) (hp : w.heap.size + 2 ≤ p) (hlt : ∀ ad, ao = some ad → 0 < n → ad.block < w.heap.size) (o : Nat) (v : Value) : CMk rb ao n cap zs w p N (cells.setIfInBounds o v) s (wr.setCell ⟨p + 1, o, none⟩ v) := by
  have t : Touch (· = p + 1) wr (wr.setCell ⟨p + 1, o, none⟩ v) := Touch.ofSet wr _ o v rfl
  exact ⟨(t.block _ (lt_of_block h.box) (by omega)).trans h.box, (t.block _ (lt_of_block h.zero) (by omega)).trans h.zero, (t.block _ (lt_of_block h.many) (by omega)).trans h.many, block_set h.cur o v, h.rd.new hrb hlt (t.mono (fun k hk => by omega)), h.t.andNew (t.mono (fun k hk => by omega))⟩
end
theorem procs_touch {base : Nat} {v : Value} {ps : List Pr} {w w' : World} {S : Nat → Prop} (h : ProcsV base v ps w) (t : Touch S w w') (hS : ∀ b, S b → base ≤ b → OfType w b (· = 124)) : ProcsV base v ps w' :=
  h.keep (fun b h1 h2 ⟨cur, x, hx, hc⟩ => t.block b h2 (fun hs => by
    obtain ⟨c2, t2, ht2, hc2⟩ := hS b hs h1
    subst ht2
    rw [hc] at hc2
    rcases hx with rfl | rfl <;> simp at hc2))
theorem ConfV.low {base : Nat} {vP vW vC : Value} {cf : Cf} {w w' : World} (h : ConfV base vP vW vC cf w) {S : Nat → Prop} (t : Touch S w w') (hS : ∀ b, S b → b < base) : ConfV base vP vW vC cf w' := h.keep (fun b h1 h2 => t.block b h2 (fun hs => by have := hS b hs; omega))

set_option maxRecDepth 100000 in
set_option maxHeartbeats 8000000 in
theorem pgconfig_any (rb : Nat) (ao : Option Addr) (n cap : Nat) (zs : List Int) (s : Rs) (w : World) (h : PgAt rb ao n cap zs s w) :
    Calls Tryz.prog 44 #[.pointer (some ⟨rb, 0, none⟩)] w fun e w' => ∃ adP mP cP adW mW cW adC mC cC, e = .returned (.agg (cfCells (pgConf zs s).1.frame (pgConf zs s).1.watch (.slice adP mP cP) (.slice adW mW cW) (.slice adC mC cC))) ∧ ConfS w.heap.size (.slice adP mP cP) (.slice adW mW cW) (.slice adC mC cC) (pgConf zs s).1 w' ∧ PgAt rb ao n cap zs (pgConf zs s).2 w' ∧ Touch (· = rb) w w' := by
  have hrb := lt_of_block h.obj
  have HLT : Hid (∀ ad, ao = some ad → 0 < n → ad.block < w.heap.size) := h.held.lt
  have HBY := hide h.held.bytes
  have HZ : Hid (∃ Z, Z = cfCells 0 0 (.slice none 0 0) (.slice none 0 0) (.slice none 0 0)) := ⟨_, rfl⟩
  obtain ⟨w0, hw0⟩ : ∃ w0, w0 = ((w.alloc (.cells #[.pointer (some ⟨rb, 0, none⟩)] 102)).alloc (.cells #[.int .i64 0, .int .i64 0, .slice none 0 0, .slice none 0 0, .slice none 0 0] 71)) := ⟨_, rfl⟩
  have hs0 : w0.heap.size = w.heap.size + 2 := by rw [hw0]; simp
  have hA : w0.heap[w.heap.size]? = some (.cells #[.pointer (some ⟨rb, 0, none⟩)] 102 (0, 0)) := by rw [hw0]; exact (Below.heap_alloc _ _ _ (by simp)).trans (heap_alloc_new w _)
  have hB : w0.heap[w.heap.size + 1]? = some (.cells (cfCells 0 0 (.slice none 0 0) (.slice none 0 0) (.slice none 0 0)) 71 (0, 0)) := by rw [hw0]; exact new_two w _ _
  have hT : Touch (· = rb) w w0 := by rw [hw0]; exact (touch_alloc _ _).andThen (touch_alloc _ _)
  have hP : PgAt rb ao n cap zs s w0 := by rw [hw0]; exact (h.alloc _).alloc _
  have a0 : w0.cell? ⟨w.heap.size, 0, none⟩ = some (.pointer (some ⟨rb, 0, none⟩)) := by rw [cell_of_row _ _ _ _ _ _ hA]; rfl
  have HB1 := hide (pgnum0 rb ao n cap zs s 72 72 _ hP)
  obtain ⟨r1, hr1⟩ : ∃ r1, (pgB zs 72 72 [] s).2 = r1 := ⟨_, rfl⟩
  rw [hr1] at HB1
  have HW := hide hw0
  have H0 := hide (And.intro hA (And.intro hB hT))
  clear h hA hB hT hP hw0 HZ
  go_enter Tryz.func44, Tryz.ntmps44
  go_wp2_with fail
  rw [← HW.out]
  refine HB1.out.mono ?_
  rintro e w1 ⟨rfl, hp1, ht1⟩
  have hs1 := ht1.size
  have hA1 := (ht1.block _ (by omega) (by omega)).trans H0.out.1
  have hB1 := (ht1.block _ (by omega) (by omega)).trans H0.out.2.1
  have hT1 := H0.out.2.2.andThen ht1
  have a1 : w1.cell? ⟨w.heap.size, 0, none⟩ = some (.pointer (some ⟨rb, 0, none⟩)) := by rw [cell_of_row _ _ _ _ _ _ hA1]; rfl
  have HB2 := hide (pgnum0 rb ao n cap zs r1 1 4 _ hp1)
  have hN1 := pgB_small zs 1 4 [] r1 HBY.out
  have hN2 := pgB_le zs 1 4 [] r1 (by omega)
  obtain ⟨N, hNN⟩ : ∃ N, (pgB zs 1 4 [] r1).1 = N := ⟨_, rfl⟩
  obtain ⟨r2, hr2⟩ : ∃ r2, (pgB zs 1 4 [] r1).2 = r2 := ⟨_, rfl⟩
  rw [hNN, hr2] at HB2
  rw [hNN] at hN1 hN2
  have HE1 := hide (And.intro hr1 (And.intro hNN hr2))
  have H1 := hide (And.intro hA1 (And.intro hB1 hT1))
  clear hp1 ht1 hA1 hB1 hT1 a0 HB1 H0 HW hr1 hNN hr2
  go_wp2_with fail
  refine HB2.out.mono ?_
  rintro e w2 ⟨rfl, hp2, ht2⟩
  have hs2 := ht2.size
  obtain ⟨w3, hw3⟩ : ∃ w3, w3 = (w2.alloc (.cells #[.int .i64 N] 3)).alloc (.cells #[.int .i64 0, .int .i64 0, .slice none 0 0, .slice none 0 0, .slice none 0 0] 71) := ⟨_, rfl⟩
  have t3 : Touch (· = rb) w2 w3 := by rw [hw3]; exact (touch_alloc _ _).andThen (touch_alloc _ _)
  have HM3 : Hid (CMk rb ao n cap zs w w2.heap.size N (cfCells 0 0 (.slice none 0 0) (.slice none 0 0) (.slice none 0 0)) r2 w3) := by
    have t := ht2.andThen t3
    refine ⟨(t.block _ (by omega) (by omega)).trans H1.out.1, (t.block _ (by omega) (by omega)).trans H1.out.2.1, ?_, ?_, ?_, H1.out.2.2.andThen t⟩
    · rw [hw3]; exact (Below.heap_alloc _ _ _ (by simp)).trans (heap_alloc_new w2 _)
    · rw [hw3]; exact new_two w2 _ _
    · rw [hw3]; exact (hp2.alloc _).alloc _
  have a3 : w3.cell? ⟨w.heap.size, 0, none⟩ = some (.pointer (some ⟨rb, 0, none⟩)) := by rw [cell_of_row _ _ _ _ _ _ HM3.out.box]; rfl
  have a2 : w2.cell? ⟨w.heap.size, 0, none⟩ = some (.pointer (some ⟨rb, 0, none⟩)) := by rw [cell_of_row _ _ _ _ _ _ ((ht2.block _ (by omega) (by omega)).trans H1.out.1)]; rfl
  have hl2 : w.heap.size < w2.heap.size := by omega
  have HB3 := hide (pgnum0 rb ao n cap zs r2 1 64 _ HM3.out.rd)
  have hF1 := pgB_small zs 1 64 [] r2 HBY.out
  have hF2 := pgB_le zs 1 64 [] r2 (by omega)
  obtain ⟨fr, hfr⟩ : ∃ fr, (pgB zs 1 64 [] r2).1 = fr := ⟨_, rfl⟩
  obtain ⟨r3, hr3⟩ : ∃ r3, (pgB zs 1 64 [] r2).2 = r3 := ⟨_, rfl⟩
  rw [hfr, hr3] at HB3
  rw [hfr] at hF1 hF2
  have HE2 := hide (And.intro hfr hr3)
  have HW3 := hide hw3
  clear hp2 ht2 t3 hw3 HB2 H1 a1 hfr hr3
  go_wp2_with fail
  rw [← HW3.out]
  refine HB3.out.mono ?_
  clear a2 a3
  rintro e w4 ⟨rfl, hp4, ht4⟩
  have HM4 := hide (HM3.out.byte hrb (by omega) hp4 ht4)
  have z0 : w4.cell? ⟨w2.heap.size + 1, 0, none⟩ = some (.int .i64 0) := by rw [cell_of_row _ _ _ _ _ _ HM4.out.cur]; rfl
  have f0 := free_of_block HM4.out.cur 0
  have a4 : w4.cell? ⟨w.heap.size, 0, none⟩ = some (.pointer (some ⟨rb, 0, none⟩)) := by rw [cell_of_row _ _ _ _ _ _ HM4.out.box]; rfl
  have n1 : ¬ w.heap.size = w2.heap.size + 1 := by omega
  have n2 : ¬ w2.heap.size + 1 = w.heap.size := by omega
  have n3 : ¬ w.heap.size + 1 = w2.heap.size + 1 := by omega
  have n4 : ¬ w2.heap.size + 1 = w.heap.size + 1 := by omega
  have HM5 : Hid (CMk rb ao n cap zs w w2.heap.size N (cfCells fr 0 (.slice none 0 0) (.slice none 0 0) (.slice none 0 0)) r3 (w4.setCell ⟨w2.heap.size + 1, 0, none⟩ (.int .i64 fr))) := HM4.out.set hrb (by omega) HLT.out 0 (.int .i64 fr)
  have HB5 := hide (pgnum0 rb ao n cap zs r3 0 200 _ HM5.out.rd)
  have hW1 := pgB_small zs 0 200 [] r3 HBY.out
  obtain ⟨wt, hwt⟩ : ∃ wt, (pgB zs 0 200 [] r3).1 = wt := ⟨_, rfl⟩
  obtain ⟨r4, hr4⟩ : ∃ r4, (pgB zs 0 200 [] r3).2 = r4 := ⟨_, rfl⟩
  rw [hwt, hr4] at HB5
  rw [hwt] at hW1
  have HE3 := hide (And.intro hwt hr4)
  clear hp4 ht4 HB3 HM3 HW3 hwt hr4
  go_wp2_with fail
  refine HB5.out.mono ?_
  rintro e w6 ⟨rfl, hp6, ht6⟩
  have HM6 := hide (HM5.out.byte hrb (by omega) hp6 ht6)
  clear hp6 ht6 HB5 HM5 HM4 z0 f0 a4
  obtain ⟨w7, hw7⟩ : ∃ w7, w7 = w6.setCell ⟨w2.heap.size + 1, 1, none⟩ (.int .i64 wt) := ⟨_, rfl⟩
  have HM7 : Hid (CMk rb ao n cap zs w w2.heap.size N (cfCells fr wt (.slice none 0 0) (.slice none 0 0) (.slice none 0 0)) r4 w7) := by rw [hw7]; exact HM6.out.set hrb (by omega) HLT.out 1 (.int .i64 wt)
  have z1 : w6.cell? ⟨w2.heap.size + 1, 1, none⟩ = some (.int .i64 0) := by rw [cell_of_row _ _ _ _ _ _ HM6.out.cur]; rfl
  have f1 := free_of_block HM6.out.cur 1
  have a6 : w6.cell? ⟨w.heap.size, 0, none⟩ = some (.pointer (some ⟨rb, 0, none⟩)) := by rw [cell_of_row _ _ _ _ _ _ HM6.out.box]; rfl
  have b6 : w6.cell? ⟨w2.heap.size, 0, none⟩ = some (.int .i64 N) := by rw [cell_of_row _ _ _ _ _ _ HM6.out.many]; rfl
  have hs7 := lt_of_block HM7.out.cur
  have hLI := list_part rb N.toNat (by omega) (· = rb) w7 (fun b hb => by omega) (fun j l wr => l.map Prod.fst = (pgTo (pgPart zs) j r4).1 ∧ PgAt rb ao n cap zs (pgTo (pgPart zs) j r4).2 wr ∧ Touch (· = rb) w7 wr ∧ PartsAt w7.heap.size l wr)
    (fun j l wr w' hI t => ⟨hI.1, hI.2.1.new (B := w7.heap.size) (by omega) (fun ad e hn => by have := HLT.out ad e hn; omega) (t.mono (fun k hk => hk.1)), hI.2.2.1.andNew (t.mono (fun k hk => hk.1)), hI.2.2.2.touch t (fun b hb => .inr hb.2)⟩)
    (fun j l wr hj hI => (pgpartition_any rb ao n cap zs _ wr hI.2.1).mono (fun e w' ⟨ad, m, c, he, hc, hp, ht⟩ => ⟨_, ad, m, c, he, ⟨by rw [List.map_append, hI.1]; rfl, hp, hI.2.2.1.andThen ht, hI.2.2.2.snoc hI.2.2.1.size ht (fun b hb => by omega) hc⟩, ht⟩))
    ⟨rfl, HM7.out.rd, Touch.refl _ _, PartsAt.nil _⟩
  rw [show ((N.toNat : Nat) : Int) = N from by omega] at hLI
  have HLI := hide hLI
  have HW7 := hide hw7
  clear hLI hw7
  go_wp2_with fail
  rw [← HW7.out]
  refine HLI.out.mono ?_
  rintro e w8 ⟨vP, lP, rfl, ⟨hl, hp, ht, hpr⟩, hll, hV⟩
  obtain ⟨adP, cP, rfl⟩ := own_slice hV
  have hs8 := ht.size
  have HM8 := hide (HM7.out.byte hrb (by omega) hp ht)
  have HVP8 : Hid (PartsS w7.heap.size (.slice adP lP.length cP) (lP.map Prod.fst) w8) := by
    obtain ⟨c, h1, h2, _, h4⟩ := hpr.ex
    exact ⟨lP, c, rfl, hV, h1, h2, h4⟩
  obtain ⟨r5, hr5⟩ : ∃ r5, (pgTo (pgPart zs) N.toNat r4).2 = r5 := ⟨_, rfl⟩
  rw [hr5] at HM8
  have HE4 := hide (And.intro hl.symm hr5)
  generalize lP.length = mP at HVP8
  clear hl hp ht hpr hll hV HLI hr5 HM7 HM6 HW7 z1 f1 a6 b6
  obtain ⟨w9, hw9⟩ : ∃ w9, w9 = w8.setCell ⟨w2.heap.size + 1, 2, none⟩ (.slice adP mP cP) := ⟨_, rfl⟩
  have t9 : Touch (· = w2.heap.size + 1) w8 w9 := by rw [hw9]; exact Touch.ofSet _ _ _ _ rfl
  have hs9 : w9.heap.size = w8.heap.size := by rw [hw9]; simp
  have HM9 : Hid (CMk rb ao n cap zs w w2.heap.size N (cfCells fr wt (.slice adP mP cP) (.slice none 0 0) (.slice none 0 0)) r5 w9) := by rw [hw9]; exact HM8.out.set hrb (by omega) HLT.out 2 _
  have HVP9 : Hid (PartsS w7.heap.size (.slice adP mP cP) (lP.map Prod.fst) w9) := HVP8.out.keep (fun b h1 h2 _ => t9.block b h2 (by omega))
  have z2 : w8.cell? ⟨w2.heap.size + 1, 2, none⟩ = some (.slice none 0 0) := by rw [cell_of_row _ _ _ _ _ _ HM8.out.cur]; rfl
  have f2 := free_of_block HM8.out.cur 2
  have a8 : w8.cell? ⟨w.heap.size, 0, none⟩ = some (.pointer (some ⟨rb, 0, none⟩)) := by rw [cell_of_row _ _ _ _ _ _ HM8.out.box]; rfl
  have b8 : w8.cell? ⟨w2.heap.size, 0, none⟩ = some (.int .i64 N) := by rw [cell_of_row _ _ _ _ _ _ HM8.out.many]; rfl
  have d8 : w8.cell? ⟨w2.heap.size + 1, 0, none⟩ = some (.int .i64 fr) := by rw [cell_of_row _ _ _ _ _ _ HM8.out.cur]; rfl
  have HB9 := hide (pgwindows_any rb ao n cap zs r5 N fr _ HM9.out.rd (by omega) (by omega))
  obtain ⟨Ws, hWs⟩ : ∃ Ws, (pgWins zs N fr r5).1 = Ws := ⟨_, rfl⟩
  obtain ⟨r6, hr6⟩ : ∃ r6, (pgWins zs N fr r5).2 = r6 := ⟨_, rfl⟩
  rw [hWs, hr6] at HB9
  have HE5 := hide (And.intro hWs hr6)
  have HW9 := hide hw9
  clear hWs hr6 hw9 t9
  go_wp2_with fail
  rw [← HW9.out]
  refine HB9.out.mono ?_
  rintro e wA ⟨adW, mW, cW, rfl, hV, hp, ht⟩
  have hsA := ht.size
  have HMA := hide (HM9.out.byte hrb (by omega) hp ht)
  have HVA : Hid (PartsS w7.heap.size (.slice adP mP cP) (lP.map Prod.fst) wA ∧ WinsV w7.heap.size (.slice adW mW cW) Ws wA) := ⟨HVP9.out.keep (fun b h1 h2 _ => ht.block b h2 (by omega)), own_low hV (by omega)⟩
  clear hV hp ht HB9 HM9 HM8 HW9 HVP9 HVP8 z2 f2 a8 b8 d8
  have zA : wA.cell? ⟨w2.heap.size + 1, 3, none⟩ = some (.slice none 0 0) := by rw [cell_of_row _ _ _ _ _ _ HMA.out.cur]; rfl
  have fA := free_of_block HMA.out.cur 3
  have aA : wA.cell? ⟨w.heap.size, 0, none⟩ = some (.pointer (some ⟨rb, 0, none⟩)) := by rw [cell_of_row _ _ _ _ _ _ HMA.out.box]; rfl
  obtain ⟨wB, hwB⟩ : ∃ wB, wB = wA.setCell ⟨w2.heap.size + 1, 3, none⟩ (.slice adW mW cW) := ⟨_, rfl⟩
  have tB : Touch (· = w2.heap.size + 1) wA wB := by rw [hwB]; exact Touch.ofSet _ _ _ _ rfl
  have hsB : wB.heap.size = wA.heap.size := by rw [hwB]; simp
  have HMB : Hid (CMk rb ao n cap zs w w2.heap.size N (cfCells fr wt (.slice adP mP cP) (.slice adW mW cW) (.slice none 0 0)) r6 wB) := by rw [hwB]; exact HMA.out.set hrb (by omega) HLT.out 3 _
  have HVB : Hid (PartsS w7.heap.size (.slice adP mP cP) (lP.map Prod.fst) wB ∧ WinsV w7.heap.size (.slice adW mW cW) Ws wB) := ⟨HVA.out.1.keep (fun b h1 h2 _ => tB.block b h2 (by omega)), own_type HVA.out.2 (fun b h1 h2 _ => tB.block b h2 (by omega))⟩
  have HBB := hide (pgnum0 rb ao n cap zs r6 0 4 _ HMB.out.rd)
  have hK1 := pgB_small zs 0 4 [] r6 HBY.out
  have hK2 := pgB_le zs 0 4 [] r6 (by omega)
  obtain ⟨K, hK⟩ : ∃ K, (pgB zs 0 4 [] r6).1 = K := ⟨_, rfl⟩
  obtain ⟨r7, hr7⟩ : ∃ r7, (pgB zs 0 4 [] r6).2 = r7 := ⟨_, rfl⟩
  rw [hK, hr7] at HBB
  rw [hK] at hK1 hK2
  have HE6 := hide (And.intro hK hr7)
  have HWB := hide hwB
  clear hK hr7 hwB tB HMA HVA
  go_wp2_with fail
  rw [← HWB.out]
  refine HBB.out.mono ?_
  rintro e wC ⟨rfl, hp, ht⟩
  have hsC := ht.size
  have HMC := hide (HMB.out.byte hrb (by omega) hp ht)
  have HVC : Hid (PartsS w7.heap.size (.slice adP mP cP) (lP.map Prod.fst) wC ∧ WinsV w7.heap.size (.slice adW mW cW) Ws wC) := ⟨HVB.out.1.keep (fun b h1 h2 _ => ht.block b h2 (by omega)), own_type HVB.out.2 (fun b h1 h2 _ => ht.block b h2 (by omega))⟩
  clear hp ht HBB HMB HVB HWB zA fA aA
  have hLI := list_chan w.heap.size w2.heap.size K.toNat (by omega) (· = rb) wC (fun b hb => by omega) (fun j l wr => l = (pgTo (pgChan zs N) j r7).1 ∧ PgAt rb ao n cap zs (pgTo (pgChan zs N) j r7).2 wr ∧ Touch (· = rb) wC wr)
    (fun j l wr w' hI t => ⟨hI.1, hI.2.1.new (B := wC.heap.size) (by omega) (fun ad e hn => by have := HLT.out ad e hn; omega) (t.mono (fun k hk => hk.1)), hI.2.2.andNew (t.mono (fun k hk => hk.1))⟩)
    (fun j l wr hj hI => (pgchan_lit w.heap.size w2.heap.size rb ao n cap zs _ N wr hI.2.1 (by omega) ((hI.2.2.block _ (by omega) (by omega)).trans HMC.out.box) ((hI.2.2.block _ (by omega) (by omega)).trans HMC.out.many)).mono (fun e w' ⟨he, hp, ht⟩ => ⟨_, he, ⟨by rw [hI.1]; rfl, hp, hI.2.2.andThen ht⟩, ht⟩))
    ⟨rfl, HMC.out.rd, Touch.refl _ _⟩
  rw [show ((K.toNat : Nat) : Int) = K from by omega] at hLI
  have HLI := hide hLI
  clear hLI
  go_wp2_with fail
  refine HLI.out.mono ?_
  rintro e wD ⟨v, lC, rfl, ⟨hl, hp, ht⟩, hll, hV⟩
  obtain ⟨adC, cC, rfl⟩ := own_slice hV
  have hsD := ht.size
  have HMD := hide (HMC.out.byte hrb (by omega) hp ht)
  have HVD : Hid (ConfS w7.heap.size (.slice adP mP cP) (.slice adW mW cW) (.slice adC lC.length cC) ⟨fr, wt, lP.map Prod.fst, Ws, lC⟩ wD) := ⟨HVC.out.1.keep (fun b h1 h2 _ => ht.block b h2 (by omega)), own_type HVC.out.2 (fun b h1 h2 _ => ht.block b h2 (by omega)), own_low hV (by omega)⟩
  obtain ⟨r8, hr8⟩ : ∃ r8, (pgTo (pgChan zs N) K.toNat r7).2 = r8 := ⟨_, rfl⟩
  rw [hr8] at HMD
  have HSP : Hid (pgConf zs s = (⟨fr, wt, lP.map Prod.fst, Ws, lC⟩, r8)) := by
    show _ = _
    obtain ⟨e1, e2, e3⟩ := HE1.out
    obtain ⟨e4, e5⟩ := HE2.out
    obtain ⟨e6, e7⟩ := HE3.out
    obtain ⟨e8, e9⟩ := HE4.out
    obtain ⟨e10, e11⟩ := HE5.out
    obtain ⟨e12, e13⟩ := HE6.out
    unfold pgConf
    simp only [e1, e2, e3, e4, e5, e6, e7, e8, e9, e10, e11, e12, e13, hr8, ← hl]
  generalize lC.length = mC at HVD
  clear hl hp ht hll hV hr8 HLI HMC HVC HE1 HE2 HE3 HE4 HE5 HE6
  have hcur := HMD.out.cur
  have hzero := HMD.out.zero
  have x0 : wD.cell? ⟨w2.heap.size + 1, 0, none⟩ = some (.int .i64 fr) := by rw [cell_of_row _ _ _ _ _ _ hcur]; rfl
  have x1 : wD.cell? ⟨w2.heap.size + 1, 1, none⟩ = some (.int .i64 wt) := by rw [cell_of_row _ _ _ _ _ _ hcur]; rfl
  have x2 : wD.cell? ⟨w2.heap.size + 1, 2, none⟩ = some (.slice adP mP cP) := by rw [cell_of_row _ _ _ _ _ _ hcur]; rfl
  have x3 : wD.cell? ⟨w2.heap.size + 1, 3, none⟩ = some (.slice adW mW cW) := by rw [cell_of_row _ _ _ _ _ _ hcur]; rfl
  have x4 : wD.cell? ⟨w2.heap.size + 1, 4, none⟩ = some (.slice none 0 0) := by rw [cell_of_row _ _ _ _ _ _ hcur]; rfl
  have f4 := free_of_block hcur 4
  have q0 : wD.cell? ⟨w.heap.size + 1, 0, none⟩ = some (.int .i64 0) := by rw [cell_of_row _ _ _ _ _ _ hzero]; rfl
  have q1 : wD.cell? ⟨w.heap.size + 1, 1, none⟩ = some (.int .i64 0) := by rw [cell_of_row _ _ _ _ _ _ hzero]; rfl
  have q2 : wD.cell? ⟨w.heap.size + 1, 2, none⟩ = some (.slice none 0 0) := by rw [cell_of_row _ _ _ _ _ _ hzero]; rfl
  have q3 : wD.cell? ⟨w.heap.size + 1, 3, none⟩ = some (.slice none 0 0) := by rw [cell_of_row _ _ _ _ _ _ hzero]; rfl
  have q4 : wD.cell? ⟨w.heap.size + 1, 4, none⟩ = some (.slice none 0 0) := by rw [cell_of_row _ _ _ _ _ _ hzero]; rfl
  have g0 := free_of_block hzero 0
  have g1 := free_of_block hzero 1
  have g2 := free_of_block hzero 2
  have g3 := free_of_block hzero 3
  have g4 := free_of_block hzero 4
  clear hcur hzero
  have HOK : Hid (∀ W', Touch (fun i => i = w.heap.size + 1 ∨ i = w2.heap.size + 1) wD W' → ConfS w.heap.size (.slice adP mP cP) (.slice adW mW cW) (.slice adC mC cC) ⟨fr, wt, lP.map Prod.fst, Ws, lC⟩ W' ∧ PgAt rb ao n cap zs r8 W' ∧ Touch (· = rb) w W') := fun W' t => ⟨(HVD.out.low t (fun b hb => by omega)).base (by omega), HMD.out.rd.new hrb HLT.out (t.mono (fun k hk => by omega)), HMD.out.t.andNew (t.mono (fun k hk => by omega))⟩
  go_wp2
  refine bodyPost_ret (v := .agg (cfCells fr wt (.slice adP mP cP) (.slice adW mW cW) (.slice adC mC cC))) (by simp [results, Tryz.results44, go_sem, cfCells, q0, q1, q2, q3, q4]) rfl ?_
  rw [HSP.out]
  refine ⟨adP, mP, cP, adW, mW, cW, adC, mC, cC, rfl, HOK.out _ ?_⟩
  iterate 5 refine Touch.thenSet (g := w.heap.size + 1) ?_ _ _ (.inl rfl)
  refine Touch.thenSet (g := w2.heap.size + 1) ?_ _ _ (.inr rfl)
  exact Touch.refl _ _
end Go.Proofs.YtnjlbgolnbdkaaaGreat
/- The program's reader: check, end. -/
namespace Go.Proofs.YtnjlbgolnbdkaaaGreat
open Go.RowKit

def pgCheck (zs : List Int) (s : Rs) : Rs :=
  if s.err ≠ 0 then s
  else if zs.length < s.pos + 4 then ⟨zs.length, 2⟩
  else if numFrom 0 ((zs.drop s.pos).take 4) ≠ crcOf (zs.take s.pos) then ⟨s.pos, 5⟩
  else ⟨s.pos + 4, s.err⟩
def pgEnd (zs : List Int) (s : Rs) : Rs := if s.err = 0 ∧ s.pos < zs.length then ⟨s.pos, 4⟩ else s

set_option maxRecDepth 100000 in
set_option maxHeartbeats 2000000 in
theorem pgcheck_any (rb : Nat) (ao : Option Addr) (n cap : Nat) (zs : List Int) (s : Rs) (w : World) (h : PgAt rb ao n cap zs s w) :
    Calls Tryz.prog 45 #[.pointer (some ⟨rb, 0, none⟩)] w fun e w' => e = .returned (.tuple #[]) ∧ PgAt rb ao n cap zs (pgCheck zs s) w' ∧ Touch (· = rb) w w' := by
  have hr := h.obj
  have c0 : w.cell? ⟨rb, 0, none⟩ = some (.slice ao n cap) := by rw [cell_of_row _ _ _ _ _ _ hr]; rfl
  have c1 : w.cell? ⟨rb, 1, none⟩ = some (.int .i64 s.pos) := by rw [cell_of_row _ _ _ _ _ _ hr]; rfl
  have c2 : w.cell? ⟨rb, 2, none⟩ = some (.int .i64 s.err) := by rw [cell_of_row _ _ _ _ _ _ hr]; rfl
  have f1 := free_of_block hr 1
  have f2 := free_of_block hr 2
  have hlen := h.held.len
  have hp := h.pos
  have hsm := h.small
  have hn0 : (0 : Int) ≤ (n : Int) := by omega
  have H := hide h
  have back : Hid (∀ (s' : Rs) (w' : World), w'.heap[rb]? = some (PgObj (.slice ao n cap) s') → Touch (· = rb) w w' → s'.pos ≤ n → PgAt rb ao n cap zs s' w') := fun r' w' ho ht hp' => ⟨ho, H.out.held.touch ht (fun ad e hn hs => H.out.apart ad e hn hs), H.out.apart, H.out.small, hp'⟩
  have HOBJ := hide hr
  clear h hr
  by_cases h1 : s.err = 0
  · have b1 : (s.err != 0) = false := by simp [h1]
    by_cases h2 : zs.length < s.pos + 4
    · have HR : Hid (pgCheck zs s = ⟨n, 2⟩) := by show _ = _; unfold pgCheck; rw [if_neg (by simpa using h1), if_pos h2, hlen]
      have h2' : (n : Int) < (s.pos : Int) + 4 := by omega
      clear h1 h2 hlen
      go_enter Tryz.func45, Tryz.ntmps45
      go_wp2
      refine bodyPost_ret (results_none rfl _ _ _) rfl ?_
      rw [HR.out]
      have t : Touch (· = rb) w ((w.setCell ⟨rb, 1, none⟩ (.int .i64 n)).setCell ⟨rb, 2, none⟩ (.int .i64 2)) := Touch.thenSet (S := (· = rb)) (Touch.thenSet (S := (· = rb)) (Touch.refl _ _) _ _ rfl) _ _ rfl
      refine ⟨rfl, back.out _ _ ?_ t (Nat.le_refl n), t⟩
      rw [block_set (block_set HOBJ.out 1 _) 2 _]
      rfl
    · have h2' : ¬ (n : Int) < (s.pos : Int) + 4 := by omega
      obtain ⟨b, off, hao, hrow⟩ := held_row H.out.held (by omega)
      have hcap1 := H.out.held.cap1
      have hcap2 := H.out.held.cap2
      have b3 : (s.pos : Int) + 4 ≤ (cap : Int) := by omega
      have b4 : ¬ cap = s.pos := by omega
      have b5 : (0 : Int) ≤ (s.pos : Int) := by omega
      have b6 : (s.pos : Int) ≤ (s.pos : Int) + 4 := by omega
      have b7 : (s.pos : Int) ≤ (cap : Int) := by omega
      have HBY := hide H.out.held.bytes
      have HNUM : Hid (∀ q c, Calls Tryz.prog 87 #[.slice (some ⟨b, off + s.pos, none⟩) 4 c] (w.drewN q) fun e w' => e = .returned (.int .u32 (numFrom 0 ((zs.drop s.pos).take 4) : Nat)) ∧ w' = w.drewN q) := fun q c => number_at b (off + s.pos) 4 c ((zs.drop s.pos).take 4) (w.drewN q) (by simp; omega) ((HBY.out.drop _).take _) ((hrow.drewN q).piece s.pos 4) (by omega)
      have HCHK : Hid (∀ q c, Calls Tryz.prog 88 #[.slice (some ⟨b, off, none⟩) s.pos c] (w.drewN q) fun e w' => e = .returned (.int .u32 (crcOf (zs.take s.pos) : Nat)) ∧ w' = w.drewN q) := fun q c => check_at b off s.pos c (zs.take s.pos) (w.drewN q) (by simp; omega) (HBY.out.take _) (by have := (hrow.drewN q).piece 0 s.pos; simpa using this) (by omega)
      subst hao
      by_cases h3 : numFrom 0 ((zs.drop s.pos).take 4) = crcOf (zs.take s.pos)
      · have HR : Hid (pgCheck zs s = ⟨s.pos + 4, s.err⟩) := by show _ = _; unfold pgCheck; rw [if_neg (by simpa using h1), if_neg h2, if_neg (by simpa using h3)]
        have b8 : (((numFrom 0 ((zs.drop s.pos).take 4) : Nat) : Int) != ((crcOf (zs.take s.pos) : Nat) : Int)) = false := by simp [h3]
        have HPN : Hid (s.pos + 4 ≤ n) := (by omega : s.pos + 4 ≤ n)
        generalize numFrom 0 ((zs.drop s.pos).take 4) = nu at HNUM b8
        generalize crcOf (zs.take s.pos) = cr at HCHK b8
        clear h1 h2 h3 hlen hrow
        go_enter Tryz.func45, Tryz.ntmps45
        go_wp2
        go_quiet ((first | (go_at_call 87; exact Calls.quiet_of_same (HNUM.out _ _)) | (go_at_call 88; exact Calls.quiet_of_same (HCHK.out _ _))))
        go_wp2
        go_end0
        rw [HR.out]
        have t : Touch (· = rb) w ((w.drewN nq).setCell ⟨rb, 1, none⟩ (.int .i64 ((s.pos : Int) + 4))) := (Touch.ofDrewN w nq).thenSet _ _ rfl
        refine ⟨rfl, back.out _ _ ?_ t HPN.out, t⟩
        rw [block_set (w := w.drewN nq) HOBJ.out 1 _]
        rfl
      · have HR : Hid (pgCheck zs s = ⟨s.pos, 5⟩) := by show _ = _; unfold pgCheck; rw [if_neg (by simpa using h1), if_neg h2, if_pos h3]
        have b8 : (((numFrom 0 ((zs.drop s.pos).take 4) : Nat) : Int) != ((crcOf (zs.take s.pos) : Nat) : Int)) = true := by rw [bne_iff_ne]; omega
        generalize numFrom 0 ((zs.drop s.pos).take 4) = nu at HNUM b8
        generalize crcOf (zs.take s.pos) = cr at HCHK b8
        clear h1 h2 h3 hlen hrow
        go_enter Tryz.func45, Tryz.ntmps45
        go_wp2
        go_quiet ((first | (go_at_call 87; exact Calls.quiet_of_same (HNUM.out _ _)) | (go_at_call 88; exact Calls.quiet_of_same (HCHK.out _ _))))
        go_wp2
        refine bodyPost_ret (results_none rfl _ _ _) rfl ?_
        rw [HR.out]
        have t : Touch (· = rb) w ((w.drewN nq).setCell ⟨rb, 2, none⟩ (.int .i64 5)) := (Touch.ofDrewN w nq).thenSet _ _ rfl
        refine ⟨rfl, back.out _ _ ?_ t hp, t⟩
        rw [block_set (w := w.drewN nq) HOBJ.out 2 _]
        rfl
  · have b1 : (s.err != 0) = true := by simpa using h1
    have HR : Hid (pgCheck zs s = s) := by show _ = _; unfold pgCheck; rw [if_pos h1]
    clear h1
    go_enter Tryz.func45, Tryz.ntmps45
    go_wp2
    refine bodyPost_ret (results_none rfl _ _ _) rfl ?_
    rw [HR.out]
    exact ⟨rfl, H.out, Touch.refl _ _⟩

set_option maxRecDepth 100000 in
set_option maxHeartbeats 2000000 in
theorem pgend_any (rb : Nat) (ao : Option Addr) (n cap : Nat) (zs : List Int) (s : Rs) (w : World) (h : PgAt rb ao n cap zs s w) :
    Calls Tryz.prog 46 #[.pointer (some ⟨rb, 0, none⟩)] w fun e w' => e = .returned (.tuple #[]) ∧ PgAt rb ao n cap zs (pgEnd zs s) w' ∧ Touch (· = rb) w w' := by
  have hr := h.obj
  have c0 : w.cell? ⟨rb, 0, none⟩ = some (.slice ao n cap) := by rw [cell_of_row _ _ _ _ _ _ hr]; rfl
  have c1 : w.cell? ⟨rb, 1, none⟩ = some (.int .i64 s.pos) := by rw [cell_of_row _ _ _ _ _ _ hr]; rfl
  have c2 : w.cell? ⟨rb, 2, none⟩ = some (.int .i64 s.err) := by rw [cell_of_row _ _ _ _ _ _ hr]; rfl
  have f2 := free_of_block hr 2
  have hlen := h.held.len
  have hp := h.pos
  have hsm := h.small
  have hn0 : (0 : Int) ≤ (n : Int) := by omega
  have H := hide h
  have back : Hid (∀ (s' : Rs) (w' : World), w'.heap[rb]? = some (PgObj (.slice ao n cap) s') → Touch (· = rb) w w' → s'.pos ≤ n → PgAt rb ao n cap zs s' w') := fun r' w' ho ht hp' => ⟨ho, H.out.held.touch ht (fun ad e hn hs => H.out.apart ad e hn hs), H.out.apart, H.out.small, hp'⟩
  have t0 : Hid (∀ nq, PgAt rb ao n cap zs s (w.drewN nq) ∧ Touch (· = rb) w (w.drewN nq)) := fun nq => ⟨⟨H.out.obj, H.out.held.touch (S := fun _ => False) (Touch.ofDrewN w nq) (fun _ _ _ h => h), H.out.apart, H.out.small, H.out.pos⟩, Touch.ofDrewN w nq⟩
  have HOBJ := hide hr
  clear h hr
  by_cases h1 : s.err = 0
  · have b1 : (s.err == 0) = true := by simp [h1]
    by_cases h2 : s.pos < zs.length
    · have HR : Hid (pgEnd zs s = ⟨s.pos, 4⟩) := by show _ = _; unfold pgEnd; rw [if_pos ⟨h1, h2⟩]
      have h2' : s.pos < n := by omega
      clear h1 h2 hlen
      go_enter Tryz.func46, Tryz.ntmps46
      go_wp2
      go_quiet (fail)
      go_wp2
      go_end0
      rw [HR.out]
      have t : Touch (· = rb) w ((w.drewN nq).setCell ⟨rb, 2, none⟩ (.int .i64 4)) := (Touch.ofDrewN w nq).thenSet _ _ rfl
      refine ⟨rfl, back.out _ _ ?_ t hp, t⟩
      rw [block_set (w := w.drewN nq) HOBJ.out 2 _]
      rfl
    · have HR : Hid (pgEnd zs s = s) := by show _ = _; unfold pgEnd; rw [if_neg (fun h => h2 h.2)]
      have h2' : ¬ s.pos < n := by omega
      clear h1 h2 hlen
      go_enter Tryz.func46, Tryz.ntmps46
      go_wp2
      go_quiet (fail)
      go_wp2
      go_end0
      rw [HR.out]
      exact ⟨rfl, t0.out _⟩
  · have b1 : (s.err == 0) = false := by simpa using h1
    have HR : Hid (pgEnd zs s = s) := by show _ = _; unfold pgEnd; rw [if_neg (fun h => h1 h.1)]
    clear h1
    go_enter Tryz.func46, Tryz.ntmps46
    go_wp2
    go_quiet (fail)
    go_wp2
    go_end0
    rw [HR.out]
    exact ⟨rfl, t0.out _⟩
end Go.Proofs.YtnjlbgolnbdkaaaGreat
/- The program's Parse. -/
namespace Go.Proofs.YtnjlbgolnbdkaaaGreat
open Go.RowKit

def pgLast (zs : List Int) : Rs := pgEnd zs (pgCheck zs (pgConf zs ⟨0, 0⟩).2)
/- the configuration, the place, what is wrong -/
def pgParse (zs : List Int) : Cf × Int × Int := if (pgLast zs).err ≠ 0 then (noCf, (pgLast zs).pos, (pgLast zs).err) else ((pgConf zs ⟨0, 0⟩).1, 0, 0)

set_option maxRecDepth 100000 in
set_option maxHeartbeats 8000000 in
theorem pgparse_any (ao : Option Addr) (n cap : Nat) (zs : List Int) (w : World) (hz : Held w ao n cap zs) (hn : n ≤ 140737488351232) :
    Calls Tryz.prog 29 #[.slice ao n cap] w fun e w' => ∃ adP mP cP adW mW cW adC mC cC, e = .returned (.tuple #[.agg (cfCells (pgParse zs).1.frame (pgParse zs).1.watch (.slice adP mP cP) (.slice adW mW cW) (.slice adC mC cC)), .int .i64 (pgParse zs).2.1, .int .i64 (pgParse zs).2.2]) ∧ ConfS w.heap.size (.slice adP mP cP) (.slice adW mW cW) (.slice adC mC cC) (pgParse zs).1 w' ∧ Below w.heap.size w w' := by
  have HLT : Hid (∀ ad, ao = some ad → 0 < n → ad.block < w.heap.size) := hz.lt
  obtain ⟨w0, hw0⟩ : ∃ w0, w0 = ((w.alloc (.cells #[.int .i64 0, .int .i64 0, .slice none 0 0, .slice none 0 0, .slice none 0 0] 71)).alloc (.cells #[.slice ao n cap, .int .i64 0, .int .i64 0] 104)) := ⟨_, rfl⟩
  have hs0 : w0.heap.size = w.heap.size + 2 := by rw [hw0]; simp
  have hT0 : Touch (fun i => w.heap.size ≤ i) w w0 := by rw [hw0]; exact (touch_alloc _ _).andThen (touch_alloc _ _)
  have hB0 : w0.heap[w.heap.size]? = some (.cells (cfCells 0 0 (.slice none 0 0) (.slice none 0 0) (.slice none 0 0)) 71 (0, 0)) := by rw [hw0]; exact (Below.heap_alloc _ _ _ (by simp)).trans (heap_alloc_new w _)
  have hP0 : PgAt (w.heap.size + 1) ao n cap zs ⟨0, 0⟩ w0 := ⟨by rw [hw0]; exact new_two w _ _, hz.touch hT0 (fun ad e h hs => by have := HLT.out ad e h; omega), fun ad e h => by have := HLT.out ad e h; omega, hn, Nat.zero_le _⟩
  have HB := hide (pgconfig_any (w.heap.size + 1) ao n cap zs ⟨0, 0⟩ _ hP0)
  have HW := hide hw0
  have H0 := hide (And.intro hT0 hB0)
  have HSP : Hid (pgParse zs = if (pgEnd zs (pgCheck zs (pgConf zs ⟨0, 0⟩).2)).err ≠ 0 then (noCf, ((pgEnd zs (pgCheck zs (pgConf zs ⟨0, 0⟩).2)).pos : Int), (pgEnd zs (pgCheck zs (pgConf zs ⟨0, 0⟩).2)).err) else ((pgConf zs ⟨0, 0⟩).1, 0, 0)) := rfl
  clear hT0 hB0 hP0 hw0 hz
  generalize (pgConf zs ⟨0, 0⟩).1 = cf at HB HSP
  generalize (pgConf zs ⟨0, 0⟩).2 = s1 at HB HSP
  obtain ⟨fr, hfr⟩ : ∃ fr, fr = cf.frame := ⟨_, rfl⟩
  obtain ⟨wt, hwt⟩ : ∃ wt, wt = cf.watch := ⟨_, rfl⟩
  rw [← hfr, ← hwt] at HB
  simp only [cfCells] at HB
  have HCF := hide (And.intro hfr hwt)
  clear hfr hwt
  go_enter Tryz.func29, Tryz.ntmps29
  go_wp2_with fail
  rw [← HW.out]
  refine HB.out.mono ?_
  rintro e w1 ⟨adP, mP, cP, adW, mW, cW, adC, mC, cC, rfl, hV, hp, ht⟩
  have hs1 := ht.size
  have hB1 := (ht.block _ (by omega) (by omega)).trans H0.out.2
  have hT1 : Touch (fun i => w.heap.size ≤ i) w w1 := H0.out.1.andThen (ht.mono (fun k hk => by omega))
  obtain ⟨w2, hw2⟩ : ∃ w2, w2 = w1.alloc (.cells #[.int .i64 fr, .int .i64 wt, .slice adP mP cP, .slice adW mW cW, .slice adC mC cC] 71) := ⟨_, rfl⟩
  have t2 : Touch (· = w.heap.size + 1) w1 w2 := by rw [hw2]; exact touch_alloc _ _
  have hs2 : w2.heap.size = w1.heap.size + 1 := by rw [hw2]; simp
  have hC2 : w2.heap[w1.heap.size]? = some (.cells (cfCells fr wt (.slice adP mP cP) (.slice adW mW cW) (.slice adC mC cC)) 71 (0, 0)) := by rw [hw2]; exact heap_alloc_new w1 _
  have hB2 := (t2.block _ (by omega) (by omega)).trans hB1
  have hT2 : Touch (fun i => w.heap.size ≤ i) w w2 := hT1.andThen (t2.mono (fun k hk => by omega))
  have hV2 := hV.low t2 (fun b hb => by omega)
  have hP2 : PgAt (w.heap.size + 1) ao n cap zs s1 w2 := by rw [hw2]; exact hp.alloc _
  have HB2 := hide (pgcheck_any (w.heap.size + 1) ao n cap zs s1 _ hP2)
  generalize pgCheck zs s1 = s2 at HB2 HSP
  have HW2 := hide hw2
  have H2 := hide (And.intro hB2 (And.intro hC2 (And.intro hT2 hV2)))
  clear hV hp ht hB1 hT1 t2 hC2 hB2 hT2 hV2 hP2 hw2 HB HW H0
  go_wp2_with fail
  rw [← HW2.out]
  refine HB2.out.mono ?_
  rintro e w3 ⟨rfl, hp3, ht3⟩
  have hs3 := ht3.size
  have HB3 := hide (pgend_any (w.heap.size + 1) ao n cap zs s2 _ hp3)
  generalize pgEnd zs s2 = s3 at HB3 HSP
  have HT3 := hide ht3
  clear hp3 ht3 HB2
  go_wp2_with fail
  refine HB3.out.mono ?_
  rintro e w4 ⟨rfl, hp4, ht4⟩
  have hs4 := ht4.size
  have t4 := HT3.out.andThen ht4
  have hB4 := (t4.block _ (by omega) (by omega)).trans H2.out.1
  have hC4 := (t4.block _ (by omega) (by omega)).trans H2.out.2.1
  have HT4 : Hid (Touch (fun i => w.heap.size ≤ i) w w4) := H2.out.2.2.1.andThen (t4.mono (fun k hk => by omega))
  have HV4 := hide (H2.out.2.2.2.low t4 (fun b hb => by omega))
  have hob := hp4.obj
  have c1 : w4.cell? ⟨w.heap.size + 1, 1, none⟩ = some (.int .i64 s3.pos) := by rw [cell_of_row _ _ _ _ _ _ hob]; rfl
  have c2 : w4.cell? ⟨w.heap.size + 1, 2, none⟩ = some (.int .i64 s3.err) := by rw [cell_of_row _ _ _ _ _ _ hob]; rfl
  have x0 : w4.cell? ⟨w1.heap.size, 0, none⟩ = some (.int .i64 fr) := by rw [cell_of_row _ _ _ _ _ _ hC4]; rfl
  have x1 : w4.cell? ⟨w1.heap.size, 1, none⟩ = some (.int .i64 wt) := by rw [cell_of_row _ _ _ _ _ _ hC4]; rfl
  have x2 : w4.cell? ⟨w1.heap.size, 2, none⟩ = some (.slice adP mP cP) := by rw [cell_of_row _ _ _ _ _ _ hC4]; rfl
  have x3 : w4.cell? ⟨w1.heap.size, 3, none⟩ = some (.slice adW mW cW) := by rw [cell_of_row _ _ _ _ _ _ hC4]; rfl
  have x4 : w4.cell? ⟨w1.heap.size, 4, none⟩ = some (.slice adC mC cC) := by rw [cell_of_row _ _ _ _ _ _ hC4]; rfl
  have q0 : w4.cell? ⟨w.heap.size, 0, none⟩ = some (.int .i64 0) := by rw [cell_of_row _ _ _ _ _ _ hB4]; rfl
  have q1 : w4.cell? ⟨w.heap.size, 1, none⟩ = some (.int .i64 0) := by rw [cell_of_row _ _ _ _ _ _ hB4]; rfl
  have q2 : w4.cell? ⟨w.heap.size, 2, none⟩ = some (.slice none 0 0) := by rw [cell_of_row _ _ _ _ _ _ hB4]; rfl
  have q3 : w4.cell? ⟨w.heap.size, 3, none⟩ = some (.slice none 0 0) := by rw [cell_of_row _ _ _ _ _ _ hB4]; rfl
  have q4 : w4.cell? ⟨w.heap.size, 4, none⟩ = some (.slice none 0 0) := by rw [cell_of_row _ _ _ _ _ _ hB4]; rfl
  have g0 := free_of_block hB4 0
  have g1 := free_of_block hB4 1
  have g2 := free_of_block hB4 2
  have g3 := free_of_block hB4 3
  have g4 := free_of_block hB4 4
  have n1 : ¬ w1.heap.size = w.heap.size := by omega
  have n2 : ¬ w.heap.size = w1.heap.size := by omega
  clear hp4 ht4 t4 hB4 hC4 hob HB3 HT3 H2 HW2
  have HOK : Hid (∀ W' m, Touch (fun i => i = w.heap.size) (w4.drewN m) W' → ConfS w.heap.size (.slice adP mP cP) (.slice adW mW cW) (.slice adC mC cC) cf W' ∧ Below w.heap.size w W') := fun W' m t => by
    have t' : Touch (fun i => i = w.heap.size) w4 W' := (Touch.ofDrewN w4 m).andThen t
    exact ⟨(HV4.out.low t' (fun b hb => by omega)).base (by omega), (HT4.out.andThen (t'.mono (fun k hk => by omega))).below (Nat.le_refl _) (fun k hk => hk)⟩
  have HNO : Hid (∀ W' m, Touch (fun i => i = w.heap.size) (w4.drewN m) W' → Below w.heap.size w W') := fun W' m t => (HOK.out W' m t).2
  by_cases h1 : s3.err = 0
  · have b1 : (s3.err != 0) = false := by simp [h1]
    have HP : Hid (pgParse zs = (cf, 0, 0)) := by show _ = _; rw [HSP.out, if_neg (by simpa using h1)]
    clear h1 HSP
    go_wp2
    refine bodyPost_ret (v := .tuple #[.agg (cfCells fr wt (.slice adP mP cP) (.slice adW mW cW) (.slice adC mC cC)), .int .i64 0, .int .i64 0]) (by simp [results, Tryz.results29, go_sem, cfCells, q0, q1, q2, q3, q4]) rfl ?_
    rw [HP.out]
    refine ⟨adP, mP, cP, adW, mW, cW, adC, mC, cC, by rw [HCF.out.1, HCF.out.2], HOK.out _ 0 ?_⟩
    iterate 5 refine Touch.thenSet (g := w.heap.size) ?_ _ _ rfl
    exact Touch.refl _ _
  · have b1 : (s3.err != 0) = true := by simpa using h1
    have HP : Hid (pgParse zs = (noCf, (s3.pos : Int), s3.err)) := by show _ = _; rw [HSP.out, if_pos h1]
    clear h1 HSP x0 x1 x2 x3 x4
    go_wp2
    go_region
    all_goals
      go_wp2
      refine bodyPost_ret (v := .tuple #[.agg (cfCells 0 0 (.slice none 0 0) (.slice none 0 0) (.slice none 0 0)), .int .i64 (s3.pos : Int), .int .i64 s3.err]) (by simp [results, Tryz.results29, go_sem, cfCells, q0, q1, q2, q3, q4]) rfl ?_
      rw [HP.out]
      refine ⟨none, 0, 0, none, 0, 0, none, 0, 0, rfl, confS_nil _ _, (HNO.out _ 0 ?_).drew⟩
      iterate 5 refine Touch.thenSet (g := w.heap.size) ?_ _ _ rfl
      exact Touch.refl _ _

end Go.Proofs.YtnjlbgolnbdkaaaGreat
