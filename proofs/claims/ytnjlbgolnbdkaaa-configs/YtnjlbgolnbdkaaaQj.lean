/- The program's Parse. -/
import Derived.Test.YtnjlbgolnbdkaaaQi
namespace Go.Proofs.Ytnjlbgolnbdkaaa
open Go.RowKit

def pgLast (zs : List Int) : Rs := pgEnd zs (pgCheck zs (pgConf zs ⟨0, 0⟩).2)
/- the configuration, the place, what is wrong -/
def pgParse (zs : List Int) : Cf × Int × Int := if (pgLast zs).err ≠ 0 then (noCf, (pgLast zs).pos, (pgLast zs).err) else ((pgConf zs ⟨0, 0⟩).1, 0, 0)

set_option maxRecDepth 100000 in
set_option maxHeartbeats 8000000 in
theorem pgparse_any (ao : Option Addr) (n cap : Nat) (zs : List Int) (w : World) (hz : Held w ao n cap zs) (hn : n ≤ 140737488351232) :
    Calls Try.prog 24 #[.slice ao n cap] w fun e w' => ∃ adP mP cP adW mW cW adC mC cC, e = .returned (.tuple #[.agg (cfCells (pgParse zs).1.frame (pgParse zs).1.watch (.slice adP mP cP) (.slice adW mW cW) (.slice adC mC cC)), .int .i64 (pgParse zs).2.1, .int .i64 (pgParse zs).2.2]) ∧ ConfS w.heap.size (.slice adP mP cP) (.slice adW mW cW) (.slice adC mC cC) (pgParse zs).1 w' ∧ Below w.heap.size w w' := by
  have HLT : Hid (∀ ad, ao = some ad → 0 < n → ad.block < w.heap.size) := hz.lt
  obtain ⟨w0, hw0⟩ : ∃ w0, w0 = ((w.alloc (.cells #[.int .i64 0, .int .i64 0, .slice none 0 0, .slice none 0 0, .slice none 0 0] 48)).alloc (.cells #[.slice ao n cap, .int .i64 0, .int .i64 0] 82)) := ⟨_, rfl⟩
  have hs0 : w0.heap.size = w.heap.size + 2 := by rw [hw0]; simp
  have hT0 : Touch (fun i => w.heap.size ≤ i) w w0 := by rw [hw0]; exact (touch_alloc _ _).andThen (touch_alloc _ _)
  have hB0 : w0.heap[w.heap.size]? = some (.cells (cfCells 0 0 (.slice none 0 0) (.slice none 0 0) (.slice none 0 0)) 48 (0, 0)) := by rw [hw0]; exact (Below.heap_alloc _ _ _ (by simp)).trans (heap_alloc_new w _)
  have hP0 : PgAt (w.heap.size + 1) ao n cap zs ⟨0, 0⟩ w0 := ⟨by rw [hw0]; exact new_two w _ _, hz.touch hT0 (fun ad e h hs => by have := HLT.out ad e h; omega), fun ad e h => by have := HLT.out ad e h; omega, hn, Nat.zero_le _⟩
  have HB := hide (pgconfig_any (w.heap.size + 1) ao n cap zs ⟨0, 0⟩ _ hP0)
  have HW := hide hw0
  have H0 := hide (And.intro hT0 hB0)
  have HSP : Hid (pgParse zs = if (pgEnd zs (pgCheck zs (pgConf zs ⟨0, 0⟩).2)).err ≠ 0 then (noCf, ((pgEnd zs (pgCheck zs (pgConf zs ⟨0, 0⟩).2)).pos : Int), (pgEnd zs (pgCheck zs (pgConf zs ⟨0, 0⟩).2)).err) else ((pgConf zs ⟨0, 0⟩).1, 0, 0)) := rfl
  clear hT0 hB0 hP0 hw0 hz
  generalize (pgConf zs ⟨0, 0⟩).1 = cf at HB HSP
  generalize (pgConf zs ⟨0, 0⟩).2 = s1 at HB HSP
  obtain ⟨fr, hfr⟩ : ∃ fr, fr = cf.frame := ⟨_, rfl⟩
  obtain ⟨wt, hwt⟩ : ∃ wt, wt = cf.watch := ⟨_, rfl⟩
  rw [← hfr, ← hwt] at HB
  simp only [cfCells] at HB
  have HCF := hide (And.intro hfr hwt)
  clear hfr hwt
  go_enter Try.func24, Try.ntmps24
  go_wp2_with fail
  rw [← HW.out]
  refine HB.out.mono ?_
  rintro e w1 ⟨adP, mP, cP, adW, mW, cW, adC, mC, cC, rfl, hV, hp, ht⟩
  have hs1 := ht.size
  have hB1 := (ht.block _ (by omega) (by omega)).trans H0.out.2
  have hT1 : Touch (fun i => w.heap.size ≤ i) w w1 := H0.out.1.andThen (ht.mono (fun k hk => by omega))
  obtain ⟨w2, hw2⟩ : ∃ w2, w2 = w1.alloc (.cells #[.int .i64 fr, .int .i64 wt, .slice adP mP cP, .slice adW mW cW, .slice adC mC cC] 48) := ⟨_, rfl⟩
  have t2 : Touch (· = w.heap.size + 1) w1 w2 := by rw [hw2]; exact touch_alloc _ _
  have hs2 : w2.heap.size = w1.heap.size + 1 := by rw [hw2]; simp
  have hC2 : w2.heap[w1.heap.size]? = some (.cells (cfCells fr wt (.slice adP mP cP) (.slice adW mW cW) (.slice adC mC cC)) 48 (0, 0)) := by rw [hw2]; exact heap_alloc_new w1 _
  have hB2 := (t2.block _ (by omega) (by omega)).trans hB1
  have hT2 : Touch (fun i => w.heap.size ≤ i) w w2 := hT1.andThen (t2.mono (fun k hk => by omega))
  have hV2 := hV.low t2 (fun b hb => by omega)
  have hP2 : PgAt (w.heap.size + 1) ao n cap zs s1 w2 := by rw [hw2]; exact hp.alloc _
  have HB2 := hide (pgcheck_any (w.heap.size + 1) ao n cap zs s1 _ hP2)
  generalize pgCheck zs s1 = s2 at HB2 HSP
  have HW2 := hide hw2
  have H2 := hide (And.intro hB2 (And.intro hC2 (And.intro hT2 hV2)))
  clear hV hp ht hB1 hT1 t2 hC2 hB2 hT2 hV2 hP2 hw2 HB HW H0
  go_wp2_with fail
  rw [← HW2.out]
  refine HB2.out.mono ?_
  rintro e w3 ⟨rfl, hp3, ht3⟩
  have hs3 := ht3.size
  have HB3 := hide (pgend_any (w.heap.size + 1) ao n cap zs s2 _ hp3)
  generalize pgEnd zs s2 = s3 at HB3 HSP
  have HT3 := hide ht3
  clear hp3 ht3 HB2
  go_wp2_with fail
  refine HB3.out.mono ?_
  rintro e w4 ⟨rfl, hp4, ht4⟩
  have hs4 := ht4.size
  have t4 := HT3.out.andThen ht4
  have hB4 := (t4.block _ (by omega) (by omega)).trans H2.out.1
  have hC4 := (t4.block _ (by omega) (by omega)).trans H2.out.2.1
  have HT4 : Hid (Touch (fun i => w.heap.size ≤ i) w w4) := H2.out.2.2.1.andThen (t4.mono (fun k hk => by omega))
  have HV4 := hide (H2.out.2.2.2.low t4 (fun b hb => by omega))
  have hob := hp4.obj
  have c1 : w4.cell? ⟨w.heap.size + 1, 1, none⟩ = some (.int .i64 s3.pos) := by rw [cell_of_row _ _ _ _ _ _ hob]; rfl
  have c2 : w4.cell? ⟨w.heap.size + 1, 2, none⟩ = some (.int .i64 s3.err) := by rw [cell_of_row _ _ _ _ _ _ hob]; rfl
  have x0 : w4.cell? ⟨w1.heap.size, 0, none⟩ = some (.int .i64 fr) := by rw [cell_of_row _ _ _ _ _ _ hC4]; rfl
  have x1 : w4.cell? ⟨w1.heap.size, 1, none⟩ = some (.int .i64 wt) := by rw [cell_of_row _ _ _ _ _ _ hC4]; rfl
  have x2 : w4.cell? ⟨w1.heap.size, 2, none⟩ = some (.slice adP mP cP) := by rw [cell_of_row _ _ _ _ _ _ hC4]; rfl
  have x3 : w4.cell? ⟨w1.heap.size, 3, none⟩ = some (.slice adW mW cW) := by rw [cell_of_row _ _ _ _ _ _ hC4]; rfl
  have x4 : w4.cell? ⟨w1.heap.size, 4, none⟩ = some (.slice adC mC cC) := by rw [cell_of_row _ _ _ _ _ _ hC4]; rfl
  have q0 : w4.cell? ⟨w.heap.size, 0, none⟩ = some (.int .i64 0) := by rw [cell_of_row _ _ _ _ _ _ hB4]; rfl
  have q1 : w4.cell? ⟨w.heap.size, 1, none⟩ = some (.int .i64 0) := by rw [cell_of_row _ _ _ _ _ _ hB4]; rfl
  have q2 : w4.cell? ⟨w.heap.size, 2, none⟩ = some (.slice none 0 0) := by rw [cell_of_row _ _ _ _ _ _ hB4]; rfl
  have q3 : w4.cell? ⟨w.heap.size, 3, none⟩ = some (.slice none 0 0) := by rw [cell_of_row _ _ _ _ _ _ hB4]; rfl
  have q4 : w4.cell? ⟨w.heap.size, 4, none⟩ = some (.slice none 0 0) := by rw [cell_of_row _ _ _ _ _ _ hB4]; rfl
  have g0 := free_of_block hB4 0
  have g1 := free_of_block hB4 1
  have g2 := free_of_block hB4 2
  have g3 := free_of_block hB4 3
  have g4 := free_of_block hB4 4
  have n1 : ¬ w1.heap.size = w.heap.size := by omega
  have n2 : ¬ w.heap.size = w1.heap.size := by omega
  clear hp4 ht4 t4 hB4 hC4 hob HB3 HT3 H2 HW2
  have HOK : Hid (∀ W' m, Touch (fun i => i = w.heap.size) (w4.drewN m) W' → ConfS w.heap.size (.slice adP mP cP) (.slice adW mW cW) (.slice adC mC cC) cf W' ∧ Below w.heap.size w W') := fun W' m t => by
    have t' : Touch (fun i => i = w.heap.size) w4 W' := (Touch.ofDrewN w4 m).andThen t
    exact ⟨(HV4.out.low t' (fun b hb => by omega)).base (by omega), (HT4.out.andThen (t'.mono (fun k hk => by omega))).below (Nat.le_refl _) (fun k hk => hk)⟩
  have HNO : Hid (∀ W' m, Touch (fun i => i = w.heap.size) (w4.drewN m) W' → Below w.heap.size w W') := fun W' m t => (HOK.out W' m t).2
  by_cases h1 : s3.err = 0
  · have b1 : (s3.err != 0) = false := by simp [h1]
    have HP : Hid (pgParse zs = (cf, 0, 0)) := by show _ = _; rw [HSP.out, if_neg (by simpa using h1)]
    clear h1 HSP
    go_wp2
    refine bodyPost_ret (v := .tuple #[.agg (cfCells fr wt (.slice adP mP cP) (.slice adW mW cW) (.slice adC mC cC)), .int .i64 0, .int .i64 0]) (by simp [results, Try.results24, go_sem, cfCells, q0, q1, q2, q3, q4]) rfl ?_
    rw [HP.out]
    refine ⟨adP, mP, cP, adW, mW, cW, adC, mC, cC, by rw [HCF.out.1, HCF.out.2], HOK.out _ 0 ?_⟩
    iterate 5 refine Touch.thenSet (g := w.heap.size) ?_ _ _ rfl
    exact Touch.refl _ _
  · have b1 : (s3.err != 0) = true := by simpa using h1
    have HP : Hid (pgParse zs = (noCf, (s3.pos : Int), s3.err)) := by show _ = _; rw [HSP.out, if_pos h1]
    clear h1 HSP x0 x1 x2 x3 x4
    go_wp2
    go_region
    all_goals
      go_wp2
      refine bodyPost_ret (v := .tuple #[.agg (cfCells 0 0 (.slice none 0 0) (.slice none 0 0) (.slice none 0 0)), .int .i64 (s3.pos : Int), .int .i64 s3.err]) (by simp [results, Try.results24, go_sem, cfCells, q0, q1, q2, q3, q4]) rfl ?_
      rw [HP.out]
      refine ⟨none, 0, 0, none, 0, 0, none, 0, 0, rfl, confS_nil _ _, (HNO.out _ 0 ?_).drew⟩
      iterate 5 refine Touch.thenSet (g := w.heap.size) ?_ _ _ rfl
      exact Touch.refl _ _

set_option maxRecDepth 100000 in
set_option maxHeartbeats 4000000 in
theorem pgbulwark_any (ao : Option Addr) (n cap : Nat) (zs : List Int) (w : World) (hz : Held w ao n cap zs) (hn : n ≤ 140737488351232) :
    Calls Try.prog 10 #[.slice ao n cap] w fun e w' => ∃ adP mP cP adW mW cW adC mC cC, e = .returned (.tuple #[.agg (cfCells (pgParse zs).1.frame (pgParse zs).1.watch (.slice adP mP cP) (.slice adW mW cW) (.slice adC mC cC)), .int .i64 (pgParse zs).2.1, .int .i64 (pgParse zs).2.2]) ∧ ConfS w.heap.size (.slice adP mP cP) (.slice adW mW cW) (.slice adC mC cC) (pgParse zs).1 w' ∧ Below w.heap.size w w' := by
  have hz0 : Held (w.alloc (.cells #[.int .i64 0, .int .i64 0, .slice none 0 0, .slice none 0 0, .slice none 0 0] 48)) ao n cap zs := hz.touch (S := fun _ => False) (touch_alloc _ _) (fun _ _ _ h => h)
  have HB := hide (pgparse_any ao n cap zs _ hz0 hn)
  clear hz0 hz
  generalize pgParse zs = P at HB ⊢
  simp only [cfCells] at HB
  go_enter Try.func10, Try.ntmps10
  go_wp2_with fail
  refine HB.out.mono ?_
  rintro e w1 ⟨adP, mP, cP, adW, mW, cW, adC, mC, cC, rfl, hV, hb⟩
  have hB1 : w1.heap[w.heap.size]? = some (.cells (cfCells 0 0 (.slice none 0 0) (.slice none 0 0) (.slice none 0 0)) 48 (0, 0)) := (hb.block _ (by simp)).trans (heap_alloc_new w _)
  have q0 : w1.cell? ⟨w.heap.size, 0, none⟩ = some (.int .i64 0) := by rw [cell_of_row _ _ _ _ _ _ hB1]; rfl
  have q1 : w1.cell? ⟨w.heap.size, 1, none⟩ = some (.int .i64 0) := by rw [cell_of_row _ _ _ _ _ _ hB1]; rfl
  have q2 : w1.cell? ⟨w.heap.size, 2, none⟩ = some (.slice none 0 0) := by rw [cell_of_row _ _ _ _ _ _ hB1]; rfl
  have q3 : w1.cell? ⟨w.heap.size, 3, none⟩ = some (.slice none 0 0) := by rw [cell_of_row _ _ _ _ _ _ hB1]; rfl
  have q4 : w1.cell? ⟨w.heap.size, 4, none⟩ = some (.slice none 0 0) := by rw [cell_of_row _ _ _ _ _ _ hB1]; rfl
  have g0 := free_of_block hB1 0
  have g1 := free_of_block hB1 1
  have g2 := free_of_block hB1 2
  have g3 := free_of_block hB1 3
  have g4 := free_of_block hB1 4
  have hs1 := hb.size
  simp at hs1
  have HOK : Hid (∀ W', Touch (fun i => i = w.heap.size) w1 W' → ConfS w.heap.size (.slice adP mP cP) (.slice adW mW cW) (.slice adC mC cC) P.1 W' ∧ Below w.heap.size w W') := fun W' t => by
    refine ⟨(hV.low t (fun b hb => by simp; omega)).base (by simp), ?_⟩
    have b0 : Below w.heap.size w (w.alloc (.cells #[.int .i64 0, .int .i64 0, .slice none 0 0, .slice none 0 0, .slice none 0 0] 48)) := (Below.refl _ _).alloc (Nat.le_refl _) _
    exact (b0.trans (hb.mono (by simp))).trans (t.below (by omega) (fun k hk => by omega))
  clear hV hb hB1 HB
  go_wp2
  refine bodyPost_ret (v := .tuple #[.agg (cfCells P.1.frame P.1.watch (.slice adP mP cP) (.slice adW mW cW) (.slice adC mC cC)), .int .i64 P.2.1, .int .i64 P.2.2]) (by simp [results, Try.results10, go_sem, cfCells, q0, q1, q2, q3, q4]) rfl ?_
  refine ⟨adP, mP, cP, adW, mW, cW, adC, mC, cC, rfl, HOK.out _ ?_⟩
  iterate 5 refine Touch.thenSet (g := w.heap.size) ?_ _ _ rfl
  exact Touch.refl _ _
end Go.Proofs.Ytnjlbgolnbdkaaa
