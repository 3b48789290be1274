/- The program's reader: process. -/
import Derived.Test.YtnjlbgolnbdkaaaQc
namespace Go.Proofs.Ytnjlbgolnbdkaaa
open Go.RowKit

theorem new_two (w : World) (o1 o2 : Obj) : ((w.alloc o1).alloc o2).heap[w.heap.size + 1]? = some o2 := by
  have h := heap_alloc_new (w.alloc o1) o2
  rw [show (w.alloc o1).heap.size = w.heap.size + 1 from by simp] at h
  exact h
theorem new_three (w : World) (o1 o2 o3 : Obj) : (((w.alloc o1).alloc o2).alloc o3).heap[w.heap.size + 1 + 1]? = some o3 := by
  have h := heap_alloc_new ((w.alloc o1).alloc o2) o3
  rw [show ((w.alloc o1).alloc o2).heap.size = w.heap.size + 1 + 1 from by simp] at h
  exact h
theorem cap_code {v : Value} {base : Nat} {code : List (Int × Int)} {w : World} (h : CodeV base v code w) : ∃ ad c, v = .slice ad code.length c := own_slice h

set_option maxRecDepth 100000 in
set_option maxHeartbeats 4000000 in
theorem pgprocess_any (rb : Nat) (ao : Option Addr) (n cap : Nat) (zs : List Int) (s : Rs) (w : World) (h : PgAt rb ao n cap zs s w) :
    Calls Try.prog 58 #[.pointer (some ⟨rb, 0, none⟩)] w fun e w' => ∃ ad m c, e = .returned (.agg #[.int .i64 (pgProc zs s).1.prio, .slice ad m c]) ∧ CodeV w.heap.size (.slice ad m c) (pgProc zs s).1.code w' ∧ PgAt rb ao n cap zs (pgProc zs s).2 w' ∧ Touch (· = rb) w w' := by
  have hrb := lt_of_block h.obj
  have HLT : Hid (∀ ad, ao = some ad → 0 < n → ad.block < w.heap.size) := h.held.lt
  have HBY := hide h.held.bytes
  have HSP : Hid (pgProc zs s = (⟨(pgB zs 0 9 [] s).1, (pgTo (pgIns zs (pgB zs 1 20 [] (pgB zs 0 9 [] s).2).1) (pgB zs 1 20 [] (pgB zs 0 9 [] s).2).1.toNat (pgB zs 1 20 [] (pgB zs 0 9 [] s).2).2).1⟩, (pgTo (pgIns zs (pgB zs 1 20 [] (pgB zs 0 9 [] s).2).1) (pgB zs 1 20 [] (pgB zs 0 9 [] s).2).1.toNat (pgB zs 1 20 [] (pgB zs 0 9 [] s).2).2).2)) := rfl
  obtain ⟨w0, hw0⟩ : ∃ w0, w0 = (((w.alloc (.cells #[.pointer (some ⟨rb, 0, none⟩)] 80)).alloc (.cells #[.int .i64 0, .slice none 0 0] 104)).alloc (.cells #[.int .i64 0, .slice none 0 0] 104)) := ⟨_, rfl⟩
  have hs0 : w0.heap.size = w.heap.size + 3 := by rw [hw0]; simp
  have hA0 : w0.heap[w.heap.size]? = some (.cells #[.pointer (some ⟨rb, 0, none⟩)] 80 (0, 0)) := by rw [hw0]; exact (Below.heap_alloc _ _ _ (by simp; omega)).trans ((Below.heap_alloc _ _ _ (by simp)).trans (heap_alloc_new w _))
  have hB0 : w0.heap[w.heap.size + 1]? = some (.cells #[.int .i64 0, .slice none 0 0] 104 (0, 0)) := by rw [hw0]; exact (Below.heap_alloc _ _ _ (by simp)).trans (new_two w _ _)
  have hC0 : w0.heap[w.heap.size + 1 + 1]? = some (.cells #[.int .i64 0, .slice none 0 0] 104 (0, 0)) := by rw [hw0]; exact new_three w _ _ _
  have hT0 : Touch (· = rb) w w0 := by rw [hw0]; exact ((touch_alloc _ _).andThen (touch_alloc _ _)).andThen (touch_alloc _ _)
  have hP0 : PgAt rb ao n cap zs s w0 := by rw [hw0]; exact ((h.alloc _).alloc _).alloc _
  have HB := hide (pgnum0 rb ao n cap zs s 0 9 _ hP0)
  have HW := hide hw0
  have H0 := hide (And.intro hA0 (And.intro hB0 (And.intro hC0 hT0)))
  have hprb := pgB_small zs 0 9 [] s HBY.out
  generalize (pgB zs 0 9 [] s).1 = prio at HSP HB hprb
  generalize (pgB zs 0 9 [] s).2 = s1 at HSP HB
  clear h hA0 hB0 hC0 hT0 hP0 hw0
  have a0 : w0.cell? ⟨w.heap.size, 0, none⟩ = some (.pointer (some ⟨rb, 0, none⟩)) := by rw [cell_of_row _ _ _ _ _ _ H0.out.1]; rfl
  go_enter Try.func58, Try.ntmps58
  go_wp2_with fail
  rw [← HW.out]
  refine HB.out.mono ?_
  rintro e w1 ⟨rfl, hp, ht⟩
  obtain ⟨hA0, hB0, hC0, hT0⟩ := H0.out
  have hs1 := ht.size
  have hA1 := (ht.block _ (by omega) (by omega)).trans hA0
  have hB1 := (ht.block _ (by omega) (by omega)).trans hB0
  have hC1 := (ht.block _ (by omega) (by omega)).trans hC0
  have hT1 := hT0.andThen ht
  obtain ⟨w2, hw2⟩ : ∃ w2, w2 = w1.setCell ⟨w.heap.size + 1 + 1, 0, none⟩ (.int .i64 prio) := ⟨_, rfl⟩
  have tS : Touch (fun i => i = w.heap.size + 1 + 1) w1 w2 := by rw [hw2]; exact Touch.ofSet w1 _ 0 _ rfl
  have hs2 : w2.heap.size = w1.heap.size := by rw [hw2]; simp
  have hA2 := (tS.block _ (by omega) (by omega)).trans hA1
  have hB2 := (tS.block _ (by omega) (by omega)).trans hB1
  have hC2 : w2.heap[w.heap.size + 1 + 1]? = some (.cells #[.int .i64 prio, .slice none 0 0] 104 (0, 0)) := by rw [hw2]; exact block_set hC1 0 _
  have hT2 : Touch (· = rb) w w2 := hT1.andNew (tS.mono (fun k hk => by omega))
  have hP2 : PgAt rb ao n cap zs s1 w2 := hp.new hrb HLT.out (tS.mono (fun k hk => by omega))
  have HB2 := hide (pgnum0 rb ao n cap zs s1 1 20 _ hP2)
  have hmb := pgB_small zs 1 20 [] s1 HBY.out
  have hmb2 := pgB_le zs 1 20 [] s1 (by omega)
  generalize (pgB zs 1 20 [] s1).1 = N at HSP HB2 hmb hmb2
  generalize (pgB zs 1 20 [] s1).2 = s2 at HSP HB2
  have f0 := free_of_block hC1 0
  have z0 : w1.cell? ⟨w.heap.size + 1 + 1, 0, none⟩ = some (.int .i64 0) := by rw [cell_of_row _ _ _ _ _ _ hC1]; rfl
  have a1 : w1.cell? ⟨w.heap.size, 0, none⟩ = some (.pointer (some ⟨rb, 0, none⟩)) := by rw [cell_of_row _ _ _ _ _ _ hA1]; rfl
  have HW2 := hide hw2
  have H2 := hide (And.intro hA2 (And.intro hB2 (And.intro hC2 hT2)))
  clear hA0 hB0 hC0 hT0 hA1 hB1 hC1 hT1 hA2 hB2 hC2 hT2 hP2 hp ht tS hw2 H0 HB a0 HW
  go_wp2_with fail
  rw [← HW2.out]
  refine HB2.out.mono ?_
  rintro e w3 ⟨rfl, hp, ht⟩
  obtain ⟨hA2, hB2, hC2, hT2⟩ := H2.out
  have hs3 := ht.size
  have hA3 := (ht.block _ (by omega) (by omega)).trans hA2
  have hB3 := (ht.block _ (by omega) (by omega)).trans hB2
  have hC3 := (ht.block _ (by omega) (by omega)).trans hC2
  have hT3 := hT2.andThen ht
  obtain ⟨w4, hw4⟩ : ∃ w4, w4 = w3.alloc (.cells #[.int .i64 N] 3) := ⟨_, rfl⟩
  have t4 : Touch (· = rb) w3 w4 := by rw [hw4]; exact touch_alloc _ _
  have hs4 : w4.heap.size = w3.heap.size + 1 := by rw [hw4]; simp
  have hA4 := (t4.block _ (by omega) (by omega)).trans hA3
  have hB4 := (t4.block _ (by omega) (by omega)).trans hB3
  have hC4 := (t4.block _ (by omega) (by omega)).trans hC3
  have hD4 : w4.heap[w3.heap.size]? = some (.cells #[.int .i64 N] 3 (0, 0)) := by rw [hw4]; exact heap_alloc_new w3 _
  have hT4 := hT3.andThen t4
  have hP4 : PgAt rb ao n cap zs s2 w4 := by rw [hw4]; exact hp.alloc _
  have HW4 := hide hw4
  have H4 := hide (And.intro hA4 (And.intro hB4 (And.intro hC4 (And.intro hT4 (And.intro hD4 hP4)))))
  clear hA2 hB2 hC2 hT2 hA3 hB3 hC3 hT3 hA4 hB4 hC4 hT4 hD4 hP4 hp ht t4 hw4 H2 HB2 f0 z0 a1 HW2
  have hLI := list_ins w.heap.size w3.heap.size N.toNat (by omega) (· = rb) w4 (fun b hb => by omega) (fun j l wr => l = (pgTo (pgIns zs N) j s2).1 ∧ PgAt rb ao n cap zs (pgTo (pgIns zs N) j s2).2 wr ∧ Touch (· = rb) w4 wr)
    (fun j l wr w' hI t => ⟨hI.1, hI.2.1.new (B := w4.heap.size) (by omega) (fun ad e hn => by have := HLT.out ad e hn; omega) (t.mono (fun k hk => hk.1)), hI.2.2.andNew (t.mono (fun k hk => hk.1))⟩)
    (fun j l wr hj hI => (pginstr_lit w.heap.size w3.heap.size rb ao n cap zs _ N wr hI.2.1 (by omega) ((hI.2.2.block _ (by omega) (by omega)).trans H4.out.1) ((hI.2.2.block _ (by omega) (by omega)).trans H4.out.2.2.2.2.1)).mono (fun e w' ⟨he, hp, ht⟩ => ⟨_, _, he, ⟨by rw [hI.1]; rfl, hp, hI.2.2.andThen ht⟩, ht⟩))
    ⟨rfl, H4.out.2.2.2.2.2, Touch.refl _ _⟩
  rw [show ((N.toNat : Nat) : Int) = N from by omega] at hLI
  have HLI := hide hLI
  clear hLI
  go_wp2_with fail
  rw [← HW4.out]
  refine HLI.out.mono ?_
  rintro e w5 ⟨v, l, rfl, ⟨hl, hp, ht⟩, hll, hV⟩
  obtain ⟨hA4, hB4, hC4, hT4, hD4, hP4⟩ := H4.out
  have hs5 := ht.size
  have hB5 := (ht.block _ (by omega) (by omega)).trans hB4
  have hC5 := (ht.block _ (by omega) (by omega)).trans hC4
  have hT5 := hT4.andThen ht
  obtain ⟨ad, cv, rfl⟩ := own_slice hV
  have HSP2 : Hid (pgProc zs s = (⟨prio, l⟩, (pgTo (pgIns zs N) N.toNat s2).2)) := by show _ = _; rw [HSP.out, hl]
  generalize (pgTo (pgIns zs N) N.toNat s2).2 = s3 at HSP2 hp
  have p0 : w5.cell? ⟨w.heap.size + 1 + 1, 0, none⟩ = some (.int .i64 prio) := by rw [cell_of_row _ _ _ _ _ _ hC5]; rfl
  have p1 : w5.cell? ⟨w.heap.size + 1 + 1, 1, none⟩ = some (.slice none 0 0) := by rw [cell_of_row _ _ _ _ _ _ hC5]; rfl
  have q0 : w5.cell? ⟨w.heap.size + 1, 0, none⟩ = some (.int .i64 0) := by rw [cell_of_row _ _ _ _ _ _ hB5]; rfl
  have q1 : w5.cell? ⟨w.heap.size + 1, 1, none⟩ = some (.slice none 0 0) := by rw [cell_of_row _ _ _ _ _ _ hB5]; rfl
  have f1 := free_of_block hC5 1
  have g0 := free_of_block hB5 0
  have g1 := free_of_block hB5 1
  have H5 := hide (And.intro hp (And.intro hT5 hV))
  clear hA4 hB4 hC4 hT4 hD4 hP4 hB5 hC5 hT5 hp ht hl hll hV H4 HLI HW4
  go_wp2
  refine bodyPost_ret (v := .agg #[.int .i64 prio, .slice ad l.length cv]) (by simp [results, Try.results58, go_sem, q0, q1]) rfl ?_
  have tS : Touch (fun i => i = w.heap.size + 1 + 1 ∨ i = w.heap.size + 1) w5 (((w5.setCell ⟨w.heap.size + 1 + 1, 1, none⟩ (.slice ad l.length cv)).setCell ⟨w.heap.size + 1, 0, none⟩ (.int .i64 prio)).setCell ⟨w.heap.size + 1, 1, none⟩ (.slice ad l.length cv)) := Touch.andThen (Touch.andThen (Touch.ofSet w5 _ 1 _ (.inl rfl)) (Touch.ofSet _ _ 0 _ (.inr rfl))) (Touch.ofSet _ _ 1 _ (.inr rfl))
  rw [HSP2.out]
  obtain ⟨hp, hT5, hV⟩ := H5.out
  refine ⟨ad, l.length, cv, rfl, ?_, hp.new hrb HLT.out (tS.mono (fun k hk => by omega)), hT5.andNew (tS.mono (fun k hk => by omega))⟩
  exact own_low (own_keep hV (fun b e => tS.block b (World.ownsRow.lt hV b e).2 (by have := (World.ownsRow.lt hV b e).1; omega))) (by omega)
end Go.Proofs.Ytnjlbgolnbdkaaa
