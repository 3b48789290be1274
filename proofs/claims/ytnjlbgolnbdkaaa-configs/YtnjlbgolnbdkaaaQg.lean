/- The program's reader: windows. -/
import Derived.Test.YtnjlbgolnbdkaaaQf
namespace Go.Proofs.Ytnjlbgolnbdkaaa
open Go.RowKit

set_option maxRecDepth 100000 in
set_option maxHeartbeats 4000000 in
theorem pgwin_lit (p1 p2 p3 p4 : Nat) (rb : Nat) (ao : Option Addr) (n cap : Nat) (zs : List Int) (s : Rs) (N fr fin : Int) (w : World) (h : PgAt rb ao n cap zs s w) (hN : 0 ≤ N ∧ N ≤ 255) (hfr : 0 ≤ fr ∧ fr ≤ 255)
    (h1 : w.heap[p1]? = some (.cells #[.pointer (some ⟨rb, 0, none⟩)] 80 (0, 0))) (h2 : w.heap[p2]? = some (.cells #[.int .i64 N] 3 (0, 0))) (h3 : w.heap[p3]? = some (.cells #[.int .i64 fin] 3 (0, 0))) (h4 : w.heap[p4]? = some (.cells #[.int .i64 fr] 3 (0, 0)))
    (hr1 : p1 ≠ rb) (hr3 : p3 ≠ rb) (hr4 : p4 ≠ rb) (hz3 : ∀ ad, ao = some ad → 0 < n → ad.block ≠ p3) :
    Calls Try.prog 60 #[.pointer (some ⟨p1, 0, none⟩), .pointer (some ⟨p2, 0, none⟩), .pointer (some ⟨p3, 0, none⟩), .pointer (some ⟨p4, 0, none⟩)] w fun e w' => e = .returned (.agg #[.int .i64 (pgWin zs N fr (s, fin)).1.part, .int .i64 (pgWin zs N fr (s, fin)).1.first, .int .i64 (pgWin zs N fr (s, fin)).1.many]) ∧ PgAt rb ao n cap zs (pgWin zs N fr (s, fin)).2.1 w' ∧ w'.heap[p3]? = some (.cells #[.int .i64 (pgWin zs N fr (s, fin)).2.2] 3 (0, 0)) ∧ Touch (fun i => i = rb ∨ i = p3) w w' := by
  have hrb := lt_of_block h.obj
  have hl1 := lt_of_block h1
  have hl2 := lt_of_block h2
  have hl3 := lt_of_block h3
  have hl4 := lt_of_block h4
  have HLT : Hid (∀ ad, ao = some ad → 0 < n → ad.block < w.heap.size) := h.held.lt
  have HZ3 := hide hz3
  have HBY := hide h.held.bytes
  have HM := hide (PMk.start h (three 0 0 0) (three 0 0 0) 93)
  have c1 : w.cell? ⟨p1, 0, none⟩ = some (.pointer (some ⟨rb, 0, none⟩)) := by rw [cell_of_row _ _ _ _ _ _ h1]; rfl
  have c2 : w.cell? ⟨p2, 0, none⟩ = some (.int .i64 N) := by rw [cell_of_row _ _ _ _ _ _ h2]; rfl
  have HP : Hid (∀ W, Touch (· = rb) w W → W.heap[p1]? = some (.cells #[.pointer (some ⟨rb, 0, none⟩)] 80 (0, 0)) ∧ W.heap[p3]? = some (.cells #[.int .i64 fin] 3 (0, 0)) ∧ W.heap[p4]? = some (.cells #[.int .i64 fr] 3 (0, 0))) := fun W t => ⟨(t.block _ hl1 hr1).trans h1, (t.block _ hl3 hr3).trans h3, (t.block _ hl4 hr4).trans h4⟩
  clear h h1 h2 h3 h4 hz3
  have HSP : Hid (pgWin zs N fr (s, fin) = (⟨(pgB zs 0 (N - 1) [] s).1, (pgB zs fin (fr - 1) [] (pgB zs 0 (N - 1) [] s).2).1, (pgB zs 1 (fr - (pgB zs fin (fr - 1) [] (pgB zs 0 (N - 1) [] s).2).1) [] (pgB zs fin (fr - 1) [] (pgB zs 0 (N - 1) [] s).2).2).1⟩, ((pgB zs 1 (fr - (pgB zs fin (fr - 1) [] (pgB zs 0 (N - 1) [] s).2).1) [] (pgB zs fin (fr - 1) [] (pgB zs 0 (N - 1) [] s).2).2).2, (pgB zs fin (fr - 1) [] (pgB zs 0 (N - 1) [] s).2).1 + (pgB zs 1 (fr - (pgB zs fin (fr - 1) [] (pgB zs 0 (N - 1) [] s).2).1) [] (pgB zs fin (fr - 1) [] (pgB zs 0 (N - 1) [] s).2).2).1))) := rfl
  have HB1 := hide (pgnum0 rb ao n cap zs s 0 (N - 1) _ HM.out.rd)
  have ha := pgB_small zs 0 (N - 1) [] s HBY.out
  generalize (pgB zs 0 (N - 1) [] s).1 = a at HSP HB1 ha
  generalize (pgB zs 0 (N - 1) [] s).2 = r1 at HSP HB1
  go_enter Try.func60, Try.ntmps60
  go_wp2_with fail
  refine HB1.out.mono ?_
  rintro e w1 ⟨rfl, hq1, ht1⟩
  have HM1 := hide (HM.out.byte hrb hq1 ht1)
  have x0 : w1.cell? ⟨w.heap.size + 1, 0, none⟩ = some (.int .i64 0) := by rw [cell_of_row _ _ _ _ _ _ HM1.out.cur]; rfl
  have f0 := free_of_block HM1.out.cur 0
  have hs1 := lt_of_block HM1.out.cur
  clear hq1 ht1 HM HB1 c1 c2
  have d1 : w1.cell? ⟨p1, 0, none⟩ = some (.pointer (some ⟨rb, 0, none⟩)) := by rw [cell_of_row _ _ _ _ _ _ (HP.out _ HM1.out.t).1]; rfl
  have d3 : w1.cell? ⟨p3, 0, none⟩ = some (.int .i64 fin) := by rw [cell_of_row _ _ _ _ _ _ (HP.out _ HM1.out.t).2.1]; rfl
  have d4 : w1.cell? ⟨p4, 0, none⟩ = some (.int .i64 fr) := by rw [cell_of_row _ _ _ _ _ _ (HP.out _ HM1.out.t).2.2]; rfl
  have HM2 : Hid (PMk rb ao n cap zs 93 (three 0 0 0) w (three a 0 0) r1 (w1.setCell ⟨w.heap.size + 1, 0, none⟩ (.int .i64 a))) := HM1.out.set hrb HLT.out 0 (.int .i64 a)
  have HB2 := hide (pgnum0 rb ao n cap zs r1 fin (fr - 1) _ HM2.out.rd)
  have hb := pgB_small zs fin (fr - 1) [] r1 HBY.out
  generalize (pgB zs fin (fr - 1) [] r1).1 = b at HSP HB2 hb
  generalize (pgB zs fin (fr - 1) [] r1).2 = r2 at HSP HB2
  have e1 : ¬ p1 = w.heap.size + 1 := by omega
  have e3 : ¬ p3 = w.heap.size + 1 := by omega
  have e4 : ¬ p4 = w.heap.size + 1 := by omega
  go_wp2_with fail
  refine HB2.out.mono ?_
  rintro e w3 ⟨rfl, hq3, ht3⟩
  have HM3 := hide (HM2.out.byte hrb hq3 ht3)
  have y1 : w3.cell? ⟨w.heap.size + 1, 1, none⟩ = some (.int .i64 0) := by rw [cell_of_row _ _ _ _ _ _ HM3.out.cur]; rfl
  have f1 := free_of_block HM3.out.cur 1
  clear hq3 ht3 HM2 HB2 HM1 x0 f0 d1 d3 d4
  have d1 : w3.cell? ⟨p1, 0, none⟩ = some (.pointer (some ⟨rb, 0, none⟩)) := by rw [cell_of_row _ _ _ _ _ _ (HP.out _ HM3.out.t).1]; rfl
  have d4 : w3.cell? ⟨p4, 0, none⟩ = some (.int .i64 fr) := by rw [cell_of_row _ _ _ _ _ _ (HP.out _ HM3.out.t).2.2]; rfl
  have HM4 : Hid (PMk rb ao n cap zs 93 (three 0 0 0) w (three a b 0) r2 (w3.setCell ⟨w.heap.size + 1, 1, none⟩ (.int .i64 b))) := HM3.out.set hrb HLT.out 1 (.int .i64 b)
  have HB3 := hide (pgnum0 rb ao n cap zs r2 1 (fr - b) _ HM4.out.rd)
  have hc := pgB_small zs 1 (fr - b) [] r2 HBY.out
  generalize (pgB zs 1 (fr - b) [] r2).1 = c at HSP HB3 hc
  generalize (pgB zs 1 (fr - b) [] r2).2 = r3 at HSP HB3
  go_wp2_with fail
  refine HB3.out.mono ?_
  rintro e w5 ⟨rfl, hq5, ht5⟩
  have HM5 := hide (HM4.out.byte hrb hq5 ht5)
  have hcur := HM5.out.cur
  have hzero := HM5.out.zero
  clear d1 d4
  have d3 : w5.cell? ⟨p3, 0, none⟩ = some (.int .i64 fin) := by rw [cell_of_row _ _ _ _ _ _ (HP.out _ HM5.out.t).2.1]; rfl
  have k3 := free_of_block (HP.out _ HM5.out.t).2.1 0
  have x0 : w5.cell? ⟨w.heap.size + 1, 0, none⟩ = some (.int .i64 a) := by rw [cell_of_row _ _ _ _ _ _ hcur]; rfl
  have x1 : w5.cell? ⟨w.heap.size + 1, 1, none⟩ = some (.int .i64 b) := by rw [cell_of_row _ _ _ _ _ _ hcur]; rfl
  have x2 : w5.cell? ⟨w.heap.size + 1, 2, none⟩ = some (.int .i64 0) := by rw [cell_of_row _ _ _ _ _ _ hcur]; rfl
  have f2 := free_of_block hcur 2
  have q0 : w5.cell? ⟨w.heap.size, 0, none⟩ = some (.int .i64 0) := by rw [cell_of_row _ _ _ _ _ _ hzero]; rfl
  have q1 : w5.cell? ⟨w.heap.size, 1, none⟩ = some (.int .i64 0) := by rw [cell_of_row _ _ _ _ _ _ hzero]; rfl
  have q2 : w5.cell? ⟨w.heap.size, 2, none⟩ = some (.int .i64 0) := by rw [cell_of_row _ _ _ _ _ _ hzero]; rfl
  have g0 := free_of_block hzero 0
  have g1 := free_of_block hzero 1
  have g2 := free_of_block hzero 2
  have e5 : ¬ w.heap.size + 1 = p3 := by omega
  have e6 : ¬ w.heap.size = p3 := by omega
  have e7 : ¬ p3 = w.heap.size := by omega
  clear hq5 ht5 HM4 HB3 HM3 y1 f1 hcur hzero
  have HOK : Hid (∀ W1 W2 W3 v, Touch (fun i => i = w.heap.size + 1) w5 W1 → W2 = W1.setCell ⟨p3, 0, none⟩ v → Touch (fun i => i = w.heap.size) W2 W3 → PgAt rb ao n cap zs r3 W3 ∧ W3.heap[p3]? = some (.cells #[v] 3 (0, 0)) ∧ Touch (fun i => i = rb ∨ i = p3) w W3) := by
    intro W1 W2 W3 v t1 hW t2
    have b1 : W1.heap[p3]? = some (.cells #[.int .i64 fin] 3 (0, 0)) := (t1.block _ (lt_of_block (HP.out _ HM5.out.t).2.1) (by omega)).trans (HP.out _ HM5.out.t).2.1
    have tW : Touch (fun i => i = p3) W1 W2 := by rw [hW]; exact Touch.ofSet _ _ _ _ rfl
    have b2 : W2.heap[p3]? = some (.cells #[v] 3 (0, 0)) := by rw [hW]; exact block_set b1 0 _
    have m1 : PgAt rb ao n cap zs r3 W1 := HM5.out.rd.new hrb HLT.out (t1.mono (fun k hk => by omega))
    have m2 : PgAt rb ao n cap zs r3 W2 := m1.keep tW (fun h => hr3 h.symm) (fun ad e hn h => HZ3.out ad e hn h)
    have m3 : PgAt rb ao n cap zs r3 W3 := m2.new hrb HLT.out (t2.mono (fun k hk => by omega))
    refine ⟨m3, (t2.block _ (lt_of_block b2) (by omega)).trans b2, ?_⟩
    have u1 : Touch (fun i => i = rb ∨ i = p3) w W1 := (HM5.out.t.mono (fun k hk => .inl hk)).andNew (t1.mono (fun k hk => by omega))
    exact (u1.andThen (tW.mono (fun k hk => .inr hk))).andNew (t2.mono (fun k hk => by omega))
  go_wp2
  refine bodyPost_ret (v := .agg #[.int .i64 a, .int .i64 b, .int .i64 c]) (by simp [results, Try.results60, go_sem, q0, q1, q2]) rfl ?_
  rw [HSP.out]
  refine ⟨rfl, HOK.out (w5.setCell ⟨w.heap.size + 1, 2, none⟩ (.int .i64 c)) ((w5.setCell ⟨w.heap.size + 1, 2, none⟩ (.int .i64 c)).setCell ⟨p3, 0, none⟩ (.int .i64 (b + c))) _ (.int .i64 (b + c)) (Touch.ofSet _ _ _ _ rfl) rfl ?_⟩
  iterate 3 refine Touch.thenSet (g := w.heap.size) ?_ _ _ rfl
  exact Touch.refl _ _

theorem new_four (w : World) (o1 o2 o3 o4 : Obj) : ((((w.alloc o1).alloc o2).alloc o3).alloc o4).heap[w.heap.size + 1 + 1 + 1]? = some o4 := by
  have h := heap_alloc_new (((w.alloc o1).alloc o2).alloc o3) o4
  rw [show (((w.alloc o1).alloc o2).alloc o3).heap.size = w.heap.size + 1 + 1 + 1 from by simp] at h
  exact h

def pgWins (zs : List Int) (N fr : Int) (s : Rs) : List Wn × Rs :=
  let m := pgB zs 1 8 [] s
  let q := pgTo (pgWin zs N fr) m.1.toNat (m.2, 0)
  (q.1, q.2.1)

set_option maxRecDepth 100000 in
set_option maxHeartbeats 4000000 in
theorem pgwindows_any (rb : Nat) (ao : Option Addr) (n cap : Nat) (zs : List Int) (s : Rs) (N fr : Int) (w : World) (h : PgAt rb ao n cap zs s w) (hN : 0 ≤ N ∧ N ≤ 255) (hfr : 0 ≤ fr ∧ fr ≤ 255) :
    Calls Try.prog 49 #[.pointer (some ⟨rb, 0, none⟩), .int .i64 N, .int .i64 fr] w fun e w' => ∃ ad m c, e = .returned (.slice ad m c) ∧ WinsV w.heap.size (.slice ad m c) (pgWins zs N fr s).1 w' ∧ PgAt rb ao n cap zs (pgWins zs N fr s).2 w' ∧ Touch (· = rb) w w' := by
  have hrb := lt_of_block h.obj
  have HLT : Hid (∀ ad, ao = some ad → 0 < n → ad.block < w.heap.size) := h.held.lt
  have HBY := hide h.held.bytes
  obtain ⟨w0, hw0⟩ : ∃ w0, w0 = ((((w.alloc (.cells #[.pointer (some ⟨rb, 0, none⟩)] 80)).alloc (.cells #[.int .i64 N] 3)).alloc (.cells #[.int .i64 fr] 3)).alloc (.cells #[.int .i64 0] 3)) := ⟨_, rfl⟩
  have hs0 : w0.heap.size = w.heap.size + 4 := by rw [hw0]; simp
  have hA : w0.heap[w.heap.size]? = some (.cells #[.pointer (some ⟨rb, 0, none⟩)] 80 (0, 0)) := by rw [hw0]; exact (Below.heap_alloc _ _ _ (by simp; omega)).trans ((Below.heap_alloc _ _ _ (by simp; omega)).trans ((Below.heap_alloc _ _ _ (by simp)).trans (heap_alloc_new w _)))
  have hB : w0.heap[w.heap.size + 1]? = some (.cells #[.int .i64 N] 3 (0, 0)) := by rw [hw0]; exact (Below.heap_alloc _ _ _ (by simp)).trans ((Below.heap_alloc _ _ _ (by simp)).trans (new_two w _ _))
  have hC : w0.heap[w.heap.size + 1 + 1]? = some (.cells #[.int .i64 fr] 3 (0, 0)) := by rw [hw0]; exact (Below.heap_alloc _ _ _ (by simp)).trans (new_three w _ _ _)
  have hD : w0.heap[w.heap.size + 1 + 1 + 1]? = some (.cells #[.int .i64 0] 3 (0, 0)) := by rw [hw0]; exact new_four w _ _ _ _
  have hT : Touch (· = rb) w w0 := by rw [hw0]; exact (((touch_alloc _ _).andThen (touch_alloc _ _)).andThen (touch_alloc _ _)).andThen (touch_alloc _ _)
  have hP : PgAt rb ao n cap zs s w0 := by rw [hw0]; exact (((h.alloc _).alloc _).alloc _).alloc _
  have HB := hide (pgnum0 rb ao n cap zs s 1 8 _ hP)
  have HSP : Hid (pgWins zs N fr s = ((pgTo (pgWin zs N fr) (pgB zs 1 8 [] s).1.toNat ((pgB zs 1 8 [] s).2, 0)).1, (pgTo (pgWin zs N fr) (pgB zs 1 8 [] s).1.toNat ((pgB zs 1 8 [] s).2, 0)).2.1)) := rfl
  have hm1 := pgB_small zs 1 8 [] s HBY.out
  have hm2 := pgB_le zs 1 8 [] s (by omega)
  generalize (pgB zs 1 8 [] s).1 = M at HSP HB hm1 hm2
  generalize (pgB zs 1 8 [] s).2 = s1 at HSP HB
  have HW := hide hw0
  have H0 := hide (And.intro hA (And.intro hB (And.intro hC (And.intro hD hT))))
  clear h hA hB hC hD hT hP hw0
  go_enter Try.func49, Try.ntmps49
  go_wp2_with fail
  rw [← HW.out]
  refine HB.out.mono ?_
  rintro e w1 ⟨rfl, hp, ht⟩
  obtain ⟨hA, hB, hC, hD, hT⟩ := H0.out
  have hs1 := ht.size
  have hA1 := (ht.block _ (by omega) (by omega)).trans hA
  have hB1 := (ht.block _ (by omega) (by omega)).trans hB
  have hC1 := (ht.block _ (by omega) (by omega)).trans hC
  have hD1 := (ht.block _ (by omega) (by omega)).trans hD
  have hT1 := hT.andThen ht
  have H1 := hide (And.intro hA1 (And.intro hB1 (And.intro hC1 (And.intro hD1 (And.intro hT1 hp)))))
  clear hA hB hC hD hT hA1 hB1 hC1 hD1 hT1 hp ht H0 HB HW
  have hLI := list_win w.heap.size (w.heap.size + 1) (w.heap.size + 1 + 1 + 1) (w.heap.size + 1 + 1) M.toNat (by omega) (fun i => i = rb ∨ i = w.heap.size + 1 + 1 + 1) w1 (fun b hb => by omega) (fun j l wr => l = (pgTo (pgWin zs N fr) j (s1, 0)).1 ∧ PgAt rb ao n cap zs (pgTo (pgWin zs N fr) j (s1, 0)).2.1 wr ∧ wr.heap[w.heap.size + 1 + 1 + 1]? = some (.cells #[.int .i64 (pgTo (pgWin zs N fr) j (s1, 0)).2.2] 3 (0, 0)) ∧ Touch (fun i => i = rb ∨ i = w.heap.size + 1 + 1 + 1) w1 wr)
    (fun j l wr w' hI t => ⟨hI.1, hI.2.1.new (B := w1.heap.size) (by omega) (fun ad e hn => by have := HLT.out ad e hn; omega) (t.mono (fun k hk => hk.1)), (t.block _ (lt_of_block hI.2.2.1) (fun hk => by have := hk.1; omega)).trans hI.2.2.1, hI.2.2.2.andNew (t.mono (fun k hk => hk.1))⟩)
    (fun j l wr hj hI => (pgwin_lit w.heap.size (w.heap.size + 1) (w.heap.size + 1 + 1 + 1) (w.heap.size + 1 + 1) rb ao n cap zs _ N fr _ wr hI.2.1 hN hfr ((hI.2.2.2.block _ (by omega) (by omega)).trans H1.out.1) ((hI.2.2.2.block _ (by omega) (by omega)).trans H1.out.2.1) hI.2.2.1 ((hI.2.2.2.block _ (by omega) (by omega)).trans H1.out.2.2.1) (by omega) (by omega) (by omega) (fun ad e hn => by have := HLT.out ad e hn; omega)).mono (fun e w' ⟨he, hp, hf, ht⟩ => ⟨_, he, ⟨by rw [hI.1]; rfl, hp, hf, hI.2.2.2.andThen ht⟩, ht⟩))
    ⟨rfl, H1.out.2.2.2.2.2, H1.out.2.2.2.1, Touch.refl _ _⟩
  rw [show ((M.toNat : Nat) : Int) = M from by omega] at hLI
  have HLI := hide hLI
  clear hLI
  go_wp2_with fail
  refine HLI.out.mono ?_
  rintro e w5 ⟨v, l, rfl, ⟨hl, hp, hf, ht⟩, hll, hV⟩
  obtain ⟨ad, cv, rfl⟩ := own_slice hV
  have HE : Hid (WinsV w.heap.size (.slice ad l.length cv) (pgWins zs N fr s).1 w5 ∧ PgAt rb ao n cap zs (pgWins zs N fr s).2 w5 ∧ Touch (· = rb) w w5) := by
    rw [HSP.out]
    refine ⟨?_, hp, Touch.trans (T := fun i => i = rb ∨ i = w.heap.size + 1 + 1 + 1) H1.out.2.2.2.2.1 ht (fun i hi => by omega)⟩
    rw [← hl]
    exact own_low hV (by omega)
  clear hl hp hf ht hll hV HLI H1
  go_wp2
  go_ret
  exact ⟨ad, l.length, cv, rfl, HE.out⟩
end Go.Proofs.Ytnjlbgolnbdkaaa
