/- The program's reader: channel, windows. -/
import Derived.Test.YtnjlbgolnbdkaaaQe
namespace Go.Proofs.Ytnjlbgolnbdkaaa
open Go.RowKit

def pgChan (zs : List Int) (N : Int) (s : Rs) : Ch × Rs :=
  let a := pgB zs 0 (N - 1) [] s
  let b := pgB zs 0 (N - 1) [a.1] a.2
  let c := pgB zs 1 4 [] b.2
  (⟨a.1, b.1, c.1⟩, c.2)
def pgWin (zs : List Int) (N fr : Int) (s : Rs × Int) : Wn × (Rs × Int) :=
  let a := pgB zs 0 (N - 1) [] s.1
  let b := pgB zs s.2 (fr - 1) [] a.2
  let c := pgB zs 1 (fr - b.1) [] b.2
  (⟨a.1, b.1, c.1⟩, (c.2, b.1 + c.1))
def three (a b c : Int) : Array Value := #[.int .i64 a, .int .i64 b, .int .i64 c]
theorem one_int (w : World) (a : Int) (T : TypeId) : IntsAt (w.alloc (.cells #[.int .i64 a] T)) (some ⟨w.heap.size, 0, none⟩) [a] := fun i hi => ⟨w.heap.size, 0, rfl, by
  obtain rfl : i = 0 := by simp at hi; omega
  simp⟩

set_option maxRecDepth 100000 in
set_option maxHeartbeats 4000000 in
theorem pgchannel_any (rb : Nat) (ao : Option Addr) (n cap : Nat) (zs : List Int) (s : Rs) (N : Int) (w : World) (h : PgAt rb ao n cap zs s w) (hN : 0 ≤ N ∧ N ≤ 255) :
    Calls Try.prog 52 #[.pointer (some ⟨rb, 0, none⟩), .int .i64 N] w fun e w' => e = .returned (.agg #[.int .i64 (pgChan zs N s).1.src, .int .i64 (pgChan zs N s).1.dst, .int .i64 (pgChan zs N s).1.depth]) ∧ PgAt rb ao n cap zs (pgChan zs N s).2 w' ∧ Touch (· = rb) w w' := by
  have hrb := lt_of_block h.obj
  have HLT : Hid (∀ ad, ao = some ad → 0 < n → ad.block < w.heap.size) := h.held.lt
  have HBY := hide h.held.bytes
  have HM := hide (PMk.start h (three 0 0 0) (three 0 0 0) 95)
  clear h
  have HSP : Hid (pgChan zs N s = (⟨(pgB zs 0 (N - 1) [] s).1, (pgB zs 0 (N - 1) [(pgB zs 0 (N - 1) [] s).1] (pgB zs 0 (N - 1) [] s).2).1, (pgB zs 1 4 [] (pgB zs 0 (N - 1) [(pgB zs 0 (N - 1) [] s).1] (pgB zs 0 (N - 1) [] s).2).2).1⟩, (pgB zs 1 4 [] (pgB zs 0 (N - 1) [(pgB zs 0 (N - 1) [] s).1] (pgB zs 0 (N - 1) [] s).2).2).2)) := rfl
  have HB1 := hide (pgnum0 rb ao n cap zs s 0 (N - 1) _ HM.out.rd)
  have ha := pgB_small zs 0 (N - 1) [] s HBY.out
  generalize (pgB zs 0 (N - 1) [] s).1 = a at HSP HB1 ha
  generalize (pgB zs 0 (N - 1) [] s).2 = r1 at HSP HB1
  go_enter Try.func52, Try.ntmps52
  go_wp2_with fail
  refine HB1.out.mono ?_
  rintro e w1 ⟨rfl, hr1, ht1⟩
  have HM1 := hide (HM.out.byte hrb hr1 ht1)
  have p0 : w1.cell? ⟨w.heap.size + 1, 0, none⟩ = some (.int .i64 0) := by rw [cell_of_row _ _ _ _ _ _ HM1.out.cur]; rfl
  have f0 := free_of_block HM1.out.cur 0
  have hs1 := lt_of_block HM1.out.cur
  clear hr1 ht1 HM HB1
  obtain ⟨w2, hw2⟩ : ∃ w2, w2 = w1.setCell ⟨w.heap.size + 1, 0, none⟩ (.int .i64 a) := ⟨_, rfl⟩
  have hs2 : w2.heap.size = w1.heap.size := by rw [hw2]; simp
  have HM2 : Hid (PMk rb ao n cap zs 95 (three 0 0 0) w (three a 0 0) r1 w2) := by rw [hw2]; exact HM1.out.set hrb HLT.out 0 (.int .i64 a)
  have HM2' : Hid (PMk rb ao n cap zs 95 (three 0 0 0) w (three a 0 0) r1 (w2.alloc (.cells #[.int .i64 a] 3))) := HM2.out.new hrb HLT.out (touch_alloc _ _)
  have HB2 := hide (pgnumber_any rb ao n cap zs r1 0 (N - 1) (some ⟨w2.heap.size, 0, none⟩) 1 [a] _ HM2'.out.rd (one_int w2 a 3) (by simp))
  have hb := pgB_small zs 0 (N - 1) [a] r1 HBY.out
  generalize (pgB zs 0 (N - 1) [a] r1).1 = b at HSP HB2 hb
  generalize (pgB zs 0 (N - 1) [a] r1).2 = r2 at HSP HB2
  rw [hs2, hw2] at HB2
  have HW2 := hide hw2
  have HS2 := hide hs2
  clear hw2 HM1 hs2
  go_wp2_with fail
  refine HB2.out.mono ?_
  rw [← HW2.out]
  rintro e w3 ⟨rfl, hr3, ht3⟩
  have HM3 := hide (HM2'.out.byte hrb hr3 ht3)
  have p1 : w3.cell? ⟨w.heap.size + 1, 1, none⟩ = some (.int .i64 0) := by rw [cell_of_row _ _ _ _ _ _ HM3.out.cur]; rfl
  have f1 := free_of_block HM3.out.cur 1
  clear hr3 ht3 HM2 HM2' HB2 HW2 HS2 p0 f0
  have HM4 : Hid (PMk rb ao n cap zs 95 (three 0 0 0) w (three a b 0) r2 (w3.setCell ⟨w.heap.size + 1, 1, none⟩ (.int .i64 b))) := HM3.out.set hrb HLT.out 1 (.int .i64 b)
  have HB3 := hide (pgnum0 rb ao n cap zs r2 1 4 _ HM4.out.rd)
  have hc := pgB_small zs 1 4 [] r2 HBY.out
  generalize (pgB zs 1 4 [] r2).1 = c at HSP HB3 hc
  generalize (pgB zs 1 4 [] r2).2 = r3 at HSP HB3
  go_wp2_with fail
  refine HB3.out.mono ?_
  rintro e w5 ⟨rfl, hr5, ht5⟩
  have HM5 := hide (HM4.out.byte hrb hr5 ht5)
  have hcur := HM5.out.cur
  have hzero := HM5.out.zero
  have x0 : w5.cell? ⟨w.heap.size + 1, 0, none⟩ = some (.int .i64 a) := by rw [cell_of_row _ _ _ _ _ _ hcur]; rfl
  have x1 : w5.cell? ⟨w.heap.size + 1, 1, none⟩ = some (.int .i64 b) := by rw [cell_of_row _ _ _ _ _ _ hcur]; rfl
  have x2 : w5.cell? ⟨w.heap.size + 1, 2, none⟩ = some (.int .i64 0) := by rw [cell_of_row _ _ _ _ _ _ hcur]; rfl
  have f2 := free_of_block hcur 2
  have q0 : w5.cell? ⟨w.heap.size, 0, none⟩ = some (.int .i64 0) := by rw [cell_of_row _ _ _ _ _ _ hzero]; rfl
  have q1 : w5.cell? ⟨w.heap.size, 1, none⟩ = some (.int .i64 0) := by rw [cell_of_row _ _ _ _ _ _ hzero]; rfl
  have q2 : w5.cell? ⟨w.heap.size, 2, none⟩ = some (.int .i64 0) := by rw [cell_of_row _ _ _ _ _ _ hzero]; rfl
  have g0 := free_of_block hzero 0
  have g1 := free_of_block hzero 1
  have g2 := free_of_block hzero 2
  clear hr5 ht5 HM4 HB3 HM3 p1 f1 hcur hzero
  have HOK : Hid (∀ W', Touch (fun i => i = w.heap.size ∨ i = w.heap.size + 1) w5 W' → PgAt rb ao n cap zs r3 W' ∧ Touch (· = rb) w W') := fun W' t => ⟨HM5.out.rd.new hrb HLT.out (t.mono (fun k hk => by omega)), HM5.out.t.andNew (t.mono (fun k hk => by omega))⟩
  go_wp2
  refine bodyPost_ret (v := .agg #[.int .i64 a, .int .i64 b, .int .i64 c]) (by simp [results, Try.results52, go_sem, q0, q1, q2]) rfl ?_
  rw [HSP.out]
  refine ⟨rfl, HOK.out _ ?_⟩
  iterate 3 refine Touch.thenSet (g := w.heap.size) ?_ _ _ (.inl rfl)
  refine Touch.thenSet (g := w.heap.size + 1) ?_ _ _ (.inr rfl)
  exact Touch.refl _ _

set_option maxRecDepth 100000 in
set_option maxHeartbeats 2000000 in
theorem pgchan_lit (p1 p2 : Nat) (rb : Nat) (ao : Option Addr) (n cap : Nat) (zs : List Int) (s : Rs) (N : Int) (w : World) (h : PgAt rb ao n cap zs s w) (hN : 0 ≤ N ∧ N ≤ 255) (h1 : w.heap[p1]? = some (.cells #[.pointer (some ⟨rb, 0, none⟩)] 80 (0, 0))) (h2 : w.heap[p2]? = some (.cells #[.int .i64 N] 3 (0, 0))) :
    Calls Try.prog 51 #[.pointer (some ⟨p1, 0, none⟩), .pointer (some ⟨p2, 0, none⟩)] w fun e w' => e = .returned (.agg #[.int .i64 (pgChan zs N s).1.src, .int .i64 (pgChan zs N s).1.dst, .int .i64 (pgChan zs N s).1.depth]) ∧ PgAt rb ao n cap zs (pgChan zs N s).2 w' ∧ Touch (· = rb) w w' := by
  have hrb := lt_of_block h.obj
  have HLT := hide h.held.lt
  have hl1 := lt_of_block h1
  have hl2 := lt_of_block h2
  have c1 : w.cell? ⟨p1, 0, none⟩ = some (.pointer (some ⟨rb, 0, none⟩)) := by rw [cell_of_row _ _ _ _ _ _ h1]; rfl
  have c2 : w.cell? ⟨p2, 0, none⟩ = some (.int .i64 N) := by rw [cell_of_row _ _ _ _ _ _ h2]; rfl
  have HB := hide (pgchannel_any rb ao n cap zs s N _ (h.alloc (.cells (three 0 0 0) 95)) hN)
  clear h h1 h2 hN
  generalize pgChan zs N s = q at HB ⊢
  go_enter Try.func51, Try.ntmps51
  go_wp2_with fail
  refine HB.out.mono ?_
  rintro e w1 ⟨rfl, hp, ht⟩
  have hs1 := ht.size
  simp at hs1
  have hB1 : w1.heap[w.heap.size]? = some (.cells (three 0 0 0) 95 (0, 0)) := (ht.block _ (by simp) (by omega)).trans (heap_alloc_new w _)
  have q0 : w1.cell? ⟨w.heap.size, 0, none⟩ = some (.int .i64 0) := by rw [cell_of_row _ _ _ _ _ _ hB1]; rfl
  have q1 : w1.cell? ⟨w.heap.size, 1, none⟩ = some (.int .i64 0) := by rw [cell_of_row _ _ _ _ _ _ hB1]; rfl
  have q2 : w1.cell? ⟨w.heap.size, 2, none⟩ = some (.int .i64 0) := by rw [cell_of_row _ _ _ _ _ _ hB1]; rfl
  have g0 := free_of_block hB1 0
  have g1 := free_of_block hB1 1
  have g2 := free_of_block hB1 2
  have H := hide (And.intro hp ((touch_alloc w _).andThen ht))
  clear hp ht hB1 HB
  go_wp2
  refine bodyPost_ret (v := .agg #[.int .i64 q.1.src, .int .i64 q.1.dst, .int .i64 q.1.depth]) (by simp [results, Try.results51, go_sem, q0, q1, q2]) rfl ?_
  have HOK : Hid (∀ W', Touch (fun i => i = w.heap.size) w1 W' → PgAt rb ao n cap zs q.2 W' ∧ Touch (· = rb) w W') := fun W' t => ⟨H.out.1.new hrb HLT.out (t.mono (fun k hk => by omega)), H.out.2.andNew (t.mono (fun k hk => by omega))⟩
  refine ⟨rfl, HOK.out _ ?_⟩
  iterate 3 refine Touch.thenSet (g := w.heap.size) ?_ _ _ rfl
  exact Touch.refl _ _
end Go.Proofs.Ytnjlbgolnbdkaaa
