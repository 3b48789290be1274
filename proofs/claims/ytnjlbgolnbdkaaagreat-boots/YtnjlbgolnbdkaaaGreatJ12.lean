/- Texts of the proof of Boots, one behind the other. -/
import Derived.Test.YtnjlbgolnbdkaaaGreatJ11
import Derived.Test.YtnjlbgolnbdkaaaGreatJ07
/- The program's reader: action, instruction, process. -/
namespace Go.Proofs.YtnjlbgolnbdkaaaGreat
open Go.RowKit

def pgTo {α σ : Type} (f : σ → α × σ) : Nat → σ → List α × σ
  | 0, s => ([], s)
  | k + 1, s => ((pgTo f k s).1 ++ [(f (pgTo f k s).2).1], (f (pgTo f k s).2).2)
def pgIns (zs : List Int) (n : Int) (s : Rs) : (Int × Int) × Rs :=
  let a := pgB zs 0 13 [] s
  let b := pgB zs 0 (if a.1 = 4 then n - 1 else 255) [] a.2
  ((a.1, b.1), b.2)
def pgProc (zs : List Int) (s : Rs) : Pr × Rs :=
  let a := pgB zs 0 9 [] s
  let m := pgB zs 1 20 [] a.2
  let c := pgTo (pgIns zs m.1) m.1.toNat m.2
  (⟨a.1, c.1⟩, c.2)
def pgAct (zs : List Int) (c : Nat) (s : Rs) : Int × Rs := if c = 5 then pgB zs 1 7 [2, 3] s else pgB zs 1 7 [] s

theorem touch_alloc {S : Nat → Prop} (w : World) (o : Obj) : Touch S w (w.alloc o) := Touch.ofBelow ((Below.refl _ _).alloc (Nat.le_refl _) _)
theorem Touch.andThen {S : Nat → Prop} {a b c : World} (h : Touch S a b) (k : Touch S b c) : Touch S a c := Touch.trans (T := S) h k (fun _ h => .inl h)
theorem Touch.andNew {S : Nat → Prop} {a b c : World} (h : Touch S a b) (k : Touch (fun i => a.heap.size ≤ i) b c) : Touch S a c := Touch.trans (T := fun i => a.heap.size ≤ i) h k (fun _ h => .inr h)
section
variable {rb : Nat} {ao : Option Addr} {n cap : Nat} {zs : List Int} {s : Rs} {w w' : World}
theorem PgAt.alloc (h : PgAt rb ao n cap zs s w) (o : Obj) : PgAt rb ao n cap zs s (w.alloc o) := h.keep (S := fun _ => False) (touch_alloc w o) (fun h => h) (fun _ _ _ h => h)
theorem PgAt.new (h : PgAt rb ao n cap zs s w) {B : Nat} (hB : rb < B) (hz : ∀ ad, ao = some ad → 0 < n → ad.block < B) (t : Touch (fun i => B ≤ i) w w') : PgAt rb ao n cap zs s w' := h.keep t (by omega) (fun ad e hn hs => by have := hz ad e hn; omega)
end

theorem pgnum0 (rb : Nat) (ao : Option Addr) (n cap : Nat) (zs : List Int) (s : Rs) (lo hi : Int) (w : World) (h : PgAt rb ao n cap zs s w) :
    Calls Tryz.prog 80 #[.pointer (some ⟨rb, 0, none⟩), .int .i64 lo, .int .i64 hi, .slice none 0 0] w fun e w' => e = .returned (.int .i64 (pgB zs lo hi [] s).1) ∧ PgAt rb ao n cap zs (pgB zs lo hi [] s).2 w' ∧ Touch (· = rb) w w' :=
  pgnumber_any rb ao n cap zs s lo hi none 0 [] w h (ints_none w) (by simp)

set_option maxRecDepth 100000 in
set_option maxHeartbeats 2000000 in
theorem pgaction_any (rb : Nat) (ao : Option Addr) (n cap : Nat) (zs : List Int) (s : Rs) (c : Nat) (w : World) (h : PgAt rb ao n cap zs s w) (hc : c < 6) :
    Calls Tryz.prog 118 #[.pointer (some ⟨rb, 0, none⟩), .int .i64 c] w fun e w' => e = .returned (.int .i64 (pgAct zs c s).1) ∧ PgAt rb ao n cap zs (pgAct zs c s).2 w' ∧ Touch (· = rb) w w' := by
  by_cases h5 : c = 5
  · subst h5
    have HB := hide (pgnumber_any rb ao n cap zs s 1 7 (some ⟨w.heap.size, 0, none⟩) 2 [2, 3] _ (h.alloc (.cells #[.int .i64 2, .int .i64 3] 3)) (fun i hi => ⟨w.heap.size, 0, rfl, by
      rcases (show i = 0 ∨ i = 1 from by simp at hi; omega) with rfl | rfl <;> simp⟩) (by simp))
    have HA : Hid (pgAct zs 5 s = pgB zs 1 7 [2, 3] s) := rfl
    clear h hc
    go_enter Tryz.func118, Tryz.ntmps118
    go_wp2_with fail
    refine HB.out.mono ?_
    rintro e w1 ⟨rfl, hp, ht⟩
    have H := hide (And.intro hp ht)
    clear hp ht
    go_wp2
    go_ret
    rw [HA.out]
    exact ⟨rfl, H.out.1, (touch_alloc w _).andThen H.out.2⟩
  · have hb : ((c : Int) == 5) = false := by simp; omega
    have HB := hide (pgnum0 rb ao n cap zs s 1 7 w h)
    have HA : Hid (pgAct zs c s = pgB zs 1 7 [] s) := by show _ = _; unfold pgAct; rw [if_neg h5]
    clear h hc h5
    go_enter Tryz.func118, Tryz.ntmps118
    go_wp2_with fail
    refine HB.out.mono ?_
    rintro e w1 ⟨rfl, hp, ht⟩
    have H := hide (And.intro hp ht)
    clear hp ht
    go_wp2
    go_ret
    rw [HA.out]
    exact ⟨rfl, H.out⟩

set_option maxRecDepth 100000 in
set_option maxHeartbeats 2000000 in
theorem pginstr_any (rb : Nat) (ao : Option Addr) (n cap : Nat) (zs : List Int) (s : Rs) (N : Int) (w : World) (h : PgAt rb ao n cap zs s w) (hN : 0 ≤ N ∧ N ≤ 255) :
    Calls Tryz.prog 165 #[.pointer (some ⟨rb, 0, none⟩), .int .i64 N] w fun e w' => e = .returned (.agg #[.int .i64 (pgIns zs N s).1.1, .int .i64 (pgIns zs N s).1.2]) ∧ PgAt rb ao n cap zs (pgIns zs N s).2 w' ∧ Touch (· = rb) w w' := by
  have hrb := lt_of_block h.obj
  have HLT := hide h.held.lt
  have HIN : Hid (pgIns zs N s = (((pgB zs 0 13 [] s).1, (pgB zs 0 (if (pgB zs 0 13 [] s).1 = 4 then N - 1 else 255) [] (pgB zs 0 13 [] s).2).1), (pgB zs 0 (if (pgB zs 0 13 [] s).1 = 4 then N - 1 else 255) [] (pgB zs 0 13 [] s).2).2)) := rfl
  have HB := hide (pgnum0 rb ao n cap zs s 0 13 _ (h.alloc (.cells #[.int .i64 0, .int .i64 0] 210)))
  have hopb := pgB_small zs 0 13 [] s h.held.bytes
  have HBY := hide h.held.bytes
  clear h
  generalize (pgB zs 0 13 [] s).1 = op at HIN HB hopb
  generalize (pgB zs 0 13 [] s).2 = s1 at HIN HB
  go_enter Tryz.func165, Tryz.ntmps165
  go_wp2_with fail
  refine HB.out.mono ?_
  rintro e w1 ⟨rfl, hp, ht⟩
  have hs1 := ht.size
  simp at hs1
  have hB1 : w1.heap[w.heap.size]? = some (.cells #[.int .i64 0, .int .i64 0] 210 (0, 0)) := (ht.block _ (by simp) (by omega)).trans (heap_alloc_new w _)
  have HT1 : Hid (Touch (· = rb) w w1) := (touch_alloc w _).andThen ht
  obtain ⟨hiv, hhi⟩ : ∃ hiv, hiv = (if op = 4 then N - 1 else 255) := ⟨_, rfl⟩
  rw [← hhi] at HIN
  have HB2 := hide (pgnum0 rb ao n cap zs s1 0 hiv w1 hp)
  have harb := pgB_small zs 0 hiv [] s1 HBY.out
  generalize (pgB zs 0 hiv [] s1).1 = arg at HIN HB2 harb
  generalize (pgB zs 0 hiv [] s1).2 = s2 at HIN HB2
  have HB1 := hide hB1
  have hb4 : ((op == 4) = true ∧ hiv = N - 1) ∨ ((op == 4) = false ∧ hiv = 255) := by
    by_cases h4 : op = 4
    · exact .inl ⟨by simp [h4], by rw [hhi, if_pos h4]⟩
    · exact .inr ⟨by simpa using h4, by rw [hhi, if_neg h4]⟩
  clear hhi hp ht hB1 HB
  rcases hb4 with ⟨b4, hh⟩ | ⟨b4, hh⟩
  all_goals
    rw [hh] at HB2
    clear hh
    go_wp2_with fail
    refine HB2.out.mono ?_
    rintro e w2 ⟨rfl, hp2, ht2⟩
    have hs2 := ht2.size
    have hB2 : w2.heap[w.heap.size]? = some (.cells #[.int .i64 0, .int .i64 0] 210 (0, 0)) := (ht2.block _ (by omega) (by omega)).trans HB1.out
    have q0 : w2.cell? ⟨w.heap.size, 0, none⟩ = some (.int .i64 0) := by rw [cell_of_row _ _ _ _ _ _ hB2]; rfl
    have q1 : w2.cell? ⟨w.heap.size, 1, none⟩ = some (.int .i64 0) := by rw [cell_of_row _ _ _ _ _ _ hB2]; rfl
    have g0 := free_of_block hB2 0
    have g1 := free_of_block hB2 1
    have H := hide (And.intro hp2 (HT1.out.andThen ht2))
    clear hp2 ht2 hB2 HB2
    go_wp2
    refine bodyPost_ret (v := .agg #[.int .i64 op, .int .i64 arg]) (by simp [results, Tryz.results165, go_sem, q0, q1]) rfl ?_
    have tS : Touch (fun i => w.heap.size ≤ i) w2 ((w2.setCell ⟨w.heap.size, 0, none⟩ (.int .i64 op)).setCell ⟨w.heap.size, 1, none⟩ (.int .i64 arg)) := Touch.andThen (Touch.ofSet w2 _ 0 _ (Nat.le_refl _)) (Touch.ofSet _ _ 1 _ (Nat.le_refl _))
    rw [HIN.out]
    exact ⟨rfl, H.out.1.new hrb HLT.out tS, H.out.2.andNew tS⟩

set_option maxRecDepth 100000 in
set_option maxHeartbeats 2000000 in
theorem pginstr_lit (p1 p2 : Nat) (rb : Nat) (ao : Option Addr) (n cap : Nat) (zs : List Int) (s : Rs) (N : Int) (w : World) (h : PgAt rb ao n cap zs s w) (hN : 0 ≤ N ∧ N ≤ 255) (h1 : w.heap[p1]? = some (.cells #[.pointer (some ⟨rb, 0, none⟩)] 102 (0, 0))) (h2 : w.heap[p2]? = some (.cells #[.int .i64 N] 3 (0, 0))) :
    Calls Tryz.prog 164 #[.pointer (some ⟨p1, 0, none⟩), .pointer (some ⟨p2, 0, none⟩)] w fun e w' => e = .returned (.agg #[.int .i64 (pgIns zs N s).1.1, .int .i64 (pgIns zs N s).1.2]) ∧ PgAt rb ao n cap zs (pgIns zs N s).2 w' ∧ Touch (· = rb) w w' := by
  have hrb := lt_of_block h.obj
  have HLT := hide h.held.lt
  have hl1 := lt_of_block h1
  have hl2 := lt_of_block h2
  have c1 : w.cell? ⟨p1, 0, none⟩ = some (.pointer (some ⟨rb, 0, none⟩)) := by rw [cell_of_row _ _ _ _ _ _ h1]; rfl
  have c2 : w.cell? ⟨p2, 0, none⟩ = some (.int .i64 N) := by rw [cell_of_row _ _ _ _ _ _ h2]; rfl
  have HB := hide (pginstr_any rb ao n cap zs s N _ (h.alloc (.cells #[.int .i64 0, .int .i64 0] 210)) hN)
  clear h h1 h2 hN
  generalize pgIns zs N s = q at HB ⊢
  go_enter Tryz.func164, Tryz.ntmps164
  go_wp2_with fail
  refine HB.out.mono ?_
  rintro e w1 ⟨rfl, hp, ht⟩
  have hs1 := ht.size
  simp at hs1
  have hB1 : w1.heap[w.heap.size]? = some (.cells #[.int .i64 0, .int .i64 0] 210 (0, 0)) := (ht.block _ (by simp) (by omega)).trans (heap_alloc_new w _)
  have q0 : w1.cell? ⟨w.heap.size, 0, none⟩ = some (.int .i64 0) := by rw [cell_of_row _ _ _ _ _ _ hB1]; rfl
  have q1 : w1.cell? ⟨w.heap.size, 1, none⟩ = some (.int .i64 0) := by rw [cell_of_row _ _ _ _ _ _ hB1]; rfl
  have g0 := free_of_block hB1 0
  have g1 := free_of_block hB1 1
  have H := hide (And.intro hp ((touch_alloc w _).andThen ht))
  clear hp ht hB1 HB
  go_wp2
  refine bodyPost_ret (v := .agg #[.int .i64 q.1.1, .int .i64 q.1.2]) (by simp [results, Tryz.results164, go_sem, q0, q1]) rfl ?_
  have tS : Touch (fun i => w.heap.size ≤ i) w1 ((w1.setCell ⟨w.heap.size, 0, none⟩ (.int .i64 q.1.1)).setCell ⟨w.heap.size, 1, none⟩ (.int .i64 q.1.2)) := Touch.andThen (Touch.ofSet w1 _ 0 _ (Nat.le_refl _)) (Touch.ofSet _ _ 1 _ (Nat.le_refl _))
  exact ⟨rfl, H.out.1.new hrb HLT.out tS, H.out.2.andNew tS⟩
end Go.Proofs.YtnjlbgolnbdkaaaGreat
/- The program's reader: process. -/
namespace Go.Proofs.YtnjlbgolnbdkaaaGreat
open Go.RowKit

theorem new_two (w : World) (o1 o2 : Obj) : ((w.alloc o1).alloc o2).heap[w.heap.size + 1]? = some o2 := by
  have h := heap_alloc_new (w.alloc o1) o2
  rw [show (w.alloc o1).heap.size = w.heap.size + 1 from by simp] at h
  exact h
theorem new_three (w : World) (o1 o2 o3 : Obj) : (((w.alloc o1).alloc o2).alloc o3).heap[w.heap.size + 1 + 1]? = some o3 := by
  have h := heap_alloc_new ((w.alloc o1).alloc o2) o3
  rw [show ((w.alloc o1).alloc o2).heap.size = w.heap.size + 1 + 1 from by simp] at h
  exact h
theorem cap_code {v : Value} {base : Nat} {code : List (Int × Int)} {w : World} (h : CodeV base v code w) : ∃ ad c, v = .slice ad code.length c := own_slice h

set_option maxRecDepth 100000 in
set_option maxHeartbeats 4000000 in
theorem pgprocess_any (rb : Nat) (ao : Option Addr) (n cap : Nat) (zs : List Int) (s : Rs) (w : World) (h : PgAt rb ao n cap zs s w) :
    Calls Tryz.prog 120 #[.pointer (some ⟨rb, 0, none⟩)] w fun e w' => ∃ ad m c, e = .returned (.agg #[.int .i64 (pgProc zs s).1.prio, .slice ad m c]) ∧ CodeV w.heap.size (.slice ad m c) (pgProc zs s).1.code w' ∧ PgAt rb ao n cap zs (pgProc zs s).2 w' ∧ Touch (· = rb) w w' := by
  have hrb := lt_of_block h.obj
  have HLT : Hid (∀ ad, ao = some ad → 0 < n → ad.block < w.heap.size) := h.held.lt
  have HBY := hide h.held.bytes
  have HSP : Hid (pgProc zs s = (⟨(pgB zs 0 9 [] s).1, (pgTo (pgIns zs (pgB zs 1 20 [] (pgB zs 0 9 [] s).2).1) (pgB zs 1 20 [] (pgB zs 0 9 [] s).2).1.toNat (pgB zs 1 20 [] (pgB zs 0 9 [] s).2).2).1⟩, (pgTo (pgIns zs (pgB zs 1 20 [] (pgB zs 0 9 [] s).2).1) (pgB zs 1 20 [] (pgB zs 0 9 [] s).2).1.toNat (pgB zs 1 20 [] (pgB zs 0 9 [] s).2).2).2)) := rfl
  obtain ⟨w0, hw0⟩ : ∃ w0, w0 = (((w.alloc (.cells #[.pointer (some ⟨rb, 0, none⟩)] 102)).alloc (.cells #[.int .i64 0, .slice none 0 0] 190)).alloc (.cells #[.int .i64 0, .slice none 0 0] 190)) := ⟨_, rfl⟩
  have hs0 : w0.heap.size = w.heap.size + 3 := by rw [hw0]; simp
  have hA0 : w0.heap[w.heap.size]? = some (.cells #[.pointer (some ⟨rb, 0, none⟩)] 102 (0, 0)) := by rw [hw0]; exact (Below.heap_alloc _ _ _ (by simp; omega)).trans ((Below.heap_alloc _ _ _ (by simp)).trans (heap_alloc_new w _))
  have hB0 : w0.heap[w.heap.size + 1]? = some (.cells #[.int .i64 0, .slice none 0 0] 190 (0, 0)) := by rw [hw0]; exact (Below.heap_alloc _ _ _ (by simp)).trans (new_two w _ _)
  have hC0 : w0.heap[w.heap.size + 1 + 1]? = some (.cells #[.int .i64 0, .slice none 0 0] 190 (0, 0)) := by rw [hw0]; exact new_three w _ _ _
  have hT0 : Touch (· = rb) w w0 := by rw [hw0]; exact ((touch_alloc _ _).andThen (touch_alloc _ _)).andThen (touch_alloc _ _)
  have hP0 : PgAt rb ao n cap zs s w0 := by rw [hw0]; exact ((h.alloc _).alloc _).alloc _
  have HB := hide (pgnum0 rb ao n cap zs s 0 9 _ hP0)
  have HW := hide hw0
  have H0 := hide (And.intro hA0 (And.intro hB0 (And.intro hC0 hT0)))
  have hprb := pgB_small zs 0 9 [] s HBY.out
  generalize (pgB zs 0 9 [] s).1 = prio at HSP HB hprb
  generalize (pgB zs 0 9 [] s).2 = s1 at HSP HB
  clear h hA0 hB0 hC0 hT0 hP0 hw0
  have a0 : w0.cell? ⟨w.heap.size, 0, none⟩ = some (.pointer (some ⟨rb, 0, none⟩)) := by rw [cell_of_row _ _ _ _ _ _ H0.out.1]; rfl
  go_enter Tryz.func120, Tryz.ntmps120
  go_wp2_with fail
  rw [← HW.out]
  refine HB.out.mono ?_
  rintro e w1 ⟨rfl, hp, ht⟩
  obtain ⟨hA0, hB0, hC0, hT0⟩ := H0.out
  have hs1 := ht.size
  have hA1 := (ht.block _ (by omega) (by omega)).trans hA0
  have hB1 := (ht.block _ (by omega) (by omega)).trans hB0
  have hC1 := (ht.block _ (by omega) (by omega)).trans hC0
  have hT1 := hT0.andThen ht
  obtain ⟨w2, hw2⟩ : ∃ w2, w2 = w1.setCell ⟨w.heap.size + 1 + 1, 0, none⟩ (.int .i64 prio) := ⟨_, rfl⟩
  have tS : Touch (fun i => i = w.heap.size + 1 + 1) w1 w2 := by rw [hw2]; exact Touch.ofSet w1 _ 0 _ rfl
  have hs2 : w2.heap.size = w1.heap.size := by rw [hw2]; simp
  have hA2 := (tS.block _ (by omega) (by omega)).trans hA1
  have hB2 := (tS.block _ (by omega) (by omega)).trans hB1
  have hC2 : w2.heap[w.heap.size + 1 + 1]? = some (.cells #[.int .i64 prio, .slice none 0 0] 190 (0, 0)) := by rw [hw2]; exact block_set hC1 0 _
  have hT2 : Touch (· = rb) w w2 := hT1.andNew (tS.mono (fun k hk => by omega))
  have hP2 : PgAt rb ao n cap zs s1 w2 := hp.new hrb HLT.out (tS.mono (fun k hk => by omega))
  have HB2 := hide (pgnum0 rb ao n cap zs s1 1 20 _ hP2)
  have hmb := pgB_small zs 1 20 [] s1 HBY.out
  have hmb2 := pgB_le zs 1 20 [] s1 (by omega)
  generalize (pgB zs 1 20 [] s1).1 = N at HSP HB2 hmb hmb2
  generalize (pgB zs 1 20 [] s1).2 = s2 at HSP HB2
  have f0 := free_of_block hC1 0
  have z0 : w1.cell? ⟨w.heap.size + 1 + 1, 0, none⟩ = some (.int .i64 0) := by rw [cell_of_row _ _ _ _ _ _ hC1]; rfl
  have a1 : w1.cell? ⟨w.heap.size, 0, none⟩ = some (.pointer (some ⟨rb, 0, none⟩)) := by rw [cell_of_row _ _ _ _ _ _ hA1]; rfl
  have HW2 := hide hw2
  have H2 := hide (And.intro hA2 (And.intro hB2 (And.intro hC2 hT2)))
  clear hA0 hB0 hC0 hT0 hA1 hB1 hC1 hT1 hA2 hB2 hC2 hT2 hP2 hp ht tS hw2 H0 HB a0 HW
  go_wp2_with fail
  rw [← HW2.out]
  refine HB2.out.mono ?_
  rintro e w3 ⟨rfl, hp, ht⟩
  obtain ⟨hA2, hB2, hC2, hT2⟩ := H2.out
  have hs3 := ht.size
  have hA3 := (ht.block _ (by omega) (by omega)).trans hA2
  have hB3 := (ht.block _ (by omega) (by omega)).trans hB2
  have hC3 := (ht.block _ (by omega) (by omega)).trans hC2
  have hT3 := hT2.andThen ht
  obtain ⟨w4, hw4⟩ : ∃ w4, w4 = w3.alloc (.cells #[.int .i64 N] 3) := ⟨_, rfl⟩
  have t4 : Touch (· = rb) w3 w4 := by rw [hw4]; exact touch_alloc _ _
  have hs4 : w4.heap.size = w3.heap.size + 1 := by rw [hw4]; simp
  have hA4 := (t4.block _ (by omega) (by omega)).trans hA3
  have hB4 := (t4.block _ (by omega) (by omega)).trans hB3
  have hC4 := (t4.block _ (by omega) (by omega)).trans hC3
  have hD4 : w4.heap[w3.heap.size]? = some (.cells #[.int .i64 N] 3 (0, 0)) := by rw [hw4]; exact heap_alloc_new w3 _
  have hT4 := hT3.andThen t4
  have hP4 : PgAt rb ao n cap zs s2 w4 := by rw [hw4]; exact hp.alloc _
  have HW4 := hide hw4
  have H4 := hide (And.intro hA4 (And.intro hB4 (And.intro hC4 (And.intro hT4 (And.intro hD4 hP4)))))
  clear hA2 hB2 hC2 hT2 hA3 hB3 hC3 hT3 hA4 hB4 hC4 hT4 hD4 hP4 hp ht t4 hw4 H2 HB2 f0 z0 a1 HW2
  have hLI := list_ins w.heap.size w3.heap.size N.toNat (by omega) (· = rb) w4 (fun b hb => by omega) (fun j l wr => l = (pgTo (pgIns zs N) j s2).1 ∧ PgAt rb ao n cap zs (pgTo (pgIns zs N) j s2).2 wr ∧ Touch (· = rb) w4 wr)
    (fun j l wr w' hI t => ⟨hI.1, hI.2.1.new (B := w4.heap.size) (by omega) (fun ad e hn => by have := HLT.out ad e hn; omega) (t.mono (fun k hk => hk.1)), hI.2.2.andNew (t.mono (fun k hk => hk.1))⟩)
    (fun j l wr hj hI => (pginstr_lit w.heap.size w3.heap.size rb ao n cap zs _ N wr hI.2.1 (by omega) ((hI.2.2.block _ (by omega) (by omega)).trans H4.out.1) ((hI.2.2.block _ (by omega) (by omega)).trans H4.out.2.2.2.2.1)).mono (fun e w' ⟨he, hp, ht⟩ => ⟨_, _, he, ⟨by rw [hI.1]; rfl, hp, hI.2.2.andThen ht⟩, ht⟩))
    ⟨rfl, H4.out.2.2.2.2.2, Touch.refl _ _⟩
  rw [show ((N.toNat : Nat) : Int) = N from by omega] at hLI
  have HLI := hide hLI
  clear hLI
  go_wp2_with fail
  rw [← HW4.out]
  refine HLI.out.mono ?_
  rintro e w5 ⟨v, l, rfl, ⟨hl, hp, ht⟩, hll, hV⟩
  obtain ⟨hA4, hB4, hC4, hT4, hD4, hP4⟩ := H4.out
  have hs5 := ht.size
  have hB5 := (ht.block _ (by omega) (by omega)).trans hB4
  have hC5 := (ht.block _ (by omega) (by omega)).trans hC4
  have hT5 := hT4.andThen ht
  obtain ⟨ad, cv, rfl⟩ := own_slice hV
  have HSP2 : Hid (pgProc zs s = (⟨prio, l⟩, (pgTo (pgIns zs N) N.toNat s2).2)) := by show _ = _; rw [HSP.out, hl]
  generalize (pgTo (pgIns zs N) N.toNat s2).2 = s3 at HSP2 hp
  have p0 : w5.cell? ⟨w.heap.size + 1 + 1, 0, none⟩ = some (.int .i64 prio) := by rw [cell_of_row _ _ _ _ _ _ hC5]; rfl
  have p1 : w5.cell? ⟨w.heap.size + 1 + 1, 1, none⟩ = some (.slice none 0 0) := by rw [cell_of_row _ _ _ _ _ _ hC5]; rfl
  have q0 : w5.cell? ⟨w.heap.size + 1, 0, none⟩ = some (.int .i64 0) := by rw [cell_of_row _ _ _ _ _ _ hB5]; rfl
  have q1 : w5.cell? ⟨w.heap.size + 1, 1, none⟩ = some (.slice none 0 0) := by rw [cell_of_row _ _ _ _ _ _ hB5]; rfl
  have f1 := free_of_block hC5 1
  have g0 := free_of_block hB5 0
  have g1 := free_of_block hB5 1
  have H5 := hide (And.intro hp (And.intro hT5 hV))
  clear hA4 hB4 hC4 hT4 hD4 hP4 hB5 hC5 hT5 hp ht hl hll hV H4 HLI HW4
  go_wp2
  refine bodyPost_ret (v := .agg #[.int .i64 prio, .slice ad l.length cv]) (by simp [results, Tryz.results120, go_sem, q0, q1]) rfl ?_
  have tS : Touch (fun i => i = w.heap.size + 1 + 1 ∨ i = w.heap.size + 1) w5 (((w5.setCell ⟨w.heap.size + 1 + 1, 1, none⟩ (.slice ad l.length cv)).setCell ⟨w.heap.size + 1, 0, none⟩ (.int .i64 prio)).setCell ⟨w.heap.size + 1, 1, none⟩ (.slice ad l.length cv)) := Touch.andThen (Touch.andThen (Touch.ofSet w5 _ 1 _ (.inl rfl)) (Touch.ofSet _ _ 0 _ (.inr rfl))) (Touch.ofSet _ _ 1 _ (.inr rfl))
  rw [HSP2.out]
  obtain ⟨hp, hT5, hV⟩ := H5.out
  refine ⟨ad, l.length, cv, rfl, ?_, hp.new hrb HLT.out (tS.mono (fun k hk => by omega)), hT5.andNew (tS.mono (fun k hk => by omega))⟩
  exact own_low (own_keep hV (fun b e => tS.block b (World.ownsRow.lt hV b e).2 (by have := (World.ownsRow.lt hV b e).1; omega))) (by omega)
end Go.Proofs.YtnjlbgolnbdkaaaGreat
/- How a configuration lies in memory, its lists apart from each other. -/
namespace Go.Proofs.YtnjlbgolnbdkaaaGreat
open Go.RowKit

def Aparts (l : List (Pr × Value)) : Prop := l.Pairwise fun a b => ∀ x, a.2.ownBlock = some x → b.2.ownBlock ≠ some x
def ProcsIn (lo hi : Nat) (v : Value) (ps : List Pr) (w : World) : Prop := ∃ l : List (Pr × Value), l.map Prod.fst = ps ∧ w.ownsRow lo 190 2 v l.length (procCells l) ∧ (∀ b, v.ownBlock = some b → b < hi) ∧ (∀ p ∈ l, CodeV lo p.2 p.1.code w ∧ ∀ b, p.2.ownBlock = some b → b < hi) ∧ Aparts l
section
variable {lo hi lo' hi' bs bs' : Nat} {v vP vW vC : Value} {ps : List Pr} {pts : List Pt} {cf : Cf} {w w' : World}
theorem ProcsIn.procs (h : ProcsIn lo hi v ps w) : ProcsV lo v ps w := by
  obtain ⟨l, h1, h2, _, h4, _⟩ := h
  exact ⟨l, h1, h2, fun p hp => (h4 p hp).1⟩
theorem ProcsIn.keep (h : ProcsIn lo hi v ps w) (hs : ∀ b, lo ≤ b → b < hi → b < w.heap.size → OfType w b (fun t => t = 210 ∨ t = 190) → w'.heap[b]? = w.heap[b]?) : ProcsIn lo hi v ps w' := by
  obtain ⟨l, h1, h2, h3, h4, h5⟩ := h
  refine ⟨l, h1, own_keep h2 (fun b e => ?_), h3, fun p hp => ⟨own_keep (h4 p hp).1 (fun b e => ?_), (h4 p hp).2⟩, h5⟩
  · obtain ⟨cur, hc⟩ := own_of h2 e
    exact hs b (World.ownsRow.lt h2 b e).1 (h3 b e) (World.ownsRow.lt h2 b e).2 ⟨cur, 190, .inr rfl, hc⟩
  · obtain ⟨cur, hc⟩ := own_of (h4 p hp).1 e
    exact hs b (World.ownsRow.lt (h4 p hp).1 b e).1 ((h4 p hp).2 b e) (World.ownsRow.lt (h4 p hp).1 b e).2 ⟨cur, 210, .inl rfl, hc⟩
theorem ProcsIn.base (h : ProcsIn lo hi v ps w) (hb : lo' ≤ lo) : ProcsIn lo' hi v ps w := by
  obtain ⟨l, h1, h2, h3, h4, h5⟩ := h
  exact ⟨l, h1, own_low h2 hb, h3, fun p hp => ⟨(h4 p hp).1.base hb, (h4 p hp).2⟩, h5⟩
theorem ProcsIn.top (h : ProcsIn lo hi v ps w) (hb : hi ≤ hi') : ProcsIn lo hi' v ps w := by
  obtain ⟨l, h1, h2, h3, h4, h5⟩ := h
  exact ⟨l, h1, h2, fun b e => Nat.lt_of_lt_of_le (h3 b e) hb, fun p hp => ⟨(h4 p hp).1, fun b e => Nat.lt_of_lt_of_le ((h4 p hp).2 b e) hb⟩, h5⟩
theorem procs_in {l : List (Pr × Value)} (h2 : w.ownsRow lo 190 2 v l.length (procCells l)) (h3 : ∀ p ∈ l, CodeV lo p.2 p.1.code w) (h4 : Aparts l) : ProcsIn lo w.heap.size v (l.map Prod.fst) w :=
  ⟨l, rfl, h2, fun b e => (World.ownsRow.lt h2 b e).2, fun p hp => ⟨h3 p hp, fun b e => (World.ownsRow.lt (h3 p hp) b e).2⟩, h4⟩
theorem aparts_snoc {l : List (Pr × Value)} {p : Pr × Value} (h : Aparts l) (h1 : ∀ q ∈ l, CodeV lo q.2 q.1.code w) (h2 : CodeV w.heap.size p.2 p.1.code w') : Aparts (l ++ [p]) := by
  refine List.pairwise_append.2 ⟨h, List.pairwise_singleton _ _, fun a ha b hb x e1 e2 => ?_⟩
  obtain rfl := List.mem_singleton.1 hb
  have := (World.ownsRow.lt (h1 a ha) x e1).2
  have := (World.ownsRow.lt h2 x e2).1
  omega

def PartsS (bs : Nat) (v : Value) (ps : List Pt) (w : World) : Prop := ∃ (l : List (Pt × Value)) (c : Nat → Nat), l.map Prod.fst = ps ∧ w.ownsRow bs 124 10 v l.length (ptsCells l) ∧ (∀ i, bs ≤ c i) ∧ (∀ i, c i ≤ c (i + 1)) ∧ ∀ i p, l[i]? = some p → ProcsIn (c i) (c (i + 1)) p.2 p.1.procs w
theorem PartsS.parts (h : PartsS bs v pts w) : PartsV bs v pts w := by
  obtain ⟨l, c, h1, h2, h3, _, h5⟩ := h
  refine ⟨l, h1, h2, fun p hp => ?_⟩
  obtain ⟨i, hi⟩ := List.getElem?_of_mem hp
  exact (h5 i p hi).procs.base (h3 i)
theorem PartsS.keep (h : PartsS bs v pts w) (hs : ∀ b, bs ≤ b → b < w.heap.size → OfType w b (fun t => t = 124 ∨ t = 210 ∨ t = 190) → w'.heap[b]? = w.heap[b]?) : PartsS bs v pts w' := by
  obtain ⟨l, c, h1, h2, h3, h4, h5⟩ := h
  exact ⟨l, c, h1, own_type h2 (fun b hb hl ⟨cur, t, ht, hc⟩ => hs b hb hl ⟨cur, t, .inl ht, hc⟩), h3, h4, fun i p hp => (h5 i p hp).keep (fun b hb _ hl ⟨cur, t, ht, hc⟩ => hs b (Nat.le_trans (h3 i) hb) hl ⟨cur, t, .inr ht, hc⟩)⟩
theorem PartsS.base (h : PartsS bs v pts w) (hb : bs' ≤ bs) : PartsS bs' v pts w := by
  obtain ⟨l, c, h1, h2, h3, h4, h5⟩ := h
  exact ⟨l, c, h1, own_low h2 hb, fun i => Nat.le_trans hb (h3 i), h4, h5⟩
structure ConfS (bs : Nat) (vP vW vC : Value) (cf : Cf) (w : World) : Prop where
  parts : PartsS bs vP cf.parts w
  wins : WinsV bs vW cf.wins w
  chans : ChansV bs vC cf.chans w
theorem ConfS.conf (h : ConfS bs vP vW vC cf w) : ConfV bs vP vW vC cf w := ⟨h.parts.parts, h.wins, h.chans⟩
theorem ConfS.keep (h : ConfS bs vP vW vC cf w) (hs : ∀ b, bs ≤ b → b < w.heap.size → w'.heap[b]? = w.heap[b]?) : ConfS bs vP vW vC cf w' :=
  ⟨h.parts.keep (fun b h1 h2 _ => hs b h1 h2), own_type h.wins (fun b h1 h2 _ => hs b h1 h2), own_type h.chans (fun b h1 h2 _ => hs b h1 h2)⟩
theorem ConfS.base (h : ConfS bs vP vW vC cf w) (hb : bs' ≤ bs) : ConfS bs' vP vW vC cf w := ⟨h.parts.base hb, own_low h.wins hb, own_low h.chans hb⟩
theorem ConfS.low (h : ConfS bs vP vW vC cf w) {S : Nat → Prop} (t : Touch S w w') (hS : ∀ b, S b → b < bs) : ConfS bs vP vW vC cf w' := h.keep (fun b h1 h2 => t.block b h2 (fun hs => by have := hS b hs; omega))
theorem confS_nil (bs : Nat) (w : World) : ConfS bs (.slice none 0 0) (.slice none 0 0) (.slice none 0 0) noCf w := ⟨⟨[], fun _ => bs, rfl, World.ownsRow_nil _ _ _ _, fun _ => Nat.le_refl _, fun _ => Nat.le_refl _, fun i p h => by simp at h⟩, World.ownsRow_nil _ _ _ _, World.ownsRow_nil _ _ _ _⟩
end
/- the parts that have been read, while more are read -/
structure PartsAt (base : Nat) (l : List (Pt × Value)) (w : World) : Prop where
  ex : ∃ c : Nat → Nat, (∀ i, base ≤ c i) ∧ (∀ i, c i ≤ c (i + 1)) ∧ c l.length ≤ w.heap.size ∧ ∀ i p, l[i]? = some p → ProcsIn (c i) (c (i + 1)) p.2 p.1.procs w
theorem PartsAt.nil (w : World) : PartsAt w.heap.size [] w := ⟨fun _ => w.heap.size, fun _ => Nat.le_refl _, fun _ => Nat.le_refl _, Nat.le_refl _, fun i p h => by simp at h⟩
theorem PartsAt.touch {base : Nat} {l : List (Pt × Value)} {w w' : World} {S : Nat → Prop} (h : PartsAt base l w) (t : Touch S w w') (hS : ∀ b, S b → b < base ∨ OfType w b (· = 124)) : PartsAt base l w' := by
  obtain ⟨c, h1, h2, h3, h4⟩ := h.ex
  refine ⟨c, h1, h2, Nat.le_trans h3 t.size, fun i p hp => (h4 i p hp).keep (fun b hb _ hl ⟨cur, x, hx, hc⟩ => t.block b hl (fun hs => ?_))⟩
  rcases hS b hs with h' | ⟨c2, t2, ht2, hc2⟩
  · have := h1 i; omega
  · subst ht2
    rw [hc] at hc2
    rcases hx with rfl | rfl <;> simp at hc2
theorem PartsAt.snoc {base : Nat} {l : List (Pt × Value)} {p : Pt × Value} {w w' : World} {S : Nat → Prop} (h : PartsAt base l w) (hb : base ≤ w.heap.size) (t : Touch S w w') (hS : ∀ b, S b → b < base) (hp : ProcsIn w.heap.size w'.heap.size p.2 p.1.procs w') : PartsAt base (l ++ [p]) w' := by
  obtain ⟨c, h1, h2, h3, h4⟩ := (h.touch t (fun b hb => .inl (hS b hb))).ex
  obtain ⟨c0, h10, h20, h30, h40⟩ := h.ex
  refine ⟨fun i => if i ≤ l.length then c0 i else w'.heap.size, fun i => ?_, fun i => ?_, ?_, fun i q hq => ?_⟩
  · show base ≤ if i ≤ l.length then c0 i else w'.heap.size
    split
    · exact h10 i
    · have := t.size; omega
  · show (if i ≤ l.length then c0 i else w'.heap.size) ≤ if i + 1 ≤ l.length then c0 (i + 1) else w'.heap.size
    by_cases e1 : i + 1 ≤ l.length
    · rw [if_pos (by omega), if_pos e1]; exact h20 i
    · rw [if_neg e1]
      split
      · obtain rfl : i = l.length := by omega
        have := t.size; omega
      · exact Nat.le_refl _
  · show (if (l ++ [p]).length ≤ l.length then c0 _ else w'.heap.size) ≤ w'.heap.size
    rw [if_neg (by simp)]; exact Nat.le_refl _
  · show ProcsIn (if i ≤ l.length then c0 i else w'.heap.size) (if i + 1 ≤ l.length then c0 (i + 1) else w'.heap.size) q.2 q.1.procs w'
    by_cases e1 : i < l.length
    · rw [if_pos (by omega), if_pos (by omega)]
      rw [List.getElem?_append_left e1] at hq
      exact (h40 i q hq).keep (fun b hb' _ hl _ => t.block b hl (fun hs => by have := hS b hs; have := h10 i; omega))
    · have hi : i = l.length := by
        have := (List.getElem?_eq_some_iff.1 hq).1
        simp at this; omega
      subst hi
      rw [List.getElem?_append_right (Nat.le_refl _)] at hq
      simp at hq
      subst hq
      rw [if_pos (Nat.le_refl _), if_neg (by omega)]
      exact hp.base h30
end Go.Proofs.YtnjlbgolnbdkaaaGreat
