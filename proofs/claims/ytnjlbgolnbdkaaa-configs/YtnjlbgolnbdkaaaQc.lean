/- The program's reader: action, instruction, process. -/
import Derived.Test.YtnjlbgolnbdkaaaQb
namespace Go.Proofs.Ytnjlbgolnbdkaaa
open Go.RowKit

def pgTo {α σ : Type} (f : σ → α × σ) : Nat → σ → List α × σ
  | 0, s => ([], s)
  | k + 1, s => ((pgTo f k s).1 ++ [(f (pgTo f k s).2).1], (f (pgTo f k s).2).2)
def pgIns (zs : List Int) (n : Int) (s : Rs) : (Int × Int) × Rs :=
  let a := pgB zs 0 13 [] s
  let b := pgB zs 0 (if a.1 = 4 then n - 1 else 255) [] a.2
  ((a.1, b.1), b.2)
def pgProc (zs : List Int) (s : Rs) : Pr × Rs :=
  let a := pgB zs 0 9 [] s
  let m := pgB zs 1 20 [] a.2
  let c := pgTo (pgIns zs m.1) m.1.toNat m.2
  (⟨a.1, c.1⟩, c.2)
def pgAct (zs : List Int) (c : Nat) (s : Rs) : Int × Rs := if c = 5 then pgB zs 1 7 [2, 3] s else pgB zs 1 7 [] s

theorem touch_alloc {S : Nat → Prop} (w : World) (o : Obj) : Touch S w (w.alloc o) := Touch.ofBelow ((Below.refl _ _).alloc (Nat.le_refl _) _)
theorem Touch.andThen {S : Nat → Prop} {a b c : World} (h : Touch S a b) (k : Touch S b c) : Touch S a c := Touch.trans (T := S) h k (fun _ h => .inl h)
theorem Touch.andNew {S : Nat → Prop} {a b c : World} (h : Touch S a b) (k : Touch (fun i => a.heap.size ≤ i) b c) : Touch S a c := Touch.trans (T := fun i => a.heap.size ≤ i) h k (fun _ h => .inr h)
section
variable {rb : Nat} {ao : Option Addr} {n cap : Nat} {zs : List Int} {s : Rs} {w w' : World}
theorem PgAt.alloc (h : PgAt rb ao n cap zs s w) (o : Obj) : PgAt rb ao n cap zs s (w.alloc o) := h.keep (S := fun _ => False) (touch_alloc w o) (fun h => h) (fun _ _ _ h => h)
theorem PgAt.new (h : PgAt rb ao n cap zs s w) {B : Nat} (hB : rb < B) (hz : ∀ ad, ao = some ad → 0 < n → ad.block < B) (t : Touch (fun i => B ≤ i) w w') : PgAt rb ao n cap zs s w' := h.keep t (by omega) (fun ad e hn hs => by have := hz ad e hn; omega)
end

theorem pgnum0 (rb : Nat) (ao : Option Addr) (n cap : Nat) (zs : List Int) (s : Rs) (lo hi : Int) (w : World) (h : PgAt rb ao n cap zs s w) :
    Calls Try.prog 46 #[.pointer (some ⟨rb, 0, none⟩), .int .i64 lo, .int .i64 hi, .slice none 0 0] w fun e w' => e = .returned (.int .i64 (pgB zs lo hi [] s).1) ∧ PgAt rb ao n cap zs (pgB zs lo hi [] s).2 w' ∧ Touch (· = rb) w w' :=
  pgnumber_any rb ao n cap zs s lo hi none 0 [] w h (ints_none w) (by simp)

set_option maxRecDepth 100000 in
set_option maxHeartbeats 2000000 in
theorem pgaction_any (rb : Nat) (ao : Option Addr) (n cap : Nat) (zs : List Int) (s : Rs) (c : Nat) (w : World) (h : PgAt rb ao n cap zs s w) (hc : c < 6) :
    Calls Try.prog 56 #[.pointer (some ⟨rb, 0, none⟩), .int .i64 c] w fun e w' => e = .returned (.int .i64 (pgAct zs c s).1) ∧ PgAt rb ao n cap zs (pgAct zs c s).2 w' ∧ Touch (· = rb) w w' := by
  by_cases h5 : c = 5
  · subst h5
    have HB := hide (pgnumber_any rb ao n cap zs s 1 7 (some ⟨w.heap.size, 0, none⟩) 2 [2, 3] _ (h.alloc (.cells #[.int .i64 2, .int .i64 3] 3)) (fun i hi => ⟨w.heap.size, 0, rfl, by
      rcases (show i = 0 ∨ i = 1 from by simp at hi; omega) with rfl | rfl <;> simp⟩) (by simp))
    have HA : Hid (pgAct zs 5 s = pgB zs 1 7 [2, 3] s) := rfl
    clear h hc
    go_enter Try.func56, Try.ntmps56
    go_wp2_with fail
    refine HB.out.mono ?_
    rintro e w1 ⟨rfl, hp, ht⟩
    have H := hide (And.intro hp ht)
    clear hp ht
    go_wp2
    go_ret
    rw [HA.out]
    exact ⟨rfl, H.out.1, (touch_alloc w _).andThen H.out.2⟩
  · have hb : ((c : Int) == 5) = false := by simp; omega
    have HB := hide (pgnum0 rb ao n cap zs s 1 7 w h)
    have HA : Hid (pgAct zs c s = pgB zs 1 7 [] s) := by show _ = _; unfold pgAct; rw [if_neg h5]
    clear h hc h5
    go_enter Try.func56, Try.ntmps56
    go_wp2_with fail
    refine HB.out.mono ?_
    rintro e w1 ⟨rfl, hp, ht⟩
    have H := hide (And.intro hp ht)
    clear hp ht
    go_wp2
    go_ret
    rw [HA.out]
    exact ⟨rfl, H.out⟩

set_option maxRecDepth 100000 in
set_option maxHeartbeats 2000000 in
theorem pginstr_any (rb : Nat) (ao : Option Addr) (n cap : Nat) (zs : List Int) (s : Rs) (N : Int) (w : World) (h : PgAt rb ao n cap zs s w) (hN : 0 ≤ N ∧ N ≤ 255) :
    Calls Try.prog 64 #[.pointer (some ⟨rb, 0, none⟩), .int .i64 N] w fun e w' => e = .returned (.agg #[.int .i64 (pgIns zs N s).1.1, .int .i64 (pgIns zs N s).1.2]) ∧ PgAt rb ao n cap zs (pgIns zs N s).2 w' ∧ Touch (· = rb) w w' := by
  have hrb := lt_of_block h.obj
  have HLT := hide h.held.lt
  have HIN : Hid (pgIns zs N s = (((pgB zs 0 13 [] s).1, (pgB zs 0 (if (pgB zs 0 13 [] s).1 = 4 then N - 1 else 255) [] (pgB zs 0 13 [] s).2).1), (pgB zs 0 (if (pgB zs 0 13 [] s).1 = 4 then N - 1 else 255) [] (pgB zs 0 13 [] s).2).2)) := rfl
  have HB := hide (pgnum0 rb ao n cap zs s 0 13 _ (h.alloc (.cells #[.int .i64 0, .int .i64 0] 102)))
  have hopb := pgB_small zs 0 13 [] s h.held.bytes
  have HBY := hide h.held.bytes
  clear h
  generalize (pgB zs 0 13 [] s).1 = op at HIN HB hopb
  generalize (pgB zs 0 13 [] s).2 = s1 at HIN HB
  go_enter Try.func64, Try.ntmps64
  go_wp2_with fail
  refine HB.out.mono ?_
  rintro e w1 ⟨rfl, hp, ht⟩
  have hs1 := ht.size
  simp at hs1
  have hB1 : w1.heap[w.heap.size]? = some (.cells #[.int .i64 0, .int .i64 0] 102 (0, 0)) := (ht.block _ (by simp) (by omega)).trans (heap_alloc_new w _)
  have HT1 : Hid (Touch (· = rb) w w1) := (touch_alloc w _).andThen ht
  obtain ⟨hiv, hhi⟩ : ∃ hiv, hiv = (if op = 4 then N - 1 else 255) := ⟨_, rfl⟩
  rw [← hhi] at HIN
  have HB2 := hide (pgnum0 rb ao n cap zs s1 0 hiv w1 hp)
  have harb := pgB_small zs 0 hiv [] s1 HBY.out
  generalize (pgB zs 0 hiv [] s1).1 = arg at HIN HB2 harb
  generalize (pgB zs 0 hiv [] s1).2 = s2 at HIN HB2
  have HB1 := hide hB1
  have hb4 : ((op == 4) = true ∧ hiv = N - 1) ∨ ((op == 4) = false ∧ hiv = 255) := by
    by_cases h4 : op = 4
    · exact .inl ⟨by simp [h4], by rw [hhi, if_pos h4]⟩
    · exact .inr ⟨by simpa using h4, by rw [hhi, if_neg h4]⟩
  clear hhi hp ht hB1 HB
  rcases hb4 with ⟨b4, hh⟩ | ⟨b4, hh⟩
  all_goals
    rw [hh] at HB2
    clear hh
    go_wp2_with fail
    refine HB2.out.mono ?_
    rintro e w2 ⟨rfl, hp2, ht2⟩
    have hs2 := ht2.size
    have hB2 : w2.heap[w.heap.size]? = some (.cells #[.int .i64 0, .int .i64 0] 102 (0, 0)) := (ht2.block _ (by omega) (by omega)).trans HB1.out
    have q0 : w2.cell? ⟨w.heap.size, 0, none⟩ = some (.int .i64 0) := by rw [cell_of_row _ _ _ _ _ _ hB2]; rfl
    have q1 : w2.cell? ⟨w.heap.size, 1, none⟩ = some (.int .i64 0) := by rw [cell_of_row _ _ _ _ _ _ hB2]; rfl
    have g0 := free_of_block hB2 0
    have g1 := free_of_block hB2 1
    have H := hide (And.intro hp2 (HT1.out.andThen ht2))
    clear hp2 ht2 hB2 HB2
    go_wp2
    refine bodyPost_ret (v := .agg #[.int .i64 op, .int .i64 arg]) (by simp [results, Try.results64, go_sem, q0, q1]) rfl ?_
    have tS : Touch (fun i => w.heap.size ≤ i) w2 ((w2.setCell ⟨w.heap.size, 0, none⟩ (.int .i64 op)).setCell ⟨w.heap.size, 1, none⟩ (.int .i64 arg)) := Touch.andThen (Touch.ofSet w2 _ 0 _ (Nat.le_refl _)) (Touch.ofSet _ _ 1 _ (Nat.le_refl _))
    rw [HIN.out]
    exact ⟨rfl, H.out.1.new hrb HLT.out tS, H.out.2.andNew tS⟩

set_option maxRecDepth 100000 in
set_option maxHeartbeats 2000000 in
theorem pginstr_lit (p1 p2 : Nat) (rb : Nat) (ao : Option Addr) (n cap : Nat) (zs : List Int) (s : Rs) (N : Int) (w : World) (h : PgAt rb ao n cap zs s w) (hN : 0 ≤ N ∧ N ≤ 255) (h1 : w.heap[p1]? = some (.cells #[.pointer (some ⟨rb, 0, none⟩)] 80 (0, 0))) (h2 : w.heap[p2]? = some (.cells #[.int .i64 N] 3 (0, 0))) :
    Calls Try.prog 63 #[.pointer (some ⟨p1, 0, none⟩), .pointer (some ⟨p2, 0, none⟩)] w fun e w' => e = .returned (.agg #[.int .i64 (pgIns zs N s).1.1, .int .i64 (pgIns zs N s).1.2]) ∧ PgAt rb ao n cap zs (pgIns zs N s).2 w' ∧ Touch (· = rb) w w' := by
  have hrb := lt_of_block h.obj
  have HLT := hide h.held.lt
  have hl1 := lt_of_block h1
  have hl2 := lt_of_block h2
  have c1 : w.cell? ⟨p1, 0, none⟩ = some (.pointer (some ⟨rb, 0, none⟩)) := by rw [cell_of_row _ _ _ _ _ _ h1]; rfl
  have c2 : w.cell? ⟨p2, 0, none⟩ = some (.int .i64 N) := by rw [cell_of_row _ _ _ _ _ _ h2]; rfl
  have HB := hide (pginstr_any rb ao n cap zs s N _ (h.alloc (.cells #[.int .i64 0, .int .i64 0] 102)) hN)
  clear h h1 h2 hN
  generalize pgIns zs N s = q at HB ⊢
  go_enter Try.func63, Try.ntmps63
  go_wp2_with fail
  refine HB.out.mono ?_
  rintro e w1 ⟨rfl, hp, ht⟩
  have hs1 := ht.size
  simp at hs1
  have hB1 : w1.heap[w.heap.size]? = some (.cells #[.int .i64 0, .int .i64 0] 102 (0, 0)) := (ht.block _ (by simp) (by omega)).trans (heap_alloc_new w _)
  have q0 : w1.cell? ⟨w.heap.size, 0, none⟩ = some (.int .i64 0) := by rw [cell_of_row _ _ _ _ _ _ hB1]; rfl
  have q1 : w1.cell? ⟨w.heap.size, 1, none⟩ = some (.int .i64 0) := by rw [cell_of_row _ _ _ _ _ _ hB1]; rfl
  have g0 := free_of_block hB1 0
  have g1 := free_of_block hB1 1
  have H := hide (And.intro hp ((touch_alloc w _).andThen ht))
  clear hp ht hB1 HB
  go_wp2
  refine bodyPost_ret (v := .agg #[.int .i64 q.1.1, .int .i64 q.1.2]) (by simp [results, Try.results63, go_sem, q0, q1]) rfl ?_
  have tS : Touch (fun i => w.heap.size ≤ i) w1 ((w1.setCell ⟨w.heap.size, 0, none⟩ (.int .i64 q.1.1)).setCell ⟨w.heap.size, 1, none⟩ (.int .i64 q.1.2)) := Touch.andThen (Touch.ofSet w1 _ 0 _ (Nat.le_refl _)) (Touch.ofSet _ _ 1 _ (Nat.le_refl _))
  exact ⟨rfl, H.out.1.new hrb HLT.out tS, H.out.2.andNew tS⟩
end Go.Proofs.Ytnjlbgolnbdkaaa
