/- The document's own answer: Sort, whole; num. -/
import Derived.Test.YtnjlbgolnbdkaaaRc
namespace Go.Proofs.Ytnjlbgolnbdkaaa
open Go.RowKit

set_option maxHeartbeats 1000000 in
theorem rbsort_short (ao : Option Addr) (n cap : Nat) (w : World) (h : ((n : Int) != 16) = true) :
    Calls Try.prog 18 #[.slice ao n cap] w fun e w' => e = .returned (.tuple #[.int .i64 0, aggOf (fun _ => 0), .int .i64 1]) ∧ Below w.heap.size w w' := by
  go_enter Try.func18, Try.ntmps18
  go_wp2
  exact bodyPost_ret (v := .tuple #[.int .i64 0, aggOf (fun _ => 0), .int .i64 1]) (by simp [results, Try.results18, go_sem, aggOf]) rfl ⟨rfl, ((Below.refl _ _).alloc (Nat.le_refl _) _)⟩

set_option maxHeartbeats 1000000 in
theorem rbsort_core (ao : Option Addr) (cap : Nat) (k r1 r2 r3 r4 r5 : Int) (P : World → Prop) (w : World) (hA : ∀ o, P (w.alloc o))
    (h : ∀ W, P W → Calls Try.prog 33 #[.slice ao 16 cap] W fun e' w' => e' = .returned (.tuple #[.int .i64 k, .agg #[.int .i64 r1, .int .i64 r2, .int .i64 r3, .int .i64 r4, .int .i64 r5]]) ∧ Below W.heap.size W w') :
    Calls Try.prog 18 #[.slice ao 16 cap] w fun e' w' => e' = .returned (.tuple #[.int .i64 k, .agg #[.int .i64 r1, .int .i64 r2, .int .i64 r3, .int .i64 r4, .int .i64 r5], .int .i64 0]) ∧ Below w.heap.size w w' := by
  have H := hide h
  have HA := hide hA
  clear h hA
  go_enter Try.func18, Try.ntmps18
  go_wp2_with fail
  refine (H.out _ (HA.out _)).mono ?_
  rintro e' w1 ⟨rfl, hbel⟩
  obtain ⟨hc, hf⟩ := bcell hbel
  have HB1 : Hid (Below w.heap.size w w1) := (((Below.refl _ _).alloc (Nat.le_refl _) _).trans (hbel.mono (by simp)))
  have hz1 : w.heap.size < w1.heap.size := by have := hbel.size; simp at this; omega
  clear hbel
  go_wp2
  go_region
  all_goals
    go_wp2
    refine bodyPost_ret (v := .tuple #[.int .i64 k, .agg #[.int .i64 r1, .int .i64 r2, .int .i64 r3, .int .i64 r4, .int .i64 r5], .int .i64 0]) (by simp [results, Try.results18, go_sem, hc, hz1]) rfl ⟨rfl, ?_⟩
    exact ((((((HB1.out.setCell (Nat.le_refl _) _).setCell (Nat.le_refl _) _).setCell (Nat.le_refl _) _).setCell (Nat.le_refl _) _).setCell (Nat.le_refl _) _).alloc (by simp; omega) _).drew

theorem rbsort16_any (b off cap : Nat) (zs : List Int) (w : World) (hl : zs.length = 16) (hz : Bytes zs) (hr : Row w b off zs) (hcap : 16 ≤ cap) (hc2 : cap ≤ 9223372036854775807) :
    Calls Try.prog 18 #[.slice (some ⟨b, off, none⟩) 16 cap] w fun e w' => e = .returned (.tuple #[.int .i64 (sortKind zs), aggOf (sortRec zs), .int .i64 0]) ∧ Below w.heap.size w w' :=
  rbsort_core _ _ _ _ _ _ _ _ (fun W => Row W b off zs) w (fun o => hr.alloc o) (fun W h => rsort_any b off cap zs W hl hz h hcap hc2)

set_option maxHeartbeats 400000 in
theorem num_any (e : Int) (w : World) : Calls Try.prog 21 #[.int .i64 e] w fun e' w' => e' = .returned (.int .i64 e) ∧ w' = w := by
  go_enter Try.func21, Try.ntmps21
  go_wp2
  go_ret
  exact ⟨rfl, rfl⟩
end Go.Proofs.Ytnjlbgolnbdkaaa
