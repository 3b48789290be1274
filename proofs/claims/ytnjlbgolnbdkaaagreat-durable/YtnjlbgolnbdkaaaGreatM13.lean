/- Texts of the proofs of Watched and Clocked, one behind the other. -/
import Derived.Test.YtnjlbgolnbdkaaaGreatM12
import Derived.Test.YtnjlbgolnbdkaaaGreatM11
import Derived.RangeFuncNested
import Derived.RangeFuncWrites
import Derived.RangeFuncCalls
import Derived.Stop.RegionWithIn
/- The program's lists of a fixed length: going through partitions, processes, windows, numbers. -/
namespace Go.Proofs.YtnjlbgolnbdkaaaGreat
open Go.RowKit Go.Shelf

attribute [local go_sem] Oper.semAt_some

set_option maxRecDepth 100000 in
set_option maxHeartbeats 2000000 in
theorem partAllOne_in (F : Fence) (n : Nat) (hF : F.fn 184) (hro : F.round = none) (hn : 1 ≤ n) (N : Nat) (hN : N ≤ 1000) (l B x : Nat) (J Jx : List (Fin N) → World → Prop)
    (hY : ∀ pre (i : Fin N) W, J pre W → pre.length < N → YieldAt F (n - 1) Tryz.prog l #[.int .i64 (i.1 : Int), .pointer (some ⟨x, i.1 * 14, none⟩)] W fun e W' =>
      (e = .returned (.bool true) ∧ J (pre ++ [i]) W' ∧ W'.heap[B]? = W.heap[B]?) ∨ (e = .returned (.bool false) ∧ Jx (pre ++ [i]) W'))
    (W : World) (hB : W.heap[B]? = some (.cells #[.slice (some ⟨x, 0, none⟩) N N] 111 (0, 0))) (h0 : J [] W) :
    CallsIn F n Tryz.prog 184 #[.func (.yield l) #[] #[], .pointer (some ⟨B, 0, none⟩)] W fun e W' => (∃ v, e = .returned v) ∧
      ((∃ ys, ys = upto N N ∧ J ys W') ∨ (∃ pre, (∃ k, k ≤ N ∧ pre = upto N k) ∧ Jx pre W')) := by
  have c0 : W.cell? ⟨B, 0, none⟩ = some (.slice (some ⟨x, 0, none⟩) N N) := by rw [cell_of_row _ _ _ _ _ _ hB]; rfl
  refine callsIn_of_wp Tryz.func184 rfl hF ?_ hro
  simp only [Tryz.ntmps184, List.size_toArray, List.length_cons, List.length_nil, Nat.reduceAdd, Nat.reduceSub, Array.replicate_succ, Array.replicate_zero, List.push_toArray, List.append_toArray, List.nil_append, List.cons_append]
  gi_wp2
  gi_loopw [7] (fun i wr => ∃ k : Nat, k ≤ N ∧ i = .int .i64 k ∧ J (upto N k) wr ∧ wr.heap[B]? = some (.cells #[.slice (some ⟨x, 0, none⟩) N N] 111 (0, 0))) (fun i _ => N - (intOf i).toNat)
  case atStart => exact ⟨0, by omega, rfl, h0, hB⟩
  case round =>
    obtain ⟨k, hk, rfl, hJs, hB1⟩ := hrel
    by_cases hlt : k < N
    · obtain ⟨fn, tmps, assign, body, hy, hR⟩ := hY _ ⟨k, hlt⟩ wr hJs (by rw [upto_length N k (by omega)]; exact hlt)
      dsimp only at hy
      have c1 : wr.cell? ⟨B, 0, none⟩ = some (.slice (some ⟨x, 0, none⟩) N N) := by rw [cell_of_row _ _ _ _ _ _ hB1]; rfl
      gi_wp2
      refine hR.mono ?_
      rintro e W3 (⟨rfl, hJ3, hk3⟩ | ⟨rfl, hJx3⟩)
      · gi_wp2
        go_roundw
        case rel => exact ⟨k + 1, by omega, by go_num, by rw [upto_succ N k hlt]; exact hJ3, hk3.trans hB1⟩
        case measure => simp [intOf]; omega
      · gi_wp2
        refine bodyPost_ret (results_none rfl _ _ _) rfl ?_
        exact ⟨⟨_, rfl⟩, .inr ⟨_, ⟨k + 1, by omega, (upto_succ N k hlt).symm⟩, hJx3⟩⟩
    · obtain rfl : k = N := by omega
      gi_wp2
      go_end0
      exact ⟨⟨_, rfl⟩, .inl ⟨_, rfl, hJs⟩⟩
theorem partAll_stops (F : Fence) (n : Nat) (hF : F.fn 184) (hro : F.round = none) (hn : 1 ≤ n) (N : Nat) (hN : N ≤ 1000) (B x : Nat) (w : World) (hBl : B < w.heap.size) (hB : w.heap[B]? = some (.cells #[.slice (some ⟨x, 0, none⟩) N N] 111 (0, 0))) :
    SeqStopsK F n Tryz.prog 184 #[.pointer (some ⟨B, 0, none⟩)] (fun i : Fin N => #[.int .i64 (i.1 : Int), .pointer (some ⟨x, i.1 * 14, none⟩)]) (fun W W' => W'.heap[B]? = W.heap[B]?) (fun ys => ys = upto N N) (fun pre => ∃ k, k ≤ N ∧ pre = upto N k) N w :=
  fun l J Jx W hW _ _ hY h0 => partAllOne_in F n hF hro hn N hN l B x J Jx hY W ((hW.block B hBl).trans hB) h0
set_option maxHeartbeats 1000000 in
theorem partAll_any (x N : Nat) (w : World) : Calls Tryz.prog 145 #[.agg #[.slice (some ⟨x, 0, none⟩) N N]] w fun e w' => e = .returned (.func (.func 184) #[] #[.pointer (some ⟨w.heap.size, 0, none⟩)]) ∧ w' = w.alloc (.cells #[.slice (some ⟨x, 0, none⟩) N N] 111) := by
  go_enter Tryz.func145, Tryz.ntmps145
  go_wp2
  go_ret
  exact ⟨rfl, rfl⟩
set_option maxRecDepth 100000 in
set_option maxHeartbeats 2000000 in
theorem procAllOne_in (F : Fence) (n : Nat) (hF : F.fn 185) (hro : F.round = none) (hn : 1 ≤ n) (N : Nat) (hN : N ≤ 1000) (l B x : Nat) (J Jx : List (Fin N) → World → Prop)
    (hY : ∀ pre (i : Fin N) W, J pre W → pre.length < N → YieldAt F (n - 1) Tryz.prog l #[.int .i64 (i.1 : Int), .pointer (some ⟨x, i.1 * 6, none⟩)] W fun e W' =>
      (e = .returned (.bool true) ∧ J (pre ++ [i]) W' ∧ W'.heap[B]? = W.heap[B]?) ∨ (e = .returned (.bool false) ∧ Jx (pre ++ [i]) W'))
    (W : World) (hB : W.heap[B]? = some (.cells #[.slice (some ⟨x, 0, none⟩) N N] 118 (0, 0))) (h0 : J [] W) :
    CallsIn F n Tryz.prog 185 #[.func (.yield l) #[] #[], .pointer (some ⟨B, 0, none⟩)] W fun e W' => (∃ v, e = .returned v) ∧
      ((∃ ys, ys = upto N N ∧ J ys W') ∨ (∃ pre, (∃ k, k ≤ N ∧ pre = upto N k) ∧ Jx pre W')) := by
  have c0 : W.cell? ⟨B, 0, none⟩ = some (.slice (some ⟨x, 0, none⟩) N N) := by rw [cell_of_row _ _ _ _ _ _ hB]; rfl
  refine callsIn_of_wp Tryz.func185 rfl hF ?_ hro
  simp only [Tryz.ntmps185, List.size_toArray, List.length_cons, List.length_nil, Nat.reduceAdd, Nat.reduceSub, Array.replicate_succ, Array.replicate_zero, List.push_toArray, List.append_toArray, List.nil_append, List.cons_append]
  gi_wp2
  gi_loopw [7] (fun i wr => ∃ k : Nat, k ≤ N ∧ i = .int .i64 k ∧ J (upto N k) wr ∧ wr.heap[B]? = some (.cells #[.slice (some ⟨x, 0, none⟩) N N] 118 (0, 0))) (fun i _ => N - (intOf i).toNat)
  case atStart => exact ⟨0, by omega, rfl, h0, hB⟩
  case round =>
    obtain ⟨k, hk, rfl, hJs, hB1⟩ := hrel
    by_cases hlt : k < N
    · obtain ⟨fn, tmps, assign, body, hy, hR⟩ := hY _ ⟨k, hlt⟩ wr hJs (by rw [upto_length N k (by omega)]; exact hlt)
      dsimp only at hy
      have c1 : wr.cell? ⟨B, 0, none⟩ = some (.slice (some ⟨x, 0, none⟩) N N) := by rw [cell_of_row _ _ _ _ _ _ hB1]; rfl
      gi_wp2
      refine hR.mono ?_
      rintro e W3 (⟨rfl, hJ3, hk3⟩ | ⟨rfl, hJx3⟩)
      · gi_wp2
        go_roundw
        case rel => exact ⟨k + 1, by omega, by go_num, by rw [upto_succ N k hlt]; exact hJ3, hk3.trans hB1⟩
        case measure => simp [intOf]; omega
      · gi_wp2
        refine bodyPost_ret (results_none rfl _ _ _) rfl ?_
        exact ⟨⟨_, rfl⟩, .inr ⟨_, ⟨k + 1, by omega, (upto_succ N k hlt).symm⟩, hJx3⟩⟩
    · obtain rfl : k = N := by omega
      gi_wp2
      go_end0
      exact ⟨⟨_, rfl⟩, .inl ⟨_, rfl, hJs⟩⟩
theorem procAll_stops (F : Fence) (n : Nat) (hF : F.fn 185) (hro : F.round = none) (hn : 1 ≤ n) (N : Nat) (hN : N ≤ 1000) (B x : Nat) (w : World) (hBl : B < w.heap.size) (hB : w.heap[B]? = some (.cells #[.slice (some ⟨x, 0, none⟩) N N] 118 (0, 0))) :
    SeqStopsK F n Tryz.prog 185 #[.pointer (some ⟨B, 0, none⟩)] (fun i : Fin N => #[.int .i64 (i.1 : Int), .pointer (some ⟨x, i.1 * 6, none⟩)]) (fun W W' => W'.heap[B]? = W.heap[B]?) (fun ys => ys = upto N N) (fun pre => ∃ k, k ≤ N ∧ pre = upto N k) N w :=
  fun l J Jx W hW _ _ hY h0 => procAllOne_in F n hF hro hn N hN l B x J Jx hY W ((hW.block B hBl).trans hB) h0
set_option maxHeartbeats 1000000 in
theorem procAll_any (x N : Nat) (w : World) : Calls Tryz.prog 146 #[.agg #[.slice (some ⟨x, 0, none⟩) N N]] w fun e w' => e = .returned (.func (.func 185) #[] #[.pointer (some ⟨w.heap.size, 0, none⟩)]) ∧ w' = w.alloc (.cells #[.slice (some ⟨x, 0, none⟩) N N] 118) := by
  go_enter Tryz.func146, Tryz.ntmps146
  go_wp2
  go_ret
  exact ⟨rfl, rfl⟩
set_option maxRecDepth 100000 in
set_option maxHeartbeats 2000000 in
theorem winAllOne_in (F : Fence) (n : Nat) (hF : F.fn 186) (hro : F.round = none) (hn : 1 ≤ n) (N : Nat) (hN : N ≤ 1000) (l B x : Nat) (J Jx : List (Fin N) → World → Prop)
    (hY : ∀ pre (i : Fin N) W, J pre W → pre.length < N → YieldAt F (n - 1) Tryz.prog l #[.int .i64 (i.1 : Int), .pointer (some ⟨x, i.1 * 3, none⟩)] W fun e W' =>
      (e = .returned (.bool true) ∧ J (pre ++ [i]) W' ∧ W'.heap[B]? = W.heap[B]?) ∨ (e = .returned (.bool false) ∧ Jx (pre ++ [i]) W'))
    (W : World) (hB : W.heap[B]? = some (.cells #[.slice (some ⟨x, 0, none⟩) N N] 128 (0, 0))) (h0 : J [] W) :
    CallsIn F n Tryz.prog 186 #[.func (.yield l) #[] #[], .pointer (some ⟨B, 0, none⟩)] W fun e W' => (∃ v, e = .returned v) ∧
      ((∃ ys, ys = upto N N ∧ J ys W') ∨ (∃ pre, (∃ k, k ≤ N ∧ pre = upto N k) ∧ Jx pre W')) := by
  have c0 : W.cell? ⟨B, 0, none⟩ = some (.slice (some ⟨x, 0, none⟩) N N) := by rw [cell_of_row _ _ _ _ _ _ hB]; rfl
  refine callsIn_of_wp Tryz.func186 rfl hF ?_ hro
  simp only [Tryz.ntmps186, List.size_toArray, List.length_cons, List.length_nil, Nat.reduceAdd, Nat.reduceSub, Array.replicate_succ, Array.replicate_zero, List.push_toArray, List.append_toArray, List.nil_append, List.cons_append]
  gi_wp2
  gi_loopw [7] (fun i wr => ∃ k : Nat, k ≤ N ∧ i = .int .i64 k ∧ J (upto N k) wr ∧ wr.heap[B]? = some (.cells #[.slice (some ⟨x, 0, none⟩) N N] 128 (0, 0))) (fun i _ => N - (intOf i).toNat)
  case atStart => exact ⟨0, by omega, rfl, h0, hB⟩
  case round =>
    obtain ⟨k, hk, rfl, hJs, hB1⟩ := hrel
    by_cases hlt : k < N
    · obtain ⟨fn, tmps, assign, body, hy, hR⟩ := hY _ ⟨k, hlt⟩ wr hJs (by rw [upto_length N k (by omega)]; exact hlt)
      dsimp only at hy
      have c1 : wr.cell? ⟨B, 0, none⟩ = some (.slice (some ⟨x, 0, none⟩) N N) := by rw [cell_of_row _ _ _ _ _ _ hB1]; rfl
      gi_wp2
      refine hR.mono ?_
      rintro e W3 (⟨rfl, hJ3, hk3⟩ | ⟨rfl, hJx3⟩)
      · gi_wp2
        go_roundw
        case rel => exact ⟨k + 1, by omega, by go_num, by rw [upto_succ N k hlt]; exact hJ3, hk3.trans hB1⟩
        case measure => simp [intOf]; omega
      · gi_wp2
        refine bodyPost_ret (results_none rfl _ _ _) rfl ?_
        exact ⟨⟨_, rfl⟩, .inr ⟨_, ⟨k + 1, by omega, (upto_succ N k hlt).symm⟩, hJx3⟩⟩
    · obtain rfl : k = N := by omega
      gi_wp2
      go_end0
      exact ⟨⟨_, rfl⟩, .inl ⟨_, rfl, hJs⟩⟩
theorem winAll_stops (F : Fence) (n : Nat) (hF : F.fn 186) (hro : F.round = none) (hn : 1 ≤ n) (N : Nat) (hN : N ≤ 1000) (B x : Nat) (w : World) (hBl : B < w.heap.size) (hB : w.heap[B]? = some (.cells #[.slice (some ⟨x, 0, none⟩) N N] 128 (0, 0))) :
    SeqStopsK F n Tryz.prog 186 #[.pointer (some ⟨B, 0, none⟩)] (fun i : Fin N => #[.int .i64 (i.1 : Int), .pointer (some ⟨x, i.1 * 3, none⟩)]) (fun W W' => W'.heap[B]? = W.heap[B]?) (fun ys => ys = upto N N) (fun pre => ∃ k, k ≤ N ∧ pre = upto N k) N w :=
  fun l J Jx W hW _ _ hY h0 => winAllOne_in F n hF hro hn N hN l B x J Jx hY W ((hW.block B hBl).trans hB) h0
set_option maxHeartbeats 1000000 in
theorem winAll_any (x N : Nat) (w : World) : Calls Tryz.prog 148 #[.agg #[.slice (some ⟨x, 0, none⟩) N N]] w fun e w' => e = .returned (.func (.func 186) #[] #[.pointer (some ⟨w.heap.size, 0, none⟩)]) ∧ w' = w.alloc (.cells #[.slice (some ⟨x, 0, none⟩) N N] 128) := by
  go_enter Tryz.func148, Tryz.ntmps148
  go_wp2
  go_ret
  exact ⟨rfl, rfl⟩
set_option maxRecDepth 100000 in
set_option maxHeartbeats 2000000 in
theorem intAllOne_in (F : Fence) (n : Nat) (hF : F.fn 208) (hro : F.round = none) (hn : 1 ≤ n) (N : Nat) (hN : N ≤ 1000) (l B x : Nat) (J Jx : List (Fin N) → World → Prop)
    (hY : ∀ pre (i : Fin N) W, J pre W → pre.length < N → YieldAt F (n - 1) Tryz.prog l #[.int .i64 (i.1 : Int), .pointer (some ⟨x, i.1, none⟩)] W fun e W' =>
      (e = .returned (.bool true) ∧ J (pre ++ [i]) W' ∧ W'.heap[B]? = W.heap[B]?) ∨ (e = .returned (.bool false) ∧ Jx (pre ++ [i]) W'))
    (W : World) (hB : W.heap[B]? = some (.cells #[.slice (some ⟨x, 0, none⟩) N N] 115 (0, 0))) (h0 : J [] W) :
    CallsIn F n Tryz.prog 208 #[.func (.yield l) #[] #[], .pointer (some ⟨B, 0, none⟩)] W fun e W' => (∃ v, e = .returned v) ∧
      ((∃ ys, ys = upto N N ∧ J ys W') ∨ (∃ pre, (∃ k, k ≤ N ∧ pre = upto N k) ∧ Jx pre W')) := by
  have c0 : W.cell? ⟨B, 0, none⟩ = some (.slice (some ⟨x, 0, none⟩) N N) := by rw [cell_of_row _ _ _ _ _ _ hB]; rfl
  refine callsIn_of_wp Tryz.func208 rfl hF ?_ hro
  simp only [Tryz.ntmps208, List.size_toArray, List.length_cons, List.length_nil, Nat.reduceAdd, Nat.reduceSub, Array.replicate_succ, Array.replicate_zero, List.push_toArray, List.append_toArray, List.nil_append, List.cons_append]
  gi_wp2
  gi_loopw [7] (fun i wr => ∃ k : Nat, k ≤ N ∧ i = .int .i64 k ∧ J (upto N k) wr ∧ wr.heap[B]? = some (.cells #[.slice (some ⟨x, 0, none⟩) N N] 115 (0, 0))) (fun i _ => N - (intOf i).toNat)
  case atStart => exact ⟨0, by omega, rfl, h0, hB⟩
  case round =>
    obtain ⟨k, hk, rfl, hJs, hB1⟩ := hrel
    by_cases hlt : k < N
    · obtain ⟨fn, tmps, assign, body, hy, hR⟩ := hY _ ⟨k, hlt⟩ wr hJs (by rw [upto_length N k (by omega)]; exact hlt)
      dsimp only at hy
      have c1 : wr.cell? ⟨B, 0, none⟩ = some (.slice (some ⟨x, 0, none⟩) N N) := by rw [cell_of_row _ _ _ _ _ _ hB1]; rfl
      gi_wp2
      refine hR.mono ?_
      rintro e W3 (⟨rfl, hJ3, hk3⟩ | ⟨rfl, hJx3⟩)
      · gi_wp2
        go_roundw
        case rel => exact ⟨k + 1, by omega, by go_num, by rw [upto_succ N k hlt]; exact hJ3, hk3.trans hB1⟩
        case measure => simp [intOf]; omega
      · gi_wp2
        refine bodyPost_ret (results_none rfl _ _ _) rfl ?_
        exact ⟨⟨_, rfl⟩, .inr ⟨_, ⟨k + 1, by omega, (upto_succ N k hlt).symm⟩, hJx3⟩⟩
    · obtain rfl : k = N := by omega
      gi_wp2
      go_end0
      exact ⟨⟨_, rfl⟩, .inl ⟨_, rfl, hJs⟩⟩
theorem intAll_stops (F : Fence) (n : Nat) (hF : F.fn 208) (hro : F.round = none) (hn : 1 ≤ n) (N : Nat) (hN : N ≤ 1000) (B x : Nat) (w : World) (hBl : B < w.heap.size) (hB : w.heap[B]? = some (.cells #[.slice (some ⟨x, 0, none⟩) N N] 115 (0, 0))) :
    SeqStopsK F n Tryz.prog 208 #[.pointer (some ⟨B, 0, none⟩)] (fun i : Fin N => #[.int .i64 (i.1 : Int), .pointer (some ⟨x, i.1, none⟩)]) (fun W W' => W'.heap[B]? = W.heap[B]?) (fun ys => ys = upto N N) (fun pre => ∃ k, k ≤ N ∧ pre = upto N k) N w :=
  fun l J Jx W hW _ _ hY h0 => intAllOne_in F n hF hro hn N hN l B x J Jx hY W ((hW.block B hBl).trans hB) h0
set_option maxHeartbeats 1000000 in
theorem intAll_any (x N : Nat) (w : World) : Calls Tryz.prog 187 #[.agg #[.slice (some ⟨x, 0, none⟩) N N]] w fun e w' => e = .returned (.func (.func 208) #[] #[.pointer (some ⟨w.heap.size, 0, none⟩)]) ∧ w' = w.alloc (.cells #[.slice (some ⟨x, 0, none⟩) N N] 115) := by
  go_enter Tryz.func187, Tryz.ntmps187
  go_wp2
  go_ret
  exact ⟨rfl, rfl⟩
end Go.Proofs.YtnjlbgolnbdkaaaGreat
/- The program's small functions of partitions and processes. -/
namespace Go.Proofs.YtnjlbgolnbdkaaaGreat
open Go.RowKit

set_option maxHeartbeats 1000000 in
theorem runs_any (b o : Nat) (m : Int) (w : World) (c : w.cell? ⟨b, o + 9, none⟩ = some (.int .i64 m)) :
    Calls Tryz.prog 77 #[.pointer (some ⟨b, o, none⟩)] w fun e w' => e = .returned (.bool (m != 3)) ∧ w' = w := by
  go_enter Tryz.func77, Tryz.ntmps77
  go_wp2
  go_ret
  exact ⟨rfl, rfl⟩
set_option maxHeartbeats 1000000 in
theorem late_any (b o : Nat) (s : Bool) (d now : Int) (w : World) (c3 : w.cell? ⟨b, o + 3, none⟩ = some (.bool s)) (c5 : w.cell? ⟨b, o + 5, none⟩ = some (.int .i64 d)) :
    Calls Tryz.prog 147 #[.pointer (some ⟨b, o, none⟩), .int .i64 now] w fun e w' => e = .returned (.bool (!s && (d != 0 && decide (d ≤ now)))) ∧ w' = w := by
  cases s with
  | true =>
    go_enter Tryz.func147, Tryz.ntmps147
    go_wp2
    go_ret
    exact ⟨by simp, rfl⟩
  | false =>
    by_cases hd : d = 0
    · subst hd
      go_enter Tryz.func147, Tryz.ntmps147
      go_wp2
      go_ret
      exact ⟨by simp, rfl⟩
    · have hd2 : (d != 0) = true := by simp [hd]
      go_enter Tryz.func147, Tryz.ntmps147
      go_wp2
      go_ret
      exact ⟨by simp [hd], rfl⟩
set_option maxHeartbeats 1000000 in
theorem awake_any (b o : Nat) (s : Bool) (t now : Int) (w : World) (c3 : w.cell? ⟨b, o + 3, none⟩ = some (.bool s)) (c4 : w.cell? ⟨b, o + 4, none⟩ = some (.int .i64 t)) :
    Calls Tryz.prog 188 #[.pointer (some ⟨b, o, none⟩), .int .i64 now] w fun e w' => e = .returned (.bool (!s && decide (t ≤ now))) ∧ w' = w := by
  cases s with
  | true =>
    go_enter Tryz.func188, Tryz.ntmps188
    go_wp2
    go_ret
    exact ⟨by simp, rfl⟩
  | false =>
    go_enter Tryz.func188, Tryz.ntmps188
    go_wp2
    go_ret
    exact ⟨by simp, rfl⟩
theorem MachAt.procAt {w : World} {L : MLay} {g : Nat} {st : RSt} (h : MachAt w L g st) (i n k : Nat) (hi : i < st.parts.length) (hn : n < (st.part i).procs.length) (hk : k < 6) : w.cell? ⟨L.pr i, n * 6 + k, none⟩ = (mprocCells (L.code i n) (st.proc i n))[k]? := by
  rw [cell_of_row _ _ _ _ _ _ (h.procs i hi), List.getElem?_toArray]
  exact rowsL_get _ 6 _ (fun _ _ => rfl) n k hn hk
theorem MachAt.partAt {w : World} {L : MLay} {g : Nat} {st : RSt} (h : MachAt w L g st) (i k : Nat) (hi : i < st.parts.length) (hk : k < 14) : w.cell? ⟨L.pb, i * 14 + k, none⟩ = (mpartCells L i (st.cpart i) (st.part i))[k]? := by
  rw [cell_of_row _ _ _ _ _ _ h.parts, List.getElem?_toArray]
  exact rowsL_get _ 14 _ (fun _ _ => rfl) i k hi hk
theorem MachAt.machAt {w : World} {L : MLay} {g : Nat} {st : RSt} (h : MachAt w L g st) (k : Nat) : w.cell? ⟨L.mb, k, none⟩ = #[Value.pointer (some ⟨g, 0, none⟩), .int .i64 st.cf.frame, .int .i64 st.cf.watch, .slice (some ⟨L.pb, 0, none⟩) st.parts.length st.parts.length, .slice (some ⟨L.wb, 0, none⟩) st.cf.wins.length st.cf.wins.length, .slice (some ⟨L.cb, 0, none⟩) st.cf.chans.length st.cf.chans.length, .int .i64 st.now, .bool st.dead][k]? := by
  rw [cell_of_row _ _ _ _ _ _ h.mach]
theorem MachAt.begin {w : World} {L : MLay} {g : Nat} {st : RSt} (h : MachAt w L g st) (hL : LayOk L st.parts.length st.cf.chans.length) (i n : Nat) (hi : i < st.parts.length) (hn : n < (st.part i).procs.length) :
    MachAt (((((w.setCell ⟨L.pr i, n * 6 + 1, none⟩ (.int .i64 0)).setCell ⟨L.pr i, n * 6 + 2, none⟩ (.int .i64 0)).setCell ⟨L.pr i, n * 6 + 3, none⟩ (.bool false)).setCell ⟨L.pr i, n * 6 + 4, none⟩ (.int .i64 0)).setCell ⟨L.pr i, n * 6 + 5, none⟩ (.int .i64 0)) L g (st.setProc i n proc0) := by
  have step : ∀ {W : World} {s : RSt} {x : RProc} (k : Nat) (v : Value) (y : RProc), MachAt W L g s → s = st.setProc i n x → k < 6 → (mprocCells (L.code i n) x).set k v = mprocCells (L.code i n) y → MachAt (W.setCell ⟨L.pr i, n * 6 + k, none⟩ v) L g (st.setProc i n y) := by
    intro W s x k v y hW hs hk hc
    subst hs
    have hp : (st.setProc i n x).part i = { st.part i with procs := (st.part i).procs.set n x } := RSt.part_set hi
    have hx : (st.setProc i n x).proc i n = x := by
      unfold RSt.proc
      rw [hp]
      simp [List.getD_eq_getElem?_getD, hn]
    have := hW.procCell (by simpa [RSt.setProc, RSt.setPart] using hL) i n k v y (by simpa [RSt.setProc, RSt.setPart] using hi) (by rw [hp]; simpa using hn) hk (by rw [hx]; exact hc)
    have e : (st.setProc i n x).setProc i n y = st.setProc i n y := by
      unfold RSt.setProc at hp ⊢
      rw [hp, RSt.setPart_set]
      simp
    rw [e] at this
    exact this
  have h0 : MachAt w L g (st.setProc i n (st.proc i n)) := by
    have : st.setProc i n (st.proc i n) = st := by
      have e : (st.part i).procs.set n (st.proc i n) = (st.part i).procs := by
        unfold RSt.proc
        rw [List.getD_eq_getElem?_getD, List.getElem?_eq_getElem hn]
        simp
      unfold RSt.setProc
      rw [e]
      exact RSt.setPart_self st i
    rw [this]
    exact h
  generalize st.proc i n = x at h0
  have h1 := step 1 (.int .i64 0) { x with next := 0 } h0 rfl (by omega) rfl
  have h2 := step 2 (.int .i64 0) { x with next := 0, acc := 0 } h1 rfl (by omega) rfl
  have h3 := step 3 (.bool false) { x with next := 0, acc := 0, stopped := false } h2 rfl (by omega) rfl
  have h4 := step 4 (.int .i64 0) { x with next := 0, acc := 0, stopped := false, til := 0 } h3 rfl (by omega) rfl
  exact step 5 (.int .i64 0) proc0 h4 rfl (by omega) rfl
theorem touch5 (b o1 o2 o3 o4 o5 : Nat) (v1 v2 v3 v4 v5 : Value) (w : World) : Touch (· = b) w (((((w.setCell ⟨b, o1, none⟩ v1).setCell ⟨b, o2, none⟩ v2).setCell ⟨b, o3, none⟩ v3).setCell ⟨b, o4, none⟩ v4).setCell ⟨b, o5, none⟩ v5) :=
  ((((Touch.ofSet (S := (· = b)) w b _ _ rfl).thenSet _ _ rfl).thenSet _ _ rfl).thenSet _ _ rfl).thenSet _ _ rfl
set_option maxHeartbeats 1000000 in
theorem begin_any (L : MLay) (g : Nat) (st : RSt) (i n : Nat) (w : World) (h : MachAt w L g st) (hL : LayOk L st.parts.length st.cf.chans.length) (hi : i < st.parts.length) (hn : n < (st.part i).procs.length) :
    Calls Tryz.prog 159 #[.pointer (some ⟨L.pr i, n * 6, none⟩)] w fun e w' => e = .returned (.tuple #[]) ∧ MachAt w' L g (st.setProc i n proc0) ∧ Touch (· = L.pr i) w w' := by
  have HEND := hide (h.begin hL i n hi hn)
  have c1 := h.procAt i n 1 hi hn (by omega)
  have c2 := h.procAt i n 2 hi hn (by omega)
  have c3 := h.procAt i n 3 hi hn (by omega)
  have c4 := h.procAt i n 4 hi hn (by omega)
  have c5 := h.procAt i n 5 hi hn (by omega)
  simp only [mprocCells, List.getElem?_cons_succ, List.getElem?_cons_zero] at c1 c2 c3 c4 c5
  have f := free_of_block (h.procs i hi)
  have f1 := f (n * 6 + 1)
  have f2 := f (n * 6 + 2)
  have f3 := f (n * 6 + 3)
  have f4 := f (n * 6 + 4)
  have f5 := f (n * 6 + 5)
  clear f h
  generalize (st.proc i n) = x at *
  go_enter Tryz.func159, Tryz.ntmps159
  go_wp2
  go_end0
  exact ⟨rfl, HEND.out, touch5 _ _ _ _ _ _ _ _ _ _ _ _⟩
theorem setProc_twice (st : RSt) (i n : Nat) (x y : RProc) (hi : i < st.parts.length) : (st.setProc i n x).setProc i n y = st.setProc i n y := by
  have hp : (st.setProc i n x).part i = { st.part i with procs := (st.part i).procs.set n x } := RSt.part_set hi
  unfold RSt.setProc at hp ⊢
  rw [hp, RSt.setPart_set]
  simp
theorem setProc_proc (st : RSt) (i n : Nat) (x : RProc) (hi : i < st.parts.length) (hn : n < (st.part i).procs.length) : (st.setProc i n x).proc i n = x := by
  have hp : (st.setProc i n x).part i = { st.part i with procs := (st.part i).procs.set n x } := RSt.part_set hi
  unfold RSt.proc
  rw [hp]
  simp [List.getD_eq_getElem?_getD, hn]
theorem MachAt.procCell2 {w : World} {L : MLay} {g : Nat} {st : RSt} {i n : Nat} {x : RProc} (h : MachAt w L g (st.setProc i n x)) (hL : LayOk L st.parts.length st.cf.chans.length) (k : Nat) (v : Value) (y : RProc) (hi : i < st.parts.length) (hn : n < (st.part i).procs.length) (hk : k < 6)
    (hc : (mprocCells (L.code i n) x).set k v = mprocCells (L.code i n) y) : MachAt (w.setCell ⟨L.pr i, n * 6 + k, none⟩ v) L g (st.setProc i n y) := by
  have hp : (st.setProc i n x).part i = { st.part i with procs := (st.part i).procs.set n x } := RSt.part_set hi
  have := h.procCell (by simpa [RSt.setProc, RSt.setPart] using hL) i n k v y (by simpa [RSt.setProc, RSt.setPart] using hi) (by rw [hp]; simpa using hn) hk (by rw [setProc_proc st i n x hi hn]; exact hc)
  rw [setProc_twice st i n x y hi] at this
  exact this
set_option maxHeartbeats 1000000 in
theorem follow_any (L : MLay) (g : Nat) (st : RSt) (i n : Nat) (nx : Int) (w : World) (h : MachAt w L g st) (hL : LayOk L st.parts.length st.cf.chans.length) (hi : i < st.parts.length) (hn : n < (st.part i).procs.length) :
    Calls Tryz.prog 212 #[.pointer (some ⟨L.pr i, n * 6, none⟩), .int .i64 nx] w fun e w' => e = .returned (.tuple #[]) ∧ MachAt w' L g (st.setProc i n (st.follow i n nx)) ∧ Touch (· = L.pr i) w w' := by
  obtain ⟨ad, c, hv⟩ := own_slice (h.code i n hi hn)
  have h1 := h.procCell hL i n 1 (.int .i64 nx) { st.proc i n with next := nx } hi hn (by omega) rfl
  have HEND := hide (h1.procCell2 hL 3 (.bool (decide (((st.codeOf i n).length : Int) ≤ nx))) (st.follow i n nx) hi hn (by omega) rfl)
  have c0 := h.procAt i n 0 hi hn (by omega)
  have c1 := h.procAt i n 1 hi hn (by omega)
  have c3 := h.procAt i n 3 hi hn (by omega)
  simp only [mprocCells, List.getElem?_cons_succ, List.getElem?_cons_zero] at c0 c1 c3
  rw [hv] at c0
  have hcl : ((st.cf.parts.getD i default).procs.getD n default).code.length = (st.codeOf i n).length := rfl
  rw [hcl] at c0
  rw [show n * 6 + 0 = n * 6 from rfl] at c0
  have f := free_of_block (h.procs i hi)
  have f1 := f (n * 6 + 1)
  have f3 := f (n * 6 + 3)
  clear f h h1 hv hcl
  generalize (st.codeOf i n).length = len at *
  generalize (st.proc i n) = x at *
  go_enter Tryz.func212, Tryz.ntmps212
  go_wp2
  go_end0
  exact ⟨rfl, HEND.out, (Touch.ofSet (S := (· = L.pr i)) w _ _ _ rfl).thenSet _ _ rfl⟩
end Go.Proofs.YtnjlbgolnbdkaaaGreat
/- The flash's own calls: count, Program, Erase, Cut, Restore. -/
namespace Go.Proofs.YtnjlbgolnbdkaaaGreat
open Go.RowKit

theorem flash_byte (bs : List Int) (left res : Int) (dead : Bool) (done : Int) (k : Nat) (z : Int) (hk : k < bs.length) : (flashCells bs left res dead done).toArray.setIfInBounds k (.int .u8 z) = (flashCells (bs.set k z) left res dead done).toArray := by
  apply Array.ext'
  rw [Array.toList_setIfInBounds]
  show (vals bs ++ _).set k _ = vals (bs.set k z) ++ _
  rw [List.set_append_left _ _ (by rw [vals_length]; exact hk)]
  congr 1
  unfold vals
  rw [List.map_set]
theorem FlashAt.at {w : World} {g : Nat} {bs : List Int} {left res : Int} {dead : Bool} {done : Int} (h : FlashAt w g bs left res dead done) (k : Nat) (z : Int) (hk : k < 256) (hz : 0 ≤ z ∧ z ≤ 255) : FlashAt (w.setCell ⟨g, k, none⟩ (.int .u8 z)) g (bs.set k z) left res dead done := by
  refine ⟨?_, by rw [List.length_set]; exact h.len, h.bytes.set k z hz⟩
  rw [block_set h.blk k _, flash_byte _ _ _ _ _ _ _ (by rw [h.len]; exact hk)]
theorem flash_tail (bs : List Int) (l : List Value) (k : Nat) (v : Value) (hb : bs.length = 256) : (vals bs ++ l).toArray.setIfInBounds (256 + k) v = (vals bs ++ l.set k v).toArray := by
  apply Array.ext'
  rw [Array.toList_setIfInBounds]
  show (vals bs ++ l).set (256 + k) v = vals bs ++ l.set k v
  rw [List.set_append_right _ _ (by rw [vals_length, hb]; omega), vals_length, hb, show 256 + k - 256 = k from by omega]
theorem FlashAt.setLeft {w : World} {g : Nat} {bs : List Int} {left res : Int} {dead : Bool} {done : Int} (h : FlashAt w g bs left res dead done) (x : Int) : FlashAt (w.setCell ⟨g, 256, none⟩ (.int .i64 x)) g bs x res dead done :=
  ⟨by rw [block_set h.blk 256 _]; exact congrArg (fun c => some (Obj.cells c 80 (0, 0))) (flash_tail bs _ 0 _ h.len), h.len, h.bytes⟩
theorem FlashAt.setDead {w : World} {g : Nat} {bs : List Int} {left res : Int} {dead : Bool} {done : Int} (h : FlashAt w g bs left res dead done) (x : Bool) : FlashAt (w.setCell ⟨g, 258, none⟩ (.bool x)) g bs left res x done :=
  ⟨by rw [block_set h.blk 258 _]; exact congrArg (fun c => some (Obj.cells c 80 (0, 0))) (flash_tail bs _ 2 _ h.len), h.len, h.bytes⟩
theorem FlashAt.setDone {w : World} {g : Nat} {bs : List Int} {left res : Int} {dead : Bool} {done : Int} (h : FlashAt w g bs left res dead done) (x : Int) : FlashAt (w.setCell ⟨g, 259, none⟩ (.int .i64 x)) g bs left res dead x :=
  ⟨by rw [block_set h.blk 259 _]; exact congrArg (fun c => some (Obj.cells c 80 (0, 0))) (flash_tail bs _ 3 _ h.len), h.len, h.bytes⟩

set_option maxHeartbeats 1000000 in
theorem count_any (g : Nat) (F : Fl) (w : World) (h : FlAt w g F) (hl : F.left ≤ 1000000) :
    Calls Tryz.prog 194 #[.pointer (some ⟨g, 0, none⟩)] w fun e w' => e = .returned (.tuple #[]) ∧ FlAt w' g F.tally ∧ Touch (· = g) w w' := by
  obtain ⟨bs, left, res, dead, done⟩ := F
  simp only at h hl
  have c0 := h.last.1
  have c3 := h.last.2.2.2
  have f0 := free_of_block h.blk 256
  have f3 := free_of_block h.blk 259
  by_cases hp : 0 < left
  · have HEND : Hid (FlashAt ((w.setCell ⟨g, 259, none⟩ (.int .i64 (IntKind.i64.wrap (done + 1)))).setCell ⟨g, 256, none⟩ (.int .i64 (left - 1))) g bs (left - 1) res dead (IntKind.i64.wrap (done + 1)) ∧ Touch (· = g) w ((w.setCell ⟨g, 259, none⟩ (.int .i64 (IntKind.i64.wrap (done + 1)))).setCell ⟨g, 256, none⟩ (.int .i64 (left - 1)))) := ⟨(h.setDone _).setLeft _, (Touch.ofSet (S := (· = g)) w g _ _ rfl).thenSet _ _ rfl⟩
    have HT : Hid ((⟨bs, left, res, dead, done⟩ : Fl).tally = ⟨bs, left - 1, res, dead, IntKind.i64.wrap (done + 1)⟩) := by show _ = _; simp [Fl.tally, hp]
    clear h
    generalize hd : IntKind.i64.wrap (done + 1) = d2 at HEND HT
    go_enter Tryz.func194, Tryz.ntmps194
    go_wp2
    rw [HT.out]
    go_end0
    exact ⟨rfl, HEND.out.1, HEND.out.2⟩
  · have HEND : Hid (FlashAt (w.setCell ⟨g, 259, none⟩ (.int .i64 (IntKind.i64.wrap (done + 1)))) g bs left res dead (IntKind.i64.wrap (done + 1)) ∧ Touch (· = g) w (w.setCell ⟨g, 259, none⟩ (.int .i64 (IntKind.i64.wrap (done + 1))))) := ⟨h.setDone _, Touch.ofSet w g _ _ rfl⟩
    have HT : Hid ((⟨bs, left, res, dead, done⟩ : Fl).tally = ⟨bs, left, res, dead, IntKind.i64.wrap (done + 1)⟩) := by show _ = _; simp [Fl.tally, hp]
    clear h
    generalize hd : IntKind.i64.wrap (done + 1) = d2 at HEND HT
    go_enter Tryz.func194, Tryz.ntmps194
    go_wp2
    rw [HT.out]
    go_end0
    exact ⟨rfl, HEND.out.1, HEND.out.2⟩
theorem Touch.ofDrew {S : Nat → Prop} (a : World) : Touch S a a.drew := ⟨rfl, rfl, rfl, Nat.le_refl _, fun _ _ _ => rfl⟩
theorem Touch.drewN2 {S : Nat → Prop} {a b : World} (h : Touch S a b) (n : Nat) : Touch S a (b.drewN n) := h.andThen (Touch.ofDrewN b n)
set_option maxRecDepth 100000 in
set_option maxHeartbeats 2000000 in
theorem program_any (g : Nat) (F : Fl) (a : Nat) (v : Int) (w : World) (h : FlAt w g F) (hok : FlOk F) (ha : a < 256) :
    Calls Tryz.prog 193 #[.pointer (some ⟨g, 0, none⟩), .int .i64 a, .int .u8 v] w fun e w' => e = .returned (.bool (F.prog a v).1) ∧ FlAt w' g (F.prog a v).2 ∧ Touch (· = g) w w' := by
  obtain ⟨r, hr⟩ : ∃ r, r = F.prog a v := ⟨_, rfl⟩
  rw [← hr]
  have HLE := hide hok.left.2
  clear hok
  obtain ⟨bs, left, res, dead, done⟩ := F
  simp only at h HLE
  have c0 := h.last.1
  have c1 := h.last.2.1
  have c2 := h.last.2.2.1
  have cb := h.byte a ha
  have fb := free_of_block h.blk a
  have f2 := free_of_block h.blk 258
  have d1 : decide ((a : Int) < 0) = false := by simp
  have d2 : decide ((256 : Int) ≤ a) = false := by simp; omega
  unfold Fl.prog at hr
  simp only at hr
  by_cases hd : dead = true
  · rw [if_pos hd] at hr
    have HR := hide hr
    have HF := hide h
    rw [hd] at c2
    clear h hr hd
    go_enter Tryz.func193, Tryz.ntmps193
    go_wp2
    go_ret
    rw [HR.out]
    exact ⟨rfl, HF.out, Touch.refl _ _⟩
  · rw [if_neg hd] at hr
    have hdf : dead = false := by simpa using hd
    subst hdf
    by_cases hl : left = 0
    · rw [if_pos hl] at hr
      subst hl
      have HR := hide hr
      have HEND : Hid (FlashAt ((w.setCell ⟨g, a, none⟩ (.int .u8 (band8 (bs.getD a 0) (bor8 v res)))).setCell ⟨g, 258, none⟩ (.bool true)) g (bs.set a (band8 (bs.getD a 0) (bor8 v res))) 0 res true done ∧ Touch (· = g) w ((w.setCell ⟨g, a, none⟩ (.int .u8 (band8 (bs.getD a 0) (bor8 v res)))).setCell ⟨g, 258, none⟩ (.bool true))) := ⟨(h.at a _ ha (band8_rng _ _)).setDead true, (Touch.ofSet (S := (· = g)) w g _ _ rfl).thenSet _ _ rfl⟩
      have HB : Hid (band8 (bs.getD a 0) (bor8 v res) = bits .and .u8 (bs.getD a 0) (bits .or .u8 v res)) := rfl
      have hne : ¬ (258 : Nat) = a := by omega
      clear h hr hd
      generalize bs.getD a 0 = x at *
      go_enter Tryz.func193, Tryz.ntmps193
      go_wp2_with fail
      go_region
      all_goals
        go_wp2
        go_ret
        rw [HR.out]
        rw [← HB.out]
        exact ⟨rfl, HEND.out.1.keep rfl, HEND.out.2.andThen ⟨rfl, rfl, rfl, Nat.le_refl _, fun _ _ _ => rfl⟩⟩
    · rw [if_neg hl] at hr
      have HR := hide hr
      have hl2 : (left == 0) = false := by simpa using hl
      have HA : Hid (FlashAt (w.setCell ⟨g, a, none⟩ (.int .u8 (band8 (bs.getD a 0) v))) g (bs.set a (band8 (bs.getD a 0) v)) left res false done ∧ Touch (· = g) w (w.setCell ⟨g, a, none⟩ (.int .u8 (band8 (bs.getD a 0) v)))) := ⟨h.at a _ ha (band8_rng _ _), Touch.ofSet w g _ _ rfl⟩
      have HB : Hid (band8 (bs.getD a 0) v = bits .and .u8 (bs.getD a 0) v) := rfl
      clear h hr hd
      generalize bs.getD a 0 = x at *
      go_enter Tryz.func193, Tryz.ntmps193
      go_wp2_with fail
      go_region
      all_goals
        go_wp2_with fail
        rw [← HB.out]
        refine (count_any g ⟨bs.set a (band8 x v), left, res, false, done⟩ (w.setCell ⟨g, a, none⟩ (.int .u8 (band8 x v))).drew (HA.out.1.keep rfl) HLE.out).mono ?_
        rintro e w' ⟨rfl, h1, h2⟩
        have H1 := hide h1
        have H2 : Hid (Touch (· = g) w w') := HA.out.2.andThen ((Touch.ofDrew _).andThen h2)
        clear h1 h2
        go_wp2
        go_ret
        rw [HR.out]
        exact ⟨rfl, H1.out, H2.out⟩
end Go.Proofs.YtnjlbgolnbdkaaaGreat
/- The flash's own calls: Erase, Cut, Restore. -/
namespace Go.Proofs.YtnjlbgolnbdkaaaGreat
open Go.RowKit

set_option maxRecDepth 100000 in
set_option maxHeartbeats 2000000 in
theorem erase_any (g : Nat) (F : Fl) (s : Nat) (w : World) (h : FlAt w g F) (hok : FlOk F) (hs : s < 2) :
    Calls Tryz.prog 158 #[.pointer (some ⟨g, 0, none⟩), .int .i64 s] w fun e w' => e = .returned (.bool (F.erase s).1) ∧ FlAt w' g (F.erase s).2 ∧ Touch (· = g) w w' := by
  obtain ⟨r, hr⟩ : ∃ r, r = F.erase s := ⟨_, rfl⟩
  rw [← hr]
  have HLE := hide hok.left.2
  clear hok
  obtain ⟨bs, left, res, dead, done⟩ := F
  simp only at h HLE
  have c2 := h.last.2.2.1
  have d1 : decide ((s : Int) < 0) = false := by simp
  have d2 : decide ((1 : Int) < s) = false := by simp; omega
  unfold Fl.erase at hr
  simp only at hr
  by_cases hd : dead = true
  · rw [if_pos hd] at hr
    have HR := hide hr
    have HF := hide h
    rw [hd] at c2
    clear h hr hd
    go_enter Tryz.func158, Tryz.ntmps158
    go_wp2
    go_ret
    rw [HR.out]
    exact ⟨rfl, HF.out, Touch.refl _ _⟩
  · rw [if_neg hd] at hr
    have hdf : dead = false := by simpa using hd
    subst hdf
    obtain ⟨f, hf⟩ : ∃ f : Int → Int, f = if left = 0 then (fun x => bor8 x res) else (fun _ => 255) := ⟨_, rfl⟩
    have HFR : Hid (∀ x, 0 ≤ f x ∧ f x ≤ 255) := fun x => by
      rw [hf]
      split
      · exact bor8_rng _ _
      · exact ⟨(by decide : (0 : Int) ≤ 255), (by decide : (255 : Int) ≤ 255)⟩
    obtain ⟨E, hE⟩ : ∃ E : Nat → List Int, E = eraTo f (128 * s) bs := ⟨_, rfl⟩
    have HE0 : Hid (E 0 = bs) := by show _ = _; rw [hE]; rfl
    have HES : Hid (∀ k, E (k + 1) = (E k).set (128 * s + k) (f ((E k).getD (128 * s + k) 0))) := fun k => by rw [hE]; rfl
    have HE8 : Hid (E 128 = eraTo f (128 * s) bs 128) := by show _ = _; rw [hE]
    have HF := hide h
    by_cases hl : left = 0
    · rw [if_pos hl] at hr hf
      have HB : Hid (∀ x, f x = bits .or .u8 x res) := fun x => by rw [hf]; rfl
      rw [← hf, ← HE8.out] at hr
      have HR := hide hr
      subst hl
      clear h hr hd hf hE HE8
      go_enter Tryz.func158, Tryz.ntmps158
      go_wp2_with fail
      go_loopw [5] (fun t wr => ∃ k : Nat, k ≤ 128 ∧ t = .int .i64 (128 * s + k : Nat) ∧ FlashAt wr g (E k) 0 res false done ∧ Touch (· = g) w wr) (fun t _ => 256 - (intOf t).toNat)
      case atStart => exact ⟨0, by omega, by go_num, by rw [HE0.out]; exact HF.out, Touch.refl _ _⟩
      case round =>
        obtain ⟨k, hk, rfl, hF, hT⟩ := hrel
        have e0 := hF.last.1
        have e1 := hF.last.2.1
        by_cases hlt : k < 128
        · have cb := hF.byte (128 * s + k) (by omega)
          have fb := free_of_block hF.blk (128 * s + k)
          have HEND : Hid (FlashAt (wr.setCell ⟨g, 128 * s + k, none⟩ (.int .u8 (f ((E k).getD (128 * s + k) 0)))) g (E (k + 1)) 0 res false done ∧ Touch (· = g) w (wr.setCell ⟨g, 128 * s + k, none⟩ (.int .u8 (f ((E k).getD (128 * s + k) 0))))) := ⟨by rw [HES.out]; exact hF.at _ _ (by omega) (HFR.out _), hT.thenSet _ _ rfl⟩
          rw [HB.out] at HEND
          clear hF hT
          generalize (E k).getD (128 * s + k) 0 = x at *
          have HQ : Hid (128 * s + (k + 1) = 128 * s + k + 1) := by show _ = _; omega
          have hq2 : 128 * s + k < 256 := by omega
          have hq3 : ((128 * s + k : Nat) : Int) < ((s : Int) + 1) * 128 := by omega
          generalize 128 * s + k = q at *
          go_wp2_with fail
          go_region
          all_goals
            go_wp2
            go_roundw
            case rel => exact ⟨k + 1, by omega, by rw [HQ.out]; go_num, HEND.out.1.keep rfl, HEND.out.2.andThen ⟨rfl, rfl, rfl, Nat.le_refl _, fun _ _ _ => rfl⟩⟩
            case measure => simp [intOf]; omega
        · obtain rfl : k = 128 := by omega
          have f3 := free_of_block hF.blk 258
          have c3 := hF.last.2.2.1
          have HEND : Hid (FlashAt (wr.setCell ⟨g, 258, none⟩ (.bool true)) g (E 128) 0 res true done ∧ Touch (· = g) w (wr.setCell ⟨g, 258, none⟩ (.bool true))) := ⟨hF.setDead true, hT.thenSet _ _ rfl⟩
          clear hF hT
          go_wp2
          go_ret
          rw [HR.out]
          exact ⟨rfl, HEND.out.1, HEND.out.2⟩
    · rw [if_neg hl] at hr hf
      have HB : Hid (∀ x, f x = 255) := fun x => by rw [hf]
      rw [← hf, ← HE8.out] at hr
      have HR := hide hr
      have hl2 : (left == 0) = false := by simpa using hl
      clear h hr hd hf hE HE8
      go_enter Tryz.func158, Tryz.ntmps158
      go_wp2_with fail
      go_loopw [5] (fun t wr => ∃ k : Nat, k ≤ 128 ∧ t = .int .i64 (128 * s + k : Nat) ∧ FlashAt wr g (E k) left res false done ∧ Touch (· = g) w wr) (fun t _ => 256 - (intOf t).toNat)
      case atStart => exact ⟨0, by omega, by go_num, by rw [HE0.out]; exact HF.out, Touch.refl _ _⟩
      case round =>
        obtain ⟨k, hk, rfl, hF, hT⟩ := hrel
        have e0 := hF.last.1
        by_cases hlt : k < 128
        · have cb := hF.byte (128 * s + k) (by omega)
          have fb := free_of_block hF.blk (128 * s + k)
          have HEND : Hid (FlashAt (wr.setCell ⟨g, 128 * s + k, none⟩ (.int .u8 (f ((E k).getD (128 * s + k) 0)))) g (E (k + 1)) left res false done ∧ Touch (· = g) w (wr.setCell ⟨g, 128 * s + k, none⟩ (.int .u8 (f ((E k).getD (128 * s + k) 0))))) := ⟨by rw [HES.out]; exact hF.at _ _ (by omega) (HFR.out _), hT.thenSet _ _ rfl⟩
          rw [HB.out] at HEND
          clear hF hT
          generalize (E k).getD (128 * s + k) 0 = x at *
          have HQ : Hid (128 * s + (k + 1) = 128 * s + k + 1) := by show _ = _; omega
          have hq2 : 128 * s + k < 256 := by omega
          have hq3 : ((128 * s + k : Nat) : Int) < ((s : Int) + 1) * 128 := by omega
          generalize 128 * s + k = q at *
          go_wp2
          go_roundw
          case rel => exact ⟨k + 1, by omega, by rw [HQ.out]; go_num, HEND.out.1, HEND.out.2⟩
          case measure => simp [intOf]; omega
        · obtain rfl : k = 128 := by omega
          have HC := hide (count_any g ⟨E 128, left, res, false, done⟩ wr hF HLE.out)
          have HT := hide hT
          clear hF hT
          go_wp2_with fail
          refine HC.out.mono ?_
          rintro e w' ⟨rfl, h1, h2⟩
          have H1 := hide h1
          have H2 : Hid (Touch (· = g) w w') := HT.out.andThen h2
          clear h1 h2
          go_wp2
          go_ret
          rw [HR.out]
          exact ⟨rfl, H1.out, H2.out⟩
end Go.Proofs.YtnjlbgolnbdkaaaGreat
/- The program's machine with its flash in memory; words are filled; a partition is restarted. -/
namespace Go.Proofs.YtnjlbgolnbdkaaaGreat
open Go.RowKit Go.Shelf

attribute [local go_sem] Oper.semAt_some

structure Mo (w : World) (L : MLay) (g : Nat) (st : RSt) (F : Fl) : Prop where
  mach : MachAt w L g st
  lay : LayOk L st.parts.length st.cf.chans.length
  ok : StOk st
  fl : FlAt w g F
  flok : FlOk F
def Dm (L : MLay) (g : Nat) (st : RSt) (b : Nat) : Prop := b = L.mb ∨ b = L.pb ∨ (∃ i, i < st.parts.length ∧ (b = L.wd i ∨ b = L.pr i)) ∨ (∃ j, j < st.cf.chans.length ∧ b = L.ch j) ∨ b = g
theorem Mo.lt {w : World} {L : MLay} {g : Nat} {st : RSt} {F : Fl} (h : Mo w L g st F) (b : Nat) (hb : Dm L g st b) : b < w.heap.size := by
  rcases hb with rfl | rfl | ⟨i, hi, rfl | rfl⟩ | ⟨j, hj, rfl⟩ | rfl
  · exact lt_of_block h.mach.mach
  · exact lt_of_block h.mach.parts
  · exact lt_of_block (h.mach.words i hi)
  · exact lt_of_block (h.mach.procs i hi)
  · obtain ⟨s, r, hc⟩ := h.mach.queue j hj
    exact lt_of_block hc
  · exact h.fl.lt
theorem Mo.mono {w w' : World} {L : MLay} {g : Nat} {st : RSt} {F : Fl} (h : Mo w L g st F) (hb : Below w.heap.size w w') : Mo w' L g st F :=
  ⟨h.mach.keep (fun _ _ => keepB hb), h.lay, h.ok, h.fl.below hb, h.flok⟩
theorem MachAt.same {w w' : World} {L : MLay} {g : Nat} {st : RSt} (h : MachAt w L g st) (hs : ∀ (b : Nat) (c : Array Value) (t : TypeId), w.heap[b]? = some (Obj.cells c t (0, 0)) → t ≠ 80 → w'.heap[b]? = w.heap[b]?) (hc : ∀ j, j < st.cf.chans.length → w'.heap[L.ch j]? = w.heap[L.ch j]?) : MachAt w' L g st := by
  have kc : ∀ {b : Nat} {c : Array Value} {s : TypeId}, w.heap[b]? = some (.cells c s (0, 0)) → s ≠ 80 → w'.heap[b]? = some (.cells c s (0, 0)) := fun hb ht => (hs _ _ _ hb ht).trans hb
  refine ⟨kc h.mach (by decide), kc h.parts (by decide), fun i hi => kc (h.words i hi) (by decide), fun i hi => kc (h.procs i hi) (by decide), fun i hi => kc (h.turns i hi) (by decide), kc h.wins (by decide), kc h.chans (by decide), fun j hj => ?_, fun i k hi hk => ?_⟩
  · obtain ⟨s, r, hq⟩ := h.queue j hj
    exact ⟨s, r, (hc j hj).trans hq⟩
  · refine own_keep (h.code i k hi hk) (fun b e => ?_)
    obtain ⟨cur, hcu⟩ := own_of (h.code i k hi hk) e
    exact hs _ _ _ hcu (by decide)
theorem Mo.flash {w w' : World} {L : MLay} {g : Nat} {st : RSt} {F F' : Fl} (h : Mo w L g st F) (ht : Touch (· = g) w w') (hf : FlAt w' g F') (ho : FlOk F') : Mo w' L g st F' := by
  refine ⟨h.mach.same (fun b c t hb h80 => ht.block b (lt_of_block hb) (fun e => ?_)) (fun j hj => ?_), h.lay, h.ok, hf, ho⟩
  · have e2 : b = g := e
    subst e2
    have := h.fl.blk
    rw [hb] at this
    simp at this
    exact h80 this.2
  · obtain ⟨s, r, hq⟩ := h.mach.queue j hj
    exact ht.block _ (lt_of_block hq) (fun e => ne_of_chan h.fl.blk hq (show g = L.ch j from (show L.ch j = g from e).symm))
theorem MachAt.grow {W W' : World} {L : MLay} {g : Nat} {st : RSt} {row : Option Nat} (h : MachAt W L g st) (hg : W.grownBy W' row) (hr : ∀ r, row = some r → (∃ o : Obj, W.heap[r]? = some o ∧ o.isCells = false) ∧ ∀ j, j < st.cf.chans.length → L.ch j ≠ r) : MachAt W' L g st := by
  refine h.same (fun b c t hb _ => hg.block b (lt_of_block hb) (fun e => ?_)) (fun j hj => ?_)
  · obtain ⟨o, ho, hn⟩ := (hr b e.symm).1
    rw [hb] at ho
    cases ho
    cases hn
  · obtain ⟨s, r, hq⟩ := h.queue j hj
    exact hg.block _ (lt_of_block hq) (fun e => (hr _ e.symm).2 j hj rfl)
theorem ownFrom_mach {β : Type} {B : Nat} {L : MLay} {g : Nat} (f : β → RSt) (hB : ∀ s j, j < (f s).cf.chans.length → L.ch j < B) : OwnFrom B (fun s W => MachAt W L g (f s)) :=
  fun s _ _ _ hs hg hr => hs.grow hg (fun r e => ⟨(hr r e).2, fun j hj he => by have := hB s j hj; have := (hr r e).1; omega⟩)
theorem ownFrom_touch {β : Type} {B : Nat} {S : Nat → Prop} {w : World} (hB : w.heap.size ≤ B) : OwnFrom B (fun (_ : β) W => Touch S w W) :=
  fun _ _ _ _ hs hg hr => hs.trans (Touch.ofGrown (S := fun b => B ≤ b) hg (fun k e => .inl (hr k e).1)) (fun _ hi => .inr (Nat.le_trans hB hi))
theorem keepsFrom_touch {B : Nat} {S : Nat → Prop} {W W' : World} (h : Touch S W W') (hS : ∀ b, S b → b < B) : KeepsFrom B W W' :=
  ⟨h.size, fun k _ hk h0 _ => (h.block k (Array.getElem?_eq_some_iff.1 h0).1 (fun hs => by have := hS k hs; omega)).trans h0⟩
theorem StOk.setPart {st : RSt} (h : StOk st) (i : Nat) (p : RPart) (hw : p.words.length = (st.part i).words.length) (hp : p.procs.length = (st.part i).procs.length) : StOk (st.setPart i p) := by
  refine ⟨h.good, by simpa [RSt.setPart] using h.len, fun j hj => ?_, h.qlen⟩
  have hj' : j < st.parts.length := by simpa [RSt.setPart] using hj
  have := h.part j hj'
  by_cases e : i = j
  · subst e
    have hh : ((st.setPart i p).parts.getD i default) = p := RSt.part_set hj'
    rw [hh, hw, hp]
    exact this
  · have hh : ((st.setPart i p).parts.getD j default) = st.parts.getD j default := RSt.part_other e
    rw [hh]
    exact this
theorem Mo.cells {w w' : World} {L : MLay} {g b : Nat} {st st' : RSt} {F : Fl} {c : Array Value} {t : TypeId} (h : Mo w L g st F) (hb : w.heap[b]? = some (.cells c t (0, 0))) (h80 : t ≠ 80) (ht : Touch (· = b) w w') (hm : MachAt w' L g st') (hl : st'.parts.length = st.parts.length) (hcf : st'.cf = st.cf) (hok : StOk st') : Mo w' L g st' F :=
  ⟨hm, by rw [hl, hcf]; exact h.lay, hok, h.fl.keep (ht.block g h.fl.lt (fun e => by
    have e2 : g = b := e
    subst e2
    have := h.fl.blk
    rw [hb] at this
    simp at this
    exact h80 this.2)), h.flok⟩
theorem Mo.put {W : World} {L : MLay} {g : Nat} {st : RSt} {F : Fl} {D : Nat} {o : Obj} (h : Mo W L g st F) (hD : W.heap[D]? = some o) (ho : o.isCells = false) (hd : ¬ Dm L g st D) (o' : Obj) : Mo (W.putObj D o') L g st F :=
  ⟨h.mach.grow (grownBy_putObj' W D o') (fun r e => by cases e; exact ⟨⟨o, hD, ho⟩, fun j hj e => hd (.inr (.inr (.inr (.inl ⟨j, hj, e.symm⟩))))⟩), h.lay, h.ok, h.fl.keep (World.putObj_heap_other (fun e => hd (.inr (.inr (.inr (.inr e.symm)))))), h.flok⟩
theorem Touch.put {S : Nat → Prop} {w W : World} {D : Nat} (h : Touch S w W) (hD : w.heap.size ≤ D) (o' : Obj) : Touch S w (W.putObj D o') :=
  h.trans (Touch.ofGrown (S := (· = D)) (grownBy_putObj' W D o') (fun k e => by cases e; exact .inl rfl)) (fun i e => .inr (by have e2 : i = D := e; omega))
theorem ownFrom_mo {β : Type} {B : Nat} {L : MLay} {g : Nat} (f : β → RSt) (Ff : β → Fl) (hB : ∀ s b, Dm L g (f s) b → b < B) : OwnFrom B (fun s W => Mo W L g (f s) (Ff s)) :=
  fun s _ _ _ hs hg hr => ⟨hs.mach.grow hg (fun r e => ⟨(hr r e).2, fun j hj he => by have := hB s _ (.inr (.inr (.inr (.inl ⟨j, hj, rfl⟩)))); have := (hr r e).1; omega⟩), hs.lay, hs.ok, hs.fl.keep (hg.block g hs.fl.lt (fun e => by have := hB s _ (.inr (.inr (.inr (.inr rfl)))); have := (hr g e.symm).1; omega)), hs.flok⟩
theorem Touch.to {S T : Nat → Prop} {w w' : World} (h : Touch S w w') (hs : ∀ b, S b → T b) : Touch T w w' := h.mono hs
def fillW (ws : List Int) (k : Nat) : List Int := List.replicate k 0 ++ ws.drop k
theorem fillW_len (ws : List Int) (k : Nat) (hk : k ≤ ws.length) : (fillW ws k).length = ws.length := by simp [fillW]; omega
theorem fillW_set (ws : List Int) (k : Nat) (hk : k < ws.length) : (fillW ws k).set k 0 = fillW ws (k + 1) := by
  unfold fillW
  rw [List.set_append_right _ _ (by simp), List.length_replicate, Nat.sub_self, List.drop_eq_getElem_cons hk, List.set_cons_zero, List.replicate_succ', List.append_assoc]
  rfl
theorem fillW_all (ws : List Int) : fillW ws ws.length = List.replicate ws.length 0 := by simp [fillW]
set_option maxHeartbeats 1000000 in
theorem fill_any (b : Nat) (ws : List Int) (w : World) (hb : w.heap[b]? = some (.cells (ws.map (Value.int .i64)).toArray 3 (0, 0))) (hl : ws.length ≤ 1000) :
    Calls Tryz.prog 195 #[.agg #[.slice (some ⟨b, 0, none⟩) ws.length ws.length], .int .i64 0] w fun e w' => e = .returned (.tuple #[]) ∧ w'.heap[b]? = some (.cells ((List.replicate ws.length (0 : Int)).map (Value.int .i64)).toArray 3 (0, 0)) ∧ Touch (· = b) w w' := by
  have HB := hide hb
  have HBL := hide (lt_of_block hb)
  obtain ⟨E, hE⟩ : ∃ E : Nat → List Int, E = fillW ws := ⟨_, rfl⟩
  have HE0 : Hid (E 0 = ws) := by show _ = _; rw [hE]; simp [fillW]
  have HES : Hid (∀ k, k < ws.length → (E k).set k 0 = E (k + 1)) := fun k hk => by rw [hE]; exact fillW_set ws k hk
  have HEL : Hid (∀ k, k ≤ ws.length → (E k).length = ws.length) := fun k hk => by rw [hE]; exact fillW_len ws k hk
  have HEN : Hid (E ws.length = List.replicate ws.length 0) := by show _ = _; rw [hE]; exact fillW_all ws
  clear hb hE
  rw [← HEN.out]
  generalize hn : ws.length = n at *
  have HN := hide hn
  clear hn
  go_enter Tryz.func195, Tryz.ntmps195
  go_wp2
  go_loopw [8] (fun t wr => ∃ k : Nat, k ≤ n ∧ t = .int .i64 k ∧ wr.heap[b]? = some (.cells ((E k).map (Value.int .i64)).toArray 3 (0, 0)) ∧ wr.heap[w.heap.size]? = some (.cells #[.slice (some ⟨b, 0, none⟩) n n] 115 (0, 0)) ∧ Touch (· = b) w wr) (fun t _ => n - (intOf t).toNat)
  case atStart => exact ⟨0, by omega, rfl, by rw [HE0.out, Below.heap_alloc _ _ _ HBL.out]; exact HB.out, heap_alloc_new w _, Touch.ofBelow ((Below.refl _ _).alloc (Nat.le_refl _) _)⟩
  case round =>
    obtain ⟨k, hk, rfl, hbk, hbx, hT⟩ := hrel
    have c0 : wr.cell? ⟨w.heap.size, 0, none⟩ = some (.slice (some ⟨b, 0, none⟩) n n) := by rw [cell_of_row _ _ _ _ _ _ hbx]; rfl
    by_cases hlt : k < n
    · have ck : wr.cell? ⟨b, k, none⟩ = some (.int .i64 ((E k).getD k 0)) := by
        rw [cell_of_row _ _ _ _ _ _ hbk, List.getElem?_toArray, List.getElem?_map]
        have : k < (E k).length := by rw [HEL.out k hk]; exact hlt
        simp [List.getD_eq_getElem?_getD, this]
      have fk := free_of_block hbk k
      have HEND : Hid ((wr.setCell ⟨b, k, none⟩ (.int .i64 0)).heap[b]? = some (.cells ((E (k + 1)).map (Value.int .i64)).toArray 3 (0, 0)) ∧ (wr.setCell ⟨b, k, none⟩ (.int .i64 0)).heap[w.heap.size]? = some (.cells #[.slice (some ⟨b, 0, none⟩) n n] 115 (0, 0)) ∧ Touch (· = b) w (wr.setCell ⟨b, k, none⟩ (.int .i64 0))) := by
        refine ⟨?_, ?_, hT.thenSet _ _ rfl⟩
        · rw [block_set hbk k _]
          congr 2
          apply Array.ext'
          rw [Array.toList_setIfInBounds]
          show List.set (List.map _ _) _ _ = List.map _ _
          rw [← HES.out k hlt, List.map_set]
        · exact ((Touch.ofSet (S := (· = b)) wr b _ _ rfl).block _ (lt_of_block hbx) (by intro e; have e2 : w.heap.size = b := e; have := HBL.out; omega)).trans hbx
      clear hbk hbx hT
      generalize (E k).getD k 0 = zz at *
      go_wp2
      go_roundw
      case rel => exact ⟨k + 1, by omega, by go_num, HEND.out.1, HEND.out.2.1, HEND.out.2.2⟩
      case measure => simp [intOf]; omega
    · obtain rfl : k = n := by omega
      have HEND := hide (And.intro hbk hT)
      clear hbk hbx hT
      go_wp2
      go_end0
      exact ⟨rfl, HEND.out.1, HEND.out.2⟩
end Go.Proofs.YtnjlbgolnbdkaaaGreat
/- The program's machine: a partition is restarted. -/
namespace Go.Proofs.YtnjlbgolnbdkaaaGreat
open Go.RowKit Go.Shelf

attribute [local go_sem] Oper.semAt_some

def begun (i : Nat) (st : RSt) {N : Nat} (pre : List (Fin N)) : RSt := pre.foldl (fun s k => s.setProc i k.1 proc0) st
theorem begun_snoc (i : Nat) (st : RSt) {N : Nat} (pre : List (Fin N)) (k : Fin N) : begun i st (pre ++ [k]) = (begun i st pre).setProc i k.1 proc0 := by simp [begun]
theorem setProc_like (st : RSt) (i n : Nat) (x : RProc) : (st.setProc i n x).cf = st.cf ∧ (st.setProc i n x).parts.length = st.parts.length ∧ ((st.setProc i n x).part i).procs.length = (st.part i).procs.length := by
  refine ⟨rfl, by simp [RSt.setProc, RSt.setPart], ?_⟩
  by_cases h : i < st.parts.length
  · unfold RSt.setProc
    rw [RSt.part_set h]
    simp
  · unfold RSt.setProc RSt.setPart RSt.part
    simp only
    rw [List.set_eq_of_length_le (by omega)]
theorem begun_like (i : Nat) {N : Nat} (pre : List (Fin N)) : ∀ st : RSt, (begun i st pre).cf = st.cf ∧ (begun i st pre).parts.length = st.parts.length ∧ ((begun i st pre).part i).procs.length = (st.part i).procs.length := by
  induction pre with
  | nil => intro st; exact ⟨rfl, rfl, rfl⟩
  | cons k pre ih =>
    intro st
    have h1 := setProc_like st i k.1 proc0
    have h2 := ih (st.setProc i k.1 proc0)
    exact ⟨h2.1.trans h1.1, h2.2.1.trans h1.2.1, h2.2.2.trans h1.2.2⟩
theorem begun_all (i : Nat) (st : RSt) (N : Nat) (hi : i < st.parts.length) (k : Nat) (hk : k ≤ N) (hN : N = (st.part i).procs.length) : begun i st (upto N k) = st.setPart i { st.part i with procs := List.replicate k proc0 ++ (st.part i).procs.drop k } := by
  induction k with
  | zero =>
    show st = _
    simp only [List.replicate_zero, List.nil_append, List.drop_zero]
    exact (RSt.setPart_self st i).symm
  | succ k ih =>
    rw [upto_succ N k (by omega), begun_snoc, ih (by omega)]
    unfold RSt.setProc
    rw [RSt.part_set hi, RSt.setPart_set]
    congr 2
    simp only
    rw [List.set_append_right _ _ (by simp), List.length_replicate, Nat.sub_self, List.drop_eq_getElem_cons (by omega), List.set_cons_zero, List.replicate_succ', List.append_assoc]
    rfl
theorem getD_mem {α : Type} [Inhabited α] {l : List α} {i : Nat} (h : i < l.length) : l.getD i default ∈ l := by
  rw [List.getD_eq_getElem?_getD, List.getElem?_eq_getElem h]
  exact List.getElem_mem h
set_option maxRecDepth 100000 in
set_option maxHeartbeats 2000000 in
theorem restart_any (L : MLay) (g : Nat) (st : RSt) (F : Fl) (i : Nat) (mode now : Int) (w : World) (h : Mo w L g st F) (hi : i < st.parts.length) (hnow : now = st.now) :
    Calls Tryz.prog 160 #[.pointer (some ⟨L.pb, i * 14, none⟩), .int .i64 mode, .int .i64 now] w fun e w' => e = .returned (.tuple #[]) ∧ Mo w' L g (st.restart i mode) F ∧ Touch (Dm L g st) w w' := by
  subst hnow
  have hp := h.ok.part i hi
  have hmx : Tryz.prog.follows .mixedOrders = true := by kernel_rfl
  refine (callsIn_wide (n := 4)).1 ?_
  refine callsIn_of_wp_marks Tryz.func160 rfl trivial ?_ rfl
  simp only [Tryz.ntmps160, List.size_toArray, List.length_cons, List.length_nil, Nat.reduceAdd, Nat.reduceSub, Array.replicate_succ, Array.replicate_zero, List.push_toArray, List.append_toArray, List.nil_append, List.cons_append]
  have c9 := h.mach.partAt i 9 hi (by omega)
  have c10 := h.mach.partAt i 10 hi (by omega)
  have c11 := h.mach.partAt i 11 hi (by omega)
  have c13 := h.mach.partAt i 13 hi (by omega)
  simp only [mpartC, List.getElem?_cons_succ, List.getElem?_cons_zero] at c9 c10 c11 c13
  have f9 := free_of_block h.mach.parts (i * 14 + 9)
  have f13 := free_of_block h.mach.parts (i * 14 + 13)
  gi_wp2_with (refine ⟨trivial, ?_⟩; gi_at_call 146; refine (callsIn_wide.2 (procAll_any _ _ _)).mono ?_; rintro e w' ⟨rfl, rfl⟩)
  obtain ⟨N, hN⟩ : ∃ N, N = (st.part i).procs.length := ⟨_, rfl⟩
  obtain ⟨w1, hw1⟩ : ∃ w1, w1 = (w.setCell ⟨L.pb, i * 14 + 9, none⟩ (.int .i64 mode)).setCell ⟨L.pb, i * 14 + 13, none⟩ (.int .i64 st.now) := ⟨_, rfl⟩
  have hs1 : w1.heap.size = w.heap.size := by rw [hw1]; simp [World.setCell]
  obtain ⟨st1, hst1⟩ : ∃ st1, st1 = st.setPart i { st.part i with mode := mode, watch := st.now } := ⟨_, rfl⟩
  have hp1 : st1.part i = { st.part i with mode := mode, watch := st.now } := by rw [hst1]; exact RSt.part_set hi
  have hl1 : st1.parts.length = st.parts.length := by rw [hst1]; exact RSt.setPart_len _ _ _
  have hcf1 : st1.cf = st.cf := by rw [hst1]; rfl
  have hT1 : Touch (· = L.pb) w w1 := by rw [hw1]; exact (Touch.ofSet (S := (· = L.pb)) w _ _ _ rfl).thenSet _ _ rfl
  have hm1 : MachAt w1 L g st1 := by
    have ha := h.mach.setMode i mode hi
    have hb := ha.setWatch i st.now (by rw [RSt.setPart_len]; exact hi)
    rw [RSt.part_set hi, RSt.setPart_set, ← hst1, ← hw1] at hb
    exact hb
  have hM1 : Mo w1 L g st1 F := h.cells h.mach.parts (by decide) hT1 hm1 hl1 hcf1 (by rw [hst1]; exact h.ok.setPart i _ rfl rfl)
  have hne := ne_of_types hm1.parts (hm1.words i (by omega)) (by decide)
  have hN2 : N ≤ 1000 := by
    have h1 := h.ok.good.parts (st.cf.parts.getD i default) (getD_mem (by rw [← h.ok.len]; exact hi))
    have := h1.few
    have := hp.2
    rw [hN]
    unfold RSt.part
    omega
  rw [← hN, ← hw1]
  rw [← hN] at c11
  have HN := hide hN
  have HW1 := hide hw1
  have HS1 := hide hst1
  clear hN hw1 hst1
  have bC := Boxed.new w1 118 (.slice (some ⟨L.pr i, 0, none⟩) N N)
  rw [hs1] at bC
  obtain ⟨w2, hw2⟩ : ∃ w2, w2 = w1.alloc (.cells #[.slice (some ⟨L.pr i, 0, none⟩) N N] 118) := ⟨_, rfl⟩
  have hs2 : w2.heap.size = w.heap.size + 1 := by rw [hw2]; simp [hs1]
  have HS2 := hide hs2
  have hb2 : Below w1.heap.size w1 w2 := by rw [hw2]; exact (Below.refl _ _).alloc (Nat.le_refl _) _
  have hM2 := hM1.mono hb2
  rw [← hw2] at bC ⊢
  have hlt2 : ∀ b, Dm L g st b → b < w2.heap.size := fun b hb => by have := h.lt b hb; omega
  have hpr : Dm L g st (L.pr i) := .inr (.inr (.inl ⟨i, hi, .inr rfl⟩))
  have hprlt := h.lt _ hpr
  refine wpIn_rangeFunc_ownG rfl (by omega) (gf := 185) (lb := #[.pointer (some ⟨w.heap.size, 0, none⟩)]) rfl trivial (enters_of Tryz.func185 (by kernel_rfl) rfl)
    (procAll_stops _ _ trivial rfl (by omega) N hN2 w.heap.size (L.pr i) w2 (by omega) bC) (fun h k => k.trans h) (fun W l o o' hl _ _ _ => World.putObj_heap_other (by omega)) (Below.refl _ _) (fun _ => rfl)
    (fun pre W => MachAt W L g (begun i st1 pre) ∧ Boxed W w.heap.size 118 (.slice (some ⟨L.pr i, 0, none⟩) N N) ∧ Touch (· = L.pr i) w2 W)
    (fun _ _ _ => False)
    (OwnFrom.and (ownFrom_mach (fun pre => begun i st1 pre) (fun pre j hj => hlt2 _ (.inr (.inr (.inr (.inl ⟨j, by rw [(begun_like i pre st1).1, hcf1] at hj; exact hj, rfl⟩)))))) (OwnFrom.and (Own.from (boxed_own _ _ _) _) (ownFrom_touch (Nat.le_refl _))))
    (fun _ _ _ _ _ hs _ _ => hs)
    ⟨hM2.mach, bC, Touch.refl _ _⟩
    (fun k => { tmps := #[.pointer (some ⟨L.pb, i * 14, none⟩), .int .i64 mode, .int .i64 st.now, undef, undef, undef, undef, .pointer (some ⟨L.pr i, k.1 * 6, none⟩), .pointer (some ⟨L.pb, i * 14, none⟩), .int .i64 mode, .pointer (some ⟨L.pb, i * 14, none⟩), .pointer (some ⟨L.pb, i * 14 + 9, none⟩), .pointer (some ⟨L.pb, i * 14, none⟩), .int .i64 st.now, .pointer (some ⟨L.pb, i * 14, none⟩), .pointer (some ⟨L.pb, i * 14 + 13, none⟩), .pointer (some ⟨L.pb, i * 14, none⟩), .pointer (some ⟨L.pb, i * 14, none⟩), .pointer (some ⟨L.pb, i * 14 + 11, none⟩), .agg #[.slice (some ⟨L.pr i, 0, none⟩) N N], .func (.func 185) #[] #[.pointer (some ⟨w.heap.size, 0, none⟩)], .int .i64 k.1, .pointer (some ⟨L.pr i, k.1 * 6, none⟩), undef, undef, undef, undef, undef, undef, undef, undef, undef], defers := [] }) ?assign ?body ?done ?stop
  case assign =>
    intro l k W K hK
    gi_wp2
    exact hK
  case body =>
    rintro l pre k W ⟨hm, hv, hT⟩ hlt
    have hlk := begun_like i pre st1
    have HB := hide (begin_any L g (begun i st1 pre) i k.1 W hm (by rw [hlk.2.1, hlk.1, hl1, hcf1]; exact h.lay) (by rw [hlk.2.1, hl1]; exact hi) (by rw [hlk.2.2, hp1]; exact Nat.lt_of_lt_of_eq k.2 HN.out))
    have HV := hide hv
    have HT := hide hT
    clear hm hv hT hm1 hM1 hM2 c9 c10 c11 c13 f9 f13
    gi_wp2_with fail
    refine ⟨trivial, ?_⟩
    refine (CallsIn.inRound l (callsIn_wide.2 HB.out)).mono ?_
    rintro e W2 ⟨rfl, h1, h2⟩
    gi_wp2
    have hbx : W2.heap[w.heap.size]? = W.heap[w.heap.size]? := h2.block _ HV.out.lt (by intro e; have e2 : w.heap.size = L.pr i := e; omega)
    refine ⟨keepsFrom_touch h2 (fun b e => by have e2 : b = L.pr i := e; omega), hbx, ?_, hbx.trans HV.out, HT.out.andThen h2⟩
    rw [begun_snoc]
    exact h1
  case done =>
    rintro D ys W hD rfl ⟨hm, hv, hT⟩ hK
    rw [begun_all i st1 N (by omega) N (Nat.le_refl _) (by rw [HN.out, hp1])] at hm
    have e1 : List.replicate N proc0 ++ (st1.part i).procs.drop N = List.replicate (st.part i).procs.length proc0 := by rw [hp1, HN.out]; simp
    rw [e1, hp1] at hm
    have hsz : w.heap.size < W.heap.size := hv.lt
    have hM3 : Mo W L g (st1.setPart i { st.part i with mode := mode, watch := st.now, procs := List.replicate (st.part i).procs.length proc0 }) F := hM2.cells (hM2.mach.procs i (by omega)) (by decide) hT hm (RSt.setPart_len _ _ _) rfl (hM2.ok.setPart i _ (by rw [hp1]) (by rw [hp1]; simp))
    have hT3 : Touch (Dm L g st) w W := (hT1.to (fun b e => .inr (.inl e))).andThen ((Touch.ofBelow hb2).andThen (hT.to (fun b e => by have e2 : b = L.pr i := e; rw [e2]; exact hpr)))
    have hcl := hM3.mach.partAt i 10 (by rw [RSt.setPart_len]; omega) (by omega)
    rw [RSt.part_set (by omega)] at hcl
    simp only [mpartC, List.getElem?_cons_succ, List.getElem?_cons_zero] at hcl
    have HM3 := hide hM3
    have HT3 := hide hT3
    have HRE : Hid (∀ ws, ws = (if mode = 1 then List.replicate (st.part i).words.length (0 : Int) else (st.part i).words) → (st1.setPart i { st.part i with mode := mode, watch := st.now, procs := List.replicate (st.part i).procs.length proc0 }).setPart i { (st1.setPart i { st.part i with mode := mode, watch := st.now, procs := List.replicate (st.part i).procs.length proc0 }).part i with words := ws } = st.restart i mode) := fun ws hws => by
      rw [RSt.part_set (by omega), RSt.setPart_set, HS1.out, RSt.setPart_set, hws]
      rfl
    have HHK := hide hK
    clear c9 c10 c11 c13 f9 f13 hm hv hT hM1 hM2 hm1 hT1 hM3 hT3 e1
    have hnd : ¬ Dm L g st D := fun hd => by have := hlt2 D hd; omega
    obtain ⟨X, hX⟩ : ∃ X, X = st1.setPart i { st.part i with mode := mode, watch := st.now, procs := List.replicate (st.part i).procs.length proc0 } := ⟨_, rfl⟩
    have hXl : X.parts.length = st.parts.length := by rw [hX, RSt.setPart_len]; exact hl1
    have hXc : X.cf = st.cf := by rw [hX]; exact hcf1
    have hXp : X.part i = { st.part i with mode := mode, watch := st.now, procs := List.replicate (st.part i).procs.length proc0 } := by rw [hX]; exact RSt.part_set (by omega)
    have hDm : ∀ b, Dm L g X b ↔ Dm L g st b := fun b => by unfold Dm; rw [hXl, hXc]
    rw [← hX] at HM3 HRE
    by_cases hmode : mode = 1
    · have hmb : (mode == 1) = true := by simp [hmode]
      have hblk := HM3.out.mach.words i (by rw [hXl]; exact hi)
      have hwd : (X.parts.getD i default).words = (st.part i).words := by show (X.part i).words = _; rw [hXp]
      rw [hwd] at hblk
      have hwl : (st.part i).words.length ≤ 1000 := by
        have h1 := h.ok.good.parts (st.cf.parts.getD i default) (getD_mem (by rw [← h.ok.len]; exact hi))
        have := h1.words
        have := hp.1
        unfold RSt.part
        omega
      have HFI := hide (fill_any (L.wd i) (st.part i).words W hblk hwl)
      have HWB := hide hblk
      clear hblk hwd hlt2 hnd hDm
      gi_wp2_with fail
      refine ⟨trivial, ?_⟩
      refine (callsIn_wide.2 HFI.out).mono ?_
      rintro e W4 ⟨rfl, h41, h42⟩
      have hwdm : Dm L g st (L.wd i) := .inr (.inr (.inl ⟨i, hi, .inl rfl⟩))
      have hK4 : W4.heap[D]? = some (.deferred (some [])) := (h42.block D (lt_of_heap HHK.out) (fun e => by have e2 : D = L.wd i := e; have := h.lt _ hwdm; have := HS2.out; omega)).trans HHK.out
      have hm4 := HM3.out.mach.wordCell HM3.out.lay i (by rw [hXl]; exact hi) (List.replicate (st.part i).words.length 0) W4 h42 (by rw [hXp]; simp) h41
      have hM4 : Mo W4 L g (st.restart i mode) F := by
        have := HM3.out.cells HWB.out (by decide) h42 hm4 (RSt.setPart_len _ _ _) rfl (HM3.out.ok.setPart i _ (by rw [hXp]; simp) rfl)
        rw [HRE.out _ (by rw [if_pos hmode])] at this
        exact this
      have HEND : Hid (Mo (W4.putObj D (.deferred none)) L g (st.restart i mode) F ∧ Touch (Dm L g st) w (W4.putObj D (.deferred none))) := by
        refine ⟨hM4.put hK4 rfl (fun hd => ?_) _, (HT3.out.andThen (h42.to (fun b e => by have e2 : b = L.wd i := e; rw [e2]; exact hwdm))).put (by have := HS2.out; omega) _⟩
        have hd2 : Dm L g st D := by
          unfold Dm at hd ⊢
          rw [show (st.restart i mode).parts.length = st.parts.length from RSt.setPart_len _ _ _] at hd
          exact hd
        have := h.lt D hd2
        have := HS2.out
        omega
      have HK4 := hide hK4
      clear hm4 hM4 hK4 h41 h42
      gi_wp2
      refine ⟨by simp, .inl ⟨_, _, rfl, run_takeDeferred HK4.out, ?_⟩⟩
      exact ⟨_, results_none rfl _ _ _, rfl, HEND.out.1, HEND.out.2⟩
    · have hmb : (mode == 1) = false := by simp [hmode]
      have HEND : Hid (Mo (W.putObj D (.deferred none)) L g (st.restart i mode) F ∧ Touch (Dm L g st) w (W.putObj D (.deferred none))) := by
        have h1 := HM3.out.put HHK.out rfl (fun hd => hnd ((hDm D).1 hd)) (.deferred none)
        have h2 : X = st.restart i mode := by
          rw [← HRE.out _ rfl, if_neg hmode]
          have : (st.part i).words = (X.part i).words := by rw [hXp]
          rw [this]
          exact (RSt.setPart_self X i).symm
        rw [h2] at h1
        exact ⟨h1, HT3.out.put (by have := HS2.out; omega) _⟩
      clear hlt2 hnd hDm
      gi_wp2
      refine ⟨by simp, .inl ⟨_, _, rfl, run_takeDeferred HHK.out, ?_⟩⟩
      exact ⟨_, results_none rfl _ _ _, rfl, HEND.out.1, HEND.out.2⟩
  case stop =>
    rintro D c pre W _ _ h _
    exact h.elim
end Go.Proofs.YtnjlbgolnbdkaaaGreat
/- The program's machine: all partitions that run are restarted. -/
namespace Go.Proofs.YtnjlbgolnbdkaaaGreat
open Go.RowKit Go.Shelf

attribute [local go_sem] Oper.semAt_some

def reset1 (i : Nat) (s : RSt) : RSt := if (s.part i).mode = 3 then s else s.restart i 1
def resetTo (st : RSt) {N : Nat} (pre : List (Fin N)) : RSt := pre.foldl (fun s k => reset1 k.1 s) st
theorem resetTo_snoc (st : RSt) {N : Nat} (pre : List (Fin N)) (k : Fin N) : resetTo st (pre ++ [k]) = reset1 k.1 (resetTo st pre) := by simp [resetTo]
theorem reset1_like (i : Nat) (st : RSt) : (reset1 i st).cf = st.cf ∧ (reset1 i st).parts.length = st.parts.length ∧ (reset1 i st).now = st.now := by
  unfold reset1
  split
  · exact ⟨rfl, rfl, rfl⟩
  · exact ⟨rfl, RSt.setPart_len _ _ _, rfl⟩
theorem resetTo_like {N : Nat} (pre : List (Fin N)) : ∀ st : RSt, (resetTo st pre).cf = st.cf ∧ (resetTo st pre).parts.length = st.parts.length ∧ (resetTo st pre).now = st.now := by
  induction pre with
  | nil => intro st; exact ⟨rfl, rfl, rfl⟩
  | cons k pre ih =>
    intro st
    have h1 := reset1_like k.1 st
    have h2 := ih (reset1 k.1 st)
    exact ⟨h2.1.trans h1.1, h2.2.1.trans h1.2.1, h2.2.2.trans h1.2.2⟩
theorem resetTo_all (st : RSt) (N : Nat) (hN : N = st.parts.length) (k : Nat) (hk : k ≤ N) : resetTo st (upto N k) = { st with parts := (st.parts.take k).map (fun p => if p.mode = 3 then p else restartP 1 st.now p) ++ st.parts.drop k } := by
  induction k with
  | zero => rfl
  | succ k ih =>
    rw [upto_succ N k (by omega), resetTo_snoc, ih (by omega)]
    have hkl : k < st.parts.length := by omega
    have hl : ((st.parts.take k).map (fun p => if p.mode = 3 then p else restartP 1 st.now p)).length = k := by simp; omega
    obtain ⟨A, hA⟩ : ∃ A, A = (st.parts.take k).map (fun p => if p.mode = 3 then p else restartP 1 st.now p) := ⟨_, rfl⟩
    rw [← hA] at hl ⊢
    have hp : ({ st with parts := A ++ st.parts.drop k } : RSt).part k = st.parts[k] := by
      unfold RSt.part
      simp only [List.getD_eq_getElem?_getD]
      rw [List.getElem?_append_right (by omega), hl, Nat.sub_self, List.getElem?_drop, Nat.add_zero, List.getElem?_eq_getElem hkl]
      rfl
    have ht : (st.parts.take (k + 1)).map (fun p => if p.mode = 3 then p else restartP 1 st.now p) = A ++ [if (st.parts[k]).mode = 3 then st.parts[k] else restartP 1 st.now st.parts[k]] := by
      rw [List.take_add_one, List.getElem?_eq_getElem hkl, List.map_append, ← hA]
      rfl
    rw [ht]
    unfold reset1
    rw [hp]
    split
    · rw [List.drop_eq_getElem_cons hkl]
      simp
    · unfold RSt.restart RSt.setPart
      rw [hp]
      simp only
      rw [List.set_append_right _ _ (by omega), hl, Nat.sub_self, List.drop_eq_getElem_cons hkl, List.set_cons_zero]
      simp
set_option maxRecDepth 100000 in
set_option maxHeartbeats 2000000 in
theorem reset_any (L : MLay) (g : Nat) (st : RSt) (F : Fl) (w : World) (h : Mo w L g st F) :
    Calls Tryz.prog 161 #[.pointer (some ⟨L.mb, 0, none⟩)] w fun e w' => e = .returned (.tuple #[]) ∧ Mo w' L g st.reset F ∧ Touch (Dm L g st) w w' := by
  have hmx : Tryz.prog.follows .mixedOrders = true := by kernel_rfl
  obtain ⟨N, hN⟩ : ∃ N, N = st.parts.length := ⟨_, rfl⟩
  have hN2 : N ≤ 1000 := by have := h.ok.good.few; have := h.ok.len; omega
  have c3 := h.mach.machAt 3
  have c6 := h.mach.machAt 6
  simp only [List.getElem?_toArray, List.getElem?_cons_succ, List.getElem?_cons_zero] at c3 c6
  rw [← hN] at c3
  have HN := hide hN
  have hmb := lt_of_block h.mach.mach
  have hmbd : Dm L g st L.mb := .inl rfl
  clear hN
  refine (callsIn_wide (n := 4)).1 ?_
  refine callsIn_of_wp_marks Tryz.func161 rfl trivial ?_ rfl
  simp only [Tryz.ntmps161, List.size_toArray, List.length_cons, List.length_nil, Nat.reduceAdd, Nat.reduceSub, Array.replicate_succ, Array.replicate_zero, List.push_toArray, List.append_toArray, List.nil_append, List.cons_append]
  gi_wp2_with (refine ⟨trivial, ?_⟩; gi_at_call 145; refine (callsIn_wide.2 (partAll_any _ _ _)).mono ?_; rintro e w' ⟨rfl, rfl⟩)
  have bA := Boxed.new w 74 (.pointer (some ⟨L.mb, 0, none⟩))
  have bC := Boxed.new (w.alloc (.cells #[.pointer (some ⟨L.mb, 0, none⟩)] 74)) 111 (.slice (some ⟨L.pb, 0, none⟩) N N)
  rw [World.size_alloc] at bC
  have bA2 := bA.alloc (.cells #[.slice (some ⟨L.pb, 0, none⟩) N N] 111)
  obtain ⟨w2, hw2⟩ : ∃ w2, w2 = (w.alloc (.cells #[.pointer (some ⟨L.mb, 0, none⟩)] 74)).alloc (.cells #[.slice (some ⟨L.pb, 0, none⟩) N N] 111) := ⟨_, rfl⟩
  have hs2 : w2.heap.size = w.heap.size + 2 := by rw [hw2]; simp
  have hb2 : Below w.heap.size w w2 := by rw [hw2]; exact ((Below.refl _ _).alloc (Nat.le_refl _) _).alloc (by simp) _
  rw [← hw2] at bC bA2 ⊢
  have hM2 := h.mono hb2
  have HW2 := hide hw2
  have HS2 := hide hs2
  clear hw2 bA
  have hlt2 : ∀ b, Dm L g st b → b < w.heap.size := fun b hb => h.lt b hb
  have hDs : ∀ (s : RSt) (b : Nat), s.cf = st.cf → s.parts.length = st.parts.length → Dm L g s b → Dm L g st b := fun s b h1 h2 hb => by unfold Dm at hb ⊢; rw [h1, h2] at hb; exact hb
  refine wpIn_rangeFunc_ownG rfl (by omega) (gf := 184) (lb := #[.pointer (some ⟨w.heap.size + 1, 0, none⟩)]) rfl trivial (enters_of Tryz.func184 (by kernel_rfl) rfl)
    (partAll_stops _ _ trivial rfl (by omega) N hN2 (w.heap.size + 1) L.pb w2 (by omega) bC) (fun h k => k.trans h) (fun W l o o' hl _ _ _ => World.putObj_heap_other (by omega)) (Below.refl _ _) (fun _ => rfl)
    (fun pre W => Mo W L g (resetTo st pre) F ∧ Boxed W w.heap.size 74 (.pointer (some ⟨L.mb, 0, none⟩)) ∧ Boxed W (w.heap.size + 1) 111 (.slice (some ⟨L.pb, 0, none⟩) N N) ∧ Touch (Dm L g st) w2 W)
    (fun _ _ _ => False)
    (OwnFrom.and (ownFrom_mo (fun pre => resetTo st pre) (fun _ => F) (fun pre b hb => by have := hlt2 b (hDs _ b (resetTo_like pre st).1 (resetTo_like pre st).2.1 hb); omega)) (OwnFrom.and (Own.from (boxed_own _ _ _) _) (OwnFrom.and (Own.from (boxed_own _ _ _) _) (ownFrom_touch (Nat.le_refl _)))))
    (fun _ _ _ _ _ hs _ _ => hs)
    ⟨hM2, bA2, bC, Touch.refl _ _⟩
    (fun k => { tmps := #[.pointer (some ⟨L.mb, 0, none⟩), .pointer (some ⟨w.heap.size, 0, none⟩), undef, .pointer (some ⟨L.pb, k.1 * 14, none⟩), .pointer (some ⟨L.mb, 0, none⟩), .pointer (some ⟨L.mb, 0, none⟩), .pointer (some ⟨L.mb, 3, none⟩), .agg #[.slice (some ⟨L.pb, 0, none⟩) N N], .func (.func 184) #[] #[.pointer (some ⟨w.heap.size + 1, 0, none⟩)], .int .i64 k.1, .pointer (some ⟨L.pb, k.1 * 14, none⟩), undef, undef, undef, undef, undef, undef, undef, undef], defers := [] }) ?assign ?body ?done ?stop
  case assign =>
    intro l k W K hK
    gi_wp2
    exact hK
  case body =>
    rintro l pre k W ⟨hm, hv, hc, hT⟩ hlt
    have hlk := resetTo_like pre st
    have hki : k.1 < (resetTo st pre).parts.length := by rw [hlk.2.1, ← HN.out]; exact k.2
    have d9 := hm.mach.partAt k.1 9 hki (by omega)
    simp only [mpartC, List.getElem?_cons_succ, List.getElem?_cons_zero] at d9
    have d6 := hm.mach.machAt 6
    simp only [List.getElem?_toArray, List.getElem?_cons_succ, List.getElem?_cons_zero] at d6
    have dv := hv.cell
    have HRU := hide (runs_any L.pb (k.1 * 14) _ W d9)
    have HRS := hide (restart_any L g (resetTo st pre) F k.1 1 (resetTo st pre).now W hm hki rfl)
    have HSN := hide (resetTo_snoc st pre k)
    have HR1 : Hid (reset1 k.1 (resetTo st pre) = if ((resetTo st pre).part k.1).mode = 3 then resetTo st pre else (resetTo st pre).restart k.1 1) := rfl
    have HM := hide hm
    have HV := hide hv
    have HC := hide hc
    have HT := hide hT
    have HDS := hide (fun b => hDs (resetTo st pre) b hlk.1 hlk.2.1)
    clear hm hv hc hT hM2 c3 c6 hlk d9
    generalize resetTo st pre = s at *
    gi_wp2_with fail
    refine ⟨trivial, ?_⟩
    refine (CallsIn.inRound l (callsIn_wide.2 HRU.out)).mono ?_
    rintro e W2 ⟨rfl, rfl⟩
    by_cases h3 : (s.part k.1).mode = 3
    · have h3b : ((s.part k.1).mode != 3) = false := by simp [h3]
      rw [if_pos h3] at HR1
      clear h3
      gi_wp2
      exact ⟨KeepsFrom.refl _ _, rfl, (by rw [HSN.out, HR1.out]; exact HM.out), HV.out, HC.out, HT.out⟩
    · have h3b : ((s.part k.1).mode != 3) = true := by simp [h3]
      rw [if_neg h3] at HR1
      clear h3
      gi_wp2_with fail
      refine ⟨trivial, ?_⟩
      refine (CallsIn.inRound l (callsIn_wide.2 HRS.out)).mono ?_
      rintro e W3 ⟨rfl, h1, h2⟩
      have h2' : Touch (Dm L g st) W2 W3 := h2.to HDS.out
      have hb1 : W3.heap[w.heap.size]? = W2.heap[w.heap.size]? := h2'.block _ HV.out.lt (fun hd => by have := hlt2 _ hd; omega)
      have hb3 : W3.heap[w.heap.size + 1]? = W2.heap[w.heap.size + 1]? := h2'.block _ HC.out.lt (fun hd => by have := hlt2 _ hd; omega)
      have HEND : Hid (KeepsFrom w2.heap.size W2 W3 ∧ W3.heap[w.heap.size + 1]? = W2.heap[w.heap.size + 1]? ∧ Mo W3 L g (resetTo st (pre ++ [k])) F ∧ Boxed W3 w.heap.size 74 (.pointer (some ⟨L.mb, 0, none⟩)) ∧ Boxed W3 (w.heap.size + 1) 111 (.slice (some ⟨L.pb, 0, none⟩) N N) ∧ Touch (Dm L g st) w2 W3) :=
        ⟨keepsFrom_touch h2' (fun b hb => by have := hlt2 b hb; have := HS2.out; omega), hb3, by rw [HSN.out, HR1.out]; exact h1, hb1.trans HV.out, hb3.trans HC.out, HT.out.andThen h2'⟩
      clear h1 h2 h2' hb1 hb3
      gi_wp2
      exact HEND.out
  case done =>
    rintro D ys W hD rfl ⟨hm, hv, hc, hT⟩ hK
    rw [resetTo_all st N HN.out N (Nat.le_refl _)] at hm
    have e : ({ st with parts := (st.parts.take N).map (fun p => if p.mode = 3 then p else restartP 1 st.now p) ++ st.parts.drop N } : RSt) = st.reset := by
      unfold RSt.reset
      rw [HN.out]
      simp
    rw [e] at hm
    have hdl := HS2.out
    have HEND : Hid (Mo (W.putObj D (.deferred none)) L g st.reset F ∧ Touch (Dm L g st) w (W.putObj D (.deferred none))) :=
      ⟨hm.put hK rfl (fun hd => by have := hlt2 D (hDs st.reset D rfl (by simp [RSt.reset]) hd); omega) _, ((Touch.ofBelow hb2).andThen hT).put (by omega) _⟩
    have HK := hide hK
    clear hm hv hc hT hM2 hlt2 hDs hdl e
    gi_wp2
    refine ⟨by simp, .inl ⟨_, _, rfl, run_takeDeferred HK.out, ?_⟩⟩
    exact ⟨_, results_none rfl _ _ _, rfl, HEND.out.1, HEND.out.2⟩
  case stop =>
    rintro D c pre W _ _ h _
    exact h.elim
end Go.Proofs.YtnjlbgolnbdkaaaGreat
