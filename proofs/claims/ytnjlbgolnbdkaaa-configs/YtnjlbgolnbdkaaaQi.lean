/- The program's reader: check, end. -/
import Derived.Test.YtnjlbgolnbdkaaaQh
namespace Go.Proofs.Ytnjlbgolnbdkaaa
open Go.RowKit

def pgCheck (zs : List Int) (s : Rs) : Rs :=
  if s.err ≠ 0 then s
  else if zs.length < s.pos + 4 then ⟨zs.length, 2⟩
  else if numFrom 0 ((zs.drop s.pos).take 4) ≠ crcOf (zs.take s.pos) then ⟨s.pos, 5⟩
  else ⟨s.pos + 4, s.err⟩
def pgEnd (zs : List Int) (s : Rs) : Rs := if s.err = 0 ∧ s.pos < zs.length then ⟨s.pos, 4⟩ else s

set_option maxRecDepth 100000 in
set_option maxHeartbeats 2000000 in
theorem pgcheck_any (rb : Nat) (ao : Option Addr) (n cap : Nat) (zs : List Int) (s : Rs) (w : World) (h : PgAt rb ao n cap zs s w) :
    Calls Try.prog 37 #[.pointer (some ⟨rb, 0, none⟩)] w fun e w' => e = .returned (.tuple #[]) ∧ PgAt rb ao n cap zs (pgCheck zs s) w' ∧ Touch (· = rb) w w' := by
  have hr := h.obj
  have c0 : w.cell? ⟨rb, 0, none⟩ = some (.slice ao n cap) := by rw [cell_of_row _ _ _ _ _ _ hr]; rfl
  have c1 : w.cell? ⟨rb, 1, none⟩ = some (.int .i64 s.pos) := by rw [cell_of_row _ _ _ _ _ _ hr]; rfl
  have c2 : w.cell? ⟨rb, 2, none⟩ = some (.int .i64 s.err) := by rw [cell_of_row _ _ _ _ _ _ hr]; rfl
  have f1 := free_of_block hr 1
  have f2 := free_of_block hr 2
  have hlen := h.held.len
  have hp := h.pos
  have hsm := h.small
  have hn0 : (0 : Int) ≤ (n : Int) := by omega
  have H := hide h
  have back : Hid (∀ (s' : Rs) (w' : World), w'.heap[rb]? = some (PgObj (.slice ao n cap) s') → Touch (· = rb) w w' → s'.pos ≤ n → PgAt rb ao n cap zs s' w') := fun r' w' ho ht hp' => ⟨ho, H.out.held.touch ht (fun ad e hn hs => H.out.apart ad e hn hs), H.out.apart, H.out.small, hp'⟩
  have HOBJ := hide hr
  clear h hr
  by_cases h1 : s.err = 0
  · have b1 : (s.err != 0) = false := by simp [h1]
    by_cases h2 : zs.length < s.pos + 4
    · have HR : Hid (pgCheck zs s = ⟨n, 2⟩) := by show _ = _; unfold pgCheck; rw [if_neg (by simpa using h1), if_pos h2, hlen]
      have h2' : (n : Int) < (s.pos : Int) + 4 := by omega
      clear h1 h2 hlen
      go_enter Try.func37, Try.ntmps37
      go_wp2
      refine bodyPost_ret (results_none rfl _ _ _) rfl ?_
      rw [HR.out]
      have t : Touch (· = rb) w ((w.setCell ⟨rb, 1, none⟩ (.int .i64 n)).setCell ⟨rb, 2, none⟩ (.int .i64 2)) := Touch.thenSet (S := (· = rb)) (Touch.thenSet (S := (· = rb)) (Touch.refl _ _) _ _ rfl) _ _ rfl
      refine ⟨rfl, back.out _ _ ?_ t (Nat.le_refl n), t⟩
      rw [block_set (block_set HOBJ.out 1 _) 2 _]
      rfl
    · have h2' : ¬ (n : Int) < (s.pos : Int) + 4 := by omega
      obtain ⟨b, off, hao, hrow⟩ := held_row H.out.held (by omega)
      have hcap1 := H.out.held.cap1
      have hcap2 := H.out.held.cap2
      have b3 : (s.pos : Int) + 4 ≤ (cap : Int) := by omega
      have b4 : ¬ cap = s.pos := by omega
      have b5 : (0 : Int) ≤ (s.pos : Int) := by omega
      have b6 : (s.pos : Int) ≤ (s.pos : Int) + 4 := by omega
      have b7 : (s.pos : Int) ≤ (cap : Int) := by omega
      have HBY := hide H.out.held.bytes
      have HNUM : Hid (∀ q c, Calls Try.prog 29 #[.slice (some ⟨b, off + s.pos, none⟩) 4 c] (w.drewN q) fun e w' => e = .returned (.int .u32 (numFrom 0 ((zs.drop s.pos).take 4) : Nat)) ∧ w' = w.drewN q) := fun q c => number_at b (off + s.pos) 4 c ((zs.drop s.pos).take 4) (w.drewN q) (by simp; omega) ((HBY.out.drop _).take _) ((hrow.drewN q).piece s.pos 4) (by omega)
      have HCHK : Hid (∀ q c, Calls Try.prog 30 #[.slice (some ⟨b, off, none⟩) s.pos c] (w.drewN q) fun e w' => e = .returned (.int .u32 (crcOf (zs.take s.pos) : Nat)) ∧ w' = w.drewN q) := fun q c => check_at b off s.pos c (zs.take s.pos) (w.drewN q) (by simp; omega) (HBY.out.take _) (by have := (hrow.drewN q).piece 0 s.pos; simpa using this) (by omega)
      subst hao
      by_cases h3 : numFrom 0 ((zs.drop s.pos).take 4) = crcOf (zs.take s.pos)
      · have HR : Hid (pgCheck zs s = ⟨s.pos + 4, s.err⟩) := by show _ = _; unfold pgCheck; rw [if_neg (by simpa using h1), if_neg h2, if_neg (by simpa using h3)]
        have b8 : (((numFrom 0 ((zs.drop s.pos).take 4) : Nat) : Int) != ((crcOf (zs.take s.pos) : Nat) : Int)) = false := by simp [h3]
        have HPN : Hid (s.pos + 4 ≤ n) := (by omega : s.pos + 4 ≤ n)
        generalize numFrom 0 ((zs.drop s.pos).take 4) = nu at HNUM b8
        generalize crcOf (zs.take s.pos) = cr at HCHK b8
        clear h1 h2 h3 hlen hrow
        go_enter Try.func37, Try.ntmps37
        go_wp2
        go_quiet ((first | (go_at_call 29; exact Calls.quiet_of_same (HNUM.out _ _)) | (go_at_call 30; exact Calls.quiet_of_same (HCHK.out _ _))))
        go_wp2
        go_end0
        rw [HR.out]
        have t : Touch (· = rb) w ((w.drewN nq).setCell ⟨rb, 1, none⟩ (.int .i64 ((s.pos : Int) + 4))) := (Touch.ofDrewN w nq).thenSet _ _ rfl
        refine ⟨rfl, back.out _ _ ?_ t HPN.out, t⟩
        rw [block_set (w := w.drewN nq) HOBJ.out 1 _]
        rfl
      · have HR : Hid (pgCheck zs s = ⟨s.pos, 5⟩) := by show _ = _; unfold pgCheck; rw [if_neg (by simpa using h1), if_neg h2, if_pos h3]
        have b8 : (((numFrom 0 ((zs.drop s.pos).take 4) : Nat) : Int) != ((crcOf (zs.take s.pos) : Nat) : Int)) = true := by rw [bne_iff_ne]; omega
        generalize numFrom 0 ((zs.drop s.pos).take 4) = nu at HNUM b8
        generalize crcOf (zs.take s.pos) = cr at HCHK b8
        clear h1 h2 h3 hlen hrow
        go_enter Try.func37, Try.ntmps37
        go_wp2
        go_quiet ((first | (go_at_call 29; exact Calls.quiet_of_same (HNUM.out _ _)) | (go_at_call 30; exact Calls.quiet_of_same (HCHK.out _ _))))
        go_wp2
        refine bodyPost_ret (results_none rfl _ _ _) rfl ?_
        rw [HR.out]
        have t : Touch (· = rb) w ((w.drewN nq).setCell ⟨rb, 2, none⟩ (.int .i64 5)) := (Touch.ofDrewN w nq).thenSet _ _ rfl
        refine ⟨rfl, back.out _ _ ?_ t hp, t⟩
        rw [block_set (w := w.drewN nq) HOBJ.out 2 _]
        rfl
  · have b1 : (s.err != 0) = true := by simpa using h1
    have HR : Hid (pgCheck zs s = s) := by show _ = _; unfold pgCheck; rw [if_pos h1]
    clear h1
    go_enter Try.func37, Try.ntmps37
    go_wp2
    refine bodyPost_ret (results_none rfl _ _ _) rfl ?_
    rw [HR.out]
    exact ⟨rfl, H.out, Touch.refl _ _⟩

set_option maxRecDepth 100000 in
set_option maxHeartbeats 2000000 in
theorem pgend_any (rb : Nat) (ao : Option Addr) (n cap : Nat) (zs : List Int) (s : Rs) (w : World) (h : PgAt rb ao n cap zs s w) :
    Calls Try.prog 38 #[.pointer (some ⟨rb, 0, none⟩)] w fun e w' => e = .returned (.tuple #[]) ∧ PgAt rb ao n cap zs (pgEnd zs s) w' ∧ Touch (· = rb) w w' := by
  have hr := h.obj
  have c0 : w.cell? ⟨rb, 0, none⟩ = some (.slice ao n cap) := by rw [cell_of_row _ _ _ _ _ _ hr]; rfl
  have c1 : w.cell? ⟨rb, 1, none⟩ = some (.int .i64 s.pos) := by rw [cell_of_row _ _ _ _ _ _ hr]; rfl
  have c2 : w.cell? ⟨rb, 2, none⟩ = some (.int .i64 s.err) := by rw [cell_of_row _ _ _ _ _ _ hr]; rfl
  have f2 := free_of_block hr 2
  have hlen := h.held.len
  have hp := h.pos
  have hsm := h.small
  have hn0 : (0 : Int) ≤ (n : Int) := by omega
  have H := hide h
  have back : Hid (∀ (s' : Rs) (w' : World), w'.heap[rb]? = some (PgObj (.slice ao n cap) s') → Touch (· = rb) w w' → s'.pos ≤ n → PgAt rb ao n cap zs s' w') := fun r' w' ho ht hp' => ⟨ho, H.out.held.touch ht (fun ad e hn hs => H.out.apart ad e hn hs), H.out.apart, H.out.small, hp'⟩
  have t0 : Hid (∀ nq, PgAt rb ao n cap zs s (w.drewN nq) ∧ Touch (· = rb) w (w.drewN nq)) := fun nq => ⟨⟨H.out.obj, H.out.held.touch (S := fun _ => False) (Touch.ofDrewN w nq) (fun _ _ _ h => h), H.out.apart, H.out.small, H.out.pos⟩, Touch.ofDrewN w nq⟩
  have HOBJ := hide hr
  clear h hr
  by_cases h1 : s.err = 0
  · have b1 : (s.err == 0) = true := by simp [h1]
    by_cases h2 : s.pos < zs.length
    · have HR : Hid (pgEnd zs s = ⟨s.pos, 4⟩) := by show _ = _; unfold pgEnd; rw [if_pos ⟨h1, h2⟩]
      have h2' : s.pos < n := by omega
      clear h1 h2 hlen
      go_enter Try.func38, Try.ntmps38
      go_wp2
      go_quiet (fail)
      go_wp2
      go_end0
      rw [HR.out]
      have t : Touch (· = rb) w ((w.drewN nq).setCell ⟨rb, 2, none⟩ (.int .i64 4)) := (Touch.ofDrewN w nq).thenSet _ _ rfl
      refine ⟨rfl, back.out _ _ ?_ t hp, t⟩
      rw [block_set (w := w.drewN nq) HOBJ.out 2 _]
      rfl
    · have HR : Hid (pgEnd zs s = s) := by show _ = _; unfold pgEnd; rw [if_neg (fun h => h2 h.2)]
      have h2' : ¬ s.pos < n := by omega
      clear h1 h2 hlen
      go_enter Try.func38, Try.ntmps38
      go_wp2
      go_quiet (fail)
      go_wp2
      go_end0
      rw [HR.out]
      exact ⟨rfl, t0.out _⟩
  · have b1 : (s.err == 0) = false := by simpa using h1
    have HR : Hid (pgEnd zs s = s) := by show _ = _; unfold pgEnd; rw [if_neg (fun h => h1 h.1)]
    clear h1
    go_enter Try.func38, Try.ntmps38
    go_wp2
    go_quiet (fail)
    go_wp2
    go_end0
    rw [HR.out]
    exact ⟨rfl, t0.out _⟩
end Go.Proofs.Ytnjlbgolnbdkaaa
