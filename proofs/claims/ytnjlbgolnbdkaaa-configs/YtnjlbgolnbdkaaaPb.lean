/- The document's reader: byte, not. -/
import Derived.Test.YtnjlbgolnbdkaaaPa
import Derived.Test.YtnjlbgolnbdkaaaSc
namespace Go.Proofs.Ytnjlbgolnbdkaaa
open Go.RowKit

/- the reader in memory -/
def RdObj (bv : Value) (r : Rd) : Obj := .cells #[bv, .int .i64 r.pos, .int .i64 r.err, .int .i64 r.pl] 86 (0, 0)
structure RdAt (rb : Nat) (ao : Option Addr) (n cap : Nat) (zs : List Int) (r : Rd) (w : World) : Prop where
  obj : w.heap[rb]? = some (RdObj (.slice ao n cap) r)
  held : Held w ao n cap zs
  apart : ∀ ad, ao = some ad → 0 < n → ad.block ≠ rb
  small : n ≤ 140737488351232
  pos : r.pos ≤ n
theorem RdAt.touch {rb : Nat} {ao : Option Addr} {n cap : Nat} {zs : List Int} {r : Rd} {w w' : World} (h : RdAt rb ao n cap zs r w) {B : Nat} (b : Below B w w') (hb : rb < B) (hz : ∀ ad, ao = some ad → 0 < n → ad.block < B) : RdAt rb ao n cap zs r w' :=
  ⟨(b.block rb hb).trans h.obj, h.held.touch (S := fun k => B ≤ k) ⟨b.os, b.tape, b.output, b.size, fun k _ hs => b.block k (by omega)⟩ (fun ad e hn hs => by have := hz ad e hn; omega), h.apart, h.small, h.pos⟩

theorem ret_of {a b : Int} (h : a = b) : Ending.returned (.int .i64 a) = .returned (.int .i64 b) := by rw [h]

set_option maxRecDepth 100000 in
set_option maxHeartbeats 2000000 in
theorem byte_any (rb : Nat) (ao : Option Addr) (n cap : Nat) (zs : List Int) (r : Rd) (lo hi : Int) (w : World) (h : RdAt rb ao n cap zs r w) :
    Calls Try.prog 39 #[.pointer (some ⟨rb, 0, none⟩), .int .i64 lo, .int .i64 hi] w fun e w' => e = .returned (.int .i64 (rdB zs lo hi r).1) ∧ RdAt rb ao n cap zs (rdB zs lo hi r).2 w' ∧ Touch (· = rb) w w' := by
  have hr := h.obj
  have c0 : w.cell? ⟨rb, 0, none⟩ = some (.slice ao n cap) := by rw [cell_of_row _ _ _ _ _ _ hr]; rfl
  have c1 : w.cell? ⟨rb, 1, none⟩ = some (.int .i64 r.pos) := by rw [cell_of_row _ _ _ _ _ _ hr]; rfl
  have c2 : w.cell? ⟨rb, 2, none⟩ = some (.int .i64 r.err) := by rw [cell_of_row _ _ _ _ _ _ hr]; rfl
  have c3 : w.cell? ⟨rb, 3, none⟩ = some (.int .i64 r.pl) := by rw [cell_of_row _ _ _ _ _ _ hr]; rfl
  have f1 := free_of_block hr 1
  have f2 := free_of_block hr 2
  have f3 := free_of_block hr 3
  have hlen := h.held.len
  have hp := h.pos
  have hsm := h.small
  have hn0 : (0 : Int) ≤ (n : Int) := by omega
  have H := hide h
  -- how a reader that has turned stands behind two stores
  have back : Hid (∀ (r' : Rd) (w' : World), w'.heap[rb]? = some (RdObj (.slice ao n cap) r') → Touch (· = rb) w w' → r'.pos ≤ n → RdAt rb ao n cap zs r' w') := fun r' w' ho ht hp' => ⟨ho, H.out.held.touch ht (fun ad e hn hs => H.out.apart ad e hn hs), H.out.apart, H.out.small, hp'⟩
  have t2 : Hid (∀ nq o v o' v', Touch (· = rb) w (((w.drewN nq).setCell ⟨rb, o, none⟩ v).setCell ⟨rb, o', none⟩ v')) := fun nq o v o' v' => Touch.trans (T := (· = rb)) (Touch.trans (T := (· = rb)) (Touch.ofDrewN w nq) (Touch.ofSet _ rb o v rfl) (fun i hi => .inl hi)) (Touch.ofSet _ rb o' v' rfl) (fun i hi => .inl hi)
  have t1 : Hid (∀ nq o v, Touch (· = rb) w ((w.drewN nq).setCell ⟨rb, o, none⟩ v)) := fun nq o v => Touch.trans (T := (· = rb)) (Touch.ofDrewN w nq) (Touch.ofSet _ rb o v rfl) (fun i hi => .inl hi)
  have HOBJ := hide hr
  clear h hr
  by_cases h1 : r.err = 0
  · have b1 : (r.err != 0) = false := by simp [h1]
    by_cases h2 : zs.length ≤ r.pos
    · have HR : Hid (rdB zs lo hi r = (lo, { r with err := 2, pl := zs.length })) := by show _ = _; unfold rdB; rw [if_neg (by simpa using h1), if_pos h2]
      have h2' : (n : Int) ≤ (r.pos : Int) := by omega
      have HL := hide hlen
      clear h1 h2 hlen
      go_enter Try.func39, Try.ntmps39
      go_wp2
      go_quiet (fail)
      go_wp2
      go_ret
      rw [HR.out]
      refine ⟨rfl, back.out _ _ ?_ (t2.out _ _ _ _ _) hp, t2.out _ _ _ _ _⟩
      rw [block_set (block_set (w := w.drewN nq) HOBJ.out 2 _) 3 _, HL.out]
      rfl
    · have h2' : (r.pos : Int) < (n : Int) := by omega
      obtain ⟨ad, b, off, hao, hcell, hzb⟩ : ∃ ad b off, ao = some ad ∧ (ad = ⟨b, off, none⟩ ∧ w.cell? ⟨b, off + r.pos, none⟩ = some (.int .u8 (zs.getD r.pos 0))) ∧ (0 ≤ zs.getD r.pos 0 ∧ zs.getD r.pos 0 < 256) := by
        obtain ⟨b, off, hao, hrow⟩ := held_row H.out.held (by omega)
        exact ⟨_, b, off, hao, ⟨rfl, hrow r.pos (by omega)⟩, H.out.held.bytes.getD r.pos⟩
      obtain ⟨rfl, hc⟩ := hcell
      by_cases h3 : zs.getD r.pos 0 < lo ∨ hi < zs.getD r.pos 0
      · have HR : Hid (rdB zs lo hi r = (lo, { r with err := 3, pl := r.pos })) := by show _ = _; unfold rdB; rw [if_neg (by simpa using h1), if_neg h2, if_pos h3]
        have HL := hide hlen
        have HAO := hide hao
        subst hao
        clear h1 h2 hlen HAO
        generalize zs.getD r.pos 0 = z at hc hzb h3
        by_cases h4 : z < lo
        · clear h3
          go_enter Try.func39, Try.ntmps39
          go_wp2
          go_quiet (fail)
          go_wp2
          go_quiet (fail)
          go_wp2
          go_ret
          rw [HR.out]
          refine ⟨rfl, back.out _ _ ?_ (t2.out _ _ _ _ _) hp, t2.out _ _ _ _ _⟩
          rw [block_set (block_set (w := w.drewN _) HOBJ.out 2 _) 3 _]
          rfl
        · have h5 : hi < z := by omega
          clear h3
          go_enter Try.func39, Try.ntmps39
          go_wp2
          go_quiet (fail)
          go_wp2
          go_quiet (fail)
          go_wp2
          go_ret
          rw [HR.out]
          refine ⟨rfl, back.out _ _ ?_ (t2.out _ _ _ _ _) hp, t2.out _ _ _ _ _⟩
          rw [block_set (block_set (w := w.drewN _) HOBJ.out 2 _) 3 _]
          rfl
      · have HR : Hid (rdB zs lo hi r = (zs.getD r.pos 0, { r with pos := r.pos + 1 })) := by show _ = _; unfold rdB; rw [if_neg (by simpa using h1), if_neg h2, if_neg h3]
        have hp1 : r.pos + 1 ≤ n := by omega
        subst hao
        have h4 : ¬ zs.getD r.pos 0 < lo := by omega
        have h5 : ¬ hi < zs.getD r.pos 0 := by omega
        clear h1 h2 hlen h3
        generalize zs.getD r.pos 0 = z at hc hzb h4 h5 HR
        go_enter Try.func39, Try.ntmps39
        go_wp2
        go_quiet (fail)
        go_wp2
        go_quiet (fail)
        go_wp2
        go_ret
        rw [HR.out]
        refine ⟨rfl, back.out _ _ ?_ (t1.out _ _ _) hp1, t1.out _ _ _⟩
        rw [block_set (w := w.drewN _) HOBJ.out 1 _]
        rfl
  · have b1 : (r.err != 0) = true := by simpa using h1
    have HR : Hid (rdB zs lo hi r = (lo, r)) := by show _ = _; unfold rdB; rw [if_pos h1]
    clear h1
    go_enter Try.func39, Try.ntmps39
    go_wp2
    go_ret
    rw [HR.out]
    exact ⟨rfl, H.out, Touch.refl _ _⟩

set_option maxRecDepth 100000 in
set_option maxHeartbeats 2000000 in
theorem not_any (rb : Nat) (ao : Option Addr) (n cap : Nat) (zs : List Int) (r : Rd) (v bad : Int) (w : World) (h : RdAt rb ao n cap zs r w) :
    Calls Try.prog 41 #[.pointer (some ⟨rb, 0, none⟩), .int .i64 v, .int .i64 bad] w fun e w' => e = .returned (.tuple #[]) ∧ RdAt rb ao n cap zs (rdNot v bad r) w' ∧ Touch (· = rb) w w' := by
  have hr := h.obj
  have c1 : w.cell? ⟨rb, 1, none⟩ = some (.int .i64 r.pos) := by rw [cell_of_row _ _ _ _ _ _ hr]; rfl
  have c2 : w.cell? ⟨rb, 2, none⟩ = some (.int .i64 r.err) := by rw [cell_of_row _ _ _ _ _ _ hr]; rfl
  have c3 : w.cell? ⟨rb, 3, none⟩ = some (.int .i64 r.pl) := by rw [cell_of_row _ _ _ _ _ _ hr]; rfl
  have f2 := free_of_block hr 2
  have f3 := free_of_block hr 3
  have hp := h.pos
  have hsm := h.small
  have H := hide h
  have HOBJ := hide hr
  clear h hr
  by_cases h1 : r.err = 0
  · have b1 : (r.err == 0) = true := by simp [h1]
    by_cases h2 : v = bad
    · have HR : Hid (rdNot v bad r = { r with err := 3, pl := (r.pos : Int) - 1 }) := by show _ = _; unfold rdNot; rw [if_pos ⟨h1, h2⟩]
      have b2 : (v == bad) = true := by simp [h2]
      clear h1 h2
      go_enter Try.func41, Try.ntmps41
      go_wp2
      go_end0
      rw [HR.out]
      have t : Touch (· = rb) w ((w.setCell ⟨rb, 2, none⟩ (.int .i64 3)).setCell ⟨rb, 3, none⟩ (.int .i64 ((r.pos : Int) - 1))) := Touch.trans (T := (· = rb)) (Touch.ofSet w rb 2 _ rfl) (Touch.ofSet _ rb 3 _ rfl) (fun i hi => .inl hi)
      refine ⟨rfl, ⟨?_, H.out.held.touch t (fun ad e hn hs => H.out.apart ad e hn hs), H.out.apart, hsm, hp⟩, t⟩
      rw [block_set (block_set HOBJ.out 2 _) 3 _]
      rfl
    · have HR : Hid (rdNot v bad r = r) := by show _ = _; unfold rdNot; rw [if_neg (fun h => h2 h.2)]
      have b2 : (v == bad) = false := by simpa using h2
      clear h1 h2
      go_enter Try.func41, Try.ntmps41
      go_wp2
      go_end0
      rw [HR.out]
      exact ⟨rfl, H.out, Touch.refl _ _⟩
  · have HR : Hid (rdNot v bad r = r) := by show _ = _; unfold rdNot; rw [if_neg (fun h => h1 h.1)]
    have b1 : (r.err == 0) = false := by simpa using h1
    clear h1
    go_enter Try.func41, Try.ntmps41
    go_wp2
    go_end0
    rw [HR.out]
    exact ⟨rfl, H.out, Touch.refl _ _⟩
end Go.Proofs.Ytnjlbgolnbdkaaa
