/- The flash's Cut and Restore, a kernel whose flash is cut; bytes that a kernel's calls leave. -/
import Derived.Test.YtnjlbgolnbdkaaaGreatCl
namespace Go.Proofs.YtnjlbgolnbdkaaaGreat
open Go.RowKit

theorem FlashAt.setRes {w : World} {g : Nat} {bs : List Int} {left res : Int} {dead : Bool} {done : Int} (h : FlashAt w g bs left res dead done) (x : Int) : FlashAt (w.setCell ⟨g, 257, none⟩ (.int .u8 x)) g bs left x dead done :=
  ⟨by rw [block_set h.blk 257 _]; exact congrArg (fun c => some (Obj.cells c 80 (0, 0))) (flash_tail bs _ 1 _ h.len), h.len, h.bytes⟩
def Fl.cut (F : Fl) (a res : Int) : Fl := { F with left := a, res := res }
def Fl.restore (F : Fl) : Fl := { F with left := -1, dead := false }
set_option maxHeartbeats 1000000 in
theorem cut_any (g : Nat) (F : Fl) (a r : Int) (w : World) (h : FlAt w g F) (ha : 0 ≤ a) :
    Calls Tryz.prog 25 #[.pointer (some ⟨g, 0, none⟩), .int .i64 a, .int .u8 r] w fun e w' => e = .returned (.tuple #[]) ∧ FlAt w' g (F.cut a r) ∧ Touch (· = g) w w' := by
  obtain ⟨bs, left, res, dead, done⟩ := F
  have c0 := h.last.1
  have c1 := h.last.2.1
  have f0 := free_of_block h.blk 256
  have f1 := free_of_block h.blk 257
  have HEND : Hid (FlashAt ((w.setCell ⟨g, 256, none⟩ (.int .i64 a)).setCell ⟨g, 257, none⟩ (.int .u8 r)) g bs a r dead done ∧ Touch (· = g) w ((w.setCell ⟨g, 256, none⟩ (.int .i64 a)).setCell ⟨g, 257, none⟩ (.int .u8 r))) := ⟨(h.setLeft a).setRes r, (Touch.ofSet (S := (· = g)) w g _ _ rfl).thenSet _ _ rfl⟩
  clear h
  by_cases h0 : 0 < a
  · go_enter Tryz.func25, Tryz.ntmps25
    go_wp2
    go_end0
    exact ⟨rfl, HEND.out.1, HEND.out.2⟩
  · obtain rfl : a = 0 := by omega
    go_enter Tryz.func25, Tryz.ntmps25
    go_wp2
    go_end0
    exact ⟨rfl, HEND.out.1, HEND.out.2⟩
set_option maxHeartbeats 1000000 in
theorem restore_any (g : Nat) (F : Fl) (w : World) (h : FlAt w g F) :
    Calls Tryz.prog 27 #[.pointer (some ⟨g, 0, none⟩)] w fun e w' => e = .returned (.tuple #[]) ∧ FlAt w' g F.restore ∧ Touch (· = g) w w' := by
  obtain ⟨bs, left, res, dead, done⟩ := F
  have c0 := h.last.1
  have c1 := h.last.2.2.1
  have f0 := free_of_block h.blk 256
  have f1 := free_of_block h.blk 258
  have HEND : Hid (FlashAt ((w.setCell ⟨g, 256, none⟩ (.int .i64 (-1))).setCell ⟨g, 258, none⟩ (.bool false)) g bs (-1) res false done ∧ Touch (· = g) w ((w.setCell ⟨g, 256, none⟩ (.int .i64 (-1))).setCell ⟨g, 258, none⟩ (.bool false))) := ⟨(h.setLeft (-1)).setDead false, (Touch.ofSet (S := (· = g)) w g _ _ rfl).thenSet _ _ rfl⟩
  clear h
  go_enter Tryz.func27, Tryz.ntmps27
  go_wp2
  go_end0
  exact ⟨rfl, HEND.out.1, HEND.out.2⟩
theorem FlOk.cut {F : Fl} (h : FlOk F) (a r : Int) (ha : 0 ≤ a ∧ a ≤ 1000000) (hr : 0 ≤ r ∧ r ≤ 255) : FlOk (F.cut a r) := ⟨h.len, h.bytes, ⟨by show (-1 : Int) ≤ a; omega, ha.2⟩, hr⟩
theorem FlOk.restore {F : Fl} (h : FlOk F) : FlOk F.restore := ⟨h.len, h.bytes, ⟨by show (-1 : Int) ≤ -1; omega, by show (-1 : Int) ≤ 1000000; omega⟩, h.res⟩
theorem Kp.flash {base : Nat} {w w' : World} {kb : Nat} {L : MLay} {g : Nat} {s : SF} {F' : Fl} (h : Kp base w kb L g s) (ht : Touch (· = g) w w') (hF : FlAt w' g F') (hok : FlOk F') : Kp base w' kb L g (s.1, F') ∧ Below base w w' ∧ Keeps w w' := by
  have t1 : Touch (Dm L g s.1) w w' := ht.mono (fun b e => .inr (.inr (.inr (.inr e))))
  have hg : base ≤ g := h.low g (.inr (.inr (.inr (.inr rfl))))
  have hb : Below base w w' := ht.below h.size (fun k e => by rw [e]; exact hg)
  exact ⟨⟨h.kn.next (h.kn.mo.flash ht hF hok) t1, h.run, Nat.le_trans h.size hb.size, h.low⟩, hb, fun b c t hx hty => (t1.block b (lt_of_block hx) (h.kn.mo.outside hx hty)).trans hx⟩
theorem Kp.cut {base : Nat} {w : World} {kb : Nat} {L : MLay} {g : Nat} {s : SF} (h : Kp base w kb L g s) (a r : Int) (ha : 0 ≤ a ∧ a ≤ 1000000) (hr : 0 ≤ r ∧ r ≤ 255) :
    Calls Tryz.prog 25 #[.pointer (some ⟨g, 0, none⟩), .int .i64 a, .int .u8 r] w fun e w' => e = .returned (.tuple #[]) ∧ Kp base w' kb L g (s.1, s.2.cut a r) ∧ Below base w w' ∧ Keeps w w' := by
  refine (cut_any g s.2 a r w h.kn.mo.fl ha.1).mono ?_
  rintro e w1 ⟨rfl, h1, h2⟩
  exact ⟨rfl, h.flash h2 h1 (h.kn.mo.flok.cut a r ha hr)⟩
theorem Kp.restore {base : Nat} {w : World} {kb : Nat} {L : MLay} {g : Nat} {s : SF} (h : Kp base w kb L g s) :
    Calls Tryz.prog 27 #[.pointer (some ⟨g, 0, none⟩)] w fun e w' => e = .returned (.tuple #[]) ∧ Kp base w' kb L g (s.1, s.2.restore) ∧ Below base w w' ∧ Keeps w w' := by
  refine (restore_any g s.2 w h.kn.mo.fl).mono ?_
  rintro e w1 ⟨rfl, h1, h2⟩
  exact ⟨rfl, h.flash h2 h1 h.kn.mo.flok.restore⟩
theorem own_keeps {base T n c : Nat} {w w' : World} {v : Value} {l : List Value} (h : w.ownsRow base T n v c l) (hT : T ≠ 145 ∧ T ≠ 120 ∧ T ≠ 3 ∧ T ≠ 166 ∧ T ≠ 80) (hk : Keeps w w') : w'.ownsRow base T n v c l := by
  refine own_keep h fun b e => ?_
  rcases h.2 with ⟨h1, h2⟩ | ⟨g, cap, cur, hv, _, hh, _⟩
  · subst h1
    cases e
  · subst hv
    cases e
    rw [hk g cur T hh hT, hh]
theorem Bys.keeps {base : Nat} {w w' : World} {v : Value} {zs : List Int} (h : Bys base w v zs) (hk : Keeps w w') : Bys base w' v zs := ⟨own_keeps h.own (by decide) hk, h.bytes⟩
theorem RecsV.keeps {base : Nat} {w w' : World} {v : Value} {l : List (Nat → Int)} (h : RecsV base v l w) (hk : Keeps w w') : RecsV base v l w' := own_keeps h (by decide) hk
theorem RecsV.low {base base' : Nat} {w : World} {v : Value} {l : List (Nat → Int)} (h : RecsV base v l w) (hb : base' ≤ base) : RecsV base' v l w := own_low h hb
end Go.Proofs.YtnjlbgolnbdkaaaGreat
